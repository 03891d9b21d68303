import PyProof.Rows.All
import Wide.All
import OpenK.AllK
import Wide.FinOn
import HandS.ForMost
import HandS.Strs
import HandS.Set
import HandS.SetFor
import HandS.TupSets
import HandS.IsInst
import HandS.Flow
import HandS.Style
import HandS.Zip
import HandS.SortInts
import HandS.DeepEq
import HandS.SetBool
import HandS.SetKeys
import HandS.Walk
import HandS.DictComp
import HandS.ExcInit
import HandS.ExcField
import HandS.ExcOwn
import HandS.WordsExc
import HandS.ExcIs
import KE.KExcIs
import HandS.OwnEq
import KE.DatumOrd
import KE.KDictZip
import HandS.Zip0
import HandS.Small
import HandS.Property
import HandS.ExcInitHot
import HandS.Conv
import HandS.TupAny
import PySem.Challenge.RW_curbdesk_k07_table_supported
set_option Elab.async false
set_option linter.all false
set_option maxRecDepth 100000
/-! Tables of sets that are laid anew, for the masks that merging asks for. -/
namespace Cs
open PySem PySem.Spec PyProof.Rows
abbrev own (ow : Array (Option Nat)) (j : Nat) : Option Nat := ow.getD j (some 0)
/- one round from 0, then the shift -/
/-! ### who sits where -/
end Cs
set_option Elab.async false
set_option linter.all false
set_option maxRecDepth 100000
set_option maxHeartbeats 1000000
namespace Cs
open PySem PySem.Spec PyProof.Rows L2
/-- a set of ints, written out -/
structure SetX (w : World) (h : Heap) (a : Addr) (es : Array (Int × Value)) (ep : Nat) (t : SetTable) : Prop where
  obj : h.get? a = some { cls := .type "set", dict := none, data := .set es ep t, slots := #[] }
  good : ∀ e ∈ es.toList, GoodE e
  nd : (es.toList.map keyOf).Nodup
  few : es.size < scanBound
  fits : t.fits es.size = true
  ris : Ris t.place.toList
  led : w.params.followText "set-order" = true ∨ t.led = true
end Cs
set_option Elab.async false
set_option linter.all false
set_option maxRecDepth 100000
set_option maxHeartbeats 1000000
namespace Cs
open PySem PySem.Spec PyProof.Rows L2
end Cs
set_option Elab.async false
set_option linter.all false
set_option maxRecDepth 100000
set_option maxHeartbeats 1000000
namespace Cs
open PySem PySem.Spec PyProof.Rows L2
end Cs
set_option Elab.async false
set_option linter.all false
set_option maxRecDepth 100000
set_option maxHeartbeats 1000000
namespace Cs
open PySem PySem.Spec PyProof.Rows L2
section
variable {P : Program} {w : World} {A : Around} {E : Value → Shared → Prop} {s : Shared}
abbrev keys (es : Array (Int × Value)) : List Int := es.toList.map keyOf
end
end Cs
set_option Elab.async false
set_option linter.all false
set_option maxRecDepth 100000
set_option maxHeartbeats 1000000
namespace Cs
open PySem PySem.Spec PyProof.Rows L2
section
variable {P : Program} {w : World} {A : Around} {E : Value → Shared → Prop} {s : Shared}
/-! ### the words of the class -/
abbrev newObjOf (w : World) : Obj := { cls := .type "set", dict := none, data := .set #[] 0 (.fresh 0 0 (!w.params.followText "set-order")) }
theorem SetX.ty {h : Heap} {a : Addr} {es : Array (Int × Value)} {ep : Nat} {t : SetTable} (R : SetX w h a es ep t) {s : Shared} (e : s.heap = h) : s.TypeIs (.ref a) "set" :=
  ⟨_, by rw [e]; exact R.obj, rfl⟩
/-- heaps in which all is as it was but what is new -/
def Old (h h' : Heap) : Prop := ∀ b o, h.get? b = some o → h'.get? b = some o
end
end Cs
set_option Elab.async false
set_option linter.all false
set_option maxRecDepth 100000
set_option maxHeartbeats 1000000
namespace Cs
open PySem PySem.Spec PyProof.Rows L2
end Cs
set_option Elab.async false
set_option linter.all false
set_option maxRecDepth 100000
set_option maxHeartbeats 1000000
namespace Cs
open PySem PySem.Spec PyProof.Rows L2
end Cs
set_option Elab.async false
set_option linter.all false
set_option maxRecDepth 100000
set_option maxHeartbeats 2000000
namespace Cs
open PySem PySem.Spec PyProof.Rows L2
end Cs
set_option Elab.async false
set_option linter.all false
set_option maxRecDepth 100000
set_option maxHeartbeats 2000000
namespace Cs
open PySem PySem.Spec PyProof.Rows L2
end Cs
set_option Elab.async false
set_option linter.all false
set_option maxRecDepth 100000
set_option maxHeartbeats 2000000
namespace Cs
open PySem PySem.Spec PyProof.Rows L2
end Cs
set_option Elab.async false
set_option linter.all false
set_option maxRecDepth 100000
set_option maxHeartbeats 3200000
namespace Cs
open PySem PySem.Spec PyProof.Rows L2
section
variable {P : Program} {w : World} {A : Around} {E : Value → Shared → Prop} {s : Shared}
/-- set(l), l a list of ints: made empty, then its items one by one -/
theorem set_of_list {l : Addr} {items : Array Value} (ns : List Int) {Q : Value → Shared → Prop} (quiet : A.handled = none) (isl : s.heap.IsList l items) (hints : IntsAre items.toList ns) (room : ns.length + 1 < scanBound)
    (fin : ∀ (h' : Heap) (tk c : Nat), SetR w h' s.heap.objs.size (fun j => decide (j ∈ ns)) c → c ≤ ns.length → Old s.heap h' → Q (.ref s.heap.objs.size) { s with heap := h', toks := tk }) :
    wpAny (model P w) A (call (.type "set") [.ref l]) Q E s := by
  have many : items.size = ns.length := (Array.length_toList (xs := items)).symm.trans (IntsAre.length hints)
  have cs := F.called_set
  obtain ⟨mc, mt, mro⟩ := cs.mro
  have made := cs.made
  have under := cs.sub
  refine wpAny_call (codeAny_of_tree ?_)
  show wpAny _ _ (callAny (.type "set") ⟨[.ref l], []⟩) _ _ _
  refine wpAny_pure ⟨Code.quiet_builtin _ (by decide +kernel), ?_⟩
  refine codeAny_builtin F.entry_type_call ?_
  rw [Around.under_plain (weight_type_call_type "set" [Value.ref l] []) rfl]
  have k1 := cs.notType
  have k2 := cs.canCreate
  have k3 := F.typeCall_set_1 (.ref l)
  repeat (any_goals (first | assumption | wp_step))
  refine codeAny_mono (code_set_led1 (.ref l) (E := E) (Q₁ := fun o z => o = .ref s.heap.objs.size ∧ z = { s with heap := s.heap.push (newObjOf w) }) ⟨rfl, rfl⟩) fun r z hz => ?_
  cases r with
  | error e => exact hz
  | ok fl =>
    cases fl with
    | ret o =>
      obtain ⟨rfl, rfl⟩ := hz
      have here : (s.heap.push (newObjOf w)).get? s.heap.objs.size = some (newObjOf w) := Heap.get?_push_size _ rfl
      have ty : Shared.TypeIs { s with heap := s.heap.push (newObjOf w) } (.ref s.heap.objs.size) "set" := ⟨_, here, rfl⟩
      have k4 := cs.init.lookup
      have k5 := cs.init.bind (.ref s.heap.objs.size)
      repeat (any_goals (first | assumption | wp_step))
      refine codeAny_mono (codeAny_call_builtin (R := wants (fun r y => r = .none ∧ ∃ h' tk c, y = { s with heap := h', toks := tk } ∧ SetR w h' s.heap.objs.size (fun j => decide (j ∈ ns)) c ∧ c ≤ ns.length ∧ Old s.heap h') E)
        cs.init.plain F.entry_set_init (check_set_init_1 ty ?_)) fun r2 y hy => ?_
      · obtain ⟨⟨oc, od, oda, osl⟩, lo, lc, ln, ld⟩ := isl
        simp only at lc ld
        subst lc ld
        have isl2 : (s.heap.push (newObjOf w)).IsList l items := ⟨_, Heap.get?_push_of_some _ lo, rfl, ln, rfl⟩
        have ll : l < s.heap.objs.size := Heap.lt_size lo
        have isl3 := Heap.get?_push_of_some (newObjOf w) lo
        have n1 := PySem.F.sub_list_set
        have n2 := PySem.F.sub_list_frozenset
        have n3 : (Value.type "list" == Value.type "dict") = false := by decide
        unfold Builtin.«set.__init__» noKeywords Builtin.Frozenset.updateFrom
        generalize hp : pyIter = iterOf
        wp_walk
        subst hp
        refine wpAny_pyIter_list isl2 ?_
        refine wpAny_bind (wpAny_runValue ?_)
        have q3 : A.in1.in1.in1.handled = none := by simp [quiet]
        have sz : (s.heap.push (newObjOf w)).objs.size = s.heap.objs.size + 1 := Heap.size_push ..
        have apart : l ≠ (s.heap.push (newObjOf w)).objs.size := by
          rw [sz]
          exact Nat.ne_of_lt (Nat.lt_succ_of_lt ll)
        have away : s.heap.objs.size ∉ [(s.heap.push (newObjOf w)).objs.size, l] := by
          rw [sz]
          simp only [List.mem_cons, List.not_mem_nil, or_false, not_or]
          exact ⟨Nat.ne_of_lt (Nat.lt_succ_self _), Nat.ne_of_gt ll⟩
        have val : ∀ (i : Nat) (v : Value), items[i]? = some v → ∃ k t, ns[i]? = some k ∧ v = .int k t := fun i v hv => by
          have hi : i < ns.length := by rw [← many]; exact (Array.getElem?_eq_some_iff.mp hv).1
          obtain ⟨t, e⟩ := IntsAre.int_at hints i v (by rw [Array.getElem?_toList]; exact hv)
          exact ⟨ns[i], t, List.getElem?_eq_getElem hi, by rw [e, List.getD_eq_getElem?_getD, List.getElem?_eq_getElem hi] <;> rfl⟩
        refine set_update_ints ((Walks.list q3 _ l apart items).toS) s.heap.objs.size away ns many room val (items.size - 0) 0 _ (by omega) (Nat.zero_le _) ⟨⟨_, Heap.get?_push_size _ rfl, rfl, rfl⟩, (isl2.push _)⟩ ?start ?stop
        case start => exact ⟨0, Nat.le_refl 0, setR_new_at (Heap.get?_push_of_some _ here)⟩
        case stop =>
          intro s2 c2 hm hc hS
          obtain ⟨h2, g2, d2, t2, o2⟩ := s2
          have eg : g2 = s.gens := hm.gens
          have ed : d2 = s.drawn := hm.drawn
          have eo : o2 = s.os := hm.os
          subst eg ed eo
          show wpAny _ _ _ _ _ _
          refine wpAny_pure ?_
          show wpAny _ _ (ret Value.none) _ _ _
          refine wpAny_pure ⟨rfl, h2, t2, c2, rfl, hS, by omega, fun b u e => ?_⟩
          have hb := Heap.lt_size e
          refine hm.heap b u ?_ (Heap.get?_push_of_some _ (Heap.get?_push_of_some _ e))
          rw [sz]
          simp only [List.mem_cons, List.not_mem_nil, or_false, not_or]
          exact ⟨Nat.ne_of_lt hb, Nat.ne_of_lt (Nat.lt_succ_of_lt hb)⟩
      · cases r2 with
        | error e => exact hy
        | ok f2 =>
          cases f2 with
          | ret r =>
            obtain ⟨rfl, h', tk, c, rfl, hS, hc, old⟩ := hy
            repeat (any_goals (first | assumption | wp_step))
            exact fin h' tk c hS hc old
          | _ => exact hy.elim
    | _ => exact hz.elim
end
end Cs
set_option Elab.async false
set_option linter.all false
set_option maxRecDepth 100000
set_option maxHeartbeats 2000000
namespace Cs
open PySem PySem.Spec PyProof.Rows L2
section
variable {X : Cx}
/-- set(l) -/
def rSetI (K : PySem.W.Frag) (w : World) : List V → Hp → VK → Prop := fun xs H Q => ∃ (l : Addr) (ns : List Int), xs = [V.ref l] ∧ SqL K H l (ns.map V.int) ∧ ns.length ≤ 4000 ∧
  ∀ (p : Addr) (c : Nat), H p = none → c ≤ ns.length → Q (.ref p) (upd H p (SetO w p (fun j => decide (j ∈ ns)) c))
theorem cr_setI (hc : X.calm = true) : CallR X (.type "set") (rSetI X.K X.w) := by
  intro pins s σ H xs us Q I r h
  obtain ⟨l, ns, rfl, hq, hl, q⟩ := h
  rw [Vals.ref1 r]
  obtain ⟨its, rv, pl, hz⟩ := I.list hq
  refine set_of_list ns (I.ok.hd hc) pl.isList (by simpa using ints_of_vals rv) (by have : scanBound = 4096 := rfl; omega) fun h' tk c hS hcn old => ?_
  exact ⟨.ref _, upd H s.heap.objs.size (SetO X.w s.heap.objs.size (fun j => decide (j ∈ ns)) c), I.laid (t' := tk) old (Nat.le_refl _) (setO_new hS), rfl, q _ c (I.hok.fresh (Nat.le_refl _)) hcn⟩
end
end Cs
set_option Elab.async false
set_option linter.all false
set_option maxRecDepth 100000
set_option maxHeartbeats 2000000
/-! != of two lists whose items are equal, deep -/
namespace Cs
open PySem PySem.Spec PyProof.Rows L2
open AutoSeq1 (wpAny_loadPart')
open MeetsSeq MeetsSeq2 MeetsSeq3 SeqRoads2 SeqAt
section
variable {prog : Program} {w : World}
abbrev seqO (us : Array Value) (n : Nat) (dd : Option Addr) (sl : Array (Option Value)) : Obj := { cls := .type "list", dict := dd, data := .seq us n, slots := sl }
abbrev AllP (prog : Program) (w : World) (A : Around) (s : Shared) (us ws : Array Value) : Prop := ∀ j (h1 : j < us.size) (h2 : j < ws.size), EqP prog w A s us[j] ws[j] true
theorem ne_stepP (a c : Addr) (us ws : Array Value) (n m : Nat) (d1 d2 : Option Addr) (s1 s2 : Array (Option Value)) (eq : us.size = ws.size) :
    ∀ (k i : Nat), us.size - i = k → MeetsIn prog w (Builtin.«list.__eq__.loop» ⟨[.ref a, .ref c, rawInt i, rawInt 3], []⟩)
      (fun A R s => s.heap.get? a = some (seqO us n d1 s1) ∧ s.heap.get? c = some (seqO ws m d2 s2) ∧ AllP prog w A.in1 s us ws ∧ R (.ok (.ret (.bool false))) s) := by
  intro k
  induction k with
  | zero =>
    intro i le A R s h
    obtain ⟨hp, g, d, tk, os⟩ := s
    obtain ⟨ha, hc, _, q⟩ := h
    wp_walk using wpAny_loadPart' ha, wpAny_loadPart' hc
    rw [show us[((i : Nat) : Int).toNat]? = none by simp; omega, show ws[((i : Nat) : Int).toNat]? = none by simp; omega]
    wp_walk using wpAny_loadPart' ha, wpAny_loadPart' hc
    show R (.ok (.ret (.bool (us.size != ws.size)))) _
    rw [eq]
    simpa using q
  | succ k ih =>
    intro i le A R s h
    obtain ⟨hp, g, d, tk, os⟩ := s
    obtain ⟨ha, hc, al, q⟩ := h
    have i1 : i < us.size := by omega
    have i2 : i < ws.size := by omega
    wp_walk using wpAny_loadPart' ha, wpAny_loadPart' hc
    rw [show us[((i : Nat) : Int).toNat]? = some us[i] by simp [i1], show ws[((i : Nat) : Int).toNat]? = some ws[i] by simp [i2]]
    refine wpAny_bind (al i i1 i2 _ _ ?_)
    wp_walk
    rw [show ((i : Int) + 1) = ((i + 1 : Nat) : Int) by push_cast; rfl]
    refine ⟨plainId_quiet plain_eq_loop _, codeAny_builtin entry_eq_loop ?_⟩
    rw [Around.under_plainId plain_eq_loop _]
    exact ih (i + 1) (by omega) A R _ ⟨ha, hc, al, q⟩
theorem ne_listP (a c : Addr) (us ws : Array Value) (n m : Nat) (d1 d2 : Option Addr) (s1 s2 : Array (Option Value)) (eq : us.size = ws.size) :
    MeetsIn prog w (Builtin.«list.__ne__» ⟨[.ref a, .ref c], []⟩)
      (fun A R s => s.heap.get? a = some (seqO us n d1 s1) ∧ s.heap.get? c = some (seqO ws m d2 s2) ∧ AllP prog w A.in1 s us ws ∧ R (.ok (.ret (.bool false))) s) := by
  intro A R s h
  obtain ⟨hp, g, d, tk, os⟩ := s
  obtain ⟨ha, hc, al, q⟩ := h
  have sub := AutoSeq1.sub_list_list
  have same : ¬ (us.size != ws.size) = true := by simp [eq]
  wp_walk using wpAny_loadPart' ha, wpAny_loadPart' hc
  refine ⟨plainId_quiet plain_eq_loop _, codeAny_builtin entry_eq_loop ?_⟩
  rw [Around.under_plainId plain_eq_loop _]
  exact ne_stepP a c us ws n m d1 d2 s1 s2 eq _ 0 rfl A R _ ⟨ha, hc, al, q⟩
theorem rc_neP {A : Around} {s : Shared} {a c : Addr} {us ws : Array Value} (ha : s.heap.IsList a us) (hc : s.heap.IsList c ws) (eq : us.size = ws.size) (hu : A.units < cLine)
    (al : AllP prog w A.in1 s us ws) (E Q : Value → Shared → Prop) (q : Q (.bool false) s) : wpAny (model prog w) A (richCompare .NotEq (.ref a) (.ref c)) Q E s := by
  obtain ⟨⟨c1, d1, x1, s1⟩, o1, e1, n, f1⟩ := id ha
  obtain ⟨⟨c2, d2, x2, s2⟩, o2, e2, m, f2⟩ := id hc
  simp only at e1 f1 e2 f2
  subst e1 f1 e2 f2
  have ta : s.TypeIs (.ref a) "list" := ⟨_, o1, rfl⟩
  have tc : s.TypeIs (.ref c) "list" := ⟨_, o2, rfl⟩
  exact wpAny_richCompare_same_room (op := .NotEq) ta tc F.slot_list_ne (call_meetsIn F.slot_list_ne ta F.entry_list_ne (F.args_list_ne_2 _ _) (ne_listP a c us ws n m d1 d2 s1 s2 eq)
    ⟨o1, o2, al, show Value.bool false ≠ Value.notImplemented ∧ Q (.bool false) s from ⟨(fun x => nomatch x), q⟩⟩) hu
end
section
variable {X : Cx}
/-- a != b, two lists that are equal -/
def rNeV (K : PySem.W.Frag) : R2 := fun x y H Q => ∃ a b xs ys, x = .ref a ∧ y = .ref b ∧ SqL K H a xs ∧ SqL K H b ys ∧ (∃ n, n ≤ 60 ∧ Paired (EqV K H n) xs ys) ∧ Q (.bl false) H
theorem op_neV (hu : X.A.units + 64 < cLine) : OpR X (compareOp .NotEq) (rNeV X.K) := by
  intro pins s σ H x y v u Q I rx ry h
  obtain ⟨a, b, xs, ys, rfl, rfl, ha, hb, ⟨n, hn, hp⟩, q⟩ := h
  cases (show v = Value.ref a from rx)
  cases (show u = Value.ref b from ry)
  obtain ⟨us, r1, p1, _⟩ := I.list ha
  obtain ⟨ws, r2, p2, _⟩ := I.list hb
  have hsz : us.toArray.size = ws.toArray.size := by
    rw [List.size_toArray, List.size_toArray, ← r1.length, ← r2.length]
    exact Paired.length hp
  refine rc_neP p1.isList p2.isList hsz (by omega) (fun j h1 h2 => ?_) _ _ ⟨.bl false, H, I, rfl, q⟩
  have k := items_run (eqV_run I n X.A.in1 (by show X.A.units + 1 + n < cLine; omega)) hp r1 r2 j (by simpa using h1) (by simpa using h2)
  simpa using k
end
end Cs
set_option Elab.async false
set_option linter.all false
set_option maxRecDepth 100000
set_option maxHeartbeats 4000000
/-! Sets of keys by a comprehension: {x for .. in ..}, the members ints or texts. -/
namespace Cs
open PySem PySem.Spec PyProof.Rows L2 PpSet
end Cs
set_option Elab.async false
set_option linter.all false
set_option maxRecDepth 100000
set_option maxHeartbeats 4000000
namespace K07
open PySem PySem.Spec PyProof.Rows L2 Cs
def topS (i : Nat) : Stmt := PySem.Challenge.pw_curbdesk_k07_table_supported.main.body.getD i (.Pass ⟨0, 0, 0, 0⟩)
structure Bt (mg : Str → Option Value) : Prop where
  sorted : mg "sorted" = none
  set : mg "set" = none
  len : mg "len" = none
  isi : mg "isinstance" = none
  int : mg "int" = none
  bool : mg "bool" = none
  list : mg "list" = none
  all : mg "all" = none
  range : mg "range" = none
  dict : mg "dict" = none
abbrev Srt (ms : List Int) : Prop := ms.Pairwise (· < ·)
theorem same_new {H : Hp} {p : Addr} {o : HO} (h : H p = none) : Same H (upd H p o) := fun b x e => by
  rw [upd_ne (ne_of_none e h)]
  exact e
theorem same_at {H H' : Hp} {p : Addr} {o : HO} (s : Same H H') (h : H p = none) : Same H (upd H' p o) := fun b x e => by
  rw [upd_ne (ne_of_none e h)]
  exact s _ _ e
theorem sl_map {K : PySem.W.Frag} {H : Hp} {a : Addr} {xs : List V} (h : H a = some (.lst xs)) : SqL K H a xs := .inl (.inl h)
section
variable {P : Program} {w : World} {K : PySem.W.Frag} {mg : Str → Option Value} {base : Heap}
abbrev sIsInt : Stmt := topS 16
abbrev sStream : Stmt := topS 17
abbrev sDraw : Stmt := topS 18
theorem scIsInt : FnScope ["_law_actual"] ["_law_actual"] (defScope sIsInt) := ⟨rfl, rfl, rfl, by decide +kernel, rfl, by decide +kernel, by decide +kernel⟩
theorem scStream : FnScope ["_law_script", "_law_k", "_law_cell"] ["_law_script", "_law_k"] (defScope sStream) := ⟨rfl, rfl, rfl, by decide +kernel, rfl, by decide +kernel, by decide +kernel⟩
theorem scDraw : FnScope ["_law_stream_here", "_law_size", "_law_digit", "_law_mixed"] ["_law_stream_here", "_law_size"] (defScope sDraw) := ⟨rfl, rfl, rfl, by decide +kernel, rfl, by decide +kernel, by decide +kernel⟩
def spIsInt : Sp := fun vs H Q _ => ∃ k : Int, vs = [.int k] ∧ Q (.bl true) H
theorem ok_isInt {f : Addr} {fd : FuncData} {k : Nat} (F : Fun K "_law_is_integer" "_law_is_integer" sIsInt f fd) (B : Bt mg) : FnOk P w K mg base CX0 (k + 1) f fd ["_law_actual"] spIsInt := by
  refine F.ok scIsInt (fun vs H Q E h => ?_) (fun cdv A outer s H vs Q E hr h => ?_)
  · obtain ⟨a, rfl, _⟩ := h
    rfl
  · obtain ⟨a, rfl, q⟩ := h
    refine ⟨_, pss_one (ps_ret (pe_and (pe_callB call_isi (by rfl) B.isi PyProof.Rows.boot_isinstance (pa_cons (pv 0) (pa_cons (pe_bltn (by rfl) B.int PyProof.Rows.boot_int (v := .ty "int") rfl) pa_nil)))
      (pe_one (pe_not (pe_callB call_isi (by rfl) B.isi PyProof.Rows.boot_isinstance (pa_cons (pv 0) (pa_cons (pe_bltn (by rfl) B.bool PyProof.Rows.boot_bool (v := .ty "bool") rfl) pa_nil))))))), ?_⟩
    refine ⟨.int a, rfl, .int a, .ty "int", .type "int", .type "int", true, rfl, .ty _, .base (.int a), kit_ty (by decide +kernel), true, rfl, iteT ?_⟩
    exact ⟨.int a, rfl, .int a, .ty "bool", .type "int", .type "bool", false, rfl, .ty _, .base (.int a), kit_ty (by decide +kernel), false, rfl, q⟩
/-- a stream: three ints -/
def Strm (H : Hp) (p : Addr) : Prop := ∃ x y z : Int, H p = some (.lst [.int x, .int y, .int z])
def spStream (K : PySem.W.Frag) : Sp := fun vs H Q _ => ∃ (a : Addr) (ns : List Int) (k : Nat), vs = [.ref a, .int (k : Int)] ∧ SqL K H a (ns.map V.int) ∧
  ∀ H' p, Same H H' → H p = none → Strm H' p → Q (.ref p) H'
theorem ok_stream {f : Addr} {fd : FuncData} {k : Nat} (F : Fun K "_law_stream" "_law_stream" sStream f fd) (B : Bt mg) : FnOk P w K mg base CX0 (k + 1) f fd ["_law_script", "_law_k"] (spStream K) := by
  refine F.ok scStream (fun vs H Q E h => ?_) (fun cdv A outer s H vs Q E hr h => ?_)
  · obtain ⟨a, ns, k, rfl, _⟩ := h
    rfl
  · obtain ⟨a, ns, k, rfl, hS, q⟩ := h
    refine ⟨_, pss_cons (ps_set (i := 2) scStream.nd rfl (.inl rfl) pe_int)
      (pss_cons (ps_if (pt_cmpR op_lt (pv 1) (pe_callB call_len_seq (by rfl) B.len PySem.boot_len (pa_cons (pv 0) pa_nil)) (nomark _))
        (pss_one (ps_set (i := 2) scStream.nd rfl (.inl rfl) (pe_ix ix_list (pv 0) (pv 1) (fun _ _ => rfl)))) pss_nil)
      (pss_one (ps_ret (pe_lst (pa_cons (pe_op op_mul (pv 2) (pe_callTy call_int1 (by rfl) B.int PyProof.Rows.boot_int (pa_cons (pe_cmpR op_ge (pv 2) (pe_op op_pow pe_int pe_int) (nomark _)) pa_nil))) (pa_cons pe_int (pa_cons (pv 2) pa_nil))))))), ?_⟩
    have tail : ∀ (c : Int) (b : Bool), -(2 ^ 64) < (if b = true then (1 : Int) else 0) ∧ (if b = true then (1 : Int) else 0) < 2 ^ 64 := fun c b => by cases b <;> decide
    refine ⟨.int k, rfl, .ref a, rfl, a, _, rfl, .inl hS, (k : Int), _, rfl, rfl, _, rfl, ite2 (fun c => ?_) (fun c => ?_)⟩
    · have hk : k < ns.length := by
        have := of_decide_eq_true c
        rw [List.length_map] at this
        omega
      have g : (ns.map V.int)[k]? = some (.int ns[k]) := by
        rw [List.getElem?_map, List.getElem?_eq_getElem hk]
        rfl
      refine ⟨.ref a, rfl, .int k, rfl, a, _, (k : Int), _, rfl, rfl, hS, atI_nat g, ?_⟩
      refine ⟨.int ns[k], rfl, .int ns[k], rfl, 10, 18, rfl, rfl, ⟨by decide, by decide, by decide⟩, ns[k], _, rfl, rfl, .inr ⟨_, rfl, ns[k], _, rfl, rfl, .inr (tail 0 _), .int ns[k], rfl, by show 3 ≤ sizeLine; decide, fun l hl => ?_⟩⟩
      exact q _ l (same_new hl) hl ⟨_, _, _, upd_same⟩
    · refine ⟨.int 0, rfl, .int 0, rfl, 10, 18, rfl, rfl, ⟨by decide, by decide, by decide⟩, 0, _, rfl, rfl, .inr ⟨_, rfl, 0, _, rfl, rfl, .inr (tail 0 _), .int 0, rfl, by show 3 ≤ sizeLine; decide, fun l hl => ?_⟩⟩
      exact q _ l (same_new hl) hl ⟨_, _, _, upd_same⟩
/-- all but the one at p is as it was -/
def Oth (p : Addr) (H H' : Hp) : Prop := ∀ b, b ≠ p → H' b = H b
def spDraw : Sp := fun vs H Q _ => ∃ (p : Addr) (m : Int), vs = [.ref p, .int m] ∧ Strm H p ∧ 0 < m ∧ m < 1073741824 ∧
  ∀ H' d, Oth p H H' → Strm H' p → 0 ≤ d → d < m → Q (.int d) H'
theorem at0 {x y z : V} : atI [x, y, z] (0 : Int) = some x := atI_nat (j := 0) rfl
theorem at1 {x y z : V} : atI [x, y, z] (1 : Int) = some y := atI_nat (j := 1) rfl
theorem at2 {x y z : V} : atI [x, y, z] (2 : Int) = some z := atI_nat (j := 2) rfl
theorem ok_draw {f : Addr} {fd : FuncData} {k : Nat} (F : Fun K "_law_next" "_law_next" sDraw f fd) (B : Bt mg) : FnOk P w K mg base CX0 (k + 1) f fd ["_law_stream_here", "_law_size"] spDraw := by
  refine F.ok scDraw (fun vs H Q E h => ?_) (fun cdv A outer s H vs Q E hr h => ?_)
  · obtain ⟨p, m, rfl, _⟩ := h
    rfl
  · obtain ⟨p, m, rfl, ⟨x, y, z, hp⟩, m0, m1, q⟩ := h
    refine ⟨_, pss_cons (ps_asg (pe_op op_add (pe_ix ix_list (pv 0) pe_int (fun _ _ => rfl)) pe_int) (pg_sub (pv 0) pe_int set_list))
      (pss_cons (ps_if (pt_cmpR op_gt (pe_ix ix_list (pv 0) pe_int (fun _ _ => rfl)) pe_int (nomark _))
        (pss_cons (ps_set (i := 2) scDraw.nd rfl (.inl rfl) (pe_op op_mod (pe_callTy call_int1 (by rfl) B.int PyProof.Rows.boot_int (pa_cons (pe_ix ix_list (pv 0) pe_int (fun _ _ => rfl)) pa_nil)) (pv 1)))
          (pss_cons (ps_asg (pe_op op_fdiv (pe_ix ix_list (pv 0) pe_int (fun _ _ => rfl)) (pv 1)) (pg_sub (pv 0) pe_int set_list))
          (pss_one (ps_ret (pv 2))))) pss_nil)
      (pss_cons (ps_set (i := 3) scDraw.nd rfl (.inl rfl) (pe_op op_mod (pe_callTy call_int1 (by rfl) B.int PyProof.Rows.boot_int (pa_cons
          (pe_op op_add (pe_op op_add (pe_ix ix_list (pv 0) pe_int (fun _ _ => rfl)) (pe_op op_mul pe_int (pe_ix ix_list (pv 0) pe_int (fun _ _ => rfl)))) pe_int) pa_nil)) pe_int))
      (pss_cons (ps_set (i := 3) scDraw.nd rfl (.inl rfl) (pe_op op_mod (pe_callTy call_int1 (by rfl) B.int PyProof.Rows.boot_int (pa_cons
          (pe_op op_mul (pv 3) (pe_op op_add (pv 3) pe_int)) pa_nil)) pe_int))
      (pss_cons (ps_set (i := 3) scDraw.nd rfl (.inl rfl) (pe_op op_mod (pe_callTy call_int1 (by rfl) B.int PyProof.Rows.boot_int (pa_cons
          (pe_op op_add (pe_op op_mul (pv 3) (pe_op op_add (pv 3) pe_int)) (pe_op op_mul pe_int (pe_ix ix_list (pv 0) pe_int (fun _ _ => rfl)))) pa_nil)) pe_int))
      (pss_one (ps_ret (pe_op op_mod (pe_callTy call_int1 (by rfl) B.int PyProof.Rows.boot_int (pa_cons (pe_op op_fdiv (pv 3) pe_int) pa_nil)) (pv 1)))))))), ?_⟩
    have pos1 : (0 : Int) < 2147483647 := by decide
    have pos2 : (0 : Int) < 2147483629 := by decide
    -- stream[1] = stream[1] + 1
    refine ⟨.ref p, rfl, p, _, 1, .int y, rfl, rfl, sl_map hp, at1, y, 1, rfl, rfl, .ref p, rfl, p, _, 1, 1, rfl, rfl, hp, rfl, ?_⟩
    have h1 : ∀ o, (upd H p o) p = some o := fun o => upd_same
    -- if stream[0] > 0
    refine ⟨.ref p, rfl, p, _, 0, .int x, rfl, rfl, sl_map upd_same, at0, x, 0, rfl, rfl, _, rfl, ite2 (fun c => ?_) (fun c => ?_)⟩
    · refine ⟨.ref p, rfl, p, _, 0, .int x, rfl, rfl, sl_map upd_same, at0, .inl ⟨x, rfl, .int m, rfl, x, m, rfl, rfl, m0, ?_⟩⟩
      refine ⟨.ref p, rfl, p, _, 0, .int x, rfl, rfl, sl_map upd_same, at0, .int m, rfl, x, m, rfl, rfl, ⟨m0, m1⟩, .ref p, rfl, p, _, 0, 0, rfl, rfl, upd_same, rfl, ?_⟩
      refine ⟨.int (x % m), rfl, q _ _ (fun b hb => by rw [upd_ne hb, upd_ne hb]) ⟨_, _, _, upd_same⟩ (Int.emod_nonneg _ (by omega)) (Int.emod_lt_of_pos _ m0)⟩
    · refine ⟨.ref p, rfl, p, _, 2, .int z, rfl, rfl, sl_map upd_same, at2, .ref p, rfl, p, _, 1, .int (y + 1), rfl, rfl, sl_map upd_same, at1, 7919, y + 1, rfl, rfl, .inl ⟨by decide, by decide⟩, z, _, rfl, rfl, _, 13, rfl, rfl,
        .inl ⟨_, rfl, _, 2147483647, rfl, rfl, pos1, ?_⟩⟩
      have r1 : ∀ u : Int, 0 ≤ u % 2147483647 ∧ u % 2147483647 < 2147483647 := fun u => ⟨Int.emod_nonneg _ (by decide), Int.emod_lt_of_pos _ (by decide)⟩
      have r2 : ∀ u : Int, 0 ≤ u % 2147483629 ∧ u % 2147483629 < 2147483629 := fun u => ⟨Int.emod_nonneg _ (by decide), Int.emod_lt_of_pos _ (by decide)⟩
      have big : (2147483647 : Int) < 2 ^ 64 := by decide
      have big2 : (-(2 ^ 64) : Int) < 0 := by decide
      have b1 := r1 (z + 7919 * (y + 1) + 13)
      refine ⟨_, rfl, _, rfl, (z + 7919 * (y + 1) + 13) % 2147483647, 48271, rfl, rfl, (z + 7919 * (y + 1) + 13) % 2147483647, _, rfl, rfl, .inl ⟨by omega, by omega⟩, .inl ⟨_, rfl, _, 2147483629, rfl, rfl, pos2, ?_⟩⟩
      have b2 := r2 ((z + 7919 * (y + 1) + 13) % 2147483647 * ((z + 7919 * (y + 1) + 13) % 2147483647 + 48271))
      refine ⟨_, rfl, _, rfl, _, 69621, rfl, rfl, (z + 7919 * (y + 1) + 13) % 2147483647 * ((z + 7919 * (y + 1) + 13) % 2147483647 + 48271) % 2147483629, _, rfl, rfl, .inl ⟨?_, ?_⟩, .ref p, rfl, p, _, 1, .int (y + 1), rfl, rfl, sl_map upd_same, at1, 31, y + 1, rfl, rfl, .inl ⟨by decide, by decide⟩, _, _, rfl, rfl,
        .inl ⟨_, rfl, _, 2147483647, rfl, rfl, pos1, ?_⟩⟩
      · generalize (z + 7919 * (y + 1) + 13) % 2147483647 * ((z + 7919 * (y + 1) + 13) % 2147483647 + 48271) % 2147483629 = v at b2
        omega
      · generalize (z + 7919 * (y + 1) + 13) % 2147483647 * ((z + 7919 * (y + 1) + 13) % 2147483647 + 48271) % 2147483629 = v at b2
        omega
      refine ⟨_, rfl, _, 9, rfl, rfl, ⟨by decide, by decide⟩, .inl ⟨_, rfl, .int m, rfl, _, m, rfl, rfl, m0, ?_⟩⟩
      exact q _ _ (fun b hb => by rw [upd_ne hb]) ⟨_, _, _, upd_same⟩ (Int.emod_nonneg _ (by omega)) (Int.emod_lt_of_pos _ m0)
/-- a def that stands, with its promise -/
structure Call (P : Program) (w : World) (K : PySem.W.Frag) (mg : Str → Option Value) (base : Heap) (k : Nat) (x : Str) (f : Addr) (fd : FuncData) (ps : List Str) (sp : Sp) : Prop where
  ok : FnOk P w K mg base CX0 k f fd ps sp
  at_ : mg x = some (.ref f)
  kp : PySem.W.keepIn K (.ref f) = true
  bd : Binds K fd ps []
abbrev sIsSide : Stmt := topS 25
abbrev nIsSide : List Str := ["_law_actual", "_law_value", "_law_k"]
theorem scIsSide : FnScope nIsSide ["_law_actual"] (defScope sIsSide) := ⟨rfl, rfl, rfl, by decide +kernel, rfl, by decide +kernel, by decide +kernel⟩
def spIsSide : Sp := fun vs H Q _ => ∃ (a : Addr) (ns : List Int), vs = [.ref a] ∧ H a = some (.lst (ns.map V.int)) ∧ Srt ns ∧ ns.length ≤ 1000 ∧ ∀ H', Same H H' → Q (.bl true) H'
theorem all_rep (n : Nat) : (List.replicate n true).all id = true := by simp
theorem ok_isSide {f fI : Addr} {fd fdI : FuncData} (F : Fun K "_law_is_side" "_law_is_side" sIsSide f fd) (B : Bt mg) (I : Call P w K mg base 1 "_law_is_integer" fI fdI ["_law_actual"] spIsInt) :
    FnOk P w K mg base CX0 2 f fd ["_law_actual"] spIsSide := by
  refine F.ok scIsSide (fun vs H Q E h => ?_) (fun cdv A outer s H vs Q E hr h => ?_)
  · obtain ⟨a, ns, rfl, _⟩ := h
    rfl
  · obtain ⟨a, ns, rfl, ha, hs, hl, q⟩ := h
    refine ⟨_, pss_cons (ps_if (PW.pt (pw_or (pt_not (pt_val (pe_callB call_isi (by rfl) B.isi PyProof.Rows.boot_isinstance (pa_cons (pv 0) (pa_cons (pe_bltn (by rfl) B.list PyProof.Rows.boot_list (v := .ty "list") rfl) pa_nil)))))
        (pw_or1 (pt_not (pt_val (pe_callB (cr_all rfl) (by rfl) B.all PyProof.Rows.boot_all (pa_cons
          (pe_lc (own := [("_law_value", 1)]) (g := gName 1) (tt := tYes) rfl scIsSide.nd (pi_list (pv 0)) (blkOk_by (N := nIsSide) (sc := defScope sIsSide) (by decide +kernel)) (fun _ _ _ _ _ => pg_name (i := 1) scIsSide.nd rfl (Or.inl rfl)) (fun _ _ _ _ _ => pts_nil)
            (fun _ _ _ _ _ => pe_call I.ok hr (by rfl) I.at_ I.kp I.bd .nil pass0 (pa_cons (pv 1) pa_nil))) pa_nil)))))))
        (pss_one (ps_ret pe_bl)) pss_nil)
      (pss_one (ps_ret (pe_callB (cr_all rfl) (by rfl) B.all PyProof.Rows.boot_all (pa_cons
          (pe_lc (own := [("_law_k", 2)]) (g := gName 2) (tt := tYes) rfl scIsSide.nd (pi_range1 (by rfl) B.range (pa_cons (pe_op op_sub (pe_callB call_len_seq (by rfl) B.len PySem.boot_len (pa_cons (pv 0) pa_nil)) pe_int) pa_nil))
            (blkOk_by (N := nIsSide) (sc := defScope sIsSide) (by decide +kernel)) (fun _ _ _ _ _ => pg_name (i := 2) scIsSide.nd rfl (Or.inl rfl)) (fun _ _ _ _ _ => pts_nil)
            (fun _ _ _ _ _ => pe_cmpR op_lt (pe_ix (r := rIxL K) ix_list (pv 0) (pv 2) (fun _ _ => rfl)) (pe_ix (r := rIxL K) ix_list (pv 0) (pe_op op_add (pv 2) pe_int) (fun _ _ => rfl)) (nomark _))) pa_nil)))), ?_⟩
    refine ⟨.ref a, rfl, .ref a, .ty "list", .type "list", .type "list", true, rfl, .ty _, .base (.lst ha), kit_ty (by decide +kernel), true, rfl, iteF ?_⟩
    refine ⟨.ref a, rfl, a, rfl, ⟨_, sl_map ha⟩, fun D hD => lc_list (xs := ns.map V.int) (fun i H' => Same H H' ∧ H' D = some (.lst ((List.replicate i true).map V.bl))) ⟨same_new hD, upd_same⟩ (fun i H' _ h => h.1.seq (sl_map ha)) ?_ ?_⟩
    · rintro i x H' hx ⟨sm, hd⟩
      rw [List.getElem?_map] at hx
      obtain ⟨v, hv, rfl⟩ := Option.map_eq_some_iff.mp hx
      have hi : i < ns.length := (List.getElem?_eq_some_iff.mp hv).1
      refine ⟨rfl, ?_⟩
      refine ⟨_, rfl, v, rfl, _, hd, ?_, same_at sm hD, ?_⟩
      · rw [List.length_map, List.length_replicate]
        exact small1000 (by omega)
      · rw [upd_same, List.replicate_succ', List.map_append]
        rfl
    · rintro H' ⟨sm, hd⟩
      rw [List.length_map] at hd
      refine ⟨D, _, rfl, sl_map hd, _, rfl, ?_⟩
      rw [all_rep]
      refine iteF ?_
      -- all([.. < ..])
      refine ⟨.ref a, rfl, a, _, rfl, .inl (sm.seq (sl_map ha)), ((ns.map V.int).length : Int), 1, rfl, rfl, _, rfl, ?_, ?_, fun D2 hD2 => lc_range (lo := 0) (fun i H2 => Same H H2 ∧ H2 D2 = some (.lst ((List.replicate i true).map V.bl))) ⟨same_at sm (sm.free hD2), upd_same⟩ ?_ ?_⟩
      · rw [List.length_map]; omega
      · rw [List.length_map]; omega
      · rintro i H2 hi ⟨sm2, hd2⟩
        rw [List.length_map] at hi
        have h1 : i < ns.length := by omega
        have h2 : i + 1 < ns.length := by omega
        have g1 : (ns.map V.int)[i]? = some (.int ns[i]) := by
          rw [List.getElem?_map, List.getElem?_eq_getElem h1]
          rfl
        have g2 : (ns.map V.int)[i + 1]? = some (.int ns[i + 1]) := by
          rw [List.getElem?_map, List.getElem?_eq_getElem h2]
          rfl
        refine ⟨rfl, ?_⟩
        refine ⟨.ref a, rfl, _, rfl, a, _, _, _, rfl, rfl, sm2.seq (sl_map ha), at_of (by omega) g1, .ref a, rfl, _, rfl, _, 1, rfl, rfl, a, _, _, _, rfl, rfl, sm2.seq (sl_map ha), at_of (j := i + 1) (by omega) g2, _, _, rfl, rfl, _, hd2, ?_, same_at sm2 (sm.free hD2), ?_⟩
        · rw [List.length_map, List.length_replicate]
          exact small1000 (by omega)
        · have lt : ns[i] < ns[i + 1] := List.pairwise_iff_getElem.mp hs i (i + 1) h1 h2 (Nat.lt_succ_self i)
          have e : (fun i j : Int => V.bl (decide (i < j))) ns[i] ns[i + 1] = V.bl true := congrArg V.bl (decide_eq_true lt)
          rw [upd_same, e, List.replicate_succ', List.map_append]
          rfl
      · rintro H2 ⟨sm2, hd2⟩
        refine ⟨D2, _, rfl, sl_map hd2, ?_⟩
        rw [all_rep]
        exact q _ sm2
/-- what was tracked, but for the one at p, is as it was -/
def Keep (p : Addr) (H H' : Hp) : Prop := ∀ b o, b ≠ p → H b = some o → H' b = some o
theorem Keep.refl (p : Addr) (H : Hp) : Keep p H H := fun _ _ _ e => e
theorem Keep.oth {p : Addr} {H H1 H2 : Hp} (k : Keep p H H1) (o : Oth p H1 H2) : Keep p H H2 := fun b u hb e => (o b hb).trans (k b u hb e)
theorem Keep.trans {p : Addr} {H H1 H2 : Hp} (k : Keep p H H1) (k2 : Keep p H1 H2) : Keep p H H2 := fun b u hb e => k2 b u hb (k b u hb e)
theorem Keep.at_ {p q : Addr} {o : HO} {H H1 : Hp} (k : Keep p H H1) (n : H q = none) : Keep p H (upd H1 q o) := fun b u hb e => by
  rw [upd_ne (ne_of_none e n)]
  exact k b u hb e
theorem Keep.same {p : Addr} {H H1 : Hp} (s : Same H H1) : Keep p H H1 := fun b u _ e => s b u e
theorem Strm.some {H : Hp} {p : Addr} (s : Strm H p) : H p ≠ none := fun z => by
  obtain ⟨x, y, z', e⟩ := s
  rw [z] at e
  cases e
theorem Strm.keep {H H' : Hp} {p q : Addr} (s : Strm H p) (k : Keep q H H') (h : p ≠ q) : Strm H' p := by
  obtain ⟨x, y, z, e⟩ := s
  exact ⟨x, y, z, k _ _ h e⟩
theorem Strm.upd {H : Hp} {p q : Addr} {o : HO} (s : Strm H p) (h : p ≠ q) : Strm (upd H q o) p := by
  obtain ⟨x, y, z, e⟩ := s
  exact ⟨x, y, z, by rw [upd_ne h]; exact e⟩
theorem Keep.free {p q : Addr} {H H1 : Hp} (k : Keep p H H1) (s : Strm H1 p) (n : H1 q = none) : H q = none := by
  have hp : q ≠ p := fun z => s.some (z ▸ n)
  cases c : H q with
  | none => rfl
  | some o =>
    rw [k q o hp c] at n
    cases n
end
theorem srt_ext : ∀ {xs ys : List Int}, Srt xs → Srt ys → (∀ k, k ∈ xs ↔ k ∈ ys) → xs = ys
  | [], [], _, _, _ => rfl
  | [], y :: ys, _, _, h => absurd ((h y).2 List.mem_cons_self) (by simp)
  | x :: xs, [], _, _, h => absurd ((h x).1 List.mem_cons_self) (by simp)
  | x :: xs, y :: ys, sx, sy, h => by
    obtain ⟨x1, x2⟩ := List.pairwise_cons.mp sx
    obtain ⟨y1, y2⟩ := List.pairwise_cons.mp sy
    have e : x = y := by
      rcases List.mem_cons.mp ((h x).1 List.mem_cons_self) with a | a
      · exact a
      · rcases List.mem_cons.mp ((h y).2 List.mem_cons_self) with b | b
        · exact b.symm
        · have := x1 y b
          have := y1 x a
          omega
    subst e
    have t : ∀ k, k ∈ xs ↔ k ∈ ys := fun k => by
      constructor
      · intro hk
        rcases List.mem_cons.mp ((h k).1 (List.mem_cons_of_mem _ hk)) with a | a
        · have := x1 k hk
          omega
        · exact a
      · intro hk
        rcases List.mem_cons.mp ((h k).2 (List.mem_cons_of_mem _ hk)) with a | a
        · have := y1 k hk
          omega
        · exact a
    rw [srt_ext x2 y2 t]
/-! ### lists of ints as data -/
/-! ### boxes: dicts from texts to lists of ints -/
abbrev Ent := Str × Addr × List Int
def entK (L : List Ent) : List (Key × V) := L.map fun e => (Sum.inr e.1, V.ref e.2.1)
def getE (L : List Ent) (x : Str) : Option Ent := L.find? fun e => decide (e.1 = x)
def look (L : List Ent) (x : Str) : Option (List Int) := (getE L x).map (·.2.2)
theorem getE_pos {e : Ent} {L : List Ent} {x : Str} (h : e.1 = x) : getE (e :: L) x = some e := by simp [getE, List.find?_cons, h]
theorem getE_neg {e : Ent} {L : List Ent} {x : Str} (h : ¬ e.1 = x) : getE (e :: L) x = getE L x := by simp [getE, List.find?_cons, h]
theorem getE_mem {L : List Ent} {x : Str} {e : Ent} (h : getE L x = some e) : e ∈ L ∧ e.1 = x :=
  ⟨List.mem_of_find?_eq_some h, of_decide_eq_true (List.find?_some (p := fun e : Ent => decide (e.1 = x)) h)⟩
theorem getE_of : ∀ {L : List Ent} {e : Ent}, (L.map (·.1)).Nodup → e ∈ L → getE L e.1 = some e
  | [], _, _, h => by cases h
  | a :: L, e, nd, h => by
    rw [List.map_cons, List.nodup_cons] at nd
    rcases List.mem_cons.mp h with z | z
    · rw [z]; exact getE_pos rfl
    · have ne : ¬ a.1 = e.1 := fun q => nd.1 (q ▸ List.mem_map_of_mem z)
      rw [getE_neg ne]
      exact getE_of nd.2 z
theorem getE_none {L : List Ent} {x : Str} : getE L x = none ↔ x ∉ L.map (·.1) := by
  unfold getE
  rw [List.find?_eq_none]
  constructor
  · intro h hx
    obtain ⟨e, he, q⟩ := List.mem_map.mp hx
    exact h e he (decide_eq_true q)
  · intro h e he q
    exact h (of_decide_eq_true q ▸ List.mem_map_of_mem he)
theorem look_mem {L : List Ent} {e : Ent} (nd : (L.map (·.1)).Nodup) (h : e ∈ L) : look L e.1 = some e.2.2 := by
  unfold look
  rw [getE_of nd h]
  rfl
theorem valV_ent (x : Str) : ∀ L : List Ent, valV (entK L) (.inr x) = (getE L x).map fun e => V.ref e.2.1
  | [] => rfl
  | e :: L => by
    by_cases h : e.1 = x
    · rw [getE_pos h]
      exact valV_pos (congrArg Sum.inr h)
    · rw [getE_neg h]
      have : valV (entK (e :: L)) (.inr x) = valV (entK L) (.inr x) := valV_neg (fun z => h (Sum.inr.inj z))
      rw [this]
      exact valV_ent x L
structure Bx (H : Hp) (d : Addr) (L : List Ent) : Prop where
  rd : Rd H d (.dK (entK L))
  sides : ∀ e ∈ L, H e.2.1 = some (.lst (e.2.2.map V.int))
  nd : (L.map (·.1)).Nodup
  few : L.length ≤ 40
theorem Rd.same {H H' : Hp} {a : Addr} {u : HO} (s : Same H H') (r : Rd H a u) : Rd H' a u := r.elim (fun h => .inl (s _ _ h)) fun ⟨o, h⟩ => .inr ⟨o, s _ _ h⟩
theorem Bx.same {H H' : Hp} {d : Addr} {L : List Ent} (B : Bx H d L) (s : Same H H') : Bx H' d L := ⟨Rd.same s B.rd, fun e he => s _ _ (B.sides e he), B.nd, B.few⟩
theorem Bx.get {H : Hp} {d : Addr} {L : List Ent} (B : Bx H d L) (x : Str) : DGet H d (.str x) ((getE L x).map fun e => V.ref e.2.1) := .inl ⟨entK L, .inr x, B.rd, rfl, (valV_ent x L).symm⟩
/-- a locked dict is read as before -/
theorem Bx.lock {H : Hp} {d d' : Addr} {L L' : List Ent} {od : Obj} (B : Bx H d L) (h : H d' = some (.dK (entK L'))) : Bx (upd H d' (.frz od (.dK (entK L')))) d L := by
  refine ⟨?_, fun e he => ?_, B.nd, B.few⟩
  · by_cases z : d = d'
    · subst z
      have : entK L' = entK L := by
        rcases B.rd with q | ⟨o, q⟩
        · rw [h] at q
          exact HO.dK.inj (Option.some.inj q)
        · rw [h] at q; cases q
      rw [← this]
      exact .inr ⟨od, upd_same⟩
    · rcases B.rd with q | ⟨o, q⟩
      · exact .inl (by rw [upd_ne z]; exact q)
      · exact .inr ⟨o, by rw [upd_ne z]; exact q⟩
  · have : e.2.1 ≠ d' := fun z => by have q := B.sides e he; rw [z, h] at q; cases q
    rw [upd_ne this]
    exact B.sides e he
theorem unlock {H H' : Hp} {d : Addr} {u : HO} {od : Obj} (h : H d = some u) (s : Same (upd H d (.frz od u)) H') : Same H (upd H' d u) := fun b o e => by
  by_cases z : b = d
  · subst z
    rw [upd_same]
    exact h.symm.trans e
  · rw [upd_ne z]
    exact s b o (by rw [upd_ne z]; exact e)
/-- put -/
def putE (L : List Ent) (x : Str) (a : Addr) (s : List Int) : List Ent := if (L.any fun e => decide (e.1 = x)) = true then L.map (fun e => if e.1 = x then (x, a, s) else e) else L ++ [(x, a, s)]
theorem any_ent (L : List Ent) (x : Str) : ((entK L).any fun kv => decide (kv.1 = Sum.inr x)) = L.any fun e => decide (e.1 = x) := by
  unfold entK
  rw [List.any_map]
  congr 1
  funext e
  simp
theorem putK_ent (L : List Ent) (x : Str) (a : Addr) (s : List Int) : putK (entK L) (.inr x) (V.ref a) = entK (putE L x a s) := by
  unfold putK putE
  rw [any_ent]
  by_cases h : (L.any fun e => decide (e.1 = x)) = true
  · rw [if_pos h, if_pos h]
    unfold entK
    rw [List.map_map, List.map_map]
    congr 1
    funext e
    by_cases z : e.1 = x
    · simp [z]
    · simp [z]
  · rw [if_neg h, if_neg h]
    unfold entK
    rw [List.map_append]
    rfl
theorem any_iff {L : List Ent} {x : Str} : (L.any fun e => decide (e.1 = x)) = true ↔ x ∈ L.map (·.1) := by
  rw [List.any_eq_true, List.mem_map]
  constructor
  · rintro ⟨e, he, q⟩; exact ⟨e, he, of_decide_eq_true q⟩
  · rintro ⟨e, he, q⟩; exact ⟨e, he, decide_eq_true q⟩
theorem putE_keys (L : List Ent) (x : Str) (a : Addr) (s : List Int) : (putE L x a s).map (·.1) = if x ∈ L.map (·.1) then L.map (·.1) else L.map (·.1) ++ [x] := by
  unfold putE
  by_cases h : (L.any fun e => decide (e.1 = x)) = true
  · rw [if_pos h, if_pos (any_iff.mp h), List.map_map]
    congr 1
    funext e
    by_cases z : e.1 = x
    · simp [z]
    · simp [z]
  · rw [if_neg h, if_neg (fun z => h (any_iff.mpr z)), List.map_append]
    rfl
theorem putE_nd {L : List Ent} {x : Str} {a : Addr} {s : List Int} (nd : (L.map (·.1)).Nodup) : ((putE L x a s).map (·.1)).Nodup := by
  rw [putE_keys]
  split
  · exact nd
  · rename_i h
    rw [List.nodup_append]
    exact ⟨nd, by simp, fun y hy z hz => by rw [List.mem_singleton.mp hz]; exact fun e => h (e ▸ hy)⟩
theorem putE_len (L : List Ent) (x : Str) (a : Addr) (s : List Int) : (putE L x a s).length ≤ L.length + 1 := by
  unfold putE
  split
  · rw [List.length_map]; omega
  · rw [List.length_append]; exact Nat.le_refl _
theorem putE_mem {L : List Ent} {x : Str} {a : Addr} {s : List Int} {e : Ent} (h : e ∈ putE L x a s) : e = (x, a, s) ∨ (e ∈ L ∧ e.1 ≠ x) := by
  unfold putE at h
  split at h
  · obtain ⟨f, hf, q⟩ := List.mem_map.mp h
    by_cases z : f.1 = x
    · rw [if_pos z] at q; exact .inl q.symm
    · rw [if_neg z] at q; exact .inr (q ▸ ⟨hf, z⟩)
  · rename_i g
    rcases List.mem_append.mp h with q | q
    · exact .inr ⟨q, fun z => g (any_iff.mpr (z ▸ List.mem_map_of_mem q))⟩
    · exact .inl (List.mem_singleton.mp q)
theorem find_map_at {x y : Str} {a : Addr} {s : List Int} (h : ¬ x = y) : ∀ L : List Ent, getE (L.map (fun e => if e.1 = x then (x, a, s) else e)) y = getE L y
  | [] => rfl
  | e :: L => by
    rw [List.map_cons]
    by_cases z : e.1 = x
    · rw [if_pos z, getE_neg (show ¬ (x, a, s).1 = y from h), getE_neg (fun q => h (z.symm.trans q))]
      exact find_map_at h L
    · rw [if_neg z]
      by_cases q : e.1 = y
      · rw [getE_pos q, getE_pos q]
      · rw [getE_neg q, getE_neg q]
        exact find_map_at h L
theorem find_map_self {x : Str} {a : Addr} {s : List Int} : ∀ L : List Ent, x ∈ L.map (·.1) → getE (L.map (fun e => if e.1 = x then (x, a, s) else e)) x = some (x, a, s)
  | [], h => by cases h
  | e :: L, h => by
    rw [List.map_cons]
    by_cases z : e.1 = x
    · rw [if_pos z]; exact getE_pos rfl
    · rw [if_neg z, getE_neg z]
      rw [List.map_cons] at h
      exact find_map_self L ((List.mem_cons.mp h).elim (fun q => absurd q.symm z) id)
theorem getE_app (L M : List Ent) (y : Str) : getE (L ++ M) y = (getE L y).or (getE M y) := List.find?_append
theorem getE_put (L : List Ent) (x y : Str) (a : Addr) (s : List Int) : getE (putE L x a s) y = if y = x then some (x, a, s) else getE L y := by
  unfold putE
  by_cases h : (L.any fun e => decide (e.1 = x)) = true
  · rw [if_pos h]
    by_cases z : y = x
    · rw [if_pos z, z]
      exact find_map_self L (any_iff.mp h)
    · rw [if_neg z]
      exact find_map_at (fun q => z q.symm) L
  · rw [if_neg h, getE_app]
    by_cases z : y = x
    · rw [if_pos z, z, getE_none.mpr (fun q => h (any_iff.mpr q))]
      exact getE_pos rfl
    · rw [if_neg z, show getE [(x, a, s)] y = none from getE_neg (fun q => z q.symm)]
      cases getE L y <;> rfl
theorem look_put (L : List Ent) (x y : Str) (a : Addr) (s : List Int) : look (putE L x a s) y = if y = x then some s else look L y := by
  unfold look
  rw [getE_put]
  by_cases z : y = x
  · rw [if_pos z, if_pos z]; rfl
  · rw [if_neg z, if_neg z]
/-- two boxes that say the same -/
def SameB (L M : List Ent) : Prop := ∀ x, look L x = look M x
theorem look_isSome {L : List Ent} {x : Str} : (look L x).isSome = true ↔ x ∈ L.map (·.1) := by
  unfold look
  rw [Option.isSome_map]
  cases h : getE L x with
  | none => simp [getE_none.mp h]
  | some e => simp only [Option.isSome_some, true_iff]; obtain ⟨a, b⟩ := getE_mem h; exact b ▸ List.mem_map_of_mem a
theorem len_le {α : Type} [DecidableEq α] : ∀ {l m : List α}, l.Nodup → (∀ x ∈ l, x ∈ m) → l.length ≤ m.length
  | [], _, _, _ => Nat.zero_le _
  | x :: l, m, nd, h => by
    rw [List.nodup_cons] at nd
    have hx := h x List.mem_cons_self
    have ih := len_le (m := m.erase x) nd.2 (fun y hy => (List.mem_erase_of_ne (fun (e : y = x) => nd.1 (by rw [← e]; exact hy))).2 (h y (List.mem_cons_of_mem _ hy)))
    rw [List.length_erase_of_mem hx] at ih
    have : 0 < m.length := List.length_pos_of_mem hx
    rw [List.length_cons]
    omega
theorem SameB.len {L M : List Ent} (s : SameB L M) (n1 : (L.map (·.1)).Nodup) (n2 : (M.map (·.1)).Nodup) : L.length = M.length := by
  have h1 := len_le n1 (fun x hx => look_isSome.mp (by rw [← s x]; exact look_isSome.mpr hx))
  have h2 := len_le n2 (fun x hx => look_isSome.mp (by rw [s x]; exact look_isSome.mpr hx))
  rw [List.length_map, List.length_map] at h1 h2
  omega
/-- v in ks, as the model asks it -/
theorem in_ints (ks : List Int) (v : Int) : inV (.int v) (ks.map V.int) = decide (v ∈ ks) := by
  unfold inV
  induction ks with
  | nil => simp
  | cons k ks ih =>
    rw [List.map_cons, List.any_cons, ih]
    have e : eqV (.int k) (.int v) = decide (k = v) := by
      by_cases c : k = v
      · subst c; simp [eqV]
      · simp [eqV, c]
    rw [e]
    by_cases c : k = v
    · subst c; simp
    · have c2 : ¬ v = k := fun z => c z.symm
      simp [c, c2]
section
variable {P : Program} {w : World} {K : PySem.W.Frag} {mg : Str → Option Value} {base : Heap}
/-! ### the program: boxes -/
/-- a box that no walk has locked -/
structure Bu (H : Hp) (d : Addr) (L : List Ent) : Prop extends Bx H d L where
  un : H d = some (.dK (entK L))
theorem Bu.same' {H H' : Hp} {d : Addr} {L : List Ent} (B : Bu H d L) (s : Same H H') : Bu H' d L := ⟨B.toBx.same s, s _ _ B.un⟩
theorem entK_get {L : List Ent} {i : Nat} : (entK L)[i]? = (L[i]?).map fun e => (Sum.inr e.1, V.ref e.2.1) := by
  unfold entK
  rw [List.getElem?_map]
/-! ### holds -/
def intK (A : List (Str × Int)) : List (Key × V) := A.map fun e => (Sum.inr e.1, V.int e.2)
def aget (A : List (Str × Int)) (x : Str) : Option Int := (A.find? fun e => decide (e.1 = x)).map (·.2)
theorem valV_int (x : Str) : ∀ A : List (Str × Int), valV (intK A) (.inr x) = (aget A x).map V.int
  | [] => rfl
  | e :: A => by
    by_cases h : e.1 = x
    · have : aget (e :: A) x = some e.2 := by simp [aget, List.find?_cons, h]
      rw [this]
      exact valV_pos (congrArg Sum.inr h)
    · have : aget (e :: A) x = aget A x := by simp [aget, List.find?_cons, h]
      rw [this]
      have : valV (intK (e :: A)) (.inr x) = valV (intK A) (.inr x) := valV_neg (fun z => h (Sum.inr.inj z))
      rw [this]
      exact valV_int x A
/-- an assignment: a dict from texts to ints -/
structure Ax (H : Hp) (d : Addr) (A : List (Str × Int)) : Prop where
  rd : Rd H d (.dK (intK A))
theorem Ax.same {H H' : Hp} {d : Addr} {A : List (Str × Int)} (B : Ax H d A) (s : Same H H') : Ax H' d A := ⟨Rd.same s B.rd⟩
theorem Ax.get {H : Hp} {d : Addr} {A : List (Str × Int)} (B : Ax H d A) (x : Str) : DGet H d (.str x) ((aget A x).map V.int) := .inl ⟨intK A, .inr x, B.rd, rfl, (valV_int x A).symm⟩
theorem Ax.frz {H : Hp} {v d : Addr} {A : List (Str × Int)} {u : HO} (B : Ax H v A) (h : v ≠ d) : Ax (upd H d u) v A := ⟨B.rd.elim (fun q => .inl (by rw [upd_ne h]; exact q)) fun ⟨o, q⟩ => .inr ⟨o, by rw [upd_ne h]; exact q⟩⟩
theorem entK_len (L : List Ent) : (entK L).length = L.length := by unfold entK; rw [List.length_map]
theorem keys_at {L : List Ent} {i : Nat} {k : Key} {v : V} (h : (entK L)[i]? = some (k, v)) : ∃ e, L[i]? = some e ∧ k = .inr e.1 ∧ v = .ref e.2.1 := by
  rw [entK_get] at h
  obtain ⟨e, he, q⟩ := Option.map_eq_some_iff.mp h
  cases q
  exact ⟨e, he, rfl, rfl⟩
/-! ### box_within -/
end
/-- a new box with sides of its own -/
structure Nb (H0 H : Hp) (d : Addr) (L : List Ent) : Prop extends Bu H d L where
  fresh : H0 d = none
  freshS : ∀ e ∈ L, H0 e.2.1 = none
  inj : (L.map (·.2.1)).Nodup
theorem Nb.push {H0 H1 H2 : Hp} {d : Addr} {L : List Ent} (N : Nb H0 H1 d L) (s : Same H1 H2) : Nb H0 H2 d L := ⟨N.toBu.same' s, N.fresh, N.freshS, N.inj⟩
abbrev shape (L : List Ent) : List (Str × List Int) := L.map fun e => (e.1, e.2.2)
theorem look_shape : ∀ {L M : List Ent}, shape L = shape M → SameB L M
  | [], [], _, _ => rfl
  | [], _ :: _, h, _ => by cases h
  | _ :: _, [], h, _ => by cases h
  | e :: L, f :: M, h, x => by
    simp only [shape, List.map_cons, List.cons.injEq, Prod.mk.injEq] at h
    obtain ⟨⟨h1, h2⟩, h3⟩ := h
    have ih := look_shape (L := L) (M := M) h3 x
    unfold look at ih ⊢
    by_cases z : e.1 = x
    · rw [getE_pos z, getE_pos (h1 ▸ z)]
      exact congrArg some h2
    · rw [getE_neg z, getE_neg (fun q => z (h1.trans q))]
      exact ih
theorem shape_keys {L M : List Ent} (h : shape L = shape M) : L.map (·.1) = M.map (·.1) := by
  have q := congrArg (List.map Prod.fst) h
  unfold shape at q
  rw [List.map_map, List.map_map] at q
  exact q
theorem putE_new {L : List Ent} {x : Str} {a : Addr} {s : List Int} (h : x ∉ L.map (·.1)) : putE L x a s = L ++ [(x, a, s)] := if_neg fun z => h (any_iff.mp z)
theorem nd_snoc {α : Type} {l : List α} {x : α} (nd : l.Nodup) (h : x ∉ l) : (l ++ [x]).Nodup := by
  rw [List.nodup_append]
  exact ⟨nd, by simp, fun y hy z hz => by rw [List.mem_singleton.mp hz]; exact fun e => h (e ▸ hy)⟩
section
variable {P : Program} {w : World} {K : PySem.W.Frag} {mg : Str → Option Value} {base : Heap}
def spCopy : Sp := fun vs H Q _ => ∃ (d : Addr) (L : List Ent), vs = [.ref d] ∧ Bu H d L ∧ ∀ (H' : Hp) (d' : Addr) (M : List Ent), Same H H' → Nb H H' d' M → shape M = shape L → Q (.ref d') H'
end
/-! ### what two sorted lists have together -/
def ins (k : Int) : List Int → List Int
  | [] => [k]
  | x :: l => if k < x then k :: x :: l else if k = x then x :: l else x :: ins k l
theorem take_keys {L : List Ent} {i : Nat} {e : Ent} (nd : (L.map (·.1)).Nodup) (he : L[i]? = some e) : e.1 ∉ (L.take i).map (·.1) := by
  intro z
  obtain ⟨g, hg, eg⟩ := List.mem_map.mp z
  obtain ⟨j, hj⟩ := List.mem_iff_getElem?.mp hg
  rw [List.getElem?_take] at hj
  split at hj
  · rename_i hji
    have a1 : (L.map (·.1))[j]? = some e.1 := by rw [List.getElem?_map, hj]; exact congrArg some eg
    have a2 : (L.map (·.1))[i]? = some e.1 := by rw [List.getElem?_map, he]; rfl
    have := nd_ix nd a1 a2
    omega
  · cases hj
structure Sz (L : List Ent) (n : Nat) : Prop where
  srt : ∀ e ∈ L, Srt e.2.2
  len : ∀ e ∈ L, e.2.2.length ≤ n
/-- what a new box needs when one more side is put -/
theorem Nb.put {H0 H H3 : Hp} {d l : Addr} {M : List Ent} {x : Str} {s : List Int} (N : Nb H0 H d M) (n0 : H0 l = none) (nl : H l = none) (s3 : Same H H3) (el : H3 l = some (.lst (s.map V.int))) (few : M.length + 1 ≤ 40) :
    Nb H0 (upd H3 d (.dK (entK (putE M x l s)))) d (putE M x l s) := by
  have nld : l ≠ d := fun z => by rw [z, N.un] at nl; cases nl
  have sd : ∀ e ∈ putE M x l s, (upd H3 d (.dK (entK (putE M x l s)))) e.2.1 = some (.lst (e.2.2.map V.int)) := fun e he => by
    rcases putE_mem he with z | ⟨z, _⟩
    · rw [z, upd_ne nld]
      exact el
    · have h1 := N.sides e z
      have h2 : e.2.1 ≠ d := fun w => by rw [w, N.un] at h1; cases h1
      rw [upd_ne h2]
      exact s3 _ _ h1
  refine ⟨⟨⟨.inl upd_same, sd, putE_nd N.nd, by have := putE_len M x l s; omega⟩, upd_same⟩, N.fresh, fun e he => ?_, ?_⟩
  · rcases putE_mem he with z | ⟨z, _⟩
    · rw [z]; exact n0
    · exact N.freshS e z
  · have lM : l ∉ M.map (·.2.1) := fun w => by
      obtain ⟨g, hg, eg⟩ := List.mem_map.mp w
      have eg' : g.2.1 = l := eg
      have h1 := N.sides g hg
      rw [eg', nl] at h1
      cases h1
    unfold putE
    split
    · rw [List.map_map]
      have key : ∀ L : List Ent, (L.map (·.1)).Nodup → (L.map (·.2.1)).Nodup → l ∉ L.map (·.2.1) → (L.map ((fun e : Ent => e.2.1) ∘ fun e => if e.1 = x then (x, l, s) else e)).Nodup ∧ ∀ q ∈ L.map ((fun e : Ent => e.2.1) ∘ fun e => if e.1 = x then (x, l, s) else e), q ∈ L.map (·.2.1) ∨ (q = l ∧ x ∈ L.map (·.1)) := by
        intro L
        induction L with
        | nil => intro _ _ _; exact ⟨List.Pairwise.nil, fun q hq => by cases hq⟩
        | cons e L ih =>
          intro n1 n2 n3
          rw [List.map_cons, List.nodup_cons] at n1 n2
          rw [List.map_cons, List.mem_cons, not_or] at n3
          obtain ⟨i1, i2⟩ := ih n1.2 n2.2 n3.2
          rw [List.map_cons, List.nodup_cons]
          by_cases c : e.1 = x
          · have ef : ((fun e : Ent => e.2.1) ∘ fun e => if e.1 = x then (x, l, s) else e) e = l := by simp [c]
            rw [ef]
            refine ⟨⟨fun w => ?_, i1⟩, fun q hq => ?_⟩
            · rcases i2 l w with z | ⟨_, z⟩
              · exact n3.2 z
              · exact n1.1 (c ▸ z)
            · rcases List.mem_cons.mp hq with z | z
              · exact .inr ⟨z, by rw [List.map_cons, c]; exact List.mem_cons_self⟩
              · rcases i2 q z with y | ⟨y1, y2⟩
                · exact .inl (List.mem_cons_of_mem _ y)
                · exact .inr ⟨y1, List.mem_cons_of_mem _ y2⟩
          · have ef : ((fun e : Ent => e.2.1) ∘ fun e => if e.1 = x then (x, l, s) else e) e = e.2.1 := by simp [c]
            rw [ef]
            refine ⟨⟨fun w => ?_, i1⟩, fun q hq => ?_⟩
            · rcases i2 _ w with z | ⟨z, _⟩
              · exact n2.1 z
              · exact n3.1 z.symm
            · rcases List.mem_cons.mp hq with z | z
              · exact .inl (by rw [z]; exact List.mem_cons_self)
              · rcases i2 q z with y | ⟨y1, y2⟩
                · exact .inl (List.mem_cons_of_mem _ y)
                · exact .inr ⟨y1, List.mem_cons_of_mem _ y2⟩
      exact (key M N.nd N.inj lM).1
    · rw [List.map_append]
      exact nd_snoc N.inj lM
theorem Same.unl {H H' : Hp} {d : Addr} {u : HO} {od : Obj} (h : H d = some u) (s : Same (upd H d (.frz od u)) H') : Same H (upd H' d u) := unlock h s
/-- a new box behind a lock elsewhere -/
theorem Nb.unl {H0 H' : Hp} {b d : Addr} {u : HO} {M : List Ent} {od : Obj} (N : Nb H0 H' d M) (hb : H0 b = some u) (eF : H' b = some (.frz od u)) : Nb H0 (upd H' b u) d M := by
  have db : d ≠ b := fun z => by have := N.un; rw [z, eF] at this; cases this
  have away : ∀ g ∈ M, g.2.1 ≠ b := fun g hg z => by have := N.sides g hg; rw [z, eF] at this; cases this
  exact ⟨⟨⟨.inl (by rw [upd_ne db]; exact N.un), fun g hg => by rw [upd_ne (away g hg)]; exact N.sides g hg, N.nd, N.few⟩, by rw [upd_ne db]; exact N.un⟩, N.fresh, N.freshS, N.inj⟩
theorem ne_some' {H : Hp} {p q : Addr} {o : HO} (h : H p = some o) (n : H q = none) : p ≠ q := fun e => by rw [e, n] at h; cases h
section
variable {P : Program} {w : World} {K : PySem.W.Frag} {mg : Str → Option Value} {base : Heap}
/-! ### the pool, a part of it -/
abbrev sPool : Stmt := topS 20
abbrev sPart : Stmt := topS 23
abbrev nPool : List Str := ["_law_stream_here", "_law_count", "_law_pool_here", "_law_k", "_law_scale", "_law_value"]
abbrev nPart : List Str := ["_law_stream_here", "_law_side", "_law_value"]
theorem scPool : FnScope nPool ["_law_stream_here", "_law_count"] (defScope sPool) := ⟨rfl, rfl, rfl, by decide +kernel, rfl, by decide +kernel, by decide +kernel⟩
theorem scPart : FnScope nPart ["_law_stream_here", "_law_side"] (defScope sPart) := ⟨rfl, rfl, rfl, by decide +kernel, rfl, by decide +kernel, by decide +kernel⟩
theorem srt_snoc {ss : List Int} {v : Int} (s : Srt ss) (h : ∀ k ∈ ss, k < v) : Srt (ss ++ [v]) :=
  List.pairwise_append.mpr ⟨s, List.pairwise_singleton _ _, fun a ha b hb => by rw [List.mem_singleton.mp hb]; exact h a ha⟩
def spPool : Sp := fun vs H Q _ => ∃ (p : Addr) (m : Nat), vs = [.ref p, .int (m : Int)] ∧ Strm H p ∧ 1 ≤ m ∧ m ≤ 100 ∧
  ∀ (H' : Hp) (l : Addr) (ns : List Int), Keep p H H' → H l = none → Strm H' p → H' l = some (.lst (ns.map V.int)) → Srt ns → ns.length = m → (∀ k ∈ ns, -1000000000000 < k ∧ k < 1000000000000) → Q (.ref l) H'
theorem ok_pool {f fD : Addr} {fd fdD : FuncData} (F : Fun K "_law_pool" "_law_pool" sPool f fd) (B : Bt mg) (D : Call P w K mg base 1 "_law_next" fD fdD ["_law_stream_here", "_law_size"] spDraw) :
    FnOk P w K mg base CX0 2 f fd ["_law_stream_here", "_law_count"] spPool := by
  refine F.ok scPool (fun vs H Q E h => ?_) (fun cdv A outer s H vs Q E hr h => ?_)
  · obtain ⟨p, m, rfl, _⟩ := h
    rfl
  · obtain ⟨p, m, rfl, hp, m0, m1, q⟩ := h
    have nd := scPool.nd
    refine ⟨_, pss_cons (ps_set (i := 2) nd rfl (.inl rfl) (pe_lst (pa_cons (pe_op op_sub (pe_call D.ok hr (by rfl) D.at_ D.kp D.bd .nil pass0 (pa_cons (pv 0) (pa_cons pe_int pa_nil))) pe_int) pa_nil)))
      (pss_cons (ps_for PassesOwn.never rfl (pi_range1 (by rfl) B.range (pa_cons (pe_op op_sub (pv 1) pe_int) pa_nil)) (pg_name (i := 3) nd rfl (.inl rfl))
        (pss_one (ps_expr (pe_bm PySem.F.plainAttrs_list PySem.F.slot_list_append PySem.F.type_list_append mt_append (pv 2) (pa_cons
          (pe_op op_add (pe_op op_add (pe_ix ix_list (pv 2) (pv 3) (fun _ _ => rfl)) pe_int) (pe_op op_mul pe_int (pe_op op_fdiv (pe_call D.ok hr (by rfl) D.at_ D.kp D.bd .nil pass0 (pa_cons (pv 0) (pa_cons pe_int pa_nil))) pe_int))) pa_nil)))))
      (pss_cons (ps_set (i := 4) nd rfl (.inr rfl) (pe_ix ix_list (pe_lst (pa_cons pe_int (pa_cons pe_int (pa_cons pe_int (pa_cons pe_int (pa_cons pe_int (pa_cons pe_int (pa_cons pe_int (pa_cons (pe_op op_pow pe_int pe_int) pa_nil)))))))))
          (pe_call D.ok hr (by rfl) D.at_ D.kp D.bd .nil pass0 (pa_cons (pv 0) (pa_cons pe_int pa_nil))) (fun _ _ => rfl)))
      (pss_one (ps_ret (pe_lc (own := [("_law_value", 5)]) (g := gName 5) (tt := tYes) rfl nd (pi_list (pv 2)) (blkOk_by (N := nPool) (sc := defScope sPool) (by decide +kernel)) (fun _ _ _ _ _ => pg_name (i := 5) nd rfl (Or.inl rfl)) (fun _ _ _ _ _ => pts_nil)
        (fun _ _ _ _ _ => pe_op op_mul (pv 5) (pv 4))))))), ?_⟩
    refine ⟨.ref p, rfl, p, 9, rfl, hp, by decide, by decide, fun H1 d o1 st1 d0 d1 => ⟨d, 4, rfl, rfl, by show 1 ≤ sizeLine; decide, fun l nl1 => ?_⟩⟩
    have npl : p ≠ l := fun z => st1.some (z ▸ nl1)
    have nl : H l = none := by rw [← o1 l npl.symm]; exact nl1
    refine ⟨.int (m : Int), rfl, (m : Int), 1, rfl, rfl, (m : Int) - 1, rfl, by omega, by omega, for_range (lo := 0) (n := ((m : Int) - 1).toNat) (fun i σ H' => ∃ (y3 : Option V) (ns : List Int), σ = [some (.ref p), some (.int (m : Int)), some (.ref l), y3, none, none] ∧ Keep p H H' ∧ Strm H' p ∧ H' l = some (.lst (ns.map V.int)) ∧ Srt ns ∧ ns.length = i + 1 ∧ (∀ k ∈ ns, -4 ≤ k ∧ k ≤ 4 + 3 * (i : Int)) ∧ ∃ z, ns = ns.take i ++ [z])
      ⟨none, [d - 4], rfl, ((Keep.refl p H).oth o1).at_ nl, st1.upd npl, upd_same, List.pairwise_singleton _ _, rfl, fun k hk => by have := List.mem_singleton.mp hk; omega, d - 4, rfl⟩ ?_ ?_⟩
    · rintro i σ H' hi ⟨y3, ns, rfl, kp, st, el, so, len, bd, z, ez⟩
      have gz : (ns.map V.int)[i]? = some (.int z) := by
        rw [ez, List.map_append, List.getElem?_append_right (by rw [List.length_map, List.length_take]; omega)]
        rw [List.length_map, List.length_take, show i - min i ns.length = 0 by omega]
        rfl
      refine ⟨.ref l, rfl, .inl ⟨rfl, _, sl_map el⟩, .ref l, rfl, .int (0 + (i : Int)), rfl, l, _, _, _, rfl, rfl, sl_map el, at_of (by omega) gz, z, 1, rfl, rfl, .ref p, rfl, p, 4, rfl, st, by decide, by decide, fun H2 e o2 st2 e0 e1 => ?_⟩
      refine ⟨e, 3, rfl, rfl, ⟨by decide, by decide⟩, 2, e / 3, rfl, rfl, .inl ⟨by decide, by decide⟩, z + 1, 2 * (e / 3), rfl, rfl, l, _, _, rfl, rfl, (o2 l npl.symm).trans el, ?_, ?_⟩
      · rw [List.length_map]
        exact small1000 (by omega)
      · have e3 : 0 ≤ e / 3 := Int.ediv_nonneg e0 (by decide)
        refine ⟨_, ns ++ [z + 1 + 2 * (e / 3)], rfl, (kp.oth o2).at_ nl, st2.upd npl, by rw [upd_same, List.map_append]; rfl, srt_snoc so fun k hk => ?_, by rw [List.length_append, len]; rfl, fun k hk => ?_, z + 1 + 2 * (e / 3), ?_⟩
        · rw [ez] at hk so
          rcases List.mem_append.mp hk with h | h
          · have := (List.pairwise_append.mp so).2.2 k h z (List.mem_singleton.mpr rfl)
            omega
          · have := List.mem_singleton.mp h
            omega
        · have e4 : e / 3 ≤ 1 := by omega
          rcases List.mem_append.mp hk with h | h
          · have := bd k h
            omega
          · have h1 := List.mem_singleton.mp h
            have h2 := bd z (by rw [ez]; exact List.mem_append_right _ (List.mem_singleton.mpr rfl))
            omega
        · rw [List.take_append_of_le_length (by omega), List.take_of_length_le (by omega)]
    · rintro σ H' ⟨y3, ns, rfl, kp, st, el, so, len, bd, z, ez⟩
      refine ⟨10, 9, rfl, rfl, ⟨by decide, by decide, by decide⟩, by show 8 ≤ sizeLine; decide, fun t nt => ?_⟩
      have npt : p ≠ t := fun e => st.some (e ▸ nt)
      have nlt : l ≠ t := ne_some' el nt
      refine ⟨.ref p, rfl, p, 8, rfl, st.upd npt, by decide, by decide, fun H2 e o2 st2 e0 e1 => ?_⟩
      have et : H2 t = some (.lst [V.int 1, V.int 1, V.int 1, V.int 1, V.int 1, V.int 1, V.int 7, V.int (10 ^ (9 : Int).toNat)]) := (o2 t npt.symm).trans upd_same
      obtain ⟨sc, hsc, sc0, sc1⟩ : ∃ sc : Int, atI [V.int 1, V.int 1, V.int 1, V.int 1, V.int 1, V.int 1, V.int 7, V.int (10 ^ (9 : Int).toNat)] e = some (.int sc) ∧ 0 < sc ∧ sc ≤ 1000000000 := by
        have : e = 0 ∨ e = 1 ∨ e = 2 ∨ e = 3 ∨ e = 4 ∨ e = 5 ∨ e = 6 ∨ e = 7 := by omega
        rcases this with h | h | h | h | h | h | h | h
        · exact ⟨_, by rw [h]; exact atI_nat (j := 0) rfl, by decide, by decide⟩
        · exact ⟨_, by rw [h]; exact atI_nat (j := 1) rfl, by decide, by decide⟩
        · exact ⟨_, by rw [h]; exact atI_nat (j := 2) rfl, by decide, by decide⟩
        · exact ⟨_, by rw [h]; exact atI_nat (j := 3) rfl, by decide, by decide⟩
        · exact ⟨_, by rw [h]; exact atI_nat (j := 4) rfl, by decide, by decide⟩
        · exact ⟨_, by rw [h]; exact atI_nat (j := 5) rfl, by decide, by decide⟩
        · exact ⟨_, by rw [h]; exact atI_nat (j := 6) rfl, by decide, by decide⟩
        · exact ⟨_, by rw [h]; exact atI_nat (j := 7) rfl, by decide, by decide⟩
      refine ⟨t, _, e, .int sc, rfl, rfl, sl_map et, hsc, ?_⟩
      have el2 : H2 l = some (.lst (ns.map V.int)) := by rw [o2 l npl.symm, upd_ne nlt]; exact el
      have kp2 : Keep p H H2 := (kp.at_ (kp.free st nt)).oth o2
      refine ⟨.ref l, rfl, l, rfl, ⟨_, sl_map el2⟩, fun R nR => lc_list (xs := ns.map V.int) (fun i H3 => Same H2 H3 ∧ H3 R = some (.lst (((ns.take i).map (· * sc)).map V.int))) ⟨same_new nR, upd_same⟩ (fun i H3 _ h => h.1.seq (sl_map el2)) ?_ ?_⟩
      · rintro i x H3 hx ⟨sm, eR⟩
        rw [List.getElem?_map] at hx
        obtain ⟨v, hv, rfl⟩ := Option.map_eq_some_iff.mp hx
        have hi := (List.getElem?_eq_some_iff.mp hv).1
        refine ⟨rfl, .int v, rfl, .int sc, rfl, v, sc, rfl, rfl, .inr ⟨by omega, by omega⟩, _, eR, ?_, same_at sm nR, ?_⟩
        · rw [List.length_map, List.length_map, List.length_take]
          exact small1000 (by omega)
        · rw [upd_same, List.take_add_one, hv, List.map_append, List.map_append]
          rfl
      · rintro H3 ⟨sm, eR⟩
        rw [List.length_map, List.take_length] at eR
        refine q H3 R _ (fun b u hb e => sm _ _ (kp2 b u hb e)) (kp2.free st2 nR) (st2.keep (Keep.same (p := R) sm) (fun z => st2.some (z ▸ nR))) eR ?_ ?_ ?_
        · unfold Srt
          rw [List.pairwise_map]
          exact so.imp fun h => Int.mul_lt_mul_of_pos_right h sc0
        · rw [List.length_map]
          omega
        · intro k hk
          obtain ⟨v, hv, rfl⟩ := List.mem_map.mp hk
          have hb := bd v hv
          have hb2 : -4 ≤ v ∧ v ≤ 400 := by omega
          have h1 : v * sc ≤ 400 * sc := Int.mul_le_mul_of_nonneg_right hb2.2 (Int.le_of_lt sc0)
          have h2 : -4 * sc ≤ v * sc := Int.mul_le_mul_of_nonneg_right hb2.1 (Int.le_of_lt sc0)
          show -1000000000000 < v * sc ∧ v * sc < 1000000000000
          omega
def spPart (K : PySem.W.Frag) : Sp := fun vs H Q _ => ∃ (p a : Addr) (ns : List Int), vs = [.ref p, .ref a] ∧ Strm H p ∧ H a = some (.lst (ns.map V.int)) ∧ p ≠ a ∧ ns.length ≤ 1000 ∧
  ∀ (H' : Hp) (l : Addr) (ms : List Int), Keep p H H' → H l = none → Strm H' p → H' l = some (.lst (ms.map V.int)) → ms.Sublist ns → Q (.ref l) H'
theorem ok_part {f fD : Addr} {fd fdD : FuncData} (F : Fun K "_law_part" "_law_part" sPart f fd) (B : Bt mg) (D : Call P w K mg base 1 "_law_next" fD fdD ["_law_stream_here", "_law_size"] spDraw) :
    FnOk P w K mg base CX0 2 f fd ["_law_stream_here", "_law_side"] (spPart K) := by
  refine F.ok scPart (fun vs H Q E h => ?_) (fun cdv A outer s H vs Q E hr h => ?_)
  · obtain ⟨p, a, ns, rfl, _⟩ := h
    rfl
  · obtain ⟨p, a, ns, rfl, hp, ha, pa, hl, q⟩ := h
    have nd := scPart.nd
    refine ⟨_, pss_one (ps_ret (pe_lc (own := [("_law_value", 2)]) (g := gName 2) (te := tVar 2) rfl nd (pi_list (pv 1)) (blkOk_by (N := nPart) (sc := defScope sPart) (by decide +kernel)) (fun _ _ _ _ _ => pg_name (i := 2) nd rfl (Or.inl rfl))
        (fun _ _ _ _ _ => pts_one (pt_cmpR op_gt (pe_call D.ok hr (by rfl) D.at_ D.kp D.bd .nil pass0 (pa_cons (pv 0) (pa_cons pe_int pa_nil))) pe_int (nomark _))) (fun _ _ _ _ _ => pv 2))), ?_⟩
    refine ⟨.ref a, rfl, a, rfl, ⟨_, sl_map ha⟩, fun D' nD => ?_⟩
    have npD : p ≠ D' := fun e => hp.some (e ▸ nD)
    have naD : a ≠ D' := ne_some' ha nD
    refine lc_list (xs := ns.map V.int) (fun i H' => Keep p H H' ∧ Strm H' p ∧ H' a = some (.lst (ns.map V.int)) ∧ ∃ ms : List Int, H' D' = some (.lst (ms.map V.int)) ∧ ms.Sublist (ns.take i)) ?_ ?_ ?_ ?_
    · exact ⟨(Keep.refl p H).at_ nD, hp.upd npD, by rw [upd_ne naD]; exact ha, [], upd_same, List.Sublist.refl _⟩
    · rintro i H' _ ⟨_, _, er, _⟩
      exact sl_map er
    · rintro i x H' hx ⟨kp, st, er, ms, eD, sub⟩
      rw [List.getElem?_map] at hx
      obtain ⟨v, hv, rfl⟩ := Option.map_eq_some_iff.mp hx
      have hi := (List.getElem?_eq_some_iff.mp hv).1
      have len := sub.length_le
      rw [List.length_take] at len
      refine ⟨rfl, .ref p, rfl, p, 3, rfl, st, by decide, by decide, fun H2 e o2 st2 e0 e1 => ?_⟩
      refine ⟨e, 0, rfl, rfl, _, rfl, ?_⟩
      have eD2 : H2 D' = some (.lst (ms.map V.int)) := (o2 D' npD.symm).trans eD
      have er2 : H2 a = some (.lst (ns.map V.int)) := (o2 a pa.symm).trans er
      have tk : ns.take (i + 1) = ns.take i ++ [v] := by
        rw [List.take_add_one, hv]
        rfl
      refine ite2 (fun _ => ?_) (fun _ => ?_)
      · refine ⟨.int v, rfl, _, eD2, ?_, (kp.oth o2).at_ nD, st2.upd npD, by rw [upd_ne naD]; exact er2, ms ++ [v], by rw [upd_same, List.map_append]; rfl, by rw [tk]; exact sub.append (List.Sublist.refl _)⟩
        rw [List.length_map]
        exact small1000 (by omega)
      · exact ⟨kp.oth o2, st2, er2, ms, eD2, by rw [tk]; exact sub.trans (List.sublist_append_left _ _)⟩
    · rintro H' ⟨kp, st, er, ms, eD, sub⟩
      rw [List.length_map, List.take_length] at sub
      exact q H' D' ms kp nD st eD sub
end
/-! ### names -/
def plainN : List Str := ["x", "yard", "z", "u", "wide_one", "q", "pp", "t"]
def lettersN : Str := "qwertyuiopasdfghjklzxcvbnm_zyx"
def digitsN : Str := "7305186429"
theorem plain_nodup : ((List.range 8).all fun s => decide (((List.range 8).map fun k => plainN.getD ((k * 3 + s) % 8) "x").Nodup)) = true := by decide +kernel
def isDig (c : Nat) : Bool := decide (48 ≤ c) && decide (c ≤ 57)
def mark (z : Str) : Option Nat := z.cps.toList.find? isDig
theorem letters_none : (lettersN.cps.toList.all fun c => !isDig c) = true := by decide +kernel
theorem digits_are : (digitsN.cps.toList.all isDig) = true := by decide +kernel
theorem digits_nodup : digitsN.cps.toList.Nodup := by decide +kernel
theorem digits_len : digitsN.cps.toList.length = 10 := by decide +kernel
theorem letters_len : lettersN.length = 30 := by decide +kernel
theorem cut_letters (lo hi : Option Int) : ∀ c ∈ (cutS lettersN lo hi).cps.toList, isDig c = false := fun c hc => by
  have h1 : c ∈ lettersN.cps.toList := by
    have : (cutS lettersN lo hi).cps.toList = (lettersN.cps.toList.drop (HT.sIx lettersN.length 0 lo)).take (HT.sIx lettersN.length lettersN.length hi - HT.sIx lettersN.length 0 lo) := by
      unfold cutS
      simp
    rw [this] at hc
    exact List.mem_of_mem_drop (List.mem_of_mem_take hc)
  have := List.all_eq_true.mp letters_none c h1
  simpa using this
theorem cut_len (lo hi : Option Int) : (cutS lettersN lo hi).length ≤ 30 := by
  have h : (cutS lettersN lo hi).cps.toList.length ≤ 30 := by
    unfold cutS
    simp only [List.toList_toArray]
    have l : lettersN.cps.toList.length = 30 := letters_len
    rw [List.length_take, List.length_drop]
    omega
  exact h
theorem mark_of (x t : Str) (c : Nat) (hx : ∀ d ∈ x.cps.toList, isDig d = false) (hc : isDig c = true) : mark (x ++ ⟨#[c]⟩ ++ t) = some c := by
  unfold mark
  have e : (x ++ ⟨#[c]⟩ ++ t).cps.toList = x.cps.toList ++ [c] ++ t.cps.toList := by
    show ((x.cps ++ #[c]) ++ t.cps).toList = _
    simp
  rw [e, List.append_assoc, List.find?_append]
  have : x.cps.toList.find? isDig = none := List.find?_eq_none.mpr fun d hd => by rw [hx d hd]; simp
  rw [this]
  show (([c] ++ t.cps.toList).find? isDig) = some c
  simp [hc]
theorem ok_of {x : Str} (h : ∀ c ∈ x.cps.toList, c < 0x110000) : PyData.strOk x = true := by
  unfold PyData.strOk
  rw [← Array.all_toList]
  exact List.all_eq_true.mpr fun c hc => decide_eq_true (h c hc)
/-- a name that may be drawn: it does not end with an underscore and is not long -/
def nmOk (x : Str) : Bool := (PyData.strOk x && decide (x.cps.toList.getLast? ≠ some 95)) && decide (x.length ≤ 70)
theorem plain_ok : (plainN.all fun x => nmOk x) = true := by decide +kernel
theorem letters_low : (lettersN.cps.toList.all fun c => decide (c < 0x110000)) = true := by decide +kernel
theorem digits_low : (digitsN.cps.toList.all fun c => decide (c < 0x110000)) = true := by decide +kernel
theorem cut_low (lo hi : Option Int) : ∀ c ∈ (cutS lettersN lo hi).cps.toList, c < 0x110000 := fun c hc => by
  have h1 : c ∈ lettersN.cps.toList := by
    have : (cutS lettersN lo hi).cps.toList = (lettersN.cps.toList.drop (HT.sIx lettersN.length 0 lo)).take (HT.sIx lettersN.length lettersN.length hi - HT.sIx lettersN.length 0 lo) := by
      unfold cutS
      simp
    rw [this] at hc
    exact List.mem_of_mem_drop (List.mem_of_mem_take hc)
  exact of_decide_eq_true (List.all_eq_true.mp letters_low c h1)
theorem name_ok (lo hi lo2 hi2 : Option Int) (c : Nat) (hc : c ∈ digitsN.cps.toList) : PyData.strOk (cutS lettersN lo hi ++ ⟨#[c]⟩ ++ cutS lettersN lo2 hi2) = true := ok_of fun d hd => by
  have e : (cutS lettersN lo hi ++ ⟨#[c]⟩ ++ cutS lettersN lo2 hi2).cps.toList = (cutS lettersN lo hi).cps.toList ++ [c] ++ (cutS lettersN lo2 hi2).cps.toList := by
    show (((cutS lettersN lo hi).cps ++ #[c]) ++ (cutS lettersN lo2 hi2).cps).toList = _
    simp
  rw [e] at hd
  rcases List.mem_append.mp hd with h | h
  · rcases List.mem_append.mp h with h | h
    · exact cut_low lo hi d h
    · rw [List.mem_singleton.mp h]
      exact of_decide_eq_true (List.all_eq_true.mp digits_low c hc)
  · exact cut_low lo2 hi2 d h
theorem str_one (c : Nat) : (⟨#[c]⟩ : Str).length = 1 := rfl
theorem len_app (x y : Str) : (x ++ y).length = x.length + y.length := by
  show (x.cps ++ y.cps).size = _
  exact Array.size_append
theorem tail_cases (t : Int) (t0 : 0 ≤ t) (t1 : t < 3) : (cutS lettersN (some (26 - t)) (some 26)).cps.toList.getLast? = none ∨ (cutS lettersN (some (26 - t)) (some 26)).cps.toList.getLast? = some 109 := by
  have : t = 0 ∨ t = 1 ∨ t = 2 := by omega
  rcases this with h | h | h <;> subst h <;> decide +kernel
theorem digits_nu : (digitsN.cps.toList.all fun c => decide (c ≠ 95)) = true := by decide +kernel
theorem name_nm (lo hi : Option Int) (t : Int) (t0 : 0 ≤ t) (t1 : t < 3) (c : Nat) (hc : c ∈ digitsN.cps.toList) : nmOk (cutS lettersN lo hi ++ ⟨#[c]⟩ ++ cutS lettersN (some (26 - t)) (some 26)) = true := by
  unfold nmOk
  rw [name_ok lo hi _ _ c hc, Bool.true_and]
  have e : (cutS lettersN lo hi ++ ⟨#[c]⟩ ++ cutS lettersN (some (26 - t)) (some 26)).cps.toList = (cutS lettersN lo hi).cps.toList ++ [c] ++ (cutS lettersN (some (26 - t)) (some 26)).cps.toList := by
    show (((cutS lettersN lo hi).cps ++ #[c]) ++ (cutS lettersN (some (26 - t)) (some 26)).cps).toList = _
    simp
  refine Bool.and_eq_true_iff.mpr ⟨decide_eq_true ?_, decide_eq_true ?_⟩
  · rw [e, List.getLast?_append, List.getLast?_append]
    rcases tail_cases t t0 t1 with h | h
    · rw [h]
      have := of_decide_eq_true (List.all_eq_true.mp digits_nu c hc)
      simpa using this
    · rw [h]
      simp
  rw [len_app, len_app, str_one]
  have h1 := cut_len lo hi
  have h2 := cut_len (some (26 - t)) (some 26)
  exact Nat.le_trans (Nat.add_le_add (Nat.add_le_add_right h1 1) h2) (by decide)
/-- with an underscore behind it, it is none of them -/
theorem nm_under {x y : Str} (h : nmOk y = true) : y ≠ x ++ "_" := fun e => by
  have h1 := of_decide_eq_true (Bool.and_eq_true_iff.mp (Bool.and_eq_true_iff.mp h).1).2
  apply h1
  rw [e]
  show ((x.cps ++ ("_" : Str).cps).toList).getLast? = some 95
  rw [Array.toList_append, List.getLast?_append]
  have : ("_" : Str).cps.toList.getLast? = some 95 := by decide +kernel
  rw [this]
  simp
section
variable {P : Program} {w : World} {K : PySem.W.Frag} {mg : Str → Option Value} {base : Heap}
abbrev sNames : Stmt := topS 19
abbrev nNames : List Str := ["_law_stream_here", "_law_count", "_law_shift", "_law_plain", "_law_k", "_law_letters", "_law_names_here", "_law_at", "_law_size", "_law_tail"]
theorem scNames : FnScope nNames ["_law_stream_here", "_law_count"] (defScope sNames) := ⟨rfl, rfl, rfl, by decide +kernel, rfl, by decide +kernel, by decide +kernel⟩
def spNames : Sp := fun vs H Q _ => ∃ (p : Addr) (m : Nat), vs = [.ref p, .int (m : Int)] ∧ Strm H p ∧ m ≤ 8 ∧
  ∀ (H' : Hp) (l : Addr) (xs : List Str), Keep p H H' → H l = none → Strm H' p → H' l = some (.lst (xs.map V.str)) → xs.Nodup → xs.length = m → (∀ x ∈ xs, nmOk x = true) → Q (.ref l) H'
theorem ok_names {f fD : Addr} {fd fdD : FuncData} (F : Fun K "_law_names" "_law_names" sNames f fd) (B : Bt mg) (D : Call P w K mg base 1 "_law_next" fD fdD ["_law_stream_here", "_law_size"] spDraw) :
    FnOk P w K mg base CX0 2 f fd ["_law_stream_here", "_law_count"] spNames := by
  refine F.ok scNames (fun vs H Q E h => ?_) (fun cdv A outer s H vs Q E hr h => ?_)
  · obtain ⟨p, m, rfl, _⟩ := h
    rfl
  · obtain ⟨p, m, rfl, hp, m8, q⟩ := h
    have nd := scNames.nd
    refine ⟨_, pss_cons (ps_if (pt_cmpR op_eq (pe_call D.ok hr (by rfl) D.at_ D.kp D.bd .nil pass0 (pa_cons (pv 0) (pa_cons pe_int pa_nil))) pe_int (nomark _))
        (pss_cons (ps_set (i := 2) nd rfl (.inr rfl) (pe_call D.ok hr (by rfl) D.at_ D.kp D.bd .nil pass0 (pa_cons (pv 0) (pa_cons pe_int pa_nil))))
        (pss_cons (ps_set (i := 3) nd rfl (.inr rfl) (pe_lst (pa_cons pe_str (pa_cons pe_str (pa_cons pe_str (pa_cons pe_str (pa_cons pe_str (pa_cons pe_str (pa_cons pe_str (pa_cons pe_str pa_nil))))))))))
        (pss_one (ps_ret (pe_lc (own := [("_law_k", 4)]) (g := gName 4) (tt := tYes) rfl nd (pi_range1 (by rfl) B.range (pa_cons (pv 1) pa_nil)) (blkOk_by (N := nNames) (sc := defScope sNames) (by decide +kernel)) (fun _ _ _ _ _ => pg_name (i := 4) nd rfl (Or.inl rfl)) (fun _ _ _ _ _ => pts_nil)
          (fun _ _ _ _ _ => pe_ix (r := rIxL K) ix_list (pv 3) (pe_op op_mod (pe_callTy call_int1 (by rfl) B.int PyProof.Rows.boot_int (pa_cons (pe_op op_add (pe_op op_mul (pv 4) pe_int) (pv 2)) pa_nil)) pe_int) (fun _ _ => rfl))))))) pss_nil)
      (pss_cons (ps_set (i := 5) nd rfl (.inl rfl) pe_str)
      (pss_cons (ps_set (i := 6) nd rfl (.inl rfl) (pe_lst pa_nil))
      (pss_cons (ps_for PassesOwn.never rfl (pi_range1 (by rfl) B.range (pa_cons (pv 1) pa_nil)) (pg_name (i := 4) nd rfl (.inl rfl))
        (pss_cons (ps_set (i := 7) nd rfl (.inl rfl) (pe_call D.ok hr (by rfl) D.at_ D.kp D.bd .nil pass0 (pa_cons (pv 0) (pa_cons pe_int pa_nil))))
        (pss_cons (ps_set (i := 8) nd rfl (.inl rfl) (pe_op op_add pe_int (pe_call D.ok hr (by rfl) D.at_ D.kp D.bd .nil pass0 (pa_cons (pv 0) (pa_cons pe_int pa_nil)))))
        (pss_cons (ps_set (i := 9) nd rfl (.inl rfl) (pe_slice sl_str (pv 5) (po_some (pe_op op_sub pe_int (pe_call D.ok hr (by rfl) D.at_ D.kp D.bd .nil pass0 (pa_cons (pv 0) (pa_cons pe_int pa_nil))))) (po_some pe_int)))
        (pss_one (ps_expr (pe_bm PySem.F.plainAttrs_list PySem.F.slot_list_append PySem.F.type_list_append mt_append (pv 6) (pa_cons
          (pe_op op_add_str (pe_op op_add_str (pe_slice sl_str (pv 5) (po_some (pv 7)) (po_some (pe_op op_add (pv 7) (pv 8)))) (pe_ix ix_str pe_str (pv 4) (fun _ _ => rfl))) (pv 9)) pa_nil))))))))
      (pss_one (ps_ret (pv 6)))))), ?_⟩
    refine ⟨.ref p, rfl, p, 3, rfl, hp, by decide, by decide, fun H1 d o1 st1 d0 d1 => ⟨rfl, _, rfl, ite2 (fun c => ?_) (fun c => ?_)⟩⟩
    · -- the plain names
      refine ⟨.ref p, rfl, p, 8, rfl, st1, by decide, by decide, fun H2 s o2 st2 s0 s1 => ?_⟩
      refine ⟨by show 8 ≤ sizeLine; decide, fun pl npl => ?_⟩
      have npp : p ≠ pl := fun z => st2.some (z ▸ npl)
      have epl : (upd H2 pl (.lst (plainN.map V.str))) pl = some (.lst (plainN.map V.str)) := upd_same
      refine ⟨.int (m : Int), rfl, (m : Int), rfl, by omega, by omega, fun R nR => ?_⟩
      have fin : ∀ k : Nat, k < m → (plainN.map V.str)[(k * 3 + s.toNat) % 8]? = some (.str (plainN.getD ((k * 3 + s.toNat) % 8) "x")) := fun k hk => by
        have : (k * 3 + s.toNat) % 8 < plainN.length := Nat.mod_lt _ (by decide)
        rw [List.getElem?_map, List.getD_eq_getElem?_getD, List.getElem?_eq_getElem this]
        rfl
      refine lc_range (lo := 0) (fun i H' => Same (upd H2 pl (.lst (plainN.map V.str))) H' ∧ H' R = some (.lst (((List.range i).map fun k => plainN.getD ((k * 3 + s.toNat) % 8) "x").map V.str))) ⟨same_new nR, upd_same⟩ ?_ ?_
      · rintro i H' hi ⟨sm, eR⟩
        have hi' : i < m := by omega
        refine ⟨rfl, .ref pl, rfl, .int (0 + (i : Int)), rfl, 0 + (i : Int), 3, rfl, rfl, .inr ⟨by decide, by decide⟩, .int s, rfl, (0 + (i : Int)) * 3, s, rfl, rfl, .inl ⟨_, rfl, (0 + (i : Int)) * 3 + s, 8, rfl, rfl, ?_, ?_⟩⟩
        · show (0 : Int) < 8
          decide
        · refine ⟨pl, _, _, _, rfl, rfl, sl_map (sm _ _ epl), at_of (j := (i * 3 + s.toNat) % 8) (by omega) (fin i hi'), _, eR, ?_, same_at sm nR, ?_⟩
          · rw [List.length_map, List.length_map, List.length_range]
            exact small1000 (by omega)
          · rw [upd_same, List.range_succ, List.map_append, List.map_append]
            rfl
      · rintro H' ⟨sm, eR⟩
        have smH : Keep p H2 H' := fun b u hb e => sm _ _ (by rw [upd_ne (ne_of_none e npl)]; exact e)
        have nR2 : H2 R = none := (same_new npl).free nR
        have st' : Strm H' p := by
          obtain ⟨x, y, z, e⟩ := st2
          exact ⟨x, y, z, sm _ _ (by rw [upd_ne npp]; exact e)⟩
        refine q H' R _ ((((Keep.refl p H).oth o1).oth o2).trans smH) ((((Keep.refl p H).oth o1).oth o2).free st2 nR2) st' eR ?_ ?_ ?_
        · have h8 := List.all_eq_true.mp plain_nodup s.toNat (List.mem_range.mpr (by omega))
          have h9 := of_decide_eq_true h8
          have e8 : (List.range (m : Int).toNat) = (List.range 8).take m := by
            rw [List.take_range, show min m 8 = (m : Int).toNat by omega]
          rw [e8, List.map_take]
          exact List.Pairwise.sublist (List.take_sublist _ _) h9
        · rw [List.length_map, List.length_range]
          omega
        · intro x hx
          obtain ⟨k, _, rfl⟩ := List.mem_map.mp hx
          have lt : (k * 3 + s.toNat) % 8 < plainN.length := Nat.mod_lt _ (by decide)
          rw [List.getD_eq_getElem?_getD, List.getElem?_eq_getElem lt]
          exact List.all_eq_true.mp plain_ok _ (List.getElem_mem lt)
    · -- letters, a digit, letters
      refine ⟨Nat.zero_le _, fun l nl1 => ?_⟩
      have npl : p ≠ l := fun z => st1.some (z ▸ nl1)
      have nl : H l = none := by rw [← o1 l npl.symm]; exact nl1
      refine ⟨.int (m : Int), rfl, (m : Int), rfl, by omega, by omega, for_range (lo := 0) (n := ((m : Int)).toNat) (fun i σ H' => ∃ (y4 y7 y8 y9 : Option V) (xs : List Str), σ = [some (.ref p), some (.int (m : Int)), none, none, y4, some (.str lettersN), some (.ref l), y7, y8, y9] ∧ Keep p H H' ∧ Strm H' p ∧ H' l = some (.lst (xs.map V.str)) ∧ xs.length = i ∧ (∀ x ∈ xs, nmOk x = true) ∧ ∀ j x, xs[j]? = some x → mark x = digitsN.cps.toList[j]?)
        ⟨none, none, none, none, [], rfl, ((Keep.refl p H).oth o1).at_ nl, st1.upd npl, upd_same, rfl, (fun _ h => nomatch h), fun j x h => absurd ((List.getElem?_nil (α := Str) (i := j)).symm.trans h) (by simp)⟩ ?_ ?_⟩
      · rintro i σ H' hi ⟨y4, y7, y8, y9, xs, rfl, kp, st, el, len, sok, mk⟩
        have hi' : i < m := by omega
        refine ⟨.ref p, rfl, p, 26, rfl, st, by decide, by decide, fun H2 a o2 st2 a0 a1 => ?_⟩
        refine ⟨.ref p, rfl, p, 3, rfl, st2, by decide, by decide, fun H3 b o3 st3 b0 b1 => ⟨1, b, rfl, rfl, ?_⟩⟩
        refine ⟨_, rfl, .ref p, rfl, p, 3, rfl, st3, by decide, by decide, fun H4 t o4 st4 t0 t1 => ⟨26, t, rfl, rfl, _, rfl, 26, rfl, lettersN, rfl, by decide +kernel, ?_⟩⟩
        have el4 : H4 l = some (.lst (xs.map V.str)) := by rw [o4 l npl.symm, o3 l npl.symm, o2 l npl.symm]; exact el
        have hd : i < digitsN.cps.toList.length := by rw [digits_len]; omega
        have gd : digitsN.cps.toList[i]? = some digitsN.cps.toList[i] := List.getElem?_eq_getElem hd
        refine ⟨.ref l, rfl, .inl ⟨rfl, _, sl_map el4⟩, _, rfl, .int a, rfl, a, rfl, .int a, rfl, _, rfl, a, _, rfl, rfl, _, rfl, lettersN, rfl, by decide +kernel, .int (0 + (i : Int)), rfl, digitsN, _, digitsN.cps.toList[i], rfl, rfl, by decide +kernel, (by rw [show (0 : Int) + (i : Int) = ((i : Nat) : Int) by omega]; exact atI_nat gd), _, _, rfl, rfl, ?_, _, rfl, _, _, rfl, rfl, ?_, l, _, _, rfl, rfl, el4, ?_, ?_⟩
        · exact by have := cut_len (some a) (some (a + (1 + b))); rw [str_one]; exact Nat.le_trans (Nat.add_le_add_right this 1) (by decide)
        · exact by have := cut_len (some a) (some (a + (1 + b))); have h2 := cut_len (some (26 - t)) (some 26); rw [len_app, str_one]; exact Nat.le_trans (Nat.add_le_add (Nat.add_le_add_right this 1) h2) (by decide)
        · rw [List.length_map]
          exact small1000 (by omega)
        · have dg : isDig digitsN.cps.toList[i] = true := List.all_eq_true.mp digits_are _ (List.getElem_mem hd)
          refine ⟨_, _, _, _, xs ++ [cutS lettersN (some a) (some (a + (1 + b))) ++ ⟨#[digitsN.cps.toList[i]]⟩ ++ cutS lettersN (some (26 - t)) (some 26)], rfl, (((kp.oth o2).oth o3).oth o4).at_ nl, st4.upd npl, ?_, ?_, ?_, ?_⟩
          · rw [upd_same, List.map_append]
            rfl
          · rw [List.length_append, len]
            rfl
          · intro x hx
            rcases List.mem_append.mp hx with h | h
            · exact sok x h
            · rw [List.mem_singleton.mp h]
              exact name_nm _ _ _ t0 t1 _ (List.getElem_mem hd)
          · intro j x hj
            rcases Nat.lt_or_ge j i with c | c
            · rw [List.getElem?_append_left (by omega)] at hj
              exact mk j x hj
            · rw [List.getElem?_append_right (by omega)] at hj
              have ej : j = i := by
                have := (List.getElem?_eq_some_iff.mp hj).1
                rw [List.length_singleton] at this
                omega
              subst ej
              rw [show j - xs.length = 0 by omega] at hj
              have : _ = x := Option.some.inj hj
              rw [← this, gd]
              exact mark_of _ _ _ (cut_letters _ _) dg
      · rintro σ H' ⟨y4, y7, y8, y9, xs, rfl, kp, st, el, len, sok, mk⟩
        refine ⟨_, rfl, q H' l xs kp nl st el ?_ (by omega) sok⟩
        refine List.pairwise_iff_getElem.mpr fun j k hj hk hjk he => ?_
        have e1 := mk j _ (List.getElem?_eq_getElem hj)
        have e2 := mk k _ (List.getElem?_eq_getElem hk)
        rw [he] at e1
        have hk' : k < digitsN.cps.toList.length := by rw [digits_len]; omega
        have hj' : j < digitsN.cps.toList.length := by rw [digits_len]; omega
        have e3 := e1.symm.trans e2
        rw [List.getElem?_eq_getElem hj', List.getElem?_eq_getElem hk'] at e3
        exact List.pairwise_iff_getElem.mp digits_nodup j k hj' hk' hjk (Option.some.inj e3)
end
section
variable {P : Program} {w : World} {K : PySem.W.Frag} {mg : Str → Option Value} {base : Heap}
/-! ### a copy, by a loop -/
abbrev sCopied : Stmt := topS 27
abbrev nCopied : List Str := ["_law_sides_here", "_law_copied_here", "_law_name"]
theorem scCopied : FnScope nCopied ["_law_sides_here"] (defScope sCopied) := ⟨rfl, rfl, rfl, by decide +kernel, rfl, by decide +kernel, by decide +kernel⟩
theorem Nb.nil {H H' : Hp} {D : Addr} (n : H D = none) (h : H' D = some (.dK [])) : Nb H H' D [] := ⟨⟨⟨.inl h, (fun _ he => nomatch he), .nil, Nat.zero_le _⟩, h⟩, n, (fun _ he => nomatch he), .nil⟩
theorem shape_len {L M : List Ent} (h : shape L = shape M) : L.length = M.length := by have := congrArg List.length h; simpa [shape] using this
theorem shape_take {L M : List Ent} {i : Nat} {e : Ent} {l : Addr} (h : shape M = shape (L.take i)) (he : L[i]? = some e) : shape (M ++ [(e.1, l, e.2.2)]) = shape (L.take (i + 1)) := by
  rw [List.take_add_one, he]
  unfold shape at h ⊢
  rw [List.map_append, List.map_append, h]
  rfl
theorem ok_copied {f : Addr} {fd : FuncData} {k : Nat} (F : Fun K "_law_copied" "_law_copied" sCopied f fd) (B : Bt mg) : FnOk P w K mg base CX0 (k + 1) f fd ["_law_sides_here"] spCopy := by
  refine F.ok scCopied (fun vs H Q E h => ?_) (fun cdv A outer s H vs Q E hr h => ?_)
  · obtain ⟨d, L, rfl, _⟩ := h
    rfl
  · obtain ⟨d, L, rfl, bx, q⟩ := h
    have hu := hu_of hr
    have nd := scCopied.nd
    refine ⟨_, pss_cons (ps_set (i := 1) nd rfl (.inl rfl) pe_dnewK)
      (pss_cons (ps_lock (ps_for PassesOwn.never rfl (pi_keys (pv 0)) (pg_name (i := 2) nd rfl (.inl rfl))
        (pss_one (ps_dput hu (pv 1) (pv 2) (pe_callTy call_list_of (by rfl) B.list PyProof.Rows.boot_list (pa_cons (pe_dget hu (pv 0) (pv 2) (fun _ _ => rfl)) pa_nil)) rfl))))
      (pss_one (ps_ret (pv 1)))), ?_⟩
    intro D nD
    have s0 := same_new (o := HO.dK []) nD
    have bx0 := bx.same' s0
    refine ⟨d, _, bx0.un, trivial, fun od => ?_⟩
    have hd : H d ≠ none := by rw [bx.un]; exact fun z => by cases z
    have nDd : D ≠ d := fun z => hd (z ▸ nD)
    refine ⟨.ref d, rfl, d, od, rfl, .inl ⟨entK L, upd_same, for_it walk_keys (fun i σ H' => ∃ (M : List Ent) (y : Option V), σ = [some (.ref d), some (.ref D), y] ∧ Same (upd H d (.frz od (.dK (entK L)))) H' ∧ Nb H H' D M ∧ shape M = shape (L.take i))
      ⟨[], none, rfl, ?_, ?_, rfl⟩ (fun i σ H' _ h => by obtain ⟨M, y, _, e, _⟩ := h; exact e _ _ upd_same) ?_ ?_⟩⟩
    · intro b o e
      by_cases z : b = d
      · rw [z, upd_same] at e ⊢; exact e
      · rw [upd_ne z] at e ⊢
        exact s0 _ _ e
    · exact Nb.nil nD (by rw [upd_ne nDd]; exact upd_same)
    · rintro i x σ H' H'' hi ⟨M, y, rfl, sm, nb, sh⟩ ⟨rfl, k1, v1, hk, rfl⟩
      obtain ⟨e, he, rfl, rfl⟩ := keys_at hk
      have em := List.mem_of_getElem? he
      have bl := (bx.toBx.lock (od := od) bx.un).same sm
      have gv := bl.get e.1
      rw [getE_of bx.nd em] at gv
      rw [entK_len] at hi
      have few := bx.few
      have lM := shape_len sh
      rw [List.length_take] at lM
      refine ⟨.ref d, rfl, .str e.1, rfl, d, .ref e.2.1, rfl, gv, e.2.1, _, rfl, .inl (sl_map (bl.sides e em)), fun l nl => ?_⟩
      have sl := same_new (o := HO.lst (e.2.2.map V.int)) nl
      have nl0 : H l = none := by
        have := sm.free nl
        cases c : H l with
        | none => rfl
        | some o =>
          by_cases z : l = d
          · rw [z, upd_same] at this; cases this
          · rw [upd_ne z, c] at this; cases this
      have xnew : e.1 ∉ M.map (·.1) := by rw [shape_keys sh]; exact take_keys bx.nd he
      refine ⟨.ref D, rfl, .str e.1, rfl, D, _, rfl, DPut.k (k := .inr e.1) (sl _ _ nb.un) (by rw [entK_len]; exact small1000 (by omega)), ?_⟩
      refine ⟨putE M e.1 l e.2.2, some (.str e.1), rfl, ?_, ?_, ?_⟩
      · refine same_at (sm.trans sl) ?_
        rw [upd_ne nDd]
        exact nD
      · rw [putK_ent (s := e.2.2)]
        exact nb.put nl0 nl sl upd_same (by omega)
      · rw [putE_new xnew]
        exact shape_take sh he
    · rintro σ H' ⟨M, y, rfl, sm, nb, sh⟩
      rw [entK_len, List.take_length] at sh
      have eF := sm _ _ (upd_same (H := H) (a := d) (o := HO.frz od (.dK (entK L))))
      exact ⟨eF, _, rfl, q _ D M (unlock bx.un sm) (nb.unl bx.un eF) sh⟩
/-! ### _law_holds, _law_within, _law_is -/
end
/-- all that was there, but what stands at one of these -/
def KeepL (as : List Addr) (H H' : Hp) : Prop := ∀ b o, b ∉ as → H b = some o → H' b = some o
theorem KeepL.refl (as : List Addr) (H : Hp) : KeepL as H H := fun _ _ _ e => e
theorem KeepL.same {as : List Addr} {H H1 H2 : Hp} (k : KeepL as H H1) (s : Same H1 H2) : KeepL as H H2 := fun b o h e => s _ _ (k b o h e)
theorem KeepL.trans {as : List Addr} {H H1 H2 : Hp} (k : KeepL as H H1) (s : KeepL as H1 H2) : KeepL as H H2 := fun b o h e => s b o h (k b o h e)
abbrev big : Int := 10 ^ (13 : Int).toNat
theorem SameB.get {L M : List Ent} (s : SameB L M) {e : Ent} (nd : (M.map (·.1)).Nodup) (h : e ∈ M) : ∃ t ∈ L, t.1 = e.1 ∧ t.2.2 = e.2.2 ∧ getE L e.1 = some t := by
  have q := s e.1
  rw [look_mem nd h] at q
  unfold look at q
  obtain ⟨t, ht, eq⟩ := Option.map_eq_some_iff.mp q
  obtain ⟨m1, m2⟩ := getE_mem ht
  exact ⟨t, m1, m2, eq, ht⟩
theorem cutV_to (xs : List V) (j : Nat) : cutV xs none (some (j : Int)) = xs.take j := by
  unfold cutV
  rw [HT.sIx_none, HT.sIx_nat, List.drop_zero, Nat.sub_zero]
  by_cases h : j ≤ xs.length
  · rw [Nat.min_eq_left h]
  · rw [Nat.min_eq_right (by omega), List.take_of_length_le (Nat.le_refl _), List.take_of_length_le (by omega)]
theorem cutV_from (xs : List V) (j : Nat) : cutV xs (some (j : Int)) none = xs.drop j := by
  unfold cutV
  rw [HT.sIx_none, HT.sIx_nat]
  by_cases h : j ≤ xs.length
  · rw [Nat.min_eq_left h, List.take_of_length_le (by rw [List.length_drop]; exact Nat.le_refl _)]
  · rw [Nat.min_eq_right (by omega), List.drop_length, List.drop_of_length_le (by omega)]
    simp
theorem Nb.keep {H0 H H' : Hp} {p d : Addr} {M : List Ent} (N : Nb H0 H d M) (hp : H0 p ≠ none) (k : Keep p H H') : Nb H0 H' d M := by
  have pd : d ≠ p := fun z => hp (z ▸ N.fresh)
  have away : ∀ g ∈ M, g.2.1 ≠ p := fun g hg z => hp (z ▸ N.freshS g hg)
  exact ⟨⟨⟨.inl (k _ _ pd N.un), fun g hg => k _ _ (away g hg) (N.sides g hg), N.nd, N.few⟩, k _ _ pd N.un⟩, N.fresh, N.freshS, N.inj⟩
theorem Bu.keep {H H' : Hp} {p d : Addr} {M : List Ent} (N : Bu H d M) (s : Strm H p) (k : Keep p H H') (away : ∀ g ∈ M, g.2.1 ≠ p) : Bu H' d M := by
  have pd : d ≠ p := fun z => by
    obtain ⟨x, y, w, e⟩ := s
    have := N.un
    rw [z, e] at this
    cases this
  exact ⟨⟨.inl (k _ _ pd N.un), fun g hg => k _ _ (away g hg) (N.sides g hg), N.nd, N.few⟩, k _ _ pd N.un⟩
/-! ### equal boxes, deep -/
theorem paired_flat {K : PySem.W.Frag} {H : Hp} {n : Nat} : ∀ xs : List V, (∀ x ∈ xs, flatB x = true) → Paired (EqV K H (n + 1)) xs xs
  | [], _ => .nil
  | x :: xs, h => .cons (.inl ⟨rfl, h x List.mem_cons_self⟩) (paired_flat xs fun y hy => h y (List.mem_cons_of_mem _ hy))
theorem eqL {K : PySem.W.Frag} {H : Hp} {a b : Addr} {ns : List Int} (ha : H a = some (.lst (ns.map V.int))) (hb : H b = some (.lst (ns.map V.int))) : EqV K H 2 (.ref a) (.ref b) :=
  .inr (.inr (.inl ⟨a, b, _, _, rfl, rfl, sl_map ha, sl_map hb, paired_flat _ fun x hx => by obtain ⟨k, _, rfl⟩ := List.mem_map.mp hx; rfl⟩))
theorem eqB {K : PySem.W.Frag} {H : Hp} {d e : Addr} {M X : List Ent} (bd : Bu H d M) (be : Bu H e X) (s : SameB M X) : EqR K H (EqV K H 2) (.ref d) (.ref e) := by
  refine .inr ⟨d, e, _, _, rfl, rfl, bd.un, be.un, by rw [entK_len, entK_len]; exact s.len bd.nd be.nd, fun p hp => ?_⟩
  unfold entK at hp
  obtain ⟨g, hg, rfl⟩ := List.mem_map.mp hp
  have s' : SameB X M := fun x => (s x).symm
  obtain ⟨t, tm, t1, t2, t3⟩ := s'.get bd.nd hg
  refine ⟨.ref t.2.1, ?_, ?_⟩
  · show valV (entK X) (Sum.inr g.1) = _
    rw [valV_ent, t3]
    rfl
  · have h1 := be.sides t tm
    rw [t2] at h1
    exact eqL (bd.sides g hg) h1
theorem shape_same {L M : List Ent} (h : shape L = shape M) : SameB L M := look_shape h
/-! ### what the meet and the join hold -/
theorem Sz.mono {L : List Ent} {n m : Nat} (z : Sz L n) (h : n ≤ m) : Sz L m := ⟨z.srt, fun e he => Nat.le_trans (z.len e he) h⟩
/-! ### domains: a list of pairs of a name and a side -/
abbrev DomE := Addr × Ent
structure Doms (H : Hp) (l : Addr) (ds : List DomE) : Prop where
  lst : H l = some (.lst (ds.map fun d => V.ref d.1))
  tup : ∀ d ∈ ds, H d.1 = some (.tup [V.str d.2.1, V.ref d.2.2.1])
  side : ∀ d ∈ ds, H d.2.2.1 = some (.lst (d.2.2.2.map V.int))
theorem Doms.same {H H' : Hp} {l : Addr} {ds : List DomE} (D : Doms H l ds) (s : Same H H') : Doms H' l ds := ⟨s _ _ D.lst, fun d h => s _ _ (D.tup d h), fun d h => s _ _ (D.side d h)⟩
theorem Srt.sub {a b : List Int} (s : Srt b) (h : a.Sublist b) : Srt a := List.Pairwise.sublist h s
theorem Doms.keep {H H' : Hp} {p l : Addr} {ds : List DomE} (D : Doms H l ds) (k : Keep p H H') (hl : l ≠ p) (h : ∀ d ∈ ds, d.1 ≠ p ∧ d.2.2.1 ≠ p) : Doms H' l ds :=
  ⟨k _ _ hl D.lst, fun d hd => k _ _ (h d hd).1 (D.tup d hd), fun d hd => k _ _ (h d hd).2 (D.side d hd)⟩
theorem refs_ints {ds : List DomE} {ns : List Int} (h : (ds.map fun d => V.ref d.1) = ns.map V.int) : ds = [] := by
  cases ds with
  | nil => rfl
  | cons d ds =>
    cases ns with
    | nil => cases h
    | cons n ns =>
      rw [List.map_cons, List.map_cons] at h
      cases (List.cons.inj h).1
/-- a pair more -/
theorem Doms.snoc {H : Hp} {l T Z : Addr} {ds : List DomE} {x : Str} {zs : List Int} (D : Doms H l ds) (hT : H T = some (.tup [V.str x, V.ref Z])) (hZ : H Z = some (.lst (zs.map V.int))) (nZ : Z ≠ l) :
    Doms (upd H l (.lst ((ds.map fun d => V.ref d.1) ++ [V.ref T]))) l (ds ++ [(T, x, Z, zs)]) := by
  have tl : ∀ {c : Addr} {vs : List V}, H c = some (.tup vs) → c ≠ l := fun h z => by rw [z, D.lst] at h; cases h
  refine ⟨by rw [upd_same, List.map_append]; rfl, fun d hd => ?_, fun d hd => ?_⟩
  · rcases List.mem_append.mp hd with h | h
    · rw [upd_ne (tl (D.tup d h))]
      exact D.tup d h
    · rw [List.mem_singleton.mp h, upd_ne (tl hT)]
      exact hT
  · rcases List.mem_append.mp hd with h | h
    · have q := D.side d h
      have : d.2.2.1 ≠ l := fun z => by
        rw [z, D.lst] at q
        have e := refs_ints (HO.lst.inj (Option.some.inj q))
        rw [e] at h
        cases h
      rw [upd_ne this]
      exact q
    · rw [List.mem_singleton.mp h, upd_ne nZ]
      exact hZ
theorem with_restA {α : Type} {R : α → Hp → Prop} {G : Prop} (C : α → Hp → Prop) (r : ∀ a H, C a H → R a H) (g : (∀ a H, C a H → R a H) → G) : G := g r
section
variable {P : Program} {w : World} {K : PySem.W.Frag} {mg : Str → Option Value} {base : Heap}
abbrev sDoms : Stmt := topS 21
abbrev nDoms : List Str := ["_law_stream_here", "_law_names_here", "_law_pool_here", "_law_most", "_law_domains_here", "_law_name", "_law_side", "_law_value"]
theorem scDoms : FnScope nDoms ["_law_stream_here", "_law_names_here", "_law_pool_here", "_law_most"] (defScope sDoms) := ⟨rfl, rfl, rfl, by decide +kernel, rfl, by decide +kernel, by decide +kernel⟩
def spDoms : Sp := fun vs H Q _ => ∃ (p nm pl : Addr) (xs : List Str) (ns : List Int) (m : Nat), vs = [.ref p, .ref nm, .ref pl, .int (m : Int)] ∧ Strm H p ∧ H nm = some (.lst (xs.map V.str)) ∧ H pl = some (.lst (ns.map V.int)) ∧ p ≠ nm ∧ p ≠ pl ∧ Srt ns ∧ 1 ≤ ns.length ∧ ns.length ≤ 100 ∧ xs.length ≤ 100 ∧
  ∀ (H' : Hp) (l : Addr) (ds : List DomE), Keep p H H' → H l = none → Strm H' p → Doms H' l ds → ds.map (·.2.1) = xs → (∀ d ∈ ds, Srt d.2.2.2 ∧ d.2.2.2.length ≤ max m 1 ∧ H d.1 = none ∧ H d.2.2.1 = none ∧ ∀ v ∈ d.2.2.2, v ∈ ns) → (ds.map (·.2.2.1)).Nodup → Q (.ref l) H'
theorem ok_doms {f fD : Addr} {fd fdD : FuncData} (F : Fun K "_law_domains" "_law_domains" sDoms f fd) (B : Bt mg) (D : Call P w K mg base 1 "_law_next" fD fdD ["_law_stream_here", "_law_size"] spDraw) :
    FnOk P w K mg base CX0 2 f fd ["_law_stream_here", "_law_names_here", "_law_pool_here", "_law_most"] spDoms := by
  refine F.ok scDoms (fun vs H Q E h => ?_) (fun cdv A outer s H vs Q E hr h => ?_)
  · obtain ⟨p, nm, pl, xs, ns, m, rfl, _⟩ := h
    rfl
  · obtain ⟨p, nm, pl, xs, ns, m, rfl, hp, enm, epl, pnm, ppl, so, n1, nl, xl, q⟩ := h
    have nd := scDoms.nd
    refine ⟨_, pss_cons (ps_set (i := 4) nd rfl (.inl rfl) (pe_lst pa_nil))
      (pss_cons (ps_for PassesOwn.never rfl (pi_list (pv 1)) (pg_name (i := 5) nd rfl (.inl rfl))
        (pss_cons (ps_set (i := 6) nd rfl (.inl rfl) (pe_slice sl_list (pe_lc (own := [("_law_value", 7)]) (g := gName 7) (te := tVar 7) rfl nd (pi_list (pv 2)) (blkOk_by (N := nDoms) (sc := defScope sDoms) (by decide +kernel)) (fun _ _ _ _ _ => pg_name (i := 7) nd rfl (Or.inl rfl))
            (fun _ _ _ _ _ => pts_one (pt_cmpR op_gt (pe_call D.ok hr (by rfl) D.at_ D.kp D.bd .nil pass0 (pa_cons (pv 0) (pa_cons pe_int pa_nil))) pe_int (nomark _))) (fun _ _ _ _ _ => pv 7)) po_none (po_some (pv 3))))
        (pss_cons (ps_if (pt_cmpR op_eq (pe_callB call_len_seq (by rfl) B.len PySem.boot_len (pa_cons (pv 6) pa_nil)) pe_int rfl)
          (pss_one (ps_set (i := 6) nd rfl (.inl rfl) (pe_lst (pa_cons (pe_ix ix_list (pv 2) (pe_call D.ok hr (by rfl) D.at_ D.kp D.bd .nil pass0 (pa_cons (pv 0) (pa_cons (pe_callB call_len_seq (by rfl) B.len PySem.boot_len (pa_cons (pv 2) pa_nil)) pa_nil))) (fun _ _ => rfl)) pa_nil)))) pss_nil)
        (pss_one (ps_expr (pe_bm PySem.F.plainAttrs_list PySem.F.slot_list_append PySem.F.type_list_append mt_append (pv 4) (pa_cons (pe_tup (pa_cons (pv 5) (pa_cons
          (pe_slice sl_list (pv 6) po_none (po_some (pe_op op_mul (pe_callB call_len_seq (by rfl) B.len PySem.boot_len (pa_cons (pv 6) pa_nil))
            (pe_callTy call_int1 (by rfl) B.int PyProof.Rows.boot_int (pa_cons (pe_cmpR op_ne (pe_call D.ok hr (by rfl) D.at_ D.kp D.bd .nil pass0 (pa_cons (pv 0) (pa_cons pe_int pa_nil))) pe_int (nomark _)) pa_nil))))) pa_nil))) pa_nil)))))))
      (pss_one (ps_ret (pv 4)))), ?_⟩
    refine ⟨by show 0 ≤ sizeLine; decide, fun l nl0 => ?_⟩
    have npl : p ≠ l := fun z => hp.some (z ▸ nl0)
    have hpn : H p ≠ none := hp.some
    refine ⟨.ref nm, rfl, nm, rfl, ⟨_, sl_map (same_new nl0 _ _ enm)⟩, for_list (xs := xs.map V.str) (fun i σ H' => ∃ (ds : List DomE) (y5 y6 : Option V), σ = [some (.ref p), some (.ref nm), some (.ref pl), some (.int (m : Int)), some (.ref l), y5, y6, none] ∧ Keep p H H' ∧ Strm H' p ∧ Doms H' l ds ∧ ds.map (·.2.1) = xs.take i ∧ (∀ d ∈ ds, Srt d.2.2.2 ∧ d.2.2.2.length ≤ max m 1 ∧ H d.1 = none ∧ H d.2.2.1 = none ∧ ∀ v ∈ d.2.2.2, v ∈ ns) ∧ (ds.map (·.2.2.1)).Nodup)
      ⟨[], none, none, rfl, (Keep.refl p H).at_ nl0, hp.upd npl, ⟨upd_same, (fun _ h => nomatch h), (fun _ h => nomatch h)⟩, rfl, (fun _ h => nomatch h), List.Pairwise.nil⟩ (fun i σ H' _ h => by obtain ⟨ds, y5, y6, _, k, _⟩ := h; exact sl_map (k _ _ pnm.symm enm)) ?_ ?_⟩
    · rintro i x σ H' hx ⟨ds, y5, y6, rfl, kp, st, dm, keys, ok, inj⟩
      rw [List.getElem?_map] at hx
      obtain ⟨x, hv, rfl⟩ := Option.map_eq_some_iff.mp hx
      have hi := (List.getElem?_eq_some_iff.mp hv).1
      have ld : ds.length = i := by
        have := congrArg List.length keys
        rw [List.length_map, List.length_take] at this
        omega
      have er : H' pl = some (.lst (ns.map V.int)) := kp _ _ ppl.symm epl
      refine ⟨.ref pl, rfl, pl, rfl, ⟨_, sl_map er⟩, fun R nR => ?_⟩
      have npR : p ≠ R := fun z => st.some (z ▸ nR)
      have apart : ∀ d ∈ ds, d.1 ≠ p ∧ d.2.2.1 ≠ p := fun d hd => ⟨fun z => hpn (z ▸ (ok d hd).2.2.1), fun z => hpn (z ▸ (ok d hd).2.2.2.1)⟩
      refine lc_list (xs := ns.map V.int) (fun j H1 => Keep p H' H1 ∧ Strm H1 p ∧ ∃ ms : List Int, H1 R = some (.lst (ms.map V.int)) ∧ ms.Sublist (ns.take j)) ?_ ?_ ?_ ?_
      · exact ⟨(Keep.refl p H').at_ nR, st.upd npR, [], upd_same, List.Sublist.refl _⟩
      · rintro j H1 _ ⟨k, _⟩
        exact sl_map (k _ _ ppl.symm er)
      · rintro j v H1 hv1 ⟨k1, st1, ms, eR, sub⟩
        rw [List.getElem?_map] at hv1
        obtain ⟨v, hv2, rfl⟩ := Option.map_eq_some_iff.mp hv1
        have hj := (List.getElem?_eq_some_iff.mp hv2).1
        have len := sub.length_le
        rw [List.length_take] at len
        refine ⟨rfl, .ref p, rfl, p, 4, rfl, st1, by decide, by decide, fun H2 e o2 st2 e0 e1 => ?_⟩
        refine ⟨e, 0, rfl, rfl, _, rfl, ?_⟩
        have eR2 : H2 R = some (.lst (ms.map V.int)) := (o2 R npR.symm).trans eR
        have tk : ns.take (j + 1) = ns.take j ++ [v] := by rw [List.take_add_one, hv2]; rfl
        refine ite2 (fun _ => ?_) (fun _ => ?_)
        · refine ⟨.int v, rfl, _, eR2, ?_, fun b o hb e => ?_, st2.upd npR, ms ++ [v], by rw [upd_same, List.map_append]; rfl, by rw [tk]; exact sub.append (List.Sublist.refl _)⟩
          · rw [List.length_map]
            exact small1000 (by omega)
          · have : b ≠ R := fun z => by rw [z, nR] at e; cases e
            rw [upd_ne this]
            exact (k1.oth o2) b o hb e
        · exact ⟨k1.oth o2, st2, ms, eR2, by rw [tk]; exact sub.trans (List.sublist_append_left _ _)⟩
      · rintro H1 ⟨k1, st1, ms, eR, sub⟩
        rw [List.length_map, List.take_length] at sub
        have K1 : Keep p H H1 := kp.trans k1
        have nR0 : H R = none := kp.free st nR
        have dm1 : Doms H1 l ds := dm.keep k1 npl.symm apart
        refine' with_restA (fun S' H3 => ∃ ts : List Int, Keep p H H3 ∧ Strm H3 p ∧ Doms H3 l ds ∧ H3 S' = some (.lst (ts.map V.int)) ∧ H S' = none ∧ Srt ts ∧ ts.length ≤ max m 1 ∧ ts.length ≤ 100 ∧ ∀ v ∈ ts, v ∈ ns) ?r (fun rest => ⟨_, rfl, _, rfl, R, _, rfl, sl_map eR, fun S nS => ?k⟩)
        case' k =>
          have ec : cutV (ms.map V.int) none (some (m : Int)) = (ms.take m).map V.int := by rw [cutV_to, List.map_take]
          rw [ec]
          have sS := same_new (o := HO.lst ((ms.take m).map V.int)) nS
          have npS : p ≠ S := fun z => st1.some (z ▸ nS)
          have subS : (ms.take m).Sublist ns := (List.take_sublist m ms).trans sub
          have er2 : (upd H1 S (HO.lst ((ms.take m).map V.int))) pl = some (.lst (ns.map V.int)) := sS _ _ (k1 _ _ ppl.symm er)
          have eS0 := upd_same (H := H1) (a := S) (o := HO.lst ((ms.take m).map V.int))
          have stS := st1.upd (o := HO.lst ((ms.take m).map V.int)) npS
          have dmS := dm1.same sS
          have KS := K1.at_ (o := HO.lst ((ms.take m).map V.int)) (K1.free st1 nS)
          have nS0 : H S = none := K1.free st1 nS
          generalize upd H1 S (HO.lst ((ms.take m).map V.int)) = G1 at er2 eS0 stS dmS KS ⊢
          clear sS
          refine ⟨.ref S, rfl, S, _, rfl, .inl (sl_map eS0), rfl, _, rfl, ite2 (fun c => ?g) (fun c => rest S G1 ?h)⟩
          case h =>
            refine ⟨ms.take m, KS, stS, dmS, eS0, nS0, so.sub subS, ?_, ?_, fun v hv => subS.subset hv⟩
            · rw [List.length_take]; omega
            · have := subS.length_le; omega
          case g =>
            refine ⟨.ref pl, rfl, .ref p, rfl, .ref pl, rfl, pl, _, rfl, .inl (sl_map er2), p, _, rfl, stS, ?_, ?_, fun H2 e o2 st2 e0 e1 => ?_⟩
            · rw [List.length_map]; omega
            · rw [List.length_map]; omega
            rw [List.length_map] at e1
            obtain ⟨e, rfl⟩ : ∃ n : Nat, e = (n : Int) := ⟨e.toNat, by omega⟩
            have he : e < ns.length := by omega
            have ge : (ns.map V.int)[e]? = some (.int ns[e]) := by rw [List.getElem?_map, List.getElem?_eq_getElem he]; rfl
            have er3 : H2 pl = some (.lst (ns.map V.int)) := (o2 pl ppl.symm).trans er2
            have K2 : Keep p H H2 := KS.oth o2
            have dm2 : Doms H2 l ds := dmS.keep ((Keep.refl p _).oth o2) npl.symm apart
            refine ⟨pl, _, _, .int ns[e], rfl, rfl, sl_map er3, atI_nat (j := e) ge, by show 1 ≤ sizeLine; decide, fun Z nZ => rest Z _ ⟨[ns[e]], K2.at_ (K2.free st2 nZ), st2.upd (fun z => st2.some (z ▸ nZ)), dm2.same (same_new nZ), upd_same, K2.free st2 nZ, List.pairwise_singleton _ _, by show 1 ≤ max m 1; omega, by show 1 ≤ 100; omega, fun v hv => ?_⟩⟩
            rw [List.mem_singleton.mp hv]
            exact List.getElem_mem he
        case r =>
          rintro S' H3 ⟨ts, K3, st3, dm3, eS, nS', soT, l1, l2, mem⟩
          have npS' : p ≠ S' := fun z => hpn (z ▸ nS')
          refine ⟨.ref l, rfl, .inl ⟨rfl, _, sl_map dm3.lst⟩, .str x, rfl, .ref S', rfl, .ref S', rfl, S', _, rfl, .inl (sl_map eS), .ref p, rfl, p, 60, rfl, st3, by decide, by decide, fun H4 e o4 st4 e0 e1 => ?_⟩
          have eS4 : H4 S' = some (.lst (ts.map V.int)) := (o4 S' npS'.symm).trans eS
          have tail : ∀ (b : Bool), -(2 ^ 64) < (if b = true then (1 : Int) else 0) ∧ (if b = true then (1 : Int) else 0) < 2 ^ 64 := fun b => by cases b <;> decide
          refine ⟨rfl, .inr ⟨_, rfl, _, _, rfl, rfl, .inr (tail _), _, rfl, S', _, rfl, sl_map eS4, fun Z nZ => ?_⟩⟩
          generalize (!decide (V.int e = V.int 7)) = bit
          have ez : cutV (ts.map V.int) none (some (((ts.map V.int).length : Int) * (if bit = true then (1 : Int) else 0))) = ((if bit = true then ts else []).map V.int) := by
            cases bit with
            | true =>
              rw [if_pos rfl, if_pos rfl, Int.mul_one, cutV_to, List.take_length]
            | false =>
              rw [if_neg Bool.false_ne_true, if_neg Bool.false_ne_true, Int.mul_zero]
              exact cutV_to _ 0
          rw [ez]
          have hz : (if bit = true then ts else []).Sublist ts := by cases bit with
            | true => exact List.Sublist.refl _
            | false => exact List.nil_sublist _
          generalize (if bit = true then ts else []) = zs at hz
          have K4 := K3.oth o4
          have npZ : p ≠ Z := fun z => st4.some (z ▸ nZ)
          have sZ := same_new (o := HO.lst (zs.map V.int)) nZ
          have nZ0 : H Z = none := K4.free st4 nZ
          have dm4 : Doms H4 l ds := dm3.keep ((Keep.refl p _).oth o4) npl.symm apart
          refine ⟨by show 2 ≤ sizeLine; decide, fun T nT => ?_⟩
          have npT : p ≠ T := fun z => st4.some (z ▸ sZ.free nT)
          have sT := same_new (o := HO.tup [V.str x, V.ref Z]) nT
          have nT0 : H T = none := K4.free st4 (sZ.free nT)
          have nZl : Z ≠ l := fun z => by rw [z, dm4.lst] at nZ; cases nZ
          have dmT := (dm4.same sZ).same sT
          have hsub := hz.length_le
          have newZ : Z ∉ ds.map (·.2.2.1) := fun z => by
            obtain ⟨d, hd, e⟩ := List.mem_map.mp z
            have e' : d.2.2.1 = Z := e
            have := dm4.side d hd
            rw [e', nZ] at this
            cases this
          refine ⟨l, _, _, rfl, rfl, dmT.lst, ?_, ds ++ [(T, x, Z, zs)], _, _, rfl, ((K4.at_ nZ0).at_ nT0).at_ nl0, ((st4.upd npZ).upd npT).upd npl, dmT.snoc upd_same (sT _ _ upd_same) nZl, ?_, fun d hd => ?_, ?_⟩
          · rw [List.length_map]
            exact small1000 (by omega)
          · rw [List.map_append, keys, List.take_add_one, hv]
            rfl
          · rcases List.mem_append.mp hd with h | h
            · exact ok d h
            · rw [List.mem_singleton.mp h]
              exact ⟨soT.sub hz, Nat.le_trans hsub l1, nT0, nZ0, fun v hv => mem v (hz.subset hv)⟩
          · rw [List.map_append]
            exact nd_snoc inj newZ
    · rintro σ H' ⟨ds, y5, y6, rfl, kp, st, dm, keys, ok, inj⟩
      rw [List.length_map, List.take_length] at keys
      exact ⟨_, rfl, q H' l ds kp nl0 st dm keys ok inj⟩
end
end K07
set_option Elab.async false
set_option linter.all false
set_option maxRecDepth 100000
set_option maxHeartbeats 4000000
/-! Exceptions of own classes with fields: made, raised while a dict is walked, caught, asked for their class. -/
namespace CsX
open PySem PySem.Spec PyProof.Rows L2
/-- a block that is not reached -/
theorem pss_any {X : Cx} {l : List Stmt} : PSs X l (fun _ _ _ => False) := ⟨fun _ _ _ _ _ _ h => h.elim⟩
/-- a raise while the thing at d is locked -/
theorem Takes.lock {X : Cx} {W : WX} {d : Addr} (tk : Takes X W) (hn : ∀ o' u', X.H_0 d ≠ some (.frz o' u')) : Takes X (fun cls dd σ H => ∃ od u, H d = some (.frz od u) ∧ W cls dd σ (upd H d u)) :=
  fun u s' ⟨a, B, sI, pins, σ, H, cls, dd, e, I, nb, up, sky, na, os, ag, od, uu, hd, w⟩ =>
    tk u s' ⟨a, B, sI, pins, σ, upd H d uu, cls, dd, e, I.unlock hd hn, nb, up, sky, (by rw [upd_ne (fun z => by rw [z, hd] at na; cases na)]; exact na), os, ag, w⟩
end CsX
set_option Elab.async false
set_option linter.all false
set_option maxRecDepth 100000
set_option maxHeartbeats 4000000
namespace K07
open PySem PySem.Spec PyProof.Rows L2 Cs CsX
/-! ### facts of the heap, for grind; small helpers -/
@[grind =] theorem g_upd (H : Hp) (a b : Addr) (o : HO) : upd H a o b = if b = a then some o else H b := rfl
@[grind =] theorem g_same (H H' : Hp) : Same H H' ↔ (∀ a o, H a = some o → H' a = some o) ∧ ∀ a, H' a = none → H a = none := ⟨fun s => ⟨s, fun a h => s.free h⟩, fun h => h.1⟩
@[grind =] theorem g_keep (p : Addr) (H H' : Hp) : Keep p H H' ↔ (∀ a o, a ≠ p → H a = some o → H' a = some o) ∧ ∀ a, a ≠ p → H' a = none → H a = none := ⟨fun s => ⟨s, fun a hp h => by
  cases c : H a with
  | none => rfl
  | some o => rw [s a o hp c] at h; cases h⟩, fun h => h.1⟩
@[grind =] theorem g_oth (p : Addr) (H H' : Hp) : Oth p H H' ↔ ∀ a, a ≠ p → H' a = H a := Iff.rfl
@[grind =] theorem g_strm (H : Hp) (p : Addr) : Strm H p ↔ ∃ x y z : Int, H p = some (.lst [.int x, .int y, .int z]) := Iff.rfl
theorem g_new {H : Hp} {q : Addr} {o : HO} (n : H q = none) : Same H (upd H q o) := same_new n
grind_pattern g_new => upd H q o
@[grind =] theorem g_keepL (as : List Addr) (H H' : Hp) : KeepL as H H' ↔ ∀ b o, b ∉ as → H b = some o → H' b = some o := Iff.rfl
theorem ite_both {A B : Prop} {c : Bool} (h1 : c = true → A) (h2 : c = false → B) : if c = true then A else B := by
  cases c with
  | true => rw [if_pos rfl]; exact h1 rfl
  | false => rw [if_neg (by decide)]; exact h2 rfl
theorem at_eq {xs : List V} {i : Int} {j : Nat} {v : V} (h : i = (j : Int)) (hx : xs[j]? = some v) : atI xs i = some v := by
  rw [h]; exact atI_nat hx
theorem ixN_nat {n j : Nat} (h : j < n) : ixN n (j : Int) = some j := by
  unfold ixN
  rw [if_pos (by omega), if_pos (by omega)]; simp
theorem with_restS {R : L2.St → Hp → Prop} {G : Prop} (C : L2.St → Hp → Prop) (r : ∀ σ H, C σ H → R σ H) (g : (∀ σ H, C σ H → R σ H) → G) : G := g r
theorem nd_ix {α : Type} {l : List α} (nd : l.Nodup) {i j : Nat} {x : α} (hi : l[i]? = some x) (hj : l[j]? = some x) : i = j :=
  (List.getElem?_inj (List.getElem?_eq_some_iff.mp hi).1 nd).mp (hi.trans hj.symm)
theorem not_take {α : Type} {l : List α} (nd : l.Nodup) {i : Nat} {x : α} (hi : l[i]? = some x) : x ∉ l.take i := fun z => by
  obtain ⟨j, hj⟩ := List.mem_iff_getElem?.mp z
  rw [List.getElem?_take] at hj
  split at hj
  · next c => exact absurd (nd_ix nd hj hi) (by omega)
  · cases hj
theorem take_snoc {α : Type} {s : List α} {j : Nat} {v : α} (h : s[j]? = some v) : s.take (j + 1) = s.take j ++ [v] := by
  rw [List.take_add_one, h] <;> rfl
/-! ### dicts of values -/
def putA (A : List (Str × Int)) (x : Str) (v : Int) : List (Str × Int) := if (A.any fun e => decide (e.1 = x)) = true then A.map (fun e => if e.1 = x then (x, v) else e) else A ++ [(x, v)]
theorem any_int (A : List (Str × Int)) (x : Str) : ((intK A).any fun kv => decide (kv.1 = Sum.inr x)) = A.any fun e => decide (e.1 = x) := by
  unfold intK
  rw [List.any_map]
  congr 1
  funext e
  simp
theorem putK_int (A : List (Str × Int)) (x : Str) (v : Int) : putK (intK A) (.inr x) (V.int v) = intK (putA A x v) := by
  unfold putK putA
  rw [any_int]
  by_cases h : (A.any fun e => decide (e.1 = x)) = true
  · rw [if_pos h, if_pos h]
    unfold intK
    rw [List.map_map, List.map_map]
    congr 1
    funext e
    by_cases z : e.1 = x
    · simp [z]
    · simp [z]
  · rw [if_neg h, if_neg h]
    unfold intK
    rw [List.map_append]
    rfl
theorem anyA {A : List (Str × Int)} {x : Str} : (A.any fun e => decide (e.1 = x)) = true ↔ x ∈ A.map (·.1) := by
  rw [List.any_eq_true, List.mem_map]
  constructor
  · rintro ⟨e, he, h⟩; exact ⟨e, he, of_decide_eq_true h⟩
  · rintro ⟨e, he, h⟩; exact ⟨e, he, decide_eq_true h⟩
theorem putA_new {A : List (Str × Int)} {x : Str} {v : Int} (h : x ∉ A.map (·.1)) : putA A x v = A ++ [(x, v)] := if_neg fun z => h (anyA.mp z)
theorem putA_keys {A : List (Str × Int)} {x : Str} {v : Int} (h : x ∈ A.map (·.1)) : (putA A x v).map (·.1) = A.map (·.1) := by
  unfold putA
  rw [if_pos (anyA.mpr h), List.map_map]
  refine List.map_congr_left fun e _ => ?_
  show (if e.1 = x then (x, v) else e).1 = e.1
  split
  · next z => exact z.symm
  · rfl
theorem aget_cons (e : Str × Int) (A : List (Str × Int)) (y : Str) : aget (e :: A) y = if e.1 = y then some e.2 else aget A y := by
  unfold aget
  rw [List.find?_cons]
  by_cases h : e.1 = y
  · simp [h]
  · simp [h]
theorem aget_app {A : List (Str × Int)} {x : Str} {v : Int} (h : x ∉ A.map (·.1)) (y : Str) : aget (A ++ [(x, v)]) y = if x = y then some v else aget A y := by
  induction A with
  | nil => rw [List.nil_append, aget_cons] <;> rfl
  | cons e A ih =>
    rw [List.cons_append, aget_cons, aget_cons, ih fun z => h (List.mem_cons_of_mem _ z)]
    by_cases c : e.1 = y
    · rw [if_pos c, if_pos c]
      by_cases d : x = y
      · exact absurd (by rw [d, ← c]; exact List.mem_cons_self) h
      · rw [if_neg d]
    · rw [if_neg c, if_neg c]
theorem aget_rep (x : Str) (v : Int) (y : Str) : ∀ A : List (Str × Int), aget (A.map fun e => if e.1 = x then (x, v) else e) y = if x = y then (if x ∈ A.map (·.1) then some v else none) else aget A y
  | [] => by split <;> rfl
  | e :: A => by
    rw [List.map_cons, aget_cons, aget_cons, aget_rep x v y A]
    by_cases c : e.1 = x
    · rw [if_pos c]
      by_cases d : x = y
      · rw [if_pos d, if_pos d, if_pos (by rw [List.map_cons, c]; exact List.mem_cons_self)]
      · have h1 : ¬ e.1 = y := fun z => d (c.symm.trans z)
        simp [d, h1]
    · rw [if_neg c]
      by_cases d : x = y
      · have h1 : ¬ e.1 = y := fun z => c (z.trans d.symm)
        rw [if_neg h1, if_pos d, if_pos d]
        have : x ∈ (e :: A).map (·.1) ↔ x ∈ A.map (·.1) := by
          rw [List.map_cons, List.mem_cons]
          exact ⟨fun h => h.elim (fun z => absurd z.symm c) id, .inr⟩
        by_cases m : x ∈ A.map (·.1)
        · rw [if_pos m, if_pos (this.mpr m)]
        · rw [if_neg m, if_neg fun z => m (this.mp z)]
      · rw [if_neg d, if_neg d]
theorem aget_put {A : List (Str × Int)} {x : Str} {v : Int} (y : Str) : aget (putA A x v) y = if x = y then some v else aget A y := by
  by_cases h : x ∈ A.map (·.1)
  · unfold putA
    rw [if_pos (anyA.mpr h), aget_rep, if_pos h]
  · rw [putA_new h, aget_app h]
theorem aget_mem {A : List (Str × Int)} {x : Str} : (aget A x).isSome = true ↔ x ∈ A.map (·.1) := by
  induction A with
  | nil => simp [aget]
  | cons e A ih =>
    rw [aget_cons, List.map_cons, List.mem_cons, ← ih]
    by_cases c : e.1 = x
    · rw [if_pos c]; simp [c]
    · rw [if_neg c]; simp [Ne.symm c]
/-- a dict of values -/
structure Vd (H : Hp) (d : Addr) (A : List (Str × Int)) : Prop where
  un : H d = some (.dK (intK A))
  nd : (A.map (·.1)).Nodup
  few : A.length ≤ 40
theorem Vd.same {H H' : Hp} {d : Addr} {A : List (Str × Int)} (B : Vd H d A) (s : Same H H') : Vd H' d A := ⟨s _ _ B.un, B.nd, B.few⟩
theorem Vd.ax {H : Hp} {d : Addr} {A : List (Str × Int)} (B : Vd H d A) : Ax H d A := ⟨.inl B.un⟩
theorem intK_len (A : List (Str × Int)) : (intK A).length = A.length := by unfold intK; rw [List.length_map]
theorem aget_iff {A : List (Str × Int)} (nd : (A.map (·.1)).Nodup) (x : Str) (v : Int) : aget A x = some v ↔ (x, v) ∈ A := by
  induction A with
  | nil => simp [aget]
  | cons e A ih =>
    obtain ⟨n1, n2⟩ := List.nodup_cons.mp nd
    rw [aget_cons, List.mem_cons]
    by_cases c : e.1 = x
    · rw [if_pos c]
      constructor
      · intro h
        left
        have := Option.some.inj h
        rw [← c, ← this]
      · rintro (h | h)
        · rw [← h]
        · rw [← c] at h
          exact absurd (List.mem_map_of_mem (f := fun e : Str × Int => e.1) h) n1
    · rw [if_neg c, ih n2]
      constructor
      · exact .inr
      · rintro (h | h)
        · exact absurd (congrArg Prod.fst h).symm c
        · exact h
def SameA (L M : List (Str × Int)) : Prop := ∀ x, aget L x = aget M x
theorem SameA.keys {L M : List (Str × Int)} (s : SameA L M) {x : Str} (h : x ∈ L.map (·.1)) : x ∈ M.map (·.1) := by
  rw [← aget_mem] at h ⊢
  rw [← s x]
  exact h
theorem SameA.len {L M : List (Str × Int)} (s : SameA L M) (n1 : (L.map (·.1)).Nodup) (n2 : (M.map (·.1)).Nodup) : L.length = M.length := by
  have h1 := List.Nodup.length_le_of_subset n1 fun x hx => s.keys hx
  have h2 := List.Nodup.length_le_of_subset n2 fun x hx => SameA.keys (fun y => (s y).symm) hx
  rw [List.length_map, List.length_map] at h1 h2
  omega
theorem keysI {L : List (Str × Int)} {i : Nat} {k : Key} {v : V} (h : (intK L)[i]? = some (k, v)) : ∃ e, L[i]? = some e ∧ k = .inr e.1 ∧ v = .int e.2 := by
  unfold intK at h
  rw [List.getElem?_map] at h
  obtain ⟨e, he, q⟩ := Option.map_eq_some_iff.mp h
  exact ⟨e, he, (Prod.mk.inj q).1.symm, (Prod.mk.inj q).2.symm⟩
theorem all_repl (n : Nat) : (List.replicate n true).all id = true := by simp
theorem putA_nd {A : List (Str × Int)} {x : Str} {v : Int} (nd : (A.map (·.1)).Nodup) : ((putA A x v).map (·.1)).Nodup := by
  by_cases h : x ∈ A.map (·.1)
  · rw [putA_keys h]; exact nd
  · rw [putA_new h, List.map_append]
    exact nd_snoc nd h
theorem putA_len (A : List (Str × Int)) (x : Str) (v : Int) : (putA A x v).length ≤ A.length + 1 := by
  unfold putA
  split
  · rw [List.length_map]; omega
  · rw [List.length_append] <;> exact Nat.le_refl _
end K07
set_option Elab.async false
set_option linter.all false
set_option maxRecDepth 100000
set_option maxHeartbeats 4000000
/-! == of two tuples that are equal, deep. -/
namespace Cs
open PySem PySem.Spec PyProof.Rows L2
end Cs
set_option Elab.async false
set_option linter.all false
set_option maxRecDepth 100000
set_option maxHeartbeats 4000000
/-! min of a list of tuples of ints -/
namespace Cs
open PySem PySem.Spec PyProof.Rows L2
/-- the order of tuples of ints -/
def lxLt : List Int → List Int → Bool
  | [], [] => false
  | [], _ :: _ => true
  | _ :: _, [] => false
  | x :: xs, y :: ys => if x = y then lxLt xs ys else decide (x < y)
theorem lxLt_eq : ∀ xs ys : List Int, PySem.W.listLt xs ys = lxLt xs ys
  | [], [] => rfl
  | [], _ :: _ => rfl
  | _ :: _, [] => rfl
  | x :: xs, y :: ys => by
    unfold PySem.W.listLt lxLt
    rw [lxLt_eq xs ys]
    rfl
theorem lxLt_self : ∀ xs : List Int, lxLt xs xs = false
  | [] => rfl
  | x :: xs => by unfold lxLt; rw [if_pos rfl]; exact lxLt_self xs
theorem lxLt_trans : ∀ {xs ys zs : List Int}, lxLt xs ys = true → lxLt ys zs = true → lxLt xs zs = true
  | [], [], _, h, _ => by cases h
  | _, _ :: _, [], _, h => by cases h
  | _ :: _, [], _, h, _ => by cases h
  | [], _ :: _, _ :: _, _, _ => rfl
  | x :: xs, y :: ys, z :: zs, h, g => by
    unfold lxLt at h g ⊢
    by_cases c1 : x = y
    · subst c1
      rw [if_pos rfl] at h
      by_cases c2 : x = z
      · rw [if_pos c2] at g ⊢; exact lxLt_trans h g
      · rw [if_neg c2] at g ⊢; exact g
    · rw [if_neg c1] at h
      have h := of_decide_eq_true h
      by_cases c2 : y = z
      · subst c2
        rw [if_neg c1]; exact decide_eq_true h
      · rw [if_neg c2] at g
        have g := of_decide_eq_true g
        rw [if_neg (by omega)]; exact decide_eq_true (by omega)
/-- the first of the least -/
theorem minOf_least (x : PySem.W.Tup Int) : ∀ xs : List (PySem.W.Tup Int), (∀ y ∈ x :: xs, lxLt y.items (PySem.W.minOf x xs).items = false) := by
  intro xs
  unfold PySem.W.minOf
  suffices h : ∀ (xs seen : List (PySem.W.Tup Int)) (a : PySem.W.Tup Int), (∀ y ∈ seen, lxLt y.items a.items = false) → ∀ y ∈ seen ++ xs, lxLt y.items (xs.foldl (fun a y => if PySem.W.DatumOrd.lt y a = true then y else a) a).items = false by
    have := h xs [x] x (fun y hy => by rw [List.mem_singleton.mp hy]; exact lxLt_self _)
    exact this
  intro xs
  induction xs with
  | nil => intro seen a h y hy; rw [List.append_nil] at hy; exact h y hy
  | cons z zs ih =>
    intro seen a h y hy
    rw [List.foldl_cons]
    refine ih (seen ++ [z]) _ (fun u hu => ?_) y (by rw [List.append_assoc]; exact hy)
    have e : PySem.W.DatumOrd.lt z a = lxLt z.items a.items := lxLt_eq _ _
    rw [e]
    by_cases c : lxLt z.items a.items = true
    · rw [if_pos c]
      rcases List.mem_append.mp hu with m | m
      · cases d : lxLt u.items z.items with
        | false => rfl
        | true => have := lxLt_trans d c; rw [h u m] at this; cases this
      · rw [List.mem_singleton.mp m]; exact lxLt_self _
    · rw [if_neg c]
      rcases List.mem_append.mp hu with m | m
      · exact h u m
      · rw [List.mem_singleton.mp m]; exact Bool.eq_false_iff.mpr c
def rMinT (K : PySem.W.Frag) : List V → Hp → VK → Prop := fun vs H Q => ∃ (a : Addr) (ts : List (Addr × List Int)), vs = [.ref a] ∧ SqL K H a (ts.map fun t => V.ref t.1) ∧ (∀ t ∈ ts, SqT K H t.1 (t.2.map V.int)) ∧ ts ≠ [] ∧ ∀ t ∈ ts, (∀ u ∈ ts, lxLt u.2 t.2 = false) → Q (.ref t.1) H
theorem holdAll_tups {X : Cx} {pins : List (Addr × Obj)} {σ : L2.St} {H : Hp} {s : Shared} (I : L2.Inv X pins σ H s) : ∀ {ts : List (Addr × List Int)} {us : List Value}, Vals (ts.map fun t => V.ref t.1) us → (∀ t ∈ ts, SqT X.K H t.1 (t.2.map V.int)) → PySem.W.HoldAll s.heap us (ts.map fun t => PySem.W.Tup.mk t.2)
  | [], us, r, h => by cases r; exact PySem.W.HoldAll.nil
  | t :: ts, _, r, h => by
    cases r with
    | cons r1 r2 =>
      cases r1
      obtain ⟨its, rv, hT, _⟩ := I.tuple (h t List.mem_cons_self)
      refine PySem.W.HoldAll.cons (PySem.W.holds_tup hT ?_) (holdAll_tups I r2 fun u hu => h u (List.mem_cons_of_mem _ hu))
      exact PySem.W.HoldAll.of_ints (by simpa using rv.ints)
theorem ints_hold {h : Heap} : ∀ {vs : List Value} {ns ms : List Int}, IntsAre vs ns → PySem.W.HoldAll h vs ms → ns = ms
  | _, _, [], .nil, _ => rfl
  | _, _, m :: ms, .nil, H => by have := PySem.W.HoldAll.length H; cases this
  | _, _, [], .cons n t H, K => by have := PySem.W.HoldAll.length K; cases this
  | _, _, m :: ms, .cons n t H, K => by
    obtain ⟨⟨as, k1⟩, k2⟩ := PySem.W.HoldAll.head K
    have e : n = m := by
      have k3 : Reads h (.int n t) (.int m) as := k1
      cases k3
      rfl
    rw [e, ints_hold H k2]
theorem cr_minT {X : Cx} (hc : X.calm = true) (hu : X.A.units + 64 < cLine) : CallR X (.builtin "min") (rMinT X.K) := by
  intro pins s σ H vs us Q I r h
  obtain ⟨a, ts, rfl, hs, ht, ne, q⟩ := h
  obtain ⟨its, rv, hl, _⟩ := I.list hs
  rw [Vals.ref1 r]
  have ha := holdAll_tups I rv ht
  cases ts with
  | nil => exact absurd rfl ne
  | cons t ts =>
    rw [List.map_cons] at ha
    refine PySem.W.min_list_datum (I.ok.hd hc) hl.isList (x := PySem.W.Tup.mk t.2) (xs := ts.map fun t => PySem.W.Tup.mk t.2) (by simpa using ha) (by show X.A.units + 1 + 1 < cLine; omega) fun i v h' tk hi Hv hk => ?_
    have vi : ∃ u, (t :: ts)[i]? = some u ∧ v = .ref u.1 := by
      have hl2 : its[i]? = some v := by simpa using hi
      have li := (List.getElem?_eq_some_iff.mp hl2).1
      rw [← rv.length, List.length_map] at li
      obtain ⟨u, hu⟩ : ∃ u, (t :: ts)[i]? = some u := ⟨_, List.getElem?_eq_getElem li⟩
      obtain ⟨v', e1, e2⟩ := rv.get (show ((t :: ts).map fun t => V.ref t.1)[i]? = some (.ref u.1) by rw [List.getElem?_map, hu] <;> rfl)
      rw [hl2] at e1
      cases e1
      exact ⟨u, hu, e2⟩
    obtain ⟨u, hu1, rfl⟩ := vi
    have um := List.mem_of_getElem? hu1
    obtain ⟨its2, rv2, hT, _⟩ := I.tuple (ht u um)
    obtain ⟨l2, vs2, e1, hT2, hA2⟩ := PySem.W.tup_of_holds Hv
    cases e1
    have ei : u.2 = (PySem.W.minOf (PySem.W.Tup.mk t.2) (ts.map fun t => PySem.W.Tup.mk t.2)).items := by
      obtain ⟨o, ho, hc1, n, hd⟩ := hT
      obtain ⟨o2, ho2, hc2, n2, hd2⟩ := hT2
      have e2 := hk _ _ ho
      rw [e2] at ho2
      cases ho2
      rw [hd] at hd2
      cases hd2
      exact ints_hold (by simpa using rv2.ints) hA2
    refine ⟨.ref u.1, H, I.kept hk, rfl, q u um fun w hw => ?_⟩
    rw [ei]
    have := minOf_least (PySem.W.Tup.mk t.2) (ts.map fun t => PySem.W.Tup.mk t.2) (PySem.W.Tup.mk w.2) (by
      rcases List.mem_cons.mp hw with e | m
      · rw [e]; exact List.mem_cons_self
      · exact List.mem_cons_of_mem _ (List.mem_map.mpr ⟨w, m, rfl⟩))
    exact this
end Cs
set_option Elab.async false
set_option linter.all false
set_option maxRecDepth 100000
set_option maxHeartbeats 4000000
/-! in and == with tuples of tuples of ints, == of tuples of texts -/
namespace Cs
open PySem PySem.Spec PyProof.Rows L2
section
variable {X : Cx} {pins : List (Addr × Obj)} {σ : L2.St} {H : Hp} {s : Shared}
theorem hold_tup (I : L2.Inv X pins σ H s) {a : Addr} {ks : List Int} (h : SqT X.K H a (ks.map V.int)) : PySem.W.Holds s.heap (.ref a) (PySem.W.Tup.mk ks) := by
  obtain ⟨its, rv, hT, _⟩ := I.tuple h
  exact PySem.W.holds_tup hT (PySem.W.HoldAll.of_ints (by simpa using rv.ints))
theorem hold_strs {h : Heap} : ∀ {ns : List Str} {us : List Value}, Vals (ns.map V.str) us → PySem.W.HoldAll h us ns
  | [], _, r => by cases r; exact PySem.W.HoldAll.nil
  | n :: ns, _, r => by
    cases r with
    | cons r1 r2 =>
      obtain ⟨t, rfl⟩ := r1
      exact PySem.W.HoldAll.cons (PySem.W.holds_str n t) (hold_strs r2)
theorem hold_names (I : L2.Inv X pins σ H s) {a : Addr} {ns : List Str} (h : SqT X.K H a (ns.map V.str)) : PySem.W.Holds s.heap (.ref a) (PySem.W.Tup.mk ns) := by
  obtain ⟨its, rv, hT, _⟩ := I.tuple h
  exact PySem.W.holds_tup hT (by simpa using hold_strs rv)
abbrev mkT (t : Addr × List Int) : PySem.W.Tup Int := PySem.W.Tup.mk t.2
theorem mem_mkT {ks : List Int} {ts : List (Addr × List Int)} : PySem.W.Tup.mk ks ∈ ts.map mkT ↔ ks ∈ ts.map (·.2) := by
  rw [List.mem_map, List.mem_map]
  constructor
  · rintro ⟨t, h, e⟩; exact ⟨t, h, congrArg PySem.W.Tup.items e⟩
  · rintro ⟨t, h, e⟩; exact ⟨t, h, by rw [← e]⟩
end
def rInTt (K : PySem.W.Frag) : R2 := fun x y H Q => ∃ (a p : Addr) (ks : List Int) (ts : List (Addr × List Int)), x = .ref a ∧ y = .ref p ∧ SqT K H a (ks.map V.int) ∧ (SqL K H p (ts.map fun t => V.ref t.1) ∨ SqT K H p (ts.map fun t => V.ref t.1)) ∧ (∀ t ∈ ts, SqT K H t.1 (t.2.map V.int)) ∧ Q (.bl (decide (ks ∈ ts.map (·.2)))) H
theorem op_inTt {X : Cx} (hu : X.A.units + 64 < cLine) : OpR X (compareOp .In) (rInTt X.K) := by
  intro pins s σ H x y v u Q I rx ry h
  obtain ⟨a, p, ks, ts, rfl, rfl, ha, hp, ht, q⟩ := h
  cases rx
  cases ry
  have Hx := hold_tup I ha
  rcases hp with hp | hp
  · obtain ⟨its, rv, hl, _⟩ := I.list hp
    have HA := holdAll_tups I rv ht
    refine PySem.W.in_list_datum hl.isList (xs := ts.map mkT) (by simpa using HA) Hx (by show X.A.units + 1 + 1 < cLine; omega) ⟨.bl _, H, I, rfl, ?_⟩
    rw [decide_eq_decide.mpr mem_mkT]; exact q
  · obtain ⟨its, rv, hl, _⟩ := I.tuple hp
    have HA := holdAll_tups I rv ht
    refine PySem.W.in_tuple_datum hl (xs := ts.map mkT) (by simpa using HA) Hx (by show X.A.units + 1 + 1 < cLine; omega) ⟨.bl _, H, I, rfl, ?_⟩
    rw [decide_eq_decide.mpr mem_mkT]; exact q
/-- == of two tuples of texts -/
def rEqTs (K : PySem.W.Frag) : R2 := fun x y H Q => ∃ (a b : Addr) (ns ms : List Str), x = .ref a ∧ y = .ref b ∧ SqT K H a (ns.map V.str) ∧ SqT K H b (ms.map V.str) ∧ Q (.bl (decide (ns = ms))) H
theorem op_eqTs {X : Cx} (hu : X.A.units + 64 < cLine) : OpR X (compareOp .Eq) (rEqTs X.K) := by
  intro pins s σ H x y v u Q I rx ry h
  obtain ⟨a, b, ns, ms, rfl, rfl, ha, hb, q⟩ := h
  cases rx
  cases ry
  refine PySem.W.eq_datum (hold_names I ha) (hold_names I hb) (by show X.A.units + 1 < cLine; omega) ⟨.bl _, H, I, rfl, ?_⟩
  rw [decide_eq_decide.mpr (show (PySem.W.Tup.mk ns = PySem.W.Tup.mk ms) ↔ ns = ms from ⟨fun e => congrArg PySem.W.Tup.items e, fun e => by rw [e]⟩)]
  exact q
/-- == of two tuples of tuples of ints -/
def rEqTt (K : PySem.W.Frag) : R2 := fun x y H Q => ∃ (a b : Addr) (ts us : List (Addr × List Int)), x = .ref a ∧ y = .ref b ∧ SqT K H a (ts.map fun t => V.ref t.1) ∧ SqT K H b (us.map fun t => V.ref t.1) ∧ (∀ t ∈ ts, SqT K H t.1 (t.2.map V.int)) ∧ (∀ t ∈ us, SqT K H t.1 (t.2.map V.int)) ∧ Q (.bl (decide (ts.map (·.2) = us.map (·.2)))) H
theorem mk_inj : ∀ {ts us : List (Addr × List Int)}, ts.map mkT = us.map mkT ↔ ts.map (·.2) = us.map (·.2) := by
  intro ts us
  have e : ∀ ts : List (Addr × List Int), ts.map mkT = (ts.map (·.2)).map PySem.W.Tup.mk := fun ts => by rw [List.map_map] <;> rfl
  rw [e, e]
  constructor
  · intro h
    have := congrArg (List.map PySem.W.Tup.items) h
    rw [List.map_map, List.map_map] at this
    simpa [Function.comp_def] using this
  · intro h; rw [h]
theorem op_eqTt {X : Cx} (hu : X.A.units + 64 < cLine) : OpR X (compareOp .Eq) (rEqTt X.K) := by
  intro pins s σ H x y v u Q I rx ry h
  obtain ⟨a, b, ts, us, rfl, rfl, ha, hb, h1, h2, q⟩ := h
  cases rx
  cases ry
  obtain ⟨its, rv, hl, _⟩ := I.tuple ha
  obtain ⟨its2, rv2, hl2, _⟩ := I.tuple hb
  have A1 : PySem.W.Holds s.heap (.ref a) (PySem.W.Tup.mk (ts.map mkT)) := PySem.W.holds_tup hl (by simpa using holdAll_tups I rv h1)
  have A2 : PySem.W.Holds s.heap (.ref b) (PySem.W.Tup.mk (us.map mkT)) := PySem.W.holds_tup hl2 (by simpa using holdAll_tups I rv2 h2)
  refine PySem.W.eq_datum A1 A2 (by show X.A.units + 2 < cLine; omega) ⟨.bl _, H, I, rfl, ?_⟩
  rw [decide_eq_decide.mpr (show (PySem.W.Tup.mk (ts.map mkT) = PySem.W.Tup.mk (us.map mkT)) ↔ ts.map (·.2) = us.map (·.2) from ⟨fun e => mk_inj.mp (congrArg PySem.W.Tup.items e), fun e => by rw [mk_inj.mpr e]⟩)]
  exact q
end Cs
set_option Elab.async false
set_option linter.all false
set_option maxRecDepth 100000
set_option maxHeartbeats 4000000
/-! dict(zip(t, u)) of two tuples -/
namespace Cs
open PySem PySem.Spec PyProof.Rows L2
section
variable {prog : Program} {w : World} {A : Around} {E : Value → Shared → Prop} {s : Shared}
variable {z TI TO T i1 i2 l1 l2 : Addr} {f : Bool} {oT : Obj} {k1 k2 : Nat} {xs ys : Array Value} {x y : Value}
/-- a zip of two tuples, whose tuple T is still out, gives its next pair -/
theorem zipH_item {Q : Option Value → Shared → Prop} (D : ZipApart z TI TO i1 i2 l1 l2) (hz : IsZipHeld s.heap z TI TO T f) (hT : s.heap.get? T = some oT) (hTI : IsPair s.heap TI (.ref i1) (.ref i2))
    (h1 : s.heap.IsTupleIter i1 l1 k1) (h2 : s.heap.IsTupleIter i2 l2 k2) (p1 : s.heap.IsTuple l1 xs) (p2 : s.heap.IsTuple l2 ys) (ex : xs[k1]? = some x) (ey : ys[k2]? = some y)
    (q : ∀ h', IsZipHeld h' z TI TO T true → h'.IsTupleIter i1 l1 (k1 + 1) → h'.IsTupleIter i2 l2 (k2 + 1) → IsPair h' s.heap.objs.size x y → (∀ c o, c ≠ z ∧ c ≠ i1 ∧ c ≠ i2 → s.heap.get? c = some o → h'.get? c = some o) → Q (some (.ref s.heap.objs.size)) { s with heap := h' }) :
    wpAny (model prog w) A (pyNext (.ref z)) Q E s := by
  have ty : s.TypeIs (.ref z) "zip" := ⟨_, hz, rfl⟩
  unfold pyNext; refine wpAny_bind (wpAny_attempt (wpAny_callSpecial?_slot (name := Str.ofString "__next__") ty F.slot_zip_next (wpAny_call_entry F.slot_zip_next ty F.entry_zip_next ?_ (F.args_zip_next_1 _))))
  show wpAny _ _ (field (.ref z) 2 >>= _) _ _ _; refine wpAny_bind (wpAny_field hz rfl (x := .bool false) rfl ?_)
  show wpAny _ _ (field (.ref z) 3 >>= _) _ _ _; refine wpAny_bind (wpAny_field hz rfl (x := .ref TI) rfl (wpAny_bind (wpAny_seqItems hTI rfl ?_)))
  show wpAny _ _ (Builtin.SmallTypes.ownedTupleIsFree (.ref z) >>= _) _ _ _; refine wpAny_bind (wpAny_tupleHeld_zip hz hT fun g1 z1 b1 => ?_)
  simp only [Bool.false_eq_true, if_false]; refine wpAny_bind ?_
  rw [← Array.forIn_toList]; simp only [List.forIn_cons, List.forIn_nil]; refine wpAny_bind (wpAny_bind (wpAny_holding ?_))
  show wpAny _ _ (Builtin.SmallTypes.nextOf (.ref i1) >>= _) _ _ _
  refine wpAny_bind (RZ.nextOf_tuple_item (s := { s with heap := g1 }) (h1.extBut b1.extBut D.i1z) (p1.extBut b1.extBut D.l1z) ex fun g2 j1 b2 => wpAny_pure (wpAny_pure (wpAny_bind (wpAny_bind (wpAny_holding ?_)))))
  show wpAny _ _ (Builtin.SmallTypes.nextOf (.ref i2) >>= _) _ _ _
  refine wpAny_bind (RZ.nextOf_tuple_item (s := { s with heap := g2 }) ((h2.extBut b1.extBut D.i2z).extBut b2.extBut D.i12.symm) ((p2.extBut b1.extBut D.l2z).extBut b2.extBut D.l2i1) ey fun g3 j2 b3 => wpAny_pure (wpAny_pure (wpAny_pure ?_)))
  show wpAny _ _ (newTuple [x, y] >>= _) _ _ _
  have sz : g3.objs.size = s.heap.objs.size := by rw [b3.1, b2.1, b1.1]
  have z3 : IsZipHeld g3 z TI TO T true := b3.extBut _ _ D.i2z.symm (b2.extBut _ _ D.i1z.symm z1)
  have j3 : g3.IsTupleIter i1 l1 (k1 + 1) := j1.extBut b3.extBut D.i12
  refine wpAny_bind (wpAny_newTuple (wpAny_pure ⟨_, rfl, wpAny_pure ?_⟩))
  have pr : IsPair (g3.push { cls := .type "tuple", data := .seq #[x, y] }) g3.objs.size x y := Heap.get?_push_size _ rfl
  show Q (some (.ref g3.objs.size)) _
  rw [sz] at pr ⊢
  exact q _ (Heap.get?_push_of_some _ z3) (j3.at fun o e => Heap.get?_push_of_some _ e) (j2.at fun o e => Heap.get?_push_of_some _ e) pr fun c o n e => Heap.get?_push_of_some _ (b3.extBut _ _ n.2.2 (b2.extBut _ _ n.2.1 (b1.extBut _ _ n.1 e)))
/-- and at its end nothing more -/
theorem zipH_end {Q : Option Value → Shared → Prop} (hh : A.handled = none) (D : ZipApart z TI TO i1 i2 l1 l2) (hz : IsZipHeld s.heap z TI TO T f) (hT : s.heap.get? T = some oT) (hTI : IsPair s.heap TI (.ref i1) (.ref i2))
    (h1 : s.heap.IsTupleIter i1 l1 k1) (p1 : s.heap.IsTuple l1 xs) (ex : xs[k1]? = none)
    (q : ∀ h', (∀ c o, c ≠ z ∧ c ≠ i1 ∧ c ≠ i2 → s.heap.get? c = some o → h'.get? c = some o) → Q none { s with heap := h' }) : wpAny (model prog w) A (pyNext (.ref z)) Q E s := by
  have ty : s.TypeIs (.ref z) "zip" := ⟨_, hz, rfl⟩
  unfold pyNext; refine wpAny_bind (wpAny_attempt (wpAny_callSpecial?_slot (name := Str.ofString "__next__") ty F.slot_zip_next (wpAny_call_entry F.slot_zip_next ty F.entry_zip_next ?_ (F.args_zip_next_1 _))))
  show wpAny _ _ (field (.ref z) 2 >>= _) _ _ _; refine wpAny_bind (wpAny_field hz rfl (x := .bool false) rfl ?_)
  show wpAny _ _ (field (.ref z) 3 >>= _) _ _ _; refine wpAny_bind (wpAny_field hz rfl (x := .ref TI) rfl (wpAny_bind (wpAny_seqItems hTI rfl ?_)))
  show wpAny _ _ (Builtin.SmallTypes.ownedTupleIsFree (.ref z) >>= _) _ _ _; refine wpAny_bind (wpAny_tupleHeld_zip hz hT fun g1 z1 b1 => ?_)
  simp only [Bool.false_eq_true, if_false]; refine wpAny_bind ?_
  rw [← Array.forIn_toList]; simp only [List.forIn_cons, List.forIn_nil]; refine wpAny_bind (wpAny_bind (wpAny_holding ?_))
  show wpAny _ _ (Builtin.SmallTypes.nextOf (.ref i1) >>= _) _ _ _
  refine wpAny_bind (RZ.nextOf_tuple_end (s := { s with heap := g1 }) hh (h1.extBut b1.extBut D.i1z) (p1.extBut b1.extBut D.l1z) ex fun g2 e b2 he => ?_)
  obtain ⟨o, ho, hc⟩ := he
  refine wpAny_bind (wpAny_isInstance (T := "StopIteration") (b := true) ⟨o, ho, hc⟩ isSubtype_stop (wpAny_pure ?_))
  exact q _ fun c o n e => b2 _ _ n.2.1 (b1.extBut _ _ n.1 e)
variable {w : World}
/-- zip of two tuples as what dict() is asked with -/
theorem pairs_zipT (D : ZipApart z TI TO i1 i2 l1 l2) (eq : xs.size = ys.size) : PairArg prog w "zip" z [z, TI, TO, i1, i2, l1, l2] [z, TO, i1, i2] xs.size (fun i k v => xs[i]? = some k ∧ ys[i]? = some v)
    (fun h => IsZip h z TI TO .none ∧ IsPair h TI (.ref i1) (.ref i2) ∧ (∃ a b, IsPair h TO a b) ∧ h.IsTupleIter i1 l1 0 ∧ h.IsTupleIter i2 l2 0 ∧ h.IsTuple l1 xs ∧ h.IsTuple l2 ys) := by
  refine ⟨fun s ok => ⟨_, ok.1, rfl⟩, by decide, fun h h' ok hk => ?_, fun h ok b hb => ?_, fun b hb => ?_, fun A s Q E hA ok h => getAttrOr_miss_zip ok.1 rfl rfl rfl zip_no_keys (by decide +kernel) hA h, fun A s d Q E hA ok hd hdf h => ?_⟩
  · obtain ⟨a1, a2, ⟨a, b, a3⟩, a4, a5, a6, a7⟩ := ok
    exact ⟨hk _ _ a1, hk _ _ a2, ⟨a, b, hk _ _ a3⟩, a4.at fun o e => hk _ o e, a5.at fun o e => hk _ o e, a6.at fun o e => hk _ o e, a7.at fun o e => hk _ o e⟩
  · obtain ⟨a1, a2, ⟨a, c, a3⟩, ⟨o1, a4, _⟩, ⟨o2, a5, _⟩, ⟨o3, a6, _⟩, ⟨o4, a7, _⟩⟩ := ok
    have hb : b = z ∨ b = TI ∨ b = TO ∨ b = i1 ∨ b = i2 ∨ b = l1 ∨ b = l2 := by simpa using hb
    rcases hb with rfl | rfl | rfl | rfl | rfl | rfl | rfl
    · exact ⟨_, a1⟩
    · exact ⟨_, a2⟩
    · exact ⟨_, a3⟩
    · exact ⟨_, a4⟩
    · exact ⟨_, a5⟩
    · exact ⟨_, a6⟩
    · exact ⟨_, a7⟩
  · have hb : b = z ∨ b = TO ∨ b = i1 ∨ b = i2 := by simpa using hb
    rcases hb with rfl | rfl | rfl | rfl <;> simp
  · obtain ⟨a1, a2, ⟨a, b, a3⟩, a4, a5, a6, a7⟩ := ok
    have hdf : ¬ (d = z ∨ d = TI ∨ d = TO ∨ d = i1 ∨ d = i2 ∨ d = l1 ∨ d = l2) := by simpa using hdf
    have dz : d ≠ z := fun e => hdf (.inl e)
    have dTI : d ≠ TI := fun e => hdf (.inr (.inl e))
    have dTO : d ≠ TO := fun e => hdf (.inr (.inr (.inl e)))
    have d1 : d ≠ i1 := fun e => hdf (.inr (.inr (.inr (.inl e))))
    have d2 : d ≠ i2 := fun e => hdf (.inr (.inr (.inr (.inr (.inl e)))))
    have d3 : d ≠ l1 := fun e => hdf (.inr (.inr (.inr (.inr (.inr (.inl e))))))
    have d4 : d ≠ l2 := fun e => hdf (.inr (.inr (.inr (.inr (.inr (.inr e))))))
    have al : ∀ {c : Addr}, c ∉ [z, TO, i1, i2] → c ≠ z ∧ c ≠ TO ∧ c ≠ i1 ∧ c ≠ i2 := fun h => ⟨fun e => h (by simp [e]), fun e => h (by simp [e]), fun e => h (by simp [e]), fun e => h (by simp [e])⟩
    refine wpAny_pyIter_zip a1 (h z [z, TO, i1, i2] (fun i h => IsPair h TI (.ref i1) (.ref i2) ∧ h.IsTupleIter i1 l1 i ∧ h.IsTupleIter i2 l2 i ∧ h.IsTuple l1 xs ∧ h.IsTuple l2 ys ∧
      ((IsZip h z TI TO .none ∧ ∃ a b, IsPair h TO a b) ∨ ∃ T f oT, IsZipHeld h z TI TO T f ∧ h.get? T = some oT ∧ (T ≠ z ∧ T ≠ i1 ∧ T ≠ i2) ∧ T ≠ d)) s.heap s.toks ⟨fun hm => ?_, fun i g g' st hk => ?_, fun i s1 Q1 E1 hi st hds hQ => ?_, fun s1 Q1 E1 st hQ => ?_⟩ ⟨a2, a4, a5, a6, a7, .inl ⟨a1, a, b, a3⟩⟩ (fun _ _ e => e) fun b hb => .inl hb)
    · have hm : d = z ∨ d = TO ∨ d = i1 ∨ d = i2 := by simpa using hm
      rcases hm with e | e | e | e
      · exact dz e
      · exact dTO e
      · exact d1 e
      · exact d2 e
    · obtain ⟨b1, b2, b3, b4, b5, b6⟩ := st
      refine ⟨hk _ _ dTI.symm b1, b2.at fun o e => hk _ o d1.symm e, b3.at fun o e => hk _ o d2.symm e, b4.at fun o e => hk _ o d3.symm e, b5.at fun o e => hk _ o d4.symm e, ?_⟩
      rcases b6 with ⟨c1, a, b, c2⟩ | ⟨T, f, oT, c1, c2, c3, c4⟩
      · exact .inl ⟨hk _ _ dz.symm c1, a, b, hk _ _ dTO.symm c2⟩
      · exact .inr ⟨T, f, oT, hk _ _ dz.symm c1, hk _ _ c4 c2, c3, c4⟩
    · obtain ⟨b1, b2, b3, b4, b5, b6⟩ := st
      have ex := Array.getElem?_eq_getElem hi
      have ey := Array.getElem?_eq_getElem (show i < ys.size by omega)
      have lt : ∀ {c o}, s1.heap.get? c = some o → s1.heap.objs.size ≠ c := fun e => Nat.ne_of_gt (Heap.lt_size e)
      have m1 : s1.heap.objs.size ≠ i1 := by obtain ⟨_, e, _⟩ := b2; exact lt e
      have m2 : s1.heap.objs.size ≠ i2 := by obtain ⟨_, e, _⟩ := b3; exact lt e
      rcases b6 with ⟨c1, a, b, c2⟩ | ⟨T, f, oT, c1, c2, c3, c4⟩
      · refine RZ.pyNext_zipT_item D c1 b1 c2 b2 b3 b4 b5 ex ey fun h' e1 e2 e3 e4 e5 e6 hk => ?_
        exact hQ s1.heap.objs.size _ _ h' s1.toks ⟨ex, ey⟩ (.inl ⟨_, e5, rfl, _, rfl⟩) ⟨hk _ _ D.TIz D.TITO D.TIi1 D.TIi2 b1, e3, e4, b4.at fun o e => hk _ o D.l1z D.l1TO D.l1i1 D.l1i2 e, b5.at fun o e => hk _ o D.l2z D.l2TO D.l2i1 D.l2i2 e,
          .inr ⟨s1.heap.objs.size, false, _, e1, e5, ⟨lt c1, m1, m2⟩, Nat.ne_of_gt hds⟩⟩ fun c o hc e => by obtain ⟨x1, x2, x3, x4⟩ := al hc; exact hk c o x1 x2 x3 x4 e
      · refine zipH_item D c1 c2 b1 b2 b3 b4 b5 ex ey fun h' e1 e3 e4 e5 hk => ?_
        exact hQ s1.heap.objs.size _ _ h' s1.toks ⟨ex, ey⟩ (.inl ⟨_, e5, rfl, _, rfl⟩) ⟨hk _ _ ⟨D.TIz, D.TIi1, D.TIi2⟩ b1, e3, e4, b4.at fun o e => hk _ o ⟨D.l1z, D.l1i1, D.l1i2⟩ e, b5.at fun o e => hk _ o ⟨D.l2z, D.l2i1, D.l2i2⟩ e,
          .inr ⟨T, true, oT, e1, hk _ _ c3 c2, c3, c4⟩⟩ fun c o hc e => by obtain ⟨x1, x2, x3, x4⟩ := al hc; exact hk c o ⟨x1, x3, x4⟩ e
    · obtain ⟨b1, b2, b3, b4, b5, b6⟩ := st
      have ex : xs[xs.size]? = none := Array.getElem?_eq_none (Nat.le_refl _)
      rcases b6 with ⟨c1, a, b, c2⟩ | ⟨T, f, oT, c1, c2, c3, c4⟩
      · exact RZ.pyNext_zipT_end hA D c1 b1 c2 b2 b3 b4 b5 (.inl ex) fun h' hk => hQ h' s1.toks fun c o hc e => by obtain ⟨x1, x2, x3, x4⟩ := al hc; exact hk c o x1 x2 x3 x4 e
      · exact zipH_end hA D c1 c2 b1 b2 b4 ex fun h' hk => hQ h' s1.toks fun c o hc e => by obtain ⟨x1, x2, x3, x4⟩ := al hc; exact hk c o ⟨x1, x3, x4⟩ e
end
/-- dict(zip(t, u)): t a tuple of different names, u as long -/
def tDzT (K : PySem.W.Frag) (ta : TA) : TE := fun σ H Q => ta σ H fun vs H1 => ∃ (a b : Addr) (ns : List Str) (xs : List V), vs = [.ref a, .ref b] ∧ SqT K H1 a (ns.map V.str) ∧ SqT K H1 b xs ∧ ns.length = xs.length ∧
  ∀ r, H1 r = none → Q (.ref r) (upd H1 r (.dK (mergeK [] ((ns.zip xs).map fun p => ((Sum.inr p.1 : Key), p.2)))))
theorem kv_zip {prog : Program} {w : World} : ∀ {ns : List Str} {xs : List V} {us ws : List Value}, Vals (ns.map V.str) us → Vals xs ws → ns.length = xs.length →
    ∃ prs : List (Key × Value), KV ((ns.zip xs).map fun p => ((Sum.inr p.1 : Key), p.2)) prs ∧ prs.length = us.length ∧ ∀ (i : Nat) (k v : Value), us[i]? = some k → ws[i]? = some v → ∃ q : Key, prs[i]? = some (q, v) ∧ (mixKind prog w).is q k = true
  | [], [], _, _, r1, r2, _ => by
    cases r1; cases r2
    exact ⟨[], .nil, rfl, fun i k v h => by cases h⟩
  | [], _ :: _, _, _, _, _, h => by cases h
  | _ :: _, [], _, _, _, _, h => by cases h
  | n :: ns, x :: xs, _, _, r1, r2, h => by
    cases r1 with
    | cons a1 a2 =>
      cases r2 with
      | cons b1 b2 =>
        obtain ⟨prs, p1, p2, p3⟩ := kv_zip (prog := prog) (w := w) a2 b2 (by simpa using h)
        refine ⟨(Sum.inr n, _) :: prs, .cons ⟨rfl, b1⟩ p1, by rw [List.length_cons, List.length_cons, p2], fun i k v h1 h2 => ?_⟩
        cases i with
        | zero => cases h1; cases h2; exact ⟨_, rfl, kV_is (k := Sum.inr n) a1⟩
        | succ i => exact p3 i k v h1 h2
theorem pe_dictZip {X : Cx} {e e2 : Expr} {ta : TA} {p p2 pos pos2 : Pos} (hc : X.calm = true) (hg : Gl X "dict") (hm : X.mg "dict" = none) (hgz : Gl X "zip") (hmz : X.mg "zip" = none) (ha : PA X [e, e2] ta)
    (na : starEach [.Call (.Name "zip" p2) [e, e2] [] pos2] X.env = (false, eval (.Call (.Name "zip" p2) [e, e2] [] pos2) X.env) :: starEach [] X.env := by rfl) (hs : starEach [e, e2] X.env = (false, eval e X.env) :: starEach [e2] X.env := by rfl) (hpl : (backTo pos2 (starEach [e2] X.env)).any (·.1) = false := by rfl) :
    PE X (.Call (.Name "dict" p) [.Call (.Name "zip" p2) [e, e2] [] pos2] [] pos) (tDzT X.K ta) := by
  refine ⟨fun pins s σ H Q I h => ?_⟩
  refine Call_ (ld_blt I hg hm PyProof.Rows.boot_dict (PyProof.Rows.callWith_type1 (args_cons (Call_ (ld_blt I hgz hmz PyProof.Rows.boot_zip (PyProof.Rows.callWith_type1 (thn (ha.run pos2 pins s σ H _ I h) fun us s1 ⟨vs, H1, I1, r1, q1⟩ => ?_) hs hpl))) na) na))
  obtain ⟨a, b, ns, xs, ex, hq1, hq2, len, q⟩ := q1
  subst ex
  cases r1 with
  | cons r rr =>
    cases rr with
    | cons r' rr =>
      cases rr
      cases r
      cases r'
      obtain ⟨its, rv, p1, _⟩ := I1.tuple hq1
      obtain ⟨its2, rv2, p2, sz2⟩ := I1.tuple hq2
      have t1 : s1.heap.IsTuple a its.toArray := p1
      have t2 : s1.heap.IsTuple b its2.toArray := p2
      obtain ⟨o1, ho1, _⟩ := id t1
      obtain ⟨o2, ho2, _⟩ := id t2
      have e1 : its.length = its2.length := by rw [← rv.length, ← rv2.length, List.length_map, len]
      refine RZ.call_zipT t1 t2 fun h' hz hTI hTO h1 h2 hsz hk => args_nil ?_
      obtain ⟨prs, kv, pl, pi⟩ := kv_zip (prog := X.prog) (w := X.w) rv rv2 len
      have P := pairs_zipT (prog := X.prog) (w := X.w) (xs := its.toArray) (ys := its2.toArray) (PySem.W.ktu_apart s1.heap.objs.size a b (Heap.lt_size ho1) (Heap.lt_size ho2)) (by simpa using e1)
      have I2 : L2.Inv X pins σ H1 { s1 with heap := h' } := I1.kept (t' := s1.toks) hk
      refine PySem.call_dict_pairs (knd := mixKind X.prog X.w) (kvs := prs) P (I1.ok.hd hc) ⟨hz, hTI, ⟨_, _, hTO⟩, h1, h2, t1.at fun o e => hk _ o e, t2.at fun o e => hk _ o e⟩ ⟨by simpa using pl, fun i key v rel => ?_⟩ ?_ fun h2' tk hd' k => ?_
      · exact pi i key v (by simpa using rel.1) (by simpa using rel.2)
      · rw [List.size_toArray, e1, ← rv2.length]; exact sz2
      · have hlen : (mergeK [] ((ns.zip xs).map fun p => ((Sum.inr p.1 : Key), p.2))).length ≤ sizeLine := by
          refine Nat.le_trans (length_mergeK _ []) ?_
          rw [List.length_nil, Nat.zero_add, List.length_map, List.length_zip, len, Nat.min_self]
          exact sz2
        have hm2 : (h'.objs.size == sysModules) = false := beq_eq_false_iff_ne.mpr (Nat.ne_of_gt I2.big)
        have kk : ∀ b o, s1.heap.get? b = some o → h2'.get? b = some o := fun b o e => k b o (fun m => by
          have lt := Heap.lt_size e
          have m' : b = s1.heap.objs.size + 4 ∨ b = s1.heap.objs.size + 3 ∨ b = s1.heap.objs.size ∨ b = s1.heap.objs.size + 1 := by simpa using m
          have lt' : (b : Nat) < (s1.heap.objs.size : Nat) := lt
          rcases m' with z | z | z | z
          · rw [z] at lt'; exact absurd lt' (Nat.not_lt.mpr (Nat.le_add_right _ _))
          · rw [z] at lt'; exact absurd lt' (Nat.not_lt.mpr (Nat.le_add_right _ _))
          · rw [z] at lt'; exact absurd lt' (Nat.lt_irrefl _)
          · rw [z] at lt'; exact absurd lt' (Nat.not_lt.mpr (Nat.le_add_right _ _))) (hk b o e)
        have le : s1.heap.objs.size ≤ h'.objs.size := by rw [hsz]; exact Nat.le_add_right _ _
        exact ⟨.ref h'.objs.size, upd H1 h'.objs.size (.dK (mergeK [] ((ns.zip xs).map fun p => ((Sum.inr p.1 : Key), p.2)))), I1.laid (t' := tk) kk le (show ObjOk X.prog X.w _ _ _ (.dK (mergeK [] ((ns.zip xs).map fun p => ((Sum.inr p.1 : Key), p.2)))) from ⟨hlen, hm2, merged [] prs, KV.merge kv .nil, hd'⟩), rfl, q _ (I1.hok.fresh le)⟩
end Cs
set_option Elab.async false
set_option linter.all false
set_option maxRecDepth 100000
set_option maxHeartbeats 4000000
namespace CsX
open PySem PySem.Spec PyProof.Rows L2
end CsX
/-! ### an own error without fields; classes, methods, properties -/
namespace CsX
open PySem PySem.Spec PyProof.Rows L2
/-- a class of the program: its text, its name, its attributes (no class attribute has the name) -/
structure Kls (K : PySem.W.Frag) (mg : Str → Option Value) (x : Str) (C : Addr) (fs : List Str) : Prop where
  cl : Cls K C
  gC : mg x = some (.ref C)
  no : ∀ f ∈ fs, NoAttr K C f
/-- its __init__ -/
structure CallN (P : Program) (w : World) (K : PySem.W.Frag) (mg : Str → Option Value) (base : Heap) (k : Nat) (C f : Addr) (fd : FuncData) (ps : List Str) (sp : Sp) : Prop where
  ok : FnOk P w K mg base CX0 k f fd ps sp
  mkr : Mk K C f
  bd : Binds K fd ps []
/-- a method -/
structure CallM (P : Program) (w : World) (K : PySem.W.Frag) (mg : Str → Option Value) (base : Heap) (k : Nat) (C : Addr) (m : Str) (f : Addr) (fd : FuncData) (ps : List Str) (sp : Sp) : Prop where
  ok : FnOk P w K mg base CX0 k f fd ps sp
  mt : Meth K C m f
  bd : Binds K fd ps []
end CsX
set_option Elab.async false
set_option linter.all false
set_option maxRecDepth 100000
set_option maxHeartbeats 4000000
namespace CsX
open PySem PySem.Spec PyProof.Rows L2
/-- two promises of one def, in one -/
theorem FnOk.or {P : Program} {w : World} {K : PySem.W.Frag} {mg : Str → Option Value} {base : Heap} {CX : CXT} {k : Nat} {f : Addr} {fd : FuncData} {ps : List Str} {sp1 sp2 : Sp} (F1 : FnOk P w K mg base CX k f fd ps sp1) (F2 : FnOk P w K mg base CX k f fd ps sp2) :
    FnOk P w K mg base CX k f fd ps (fun vs H Q E => sp1 vs H Q E ∨ sp2 vs H Q E) :=
  ⟨fun vs H Q E h => h.elim (F1.len vs H Q E) (F2.len vs H Q E), fun A outer s H args us vs Q E hr he hb hv h => h.elim (F1.run A outer s H args us vs Q E hr he hb hv) (F2.run A outer s H args us vs Q E hr he hb hv)⟩
end CsX
set_option Elab.async false
set_option linter.all false
set_option maxRecDepth 100000
set_option maxHeartbeats 4000000
/-! ### errors whose context is known to be None; calls within an except suite -/
namespace CsX
open PySem PySem.Spec PyProof.Rows L2 L2H HotX
/-! C(x): an own error with fields, its context None (after ExcInit's and ExcInitHot's own, for L2N) -/
end CsX
set_option Elab.async false
set_option linter.all false
set_option maxRecDepth 100000
set_option maxHeartbeats 4000000
/-! ### sorted(s), s a set of areI of any number of members -/
namespace Cs
open PySem PySem.Spec PyProof.Rows L2
section
variable {P : Program} {w : World} {A : Around} {E : Value → Shared → Prop} {s : Shared} {a : Addr}
/-- (after sorted_set of HandS.Set, with the sort of SortOrd) -/
theorem sorted_setN {S : Int → Bool} {n : Nat} {Q : Value → Shared → Prop} (R : SetR w s.heap a S n)
    (cool : A.handled = none) (small : n ≤ 16000000)
    (after : ∀ s' p (out : Array Value) (c : Nat) (ns : List Int),
      (∀ b o, s.heap.get? b = some o → s'.heap.get? b = some o) → s'.gens = s.gens → s'.os = s.os →
      s.heap.objs.size ≤ p → s'.heap.get? p = some (seqObj "list" out c) → IntsAre out.toList ns →
      ns.Pairwise (· < ·) → (∀ k, k ∈ ns ↔ S k = true) → ns.length = n → Q (.ref p) s') :
    wpAny (model P w) A (call (.builtin "sorted") [.ref a]) Q E s := by
  obtain ⟨o, es, ep, t, ho, hex, hd, good, nd, mem, bnd, fits, cnt, r1, r2⟩ := R
  refine Calls.call_function_entry kind_sorted plain_sorted entry_sorted (args_sorted1 _) ?_
  unfold Builtin.«sorted»
  refine wpAny_bind (m := checkCount "sorted" 1 1 _) (wpAny_pure ?_)
  refine wpAny_bind (collect_set (A := A.in1) cool ⟨o, ho, hex.1, hd⟩ fits bnd r1 r2
    fun s1 vs keep1 up1 g1 o1 perm => ?_)
  have many : vs.length = n := by
    rw [perm.length_eq, List.length_map, Array.length_toList]
    exact cnt
  have line : vs.length ≤ sizeLine := by rw [many, sizeLine_eq]; omega
  have areI : IntsAre vs (vs.map Builtin.Re.reRawOf) := ints_of vs fun v hv => by
    obtain ⟨e, he, q⟩ := List.mem_map.mp (perm.mem_iff.mp hv)
    obtain ⟨k, tk, h1, _⟩ := good e he
    exact ⟨k, tk, q ▸ h1⟩
  have keys : (vs.map Builtin.Re.reRawOf).Perm (es.toList.map keyOf) := by
    have := perm.map Builtin.Re.reRawOf
    rwa [List.map_map] at this
  refine wpAny_bind (wpAny_newList ?_ line)
  have new1 : (s1.heap.push (seqObj "list" vs.toArray 0)).get? s1.heap.objs.size =
    some (seqObj "list" vs.toArray 0) := Heap.get?_push_size _ rfl
  refine wpAny_bind (wpAny_holding (wpAny_call_entry slot_list_sort ⟨_, new1, rfl⟩ entry_list_sort
    (SrtO.list_sort_ord SrtO.swo_int new1 line (fun two => SrtO.ints_sortable areI two)
      fun out srt stb => ⟨_, rfl, ?_⟩) (args_list_sort _)))
  obtain ⟨k1, k2, k3⟩ := SrtO.ints_out areI srt stb
  obtain ⟨c, hc⟩ := sortedHeap_at (vs := vs) (out := out.toArray) new1
  have pn : (out.map SrtO.iv).Perm (es.toList.map keyOf) := k2.trans keys
  refine wpAny_pure ⟨_, rfl, after _ s1.heap.objs.size out.toArray c (out.map SrtO.iv) (fun b u e => ?_)
    g1 o1 up1 hc k1 (lt_of_le_nodup _ k3 (pn.nodup_iff.mpr nd)) (fun k => by rw [pn.mem_iff, ← mem k]) ?_⟩
  · have old := keep1 b u e
    have lt := Heap.lt_size old
    show (sortedHeap (s1.heap.push (seqObj "list" vs.toArray 0)) s1.heap.objs.size vs out.toArray).get? b = some u
    rw [sortedHeap_old (Nat.ne_of_lt lt) (by rw [size_push']; exact Nat.lt_succ_of_lt lt)]
    exact Heap.get?_push_of_some _ old
  · rw [pn.length_eq, List.length_map, Array.length_toList]
    exact cnt
end
def rSortedN (w : World) : List V → Hp → VK → Prop := fun vs H Q => ∃ (a : Addr) (S : Int → Bool) (n : Nat),
  vs = [V.ref a] ∧ H a = some (SetO w a S n) ∧ n ≤ 16000000 ∧ ∀ (ns : List Int) (p : Addr), ns.Pairwise (· < ·) →
    (∀ k : Int, k ∈ ns ↔ S k = true) → ns.length = n → H p = none → Q (.ref p) (upd H p (.lst (ns.map V.int)))
theorem cr_sortedN {X : Cx} (cool : X.calm = true) : CallR X (.builtin "sorted") (rSortedN X.w) := by
  intro pins s σ H vs us Q I rel h
  obtain ⟨a, S, n, rfl, ha, few, q⟩ := h
  rw [Vals.ref1 rel]
  refine sorted_setN (setO_get I ha) (I.ok.hd cool) few fun s2 p out c ns old g o up at_ areI asc mem cnt => ?_
  have free : H p = none := I.hok.fresh up
  have line : (ns.map V.int).length ≤ sizeLine := by rw [List.length_map, cnt, sizeLine_eq]; omega
  have J : Inv X pins σ (upd H p (.lst (ns.map V.int)))
      { s with heap := s2.heap, gens := s2.gens, drawn := s2.drawn, toks := s2.toks } :=
    I.call (ch := []) (Un.laid old up free) (I.hok.laid old up ⟨line, out.toList, c, vals_of_ints areI, at_⟩)
      (by rw [g]; exact I.bare) (fun _ z => nomatch z)
  have same : s2 = { s with heap := s2.heap, gens := s2.gens, drawn := s2.drawn, toks := s2.toks } := by
    cases s2; cases s; cases o; rfl
  rw [same]
  exact ⟨.ref p, _, J, rfl, q ns p asc mem cnt free⟩
end Cs
set_option Elab.async false
set_option linter.all false
set_option maxRecDepth 100000
set_option maxHeartbeats 4000000
/-! name = {k: v for ..} as a statement. -/
namespace Cs
open PySem PySem.Spec PyProof.Rows L2
end Cs
set_option Elab.async false
set_option linter.all false
set_option maxRecDepth 100000
set_option maxHeartbeats 4000000
/-! Twins: two values that are equal all the way down, through lists, dicts and tuples; == and != of them. -/
namespace Cs
open PySem PySem.Spec PyProof.Rows L2
/-- twins, of nesting below n; all that they are made of stands at addresses F -/
def Twn (F : Addr → Prop) (H : Hp) : Nat → V → V → Prop
  | 0 => fun _ _ => False
  | n + 1 => fun x y => (x = y ∧ flatB x = true) ∨ (∃ a, x = .ref a ∧ y = .ref a) ∨
      (∃ a b xs ys, x = .ref a ∧ y = .ref b ∧ F a ∧ F b ∧ H a = some (.lst xs) ∧ H b = some (.lst ys) ∧ Paired (Twn F H n) xs ys) ∨
      (∃ a b ks ls, x = .ref a ∧ y = .ref b ∧ F a ∧ F b ∧ H a = some (.dK ks) ∧ H b = some (.dK ls) ∧ ks.length = ls.length ∧ ∀ p ∈ ks, ∃ u, valV ls p.1 = some u ∧ Twn F H n p.2 u) ∨
      (∃ a b xs ys, x = .ref a ∧ y = .ref b ∧ F a ∧ F b ∧ H a = some (.tup xs) ∧ H b = some (.tup ys) ∧ Paired (Twn F H n) xs ys)
theorem paired_imp {α β : Type} {F G : α → β → Prop} (h : ∀ x y, F x y → G x y) {xs : List α} {ys : List β} (p : Paired F xs ys) : Paired G xs ys := by
  induction p with
  | nil => exact .nil
  | cons a _ ih => exact .cons (h _ _ a) ih
theorem Twn.imp {F G : Addr → Prop} {H H' : Hp} (f : ∀ a, F a → G a) (s : ∀ a o, F a → H a = some o → H' a = some o) : ∀ {n m : Nat} {x y : V}, n ≤ m → Twn F H n x y → Twn G H' m x y
  | 0, _, _, _, _, h => (show False from h).elim
  | n + 1, 0, _, _, l, _ => absurd l (by omega)
  | n + 1, m + 1, x, y, l, h => by
    have up : ∀ x y, Twn F H n x y → Twn G H' m x y := fun x y h => Twn.imp f s (by omega) h
    rcases h with h | h | ⟨a, b, xs, ys, e1, e2, fa, fb, ha, hb, p⟩ | ⟨a, b, ks, ls, e1, e2, fa, fb, ha, hb, hl, p⟩ | ⟨a, b, xs, ys, e1, e2, fa, fb, ha, hb, p⟩
    · exact .inl h
    · exact .inr (.inl h)
    · exact .inr (.inr (.inl ⟨a, b, xs, ys, e1, e2, f a fa, f b fb, s _ _ fa ha, s _ _ fb hb, paired_imp up p⟩))
    · exact .inr (.inr (.inr (.inl ⟨a, b, ks, ls, e1, e2, f a fa, f b fb, s _ _ fa ha, s _ _ fb hb, hl, fun q hq => let ⟨u, z, t⟩ := p q hq; ⟨u, z, up _ _ t⟩⟩)))
    · exact .inr (.inr (.inr (.inr ⟨a, b, xs, ys, e1, e2, f a fa, f b fb, s _ _ fa ha, s _ _ fb hb, paired_imp up p⟩)))
theorem Twn.same {F : Addr → Prop} {H H' : Hp} {n : Nat} {x y : V} (t : Twn F H n x y) (s : Same H H') : Twn F H' n x y := t.imp (fun _ h => h) (fun a o _ e => s a o e) (Nat.le_refl n)
theorem Twn.up {F : Addr → Prop} {H : Hp} {n m : Nat} {x y : V} (t : Twn F H n x y) (l : n ≤ m) : Twn F H m x y := t.imp (fun _ h => h) (fun _ _ _ e => e) l
theorem Twn.upd {F : Addr → Prop} {H : Hp} {n : Nat} {x y : V} {b : Addr} {u : HO} (t : Twn F H n x y) (h : ¬ F b) : Twn F (upd H b u) n x y := t.imp (fun _ h => h) (fun a o fa e => by rw [upd_ne (fun z : a = b => h (by rw [← z]; exact fa))]; exact e) (Nat.le_refl n)
theorem Twn.list {F : Addr → Prop} {H : Hp} {n : Nat} {a b : Addr} {xs ys : List V} (fa : F a) (fb : F b) (ha : H a = some (.lst xs)) (hb : H b = some (.lst ys)) (p : Paired (Twn F H n) xs ys) : Twn F H (n + 1) (.ref a) (.ref b) := .inr (.inr (.inl ⟨a, b, xs, ys, rfl, rfl, fa, fb, ha, hb, p⟩))
theorem Twn.tup {F : Addr → Prop} {H : Hp} {n : Nat} {a b : Addr} {xs ys : List V} (fa : F a) (fb : F b) (ha : H a = some (.tup xs)) (hb : H b = some (.tup ys)) (p : Paired (Twn F H n) xs ys) : Twn F H (n + 1) (.ref a) (.ref b) := .inr (.inr (.inr (.inr ⟨a, b, xs, ys, rfl, rfl, fa, fb, ha, hb, p⟩)))
theorem Twn.dict {F : Addr → Prop} {H : Hp} {n : Nat} {a b : Addr} {ks ls : List (Key × V)} (fa : F a) (fb : F b) (ha : H a = some (.dK ks)) (hb : H b = some (.dK ls)) (hl : ks.length = ls.length) (p : ∀ p ∈ ks, ∃ u, valV ls p.1 = some u ∧ Twn F H n p.2 u) : Twn F H (n + 1) (.ref a) (.ref b) := .inr (.inr (.inr (.inl ⟨a, b, ks, ls, rfl, rfl, fa, fb, ha, hb, hl, p⟩)))
end Cs
set_option Elab.async false
set_option linter.all false
set_option maxRecDepth 100000
set_option maxHeartbeats 4000000
/-! for i, x in enumerate(t), t a tuple. -/
namespace Cs
open PySem PySem.Spec PyProof.Rows L2
open AutoSeq1 (wpAny_loadPart')
end Cs
set_option Elab.async false
set_option linter.all false
set_option maxRecDepth 100000
set_option maxHeartbeats 4000000
/-! tuples whose object is known (it has no dict): methods of theirs -/
namespace Cs
open PySem PySem.Spec PyProof.Rows L2
/-- a tuple's object, nothing else in it -/
def Pl (o : Obj) : Prop := o.cls = .type "tuple" ∧ o.dict = none
/-- a tuple, its object known -/
def TpK (H : Hp) (a : Addr) (xs : List V) : Prop := ∃ o, Pl o ∧ H a = some (.frz o (.tup xs))
theorem TpK.same {H H' : Hp} {a : Addr} {xs : List V} (h : TpK H a xs) (s : Same H H') : TpK H' a xs := by
  obtain ⟨o, p, e⟩ := h; exact ⟨o, p, s _ _ e⟩
theorem TpK.sq {K : PySem.W.Frag} {H : Hp} {a : Addr} {xs : List V} (h : TpK H a xs) : SqT K H a xs := by
  obtain ⟨o, p, e⟩ := h; exact .inl (.inr ⟨o, e⟩)
theorem TpK.some {H : Hp} {a : Addr} {xs : List V} (h : TpK H a xs) : H a ≠ none := by
  obtain ⟨o, p, e⟩ := h; rw [e]; exact fun z => by cases z
variable {X : Cx}
/-- tuple(xs), xs a list: its object is known -/
def rTupK (K : PySem.W.Frag) : List V → Hp → VK → Prop := fun xs H Q => ∃ p ys, xs = [.ref p] ∧ SqL K H p ys ∧ ∀ l o, H l = none → Pl o → Q (.ref l) (upd H l (.frz o (.tup ys)))
theorem call_tupK : CallR X (.type "tuple") (rTupK X.K) := by
  intro pins s σ H xs us Q I r h
  obtain ⟨p, ys, rfl, hq, q⟩ := h
  obtain ⟨u, rfl, rx⟩ := vals1 r
  cases rx
  obtain ⟨its, r', pl, hz⟩ := I.list hq
  have hlen := r'.length
  refine call_tuple_list pl.isList (fun h' kp => ?_) (by simp only [List.size_toArray] <;> omega)
  have I1 : L2.Inv X pins σ H { s with heap := h' } := I.kept (t' := s.toks) kp
  have new : ObjOk X.prog X.w (upd H h'.objs.size (.frz { cls := .type "tuple", data := .seq its.toArray } (.tup ys))) (h'.push { cls := .type "tuple", data := .seq its.toArray }) h'.objs.size (.frz { cls := .type "tuple", data := .seq its.toArray } (.tup ys)) :=
    ⟨Heap.get?_push_size _ rfl, hz, its, r', IsTup.new _ _⟩
  exact ⟨.ref h'.objs.size, _, I1.laid (t' := s.toks) (fun b o e => Heap.get?_push_of_some _ e) (Nat.le_refl _) new, rfl, q _ _ (I1.hok.fresh (Nat.le_refl _)) ⟨rfl, rfl⟩⟩
/-- a method of such a tuple -/
def tBMT (K : PySem.W.Frag) (r : V → List V → Hp → VK → Prop) (to : TE) (t : TA) : TE := fun σ H Q => to σ H fun x H1 => (∃ a xs, x = .ref a ∧ TpK H1 a xs) ∧ t σ H1 fun xs H2 => r x xs H2 Q
variable {o e : Expr} {es : List Expr} {to : TE} {t : TA} {name : Str} {apos cpos : Pos} {id : String} {r : V → List V → Hp → VK → Prop}
theorem pe_bmT (pa : PlainAttrs "tuple") (slot : Slot "tuple" name id) (hty : typeOf (.builtin id) = pure (.type "method_descriptor")) (hm : MtR X id r) (ho : PE X o to) (ha : PA X (e :: es) t) (hbase : attributeBase o name X.env (eval o X.env) = eval o X.env := by rfl) (hfew : ((backTo cpos (starEach (e :: es) X.env)).all (fun x => !x.1) && (backToKw cpos (keywordEach [] X.env)).all (fun x => x.1.isSome) && decide ((e :: es).length + ([] : List Keyword).length + (if ([] : List Keyword).isEmpty then 0 else 1) < 30)) = true := by rfl) (hline : (apos.endLine == cpos.line) = true := by rfl) (hs : starEach (e :: es) X.env = (false, eval e X.env) :: starEach es X.env := by rfl) (hplain : (backTo cpos (starEach es X.env)).any (·.1) = false := by rfl) : PE X (.Call (.Attribute o name apos) (e :: es) [] cpos) (tBMT X.K r to t) := by
  refine ⟨fun pins s σ H Q I h => wpAny_Call_method_late hbase hfew hline rfl (thn (ho.run pins s σ H _ I h) fun v s1 ⟨x, H1, I1, r1, ty, q1⟩ => ?_)⟩
  obtain ⟨a, xs, rfl, ob, ⟨c1, c2⟩, eH⟩ := ty
  cases r1
  obtain ⟨get, _⟩ := (show ObjOk X.prog X.w H1 s1.heap a (.frz ob (.tup xs)) from I1.hok a _ eH)
  refine ⟨"tuple", id, pa, slot, hty, ⟨ob, get, c1⟩, fun b e => by cases e; exact ⟨ob, get, c2⟩, ?_⟩
  have hA := ha.run cpos pins s1 σ H1 _ I1 q1
  rw [hs] at hA ⊢
  exact Calls.callWith_builtin (by show (false || (backTo cpos (starEach es X.env)).any (·.1)) = false; rw [hplain] <;> rfl) (Calls.evalArgs_plain (thn hA fun us s2 ⟨vs, H2, I2, r2, q2⟩ => hm pins s2 σ H2 (.ref a) vs (.ref a) us Q I2 rfl r2 q2))
end Cs
set_option Elab.async false
set_option linter.all false
set_option maxRecDepth 100000
set_option maxHeartbeats 4000000
namespace K07
open PySem PySem.Spec PyProof.Rows L2 Cs CsX
/-- the box gives each of the names its side -/
def Fit (L : List Ent) (ns : List Str) (S : Str → List Int) : Prop := ∀ x ∈ ns, look L x = some (S x)
theorem Fit.get {H : Hp} {b : Addr} {L : List Ent} {ns : List Str} {S : Str → List Int} (B : Bu H b L) (F : Fit L ns S) {x : Str} (hx : x ∈ ns) : ∃ a, DGet H b (.str x) (some (.ref a)) ∧ H a = some (.lst ((S x).map V.int)) := by
  have h := F x hx
  unfold look at h
  obtain ⟨e, he, e2⟩ := Option.map_eq_some_iff.mp h
  have g := B.get x
  rw [he] at g
  refine ⟨e.2.1, g, ?_⟩
  rw [← e2]; exact B.sides e (getE_mem he).1
theorem dgetI {H : Hp} {d : Addr} {A : List (Str × Int)} {x : Str} {v : Int} (h : H d = some (.dK (intK A))) (hv : aget A x = some v) : DGet H d (.str x) (some (.int v)) := by
  have := Ax.get (H := H) (d := d) (A := A) ⟨.inl h⟩ x
  rwa [hv] at this
theorem walk_zipTT {K : PySem.W.Frag} {a b : Addr} {xs ys : List V} (len : xs.length = ys.length) : Walk (RZ.ItzT K a b) xs.length (fun H => SqT K H a xs ∧ SqT K H b ys) (YPair (fun i => xs[i]?) (fun i => ys[i]?)) := by
  refine ⟨fun i H hi q => ⟨xs, ys, xs[i], ys[i]'(by omega), q.1, q.2, by simp [hi], by simp⟩, fun H q => ⟨xs, ys, q.1, q.2, .inl (Nat.le_refl _)⟩, fun i H v H' _ q y => ?_⟩
  obtain ⟨T, x, z, h1, h2, h3, h4, h5⟩ := y
  exact ⟨T, x, z, h1, h2, h3, h4 xs q.1, h5 ys q.2⟩
abbrev Row := Addr × List Int
abbrev rws (ts : List Row) : List (List Int) := ts.map (·.2)
/-- tuples of ints in a list -/
structure RwL (H : Hp) (l : Addr) (ts : List Row) : Prop where
  lst : H l = some (.lst (ts.map fun t => V.ref t.1))
  tup : ∀ t ∈ ts, H t.1 = some (.tup (t.2.map V.int))
/-- and in a tuple -/
structure RwT (H : Hp) (l : Addr) (ts : List Row) : Prop where
  lst : H l = some (.tup (ts.map fun t => V.ref t.1))
  tup : ∀ t ∈ ts, H t.1 = some (.tup (t.2.map V.int))
theorem RwL.same {H H' : Hp} {l : Addr} {ts : List Row} (h : RwL H l ts) (s : Same H H') : RwL H' l ts := ⟨s _ _ h.lst, fun t m => s _ _ (h.tup t m)⟩
theorem RwT.same {H H' : Hp} {l : Addr} {ts : List Row} (h : RwT H l ts) (s : Same H H') : RwT H' l ts := ⟨s _ _ h.lst, fun t m => s _ _ (h.tup t m)⟩
/-- the row lies in the box -/
def inB (S : Str → List Int) (ns : List Str) (r : List Int) : Bool := (ns.zip r).all fun p => decide (p.2 ∈ S p.1)
section
variable {P : Program} {w : World} {K : PySem.W.Frag} {mg : Str → Option Value} {base : Heap}
abbrev sSof : Stmt := topS 7
abbrev nSof : List Str := ["values"]
theorem scSof : FnScope nSof ["values"] (defScope sSof) := ⟨rfl, rfl, rfl, by decide +kernel, rfl, by decide +kernel, by decide +kernel⟩
def spSof : Sp := fun vs H Q _ => ∃ (l : Addr) (ks : List Int), vs = [.ref l] ∧ H l = some (.lst (ks.map V.int)) ∧ ks.length ≤ 1000 ∧
  ∀ (H' : Hp) (r : Addr) (js : List Int), Same H H' → H r = none → H' r = some (.lst (js.map V.int)) → Srt js → (∀ v, v ∈ js ↔ v ∈ ks) → Q (.ref r) H'
theorem ok_Sof {f  : Addr} {fd  : FuncData} (F : Fun K "side_of" "side_of" sSof f fd) (B : Bt mg) :
    FnOk P w K mg base CX0 1 f fd ["values"] spSof := by
  refine F.ok scSof (fun vs H Q E h => ?_) (fun cdv A outer s H vs Q E hr h => ?_)
  · obtain ⟨l, ks, rfl, _⟩ := h
    rfl
  · obtain ⟨l, ks, rfl, el, few, q⟩ := h
    have hu := hu_of hr
    have nd := scSof.nd
    refine ⟨_, pss_one (ps_ret (pe_callB (r := rSortedN w) (cr_sortedN rfl) (by rfl) B.sorted PyProof.Rows.boot_sorted (pa_cons (pe_callTy (r := rSetI K w) (cr_setI rfl) (by rfl) B.set PyProof.Rows.boot_set (pa_cons (pv 0) pa_nil)) pa_nil))), ?_⟩
    refine ⟨_, rfl, l, ks, rfl, sl_map el, by omega, fun p c np hc => ⟨p, _, c, rfl, upd_same, by omega, fun ns r as mem len nr => ?_⟩⟩
    have s1 := same_new (o := SetO w p (fun j => decide (j ∈ ks)) c) np
    exact q _ r ns (s1.trans (same_new nr)) (s1.free nr) upd_same as fun v => (mem v).trans decide_eq_true_iff
abbrev sRof : Stmt := topS 11
abbrev nRof : List Str := ["names", "values", "name"]
theorem scRof : FnScope nRof ["names", "values"] (defScope sRof) := ⟨rfl, rfl, rfl, by decide +kernel, rfl, by decide +kernel, by decide +kernel⟩
def spRof : Sp := fun vs H Q _ => ∃ (t d : Addr) (ns : List Str) (A : List (Str × Int)) (f : Str → Int), vs = [.ref t, .ref d] ∧ TpK H t (ns.map V.str) ∧ H d = some (.dK (intK A)) ∧ ns.length ≤ 1000 ∧ (∀ x ∈ ns, aget A x = some (f x)) ∧
  ∀ (H' : Hp) (r : Addr), Same H H' → H r = none → H' r = some (.tup ((ns.map f).map V.int)) → Q (.ref r) H'
theorem ok_Rof {f0 : Addr} {fd : FuncData} (F : Fun K "row_of" "row_of" sRof f0 fd) (B : Bt mg) (ztuple : mg "tuple" = none) : FnOk P w K mg base CX0 1 f0 fd ["names", "values"] spRof := by
  refine F.ok scRof (fun vs H Q E h => ?_) (fun cdv A outer s H vs Q E hr h => ?_)
  · obtain ⟨t, d, ns, A, f, rfl, _⟩ := h
    rfl
  · obtain ⟨t, d, ns, A, f, rfl, et, ed, few, av, q⟩ := h
    have hu := hu_of hr
    have nd := scRof.nd
    refine ⟨_, pss_one (ps_ret (pe_callTy call_tuple_of (by rfl) ztuple PyProof.Rows.boot_tuple (pa_cons (pe_lc (own := [("name", 2)]) (g := gName 2) (tt := tYes)  rfl nd (pi_tup (pv 0)) (blkOk_by (N := nRof) (sc := defScope sRof) (by decide +kernel)) (fun _ _ _ _ _ => pg_name (i := 2) nd rfl (.inl rfl)) (fun _ _ _ _ _ => pts_nil)
        (fun _ _ _ _ _ => (pe_dget hu (pv 1) (pv 2) (fun _ _ => rfl)))) pa_nil))), ?_⟩
    refine ⟨_, rfl, t, rfl, ⟨_, et.sq⟩, fun Z nZ => lc_tup (xs := ns.map V.str) (fun i H' => Same H H' ∧ H' Z = some (.lst (((ns.take i).map f).map V.int))) ⟨same_new nZ, upd_same⟩ (fun i H' _ h => (et.same h.1).sq) ?_ ?_⟩
    · rintro i x0 H1 hx0 ⟨s1, eZ⟩
      rw [List.getElem?_map] at hx0
      obtain ⟨x, hx, rfl⟩ := Option.map_eq_some_iff.mp hx0
      have hi := (List.getElem?_eq_some_iff.mp hx).1
      refine ⟨rfl, _, rfl, _, rfl, d, .int (f x), rfl, dgetI (s1 _ _ ed) (av x (List.mem_of_getElem? hx)), _, eZ, by rw [List.length_map, List.length_map, List.length_take]; exact small1000 (by omega), same_at s1 nZ, ?_⟩
      rw [upd_same, take_snoc hx, List.map_append, List.map_append] <;> rfl
    · rintro H1 ⟨s1, eZ⟩
      rw [List.length_map, List.take_length] at eZ
      exact ⟨Z, _, rfl, .inl ⟨sl_map eZ, fun r nr => q _ r (s1.trans (same_new nr)) (s1.free nr) upd_same⟩⟩
abbrev sRwi : Stmt := topS 12
abbrev nRwi : List Str := ["names", "row", "box", "name", "value"]
theorem scRwi : FnScope nRwi ["names", "row", "box"] (defScope sRwi) := ⟨rfl, rfl, rfl, by decide +kernel, rfl, by decide +kernel, by decide +kernel⟩
def spRwi : Sp := fun vs H Q _ => ∃ (t r b : Addr) (ns : List Str) (ks : List Int) (L : List Ent) (S : Str → List Int), vs = [.ref t, .ref r, .ref b] ∧ TpK H t (ns.map V.str) ∧ H r = some (.tup (ks.map V.int)) ∧ ns.length = ks.length ∧ ns.length ≤ 1000 ∧ Bu H b L ∧ Fit L ns S ∧ ∀ H', Same H H' → Q (.bl (inB S ns ks)) H'
theorem flats_int (ks : List Int) : (ks.map V.int).all flatV = true := by
  rw [List.all_eq_true]; intro v hv; obtain ⟨k, _, rfl⟩ := List.mem_map.mp hv; rfl
theorem inB_app {S : Str → List Int} {ns : List Str} {ks : List Int} {i : Nat} {x : Str} {k : Int} (hx : ns[i]? = some x) (hk : ks[i]? = some k) : inB S (ns.take (i + 1)) (ks.take (i + 1)) = (inB S (ns.take i) (ks.take i) && decide (k ∈ S x)) := by
  have h1 := (List.getElem?_eq_some_iff.mp hx).1
  have h2 := (List.getElem?_eq_some_iff.mp hk).1
  unfold inB
  rw [take_snoc hx, take_snoc hk, List.zip_append (by rw [List.length_take, List.length_take]; omega), List.all_append]
  simp
theorem ok_Rwi {f : Addr} {fd : FuncData} (F : Fun K "row_within" "row_within" sRwi f fd) (B : Bt mg) (zzip : mg "zip" = none) : FnOk P w K mg base CX0 1 f fd ["names", "row", "box"] spRwi := by
  refine F.ok scRwi (fun vs H Q E h => ?_) (fun cdv A outer s H vs Q E hr h => ?_)
  · obtain ⟨t, r, b, ns, ks, L, S, rfl, _⟩ := h
    rfl
  · obtain ⟨t, r, b, ns, ks, L, S, rfl, et, er, len, few, B1, F1, q⟩ := h
    have hu := hu_of hr
    have nd := scRwi.nd
    refine ⟨_, pss_cons (ps_for PassesOwn.never rfl (RZ.pi_zipA (by rfl) zzip (pa_cons (pv 0) (pa_cons (pv 1) pa_nil))) (pg_tup (by rfl) (pgs_cons (pg_name (i := 3) nd rfl (.inl rfl)) (pgs_cons (pg_name (i := 4) nd rfl (.inl rfl)) pgs_nil)))
        (pss_one (ps_if (pt_cmpR (r := rIn K true) op_notIn_seq (pv 4) (pe_dget hu (pv 2) (pv 3) (fun _ _ => rfl)) rfl)
            (pss_one (ps_ret pe_bl))
            pss_nil)))
      (pss_one (ps_ret pe_bl)), ?_⟩
    refine ⟨_, rfl, _, rfl, t, r, _, _, rfl, .inr ⟨et.sq, .inl (.inl er), for_it (walk_zipTT (xs := ns.map V.str) (ys := ks.map V.int) (by rw [List.length_map, List.length_map, len])) (fun i σ H' => ∃ (y3 y4 : Option V), σ = [some (.ref t), some (.ref r), some (.ref b), y3, y4] ∧ Same H H' ∧ inB S (ns.take i) (ks.take i) = true)
      ⟨none, none, rfl, (fun _ _ h => h), rfl⟩ (fun i σ H' _ h => by obtain ⟨_, _, _, s, _⟩ := h; exact ⟨(et.same s).sq, .inl (.inl (s _ _ er))⟩) ?_ ?_⟩⟩
    · rintro i v σ H1 H2 hi ⟨y3, y4, rfl, s1, al⟩ ⟨T, x0, y0, rfl, nT, rfl, hx0, hy0⟩
      replace hx0 : (ns.map V.str)[i]? = some x0 := hx0
      replace hy0 : (ks.map V.int)[i]? = some y0 := hy0
      rw [List.getElem?_map] at hx0 hy0
      obtain ⟨x, hx, rfl⟩ := Option.map_eq_some_iff.mp hx0
      obtain ⟨k, hk, rfl⟩ := Option.map_eq_some_iff.mp hy0
      obtain ⟨a, ga, ea⟩ := Fit.get (B1.same' (s1.trans (same_new (o := HO.tup [V.str x, .int k]) nT))) F1 (List.mem_of_getElem? hx)
      have sT := s1.trans (same_new (o := HO.tup [V.str x, .int k]) nT)
      refine ⟨T, _, rfl, .inl (.inl upd_same), rfl, _, _, rfl, _, _, rfl, rfl, _, rfl, _, rfl, _, rfl, b, .ref a, rfl, ga, a, _, rfl, .inl (sl_map ea), rfl, flats_int _, ?_⟩
      rw [if_pos rfl, in_ints]
      refine ⟨_, rfl, ite_both (fun c => ?_) fun c => ?_⟩
      · have c2 : ¬ k ∈ S x := of_decide_eq_false (by simpa using c)
        have e : inB S ns ks = false := by
          unfold inB
          refine Bool.eq_false_iff.mpr fun z => c2 ?_
          have m : (x, k) ∈ ns.zip ks := List.mem_of_getElem? (i := i) (by rw [List.getElem?_zip_eq_some]; exact ⟨hx, hk⟩)
          exact of_decide_eq_true (List.all_eq_true.mp z _ m)
        have := q _ sT
        rw [e] at this
        exact this
      · have c2 : k ∈ S x := of_decide_eq_true (by simpa using c)
        exact ⟨_, _, rfl, sT, by rw [inB_app hx hk, al, decide_eq_true c2] <;> rfl⟩
    · rintro σ H1 ⟨y3, y4, rfl, s1, al⟩
      rw [List.length_map, List.take_length, len, List.take_length] at al
      have := q _ s1
      rw [al] at this
      exact this
end
end K07
set_option Elab.async false
set_option linter.all false
set_option maxRecDepth 100000
set_option maxHeartbeats 4000000
namespace K07
open PySem PySem.Spec PyProof.Rows L2 Cs CsX
abbrev rTpl (K : PySem.W.Frag) : List V → Hp → VK → Prop := fun xs H Q => ∃ p ys, xs = [.ref p] ∧ ((SqL K H p ys ∧ ∀ l, H l = none → Q (.ref l) (upd H l (.tup ys))) ∨ (SqT K H p ys ∧ Q (.ref p) H))
/-- what may be handed in as a row -/
def Rwh (H : Hp) (t : Row) : Prop := H t.1 = some (.lst (t.2.map V.int)) ∨ H t.1 = some (.tup (t.2.map V.int))
theorem Rwh.same {H H' : Hp} {t : Row} (h : Rwh H t) (s : Same H H') : Rwh H' t := h.elim (fun e => .inl (s _ _ e)) fun e => .inr (s _ _ e)
theorem Rwh.len {K : PySem.W.Frag} {H : Hp} {t : Row} (h : Rwh H t) : SqL K H t.1 (t.2.map V.int) ∨ SqT K H t.1 (t.2.map V.int) := h.elim (fun e => .inl (sl_map e)) fun e => .inr (.inl (.inl e))
section
variable {P : Program} {w : World} {K : PySem.W.Frag} {mg : Str → Option Value} {base : Heap}
/-! ### checked_names, of names that are all right -/
abbrev sChk : Stmt := topS 9
abbrev nChk : List Str := ["names", "earlier", "name"]
theorem scChk : FnScope nChk ["names"] (defScope sChk) := ⟨rfl, rfl, rfl, by decide +kernel, rfl, by decide +kernel, by decide +kernel⟩
def spChk : Sp := fun vs H Q _ => ∃ (a : Addr) (xs : List Str), vs = [.ref a] ∧ H a = some (.lst (xs.map V.str)) ∧ xs ≠ [] ∧ xs.Nodup ∧ xs.length ≤ 1000 ∧
  ∀ (H' : Hp) (t : Addr), Same H H' → (∀ b, H' b = none → H b = none) → H t = none → TpK H' t (xs.map V.str) → Q (.ref t) H'
theorem ok_Chk {f : Addr} {fd : FuncData} (F : Fun K "checked_names" "checked_names" sChk f fd) (B : Bt mg) (ztuple : mg "tuple" = none) : FnOk P w K mg base CX0 1 f fd ["names"] spChk := by
  refine F.ok scChk (fun vs H Q E h => ?_) (fun cdv A outer s H vs Q E hr h => ?_)
  · obtain ⟨a, xs, rfl, _⟩ := h
    rfl
  · obtain ⟨a, xs, rfl, ha, ne, nd0, few, k⟩ := h
    have nd := scChk.nd
    refine ⟨_, pss_cons (ps_if (pt_cmpR op_eq (pe_callB call_len_seq (by rfl) B.len PySem.boot_len (pa_cons (pv 0) pa_nil)) pe_int rfl) pss_any pss_nil)
      (pss_cons (ps_set (i := 1) nd rfl (.inl rfl) (pe_callTy0 cr_set0K (by rfl) B.set PyProof.Rows.boot_set))
      (pss_cons (ps_for PassesOwn.never rfl (pi_list (pv 0)) (pg_name (i := 2) nd rfl (.inl rfl))
        (pss_cons (ps_if (pt_cmpR or_sinK (pv 2) (pv 1) rfl) pss_any pss_nil)
        (pss_one (ps_expr (pe_saddK (pv 1) (pa_cons (pv 2) pa_nil))))))
      (pss_one (ps_ret (pe_callTy call_tupK (by rfl) ztuple PyProof.Rows.boot_tuple (pa_cons (pv 0) pa_nil)))))), ?_⟩
    refine ⟨_, rfl, a, _, rfl, .inl (sl_map ha), rfl, _, rfl, ite_both (fun c => ?_) fun _ => ?_⟩
    · have := V.int.inj (of_decide_eq_true c)
      rw [List.length_map] at this
      cases xs with
      | nil => exact absurd rfl ne
      | cons x xs => rw [List.length_cons] at this; omega
    refine ⟨rfl, fun D nD => ?_⟩
    have s0 := same_new (o := SetK P w D (fun _ => false) 0) nD
    refine ⟨.ref a, rfl, a, rfl, ⟨_, sl_map (s0 _ _ ha)⟩, for_list (xs := xs.map V.str) (fun i σ H' => ∃ (S : Key → Bool) (n : Nat) (y2 : Option V), σ = [some (.ref a), some (.ref D), y2] ∧ Same H H' ∧ (∀ b, H' b = none → H b = none) ∧ H' D = some (SetK P w D S n) ∧ n ≤ i ∧ ∀ x, S (.inr x) = true → x ∈ xs.take i)
      ⟨_, 0, none, rfl, s0, (fun b e => by grind only [= g_upd]), upd_same, Nat.le_refl _, (fun _ h => nomatch h)⟩ (fun i σ H' _ h => by obtain ⟨_, _, _, _, h, _⟩ := h; exact sl_map (h _ _ ha)) ?_ ?_⟩
    · rintro i x σ H' hx ⟨S, n, y2, rfl, sm, fr, hD, ni, hS⟩
      rw [List.getElem?_map] at hx
      obtain ⟨x, hv, rfl⟩ := Option.map_eq_some_iff.mp hx
      obtain ⟨hi, ex⟩ := List.getElem?_eq_some_iff.mp hv
      have out : S (.inr x) = false := by
        cases e : S (.inr x) with
        | false => rfl
        | true =>
          obtain ⟨j, hj, ej⟩ := List.mem_iff_getElem.mp (hS x e)
          rw [List.length_take] at hj
          rw [List.getElem_take] at ej
          have := (List.getElem_inj nd0).mp (ej.trans ex.symm)
          omega
      refine ⟨_, rfl, _, rfl, .inr x, D, S, n, rfl, rfl, hD, _, rfl, ite_both (fun c => ?_) fun _ => ?_⟩
      · have c' : S (.inr x) = true := c
        rw [out] at c'; cases c'
      refine ⟨_, rfl, ⟨D, S, n, rfl, hD⟩, _, rfl, D, .inr x, S, n, rfl, rfl, hD, by show n + 1 < 4096; omega, ?_⟩
      refine ⟨_, _, _, rfl, fun b o e => ?_, fun b e => ?_, upd_same, ?_, fun z hz => ?_⟩
      · have : b ≠ D := fun q => by rw [q, nD] at e; cases e
        rw [upd_ne this]; exact sm b o e
      · by_cases q : b = D
        · rw [q, upd_same] at e; cases e
        · rw [upd_ne q] at e; exact fr b e
      · rw [out]; show n + 1 ≤ i + 1; omega
      · rw [take_snoc hv]
        rcases Bool.or_eq_true_iff.mp hz with q | q
        · exact List.mem_append_left _ (hS z q)
        · have := Sum.inr.inj (of_decide_eq_true q)
          rw [this]; exact List.mem_append_right _ (List.mem_singleton.mpr rfl)
    · rintro σ H' ⟨S, n, y2, rfl, sm, fr, hD, _, _⟩
      refine ⟨_, rfl, a, _, rfl, sl_map (sm _ _ ha), fun l od nl po => k _ l (fun b o e => ?_) (fun b e => ?_) (fr l nl) ⟨od, po, upd_same⟩⟩
      · have : b ≠ l := fun q => by rw [q, fr l nl] at e; cases e
        rw [upd_ne this]; exact sm b o e
      · by_cases q : b = l
        · rw [q, upd_same] at e; cases e
        · rw [upd_ne q] at e; exact fr b e
abbrev sCkr : Stmt := topS 10
abbrev nCkr : List Str := ["names", "rows", "row"]
theorem scCkr : FnScope nCkr ["names", "rows"] (defScope sCkr) := ⟨rfl, rfl, rfl, by decide +kernel, rfl, by decide +kernel, by decide +kernel⟩
def spCkr : Sp := fun vs H Q _ => ∃ (t l : Addr) (ns : List Str) (us : List Row), vs = [.ref t, .ref l] ∧ TpK H t (ns.map V.str) ∧ H l = some (.lst (us.map fun u => V.ref u.1)) ∧ (∀ u ∈ us, Rwh H u ∧ u.2.length = ns.length) ∧ us.length ≤ 400 ∧
  ∀ (H' : Hp) (r : Addr) (ts : List Row), Same H H' → H r = none → RwT H' r ts → rws ts = rws us → Q (.ref r) H'
theorem ok_Ckr {f : Addr} {fd : FuncData} (F : Fun K "checked_rows" "checked_rows" sCkr f fd) (B : Bt mg) (ztuple : mg "tuple" = none) : FnOk P w K mg base CX0 1 f fd ["names", "rows"] spCkr := by
  refine F.ok scCkr (fun vs H Q E h => ?_) (fun cdv A outer s H vs Q E hr h => ?_)
  · obtain ⟨t, l, ns, us, rfl, _⟩ := h
    rfl
  · obtain ⟨t, l, ns, us, rfl, et, el, ok, few, q⟩ := h
    have hu := hu_of hr
    have nd := scCkr.nd
    refine ⟨_, pss_cons (ps_for PassesOwn.never rfl (pi_list (pv 1)) (pg_name (i := 2) nd rfl (.inl rfl))
        (pss_one (ps_if (pt_cmpR op_ne (pe_callB call_len_seq (by rfl) B.len PySem.boot_len (pa_cons (pv 2) pa_nil)) (pe_callB call_len_seq (by rfl) B.len PySem.boot_len (pa_cons (pv 0) pa_nil)) rfl)
            pss_any
            pss_nil)))
      (pss_one (ps_ret (pe_callTy call_tuple_of (by rfl) ztuple PyProof.Rows.boot_tuple (pa_cons (pe_lc (own := [("row", 2)]) (g := gName 2) (tt := tYes)  rfl nd (pi_list (pv 1)) (blkOk_by (N := nCkr) (sc := defScope sCkr) (by decide +kernel)) (fun _ _ _ _ _ => pg_name (i := 2) nd rfl (.inl rfl)) (fun _ _ _ _ _ => pts_nil)
        (fun _ _ _ _ _ => (pe_callTy (r := rTpl K) call_tuple_of (by rfl) ztuple PyProof.Rows.boot_tuple (pa_cons (pv 2) pa_nil)))) pa_nil)))), ?_⟩
    refine ⟨_, rfl, l, rfl, ⟨_, sl_map el⟩, for_list (xs := us.map fun u => V.ref u.1) (fun i σ H' => H' = H ∧ ∃ y, σ = [some (.ref t), some (.ref l), y]) ⟨rfl, none, rfl⟩ (fun i σ H' _ h => by obtain ⟨rfl, _⟩ := h; exact sl_map el) ?_ ?_⟩
    · rintro i x0 σ H1 hx0 ⟨rfl, y, rfl⟩
      rw [List.getElem?_map] at hx0
      obtain ⟨u, hx, rfl⟩ := Option.map_eq_some_iff.mp hx0
      obtain ⟨h1, h2⟩ := ok u (List.mem_of_getElem? hx)
      refine ⟨_, rfl, u.1, _, rfl, h1.len, _, rfl, t, _, rfl, .inr et.sq, rfl, _, rfl, ite_both (fun c => ?_) fun _ => ⟨rfl, _, rfl⟩⟩
      rw [List.length_map, List.length_map, h2] at c
      simp at c
    rintro σ H1 ⟨rfl, y, rfl⟩
    refine ⟨_, rfl, l, rfl, ⟨_, sl_map el⟩, fun Z nZ => lc_list (xs := us.map fun u => V.ref u.1) (fun i H' => ∃ ts : List Row, Same H1 H' ∧ RwL H' Z ts ∧ rws ts = (rws us).take i) ⟨[], same_new nZ, ⟨upd_same, (fun _ h => nomatch h)⟩, rfl⟩ (fun i H' _ h => by obtain ⟨_, h, _⟩ := h; exact sl_map (h _ _ el)) ?_ ?_⟩
    · rintro i x0 H2 hx0 ⟨ts, s2, rw2, e2⟩
      rw [List.getElem?_map] at hx0
      obtain ⟨u, hx, rfl⟩ := Option.map_eq_some_iff.mp hx0
      have hi := (List.getElem?_eq_some_iff.mp hx).1
      have lt : ts.length = i := by have := congrArg List.length e2; rw [List.length_take, List.length_map, List.length_map] at this; omega
      have e3 : ∀ q : Addr, rws (ts ++ [(q, u.2)]) = (rws us).take (i + 1) := fun q => by
        rw [take_snoc (show (rws us)[i]? = some u.2 by rw [List.getElem?_map, hx] <;> rfl), ← e2]
        show List.map _ _ = _
        rw [List.map_append] <;> rfl
      have push : ∀ {H3 : Hp} {q : Addr}, Same H2 H3 → H3 q = some (.tup (u.2.map V.int)) → Same H1 (upd H3 Z (.lst ((ts.map fun t => V.ref t.1) ++ [.ref q]))) ∧ RwL (upd H3 Z (.lst ((ts.map fun t => V.ref t.1) ++ [.ref q]))) Z (ts ++ [(q, u.2)]) := fun {H3 q} s3 eq => by
        have nt : ∀ {b : Addr} {ys : List V}, H3 b = some (.tup ys) → b ≠ Z := fun h z => by rw [z, s3 _ _ rw2.lst] at h; cases h
        refine ⟨same_at (s2.trans s3) nZ, by rw [upd_same, List.map_append] <;> rfl, fun v hv => ?_⟩
        rcases List.mem_append.mp hv with m | m
        · have := s3 _ _ (rw2.tup v m)
          rw [upd_ne (nt this)]; exact this
        · rw [List.mem_singleton.mp m]
          show (upd H3 Z _) q = _
          rw [upd_ne (nt eq)]; exact eq
      rcases (ok u (List.mem_of_getElem? hx)).1.same s2 with e | e
      · refine ⟨rfl, _, rfl, u.1, _, rfl, .inl ⟨sl_map e, fun q nq => ?_⟩⟩
        have s3 := same_new (o := HO.tup (u.2.map V.int)) nq
        obtain ⟨p1, p2⟩ := push s3 upd_same
        exact ⟨_, (rw2.same s3).lst, by rw [List.length_map]; exact small1000 (by omega), _, p1, p2, e3 _⟩
      · refine ⟨rfl, _, rfl, u.1, _, rfl, .inr ⟨.inl (.inl e), ?_⟩⟩
        obtain ⟨p1, p2⟩ := push (fun _ _ h => h) e
        exact ⟨_, rw2.lst, by rw [List.length_map]; exact small1000 (by omega), _, p1, p2, e3 _⟩
    · rintro H2 ⟨ts, s2, rw2, e2⟩
      rw [List.length_map, show us.length = (rws us).length from (List.length_map _).symm, List.take_length] at e2
      refine ⟨Z, _, rfl, .inl ⟨sl_map rw2.lst, fun r nr => ?_⟩⟩
      have s3 := same_new (o := HO.tup (ts.map fun t => V.ref t.1)) nr
      exact q _ r ts (s2.trans s3) (s2.free nr) ⟨upd_same, fun v hv => s3 _ _ (rw2.tup v hv)⟩ e2
end
end K07
set_option Elab.async false
set_option linter.all false
set_option maxRecDepth 100000
set_option maxHeartbeats 4000000
namespace K07
open PySem PySem.Spec PyProof.Rows L2 Cs CsX
theorem merge_new {kvs : List (Key × V)} (nd : (kvs.map (·.1)).Nodup) : ∀ acc : List (Key × V), (∀ k ∈ kvs.map (·.1), k ∉ acc.map (·.1)) → mergeK acc kvs = acc ++ kvs := by
  induction kvs with
  | nil => intro acc _; rw [List.append_nil] <;> rfl
  | cons p r ih =>
    intro acc h
    obtain ⟨n1, n2⟩ := List.nodup_cons.mp nd
    have e : putK acc p.1 p.2 = acc ++ [p] := by
      unfold putK
      rw [if_neg]
      intro z
      obtain ⟨q, hq, e⟩ := List.any_eq_true.mp z
      exact h p.1 List.mem_cons_self ((of_decide_eq_true e) ▸ List.mem_map_of_mem hq)
    show mergeK (putK acc p.1 p.2) r = _
    rw [e, ih n2]
    · simp
    · intro k hk
      rw [List.map_append, List.mem_append]
      rintro (z | z)
      · exact h k (List.mem_cons_of_mem _ hk) z
      · rw [show k = p.1 from List.mem_singleton.mp z] at hk
        exact n1 hk
theorem zip_intK : ∀ (ns : List Str) (r : List Int), ((ns.zip (r.map V.int)).map fun p => ((Sum.inr p.1 : Key), p.2)) = intK (ns.zip r)
  | [], _ => rfl
  | _ :: _, [] => rfl
  | n :: ns, k :: r => by
    exact congrArg (List.cons _) (zip_intK ns r)
theorem merge_zip {ns : List Str} {r : List Int} (nd : ns.Nodup) : mergeK [] ((ns.zip (r.map V.int)).map fun p => ((Sum.inr p.1 : Key), p.2)) = intK (ns.zip r) := by
  rw [zip_intK]
  refine (merge_new ?_ [] (fun _ _ h => nomatch h)).trans (List.nil_append _)
  have : (intK (ns.zip r)).map (·.1) = (ns.zip r).map fun p => (Sum.inr p.1 : Key) := by unfold intK; rw [List.map_map] <;> rfl
  rw [this]
  have h2 : ∀ {ns : List Str} {r : List Int}, ns.Nodup → ((ns.zip r).map fun p => (Sum.inr p.1 : Key)).Nodup := by
    intro ns
    induction ns with
    | nil => intro r _; exact List.Pairwise.nil
    | cons n ns ih =>
      intro r nd
      obtain ⟨n1, n2⟩ := List.nodup_cons.mp nd
      cases r with
      | nil => exact List.Pairwise.nil
      | cons k r =>
        refine List.nodup_cons.mpr ⟨fun m => ?_, ih n2⟩
        obtain ⟨p, hp, e⟩ := List.mem_map.mp m
        have m1 := (List.of_mem_zip hp).1
        rw [Sum.inr.inj e] at m1
        exact n1 m1
  exact h2 nd
/-! ### Table -/
abbrev tF : List Str := ["names", "rows"]
def tflds (t r : Addr) : List (Str × V) := [("names", V.ref t), ("rows", V.ref r)]
theorem tn12 : ¬ (("names" : Str) = "rows") := by decide +kernel
theorem tlook1 (t r : Addr) : (tflds t r).lookup ("names" : Str) = some (.ref t) := by
  unfold tflds
  simp [List.lookup]
theorem tlook2 (t r : Addr) : (tflds t r).lookup ("rows" : Str) = some (.ref r) := by
  unfold tflds
  have : (("rows" : Str) == "names") = false := beq_eq_false_iff_ne.mpr fun z => tn12 z.symm
  simp only [List.lookup, this, beq_self_eq_true]
theorem tput (t r : Addr) : putF "rows" (.ref r) (putF "names" (.ref t) []) = tflds t r := by
  show (if ("names" : Str) = "rows" then _ else (("names" : Str), V.ref t) :: [("rows", V.ref r)]) = _
  rw [if_neg tn12] <;> rfl
theorem tl_no {m : Str} (h1 : ("names" : Str) ≠ m) (h2 : ("rows" : Str) ≠ m) (t e : Addr) : (tflds t e).lookup m = none := by
  unfold tflds
  have h1' : (m == ("names" : Str)) = false := beq_eq_false_iff_ne.mpr fun z => h1 z.symm
  have h2' : (m == ("rows" : Str)) = false := beq_eq_false_iff_ne.mpr fun z => h2 z.symm
  simp only [List.lookup, h1', h2']
/-- a Table of these rows stands at p -/
def Tb (C : Addr) (H : Hp) (p : Addr) (ns : List Str) (rs : List (List Int)) : Prop := ∃ (dx t r : Addr) (ts : List Row), H p = some (.ins C dx (tflds t r)) ∧ TpK H t (ns.map V.str) ∧ RwT H r ts ∧ rws ts = rs
theorem Tb.same {C : Addr} {H H' : Hp} {p : Addr} {ns : List Str} {rs : List (List Int)} (R : Tb C H p ns rs) (s : Same H H') : Tb C H' p ns rs := by
  obtain ⟨dx, t, e, ts, h1, h2, h3, h4⟩ := R
  exact ⟨dx, t, e, ts, s _ _ h1, h2.same s, h3.same s, h4⟩
section
variable {P : Program} {w : World} {K : PySem.W.Frag} {mg : Str → Option Value} {base : Heap}
abbrev sTin : Stmt := inClass (topS 14) 0
abbrev nTin : List Str := ["self", "names", "rows"]
theorem scTin : FnScope nTin ["self", "names", "rows"] (defScope sTin) := ⟨rfl, rfl, rfl, by decide +kernel, rfl, by decide +kernel, by decide +kernel⟩
def spTin (C : Addr) : Sp := fun vs H Q _ => ∃ (p dx nl l : Addr) (ns : List Str) (us : List Row), vs = [.ref p, .ref nl, .ref l] ∧ H p = some (.ins C dx []) ∧ H nl = some (.lst (ns.map V.str)) ∧ ns ≠ [] ∧ ns.Nodup ∧ ns.length ≤ 1000 ∧ H l = some (.lst (us.map fun u => V.ref u.1)) ∧ (∀ u ∈ us, Rwh H u ∧ u.2.length = ns.length) ∧ us.length ≤ 400 ∧
  ∀ (H' : Hp), Tb C H' p ns (rws us) → (∀ b o, b ≠ p → H b = some o → H' b = some o) → Q .non H'
theorem ok_Tin {f C fC fE : Addr} {fd fdC fdE : FuncData} (F : Fun K "__init__" "Table.__init__" sTin f fd) (B : Bt mg) (T : Kls K mg "Table" C tF) (Ck : Call P w K mg base 1 "checked_names" fC fdC ["names"] spChk)
    (CCkr : Call P w K mg base 1 "checked_rows" fE fdE ["names", "rows"] spCkr) : FnOk P w K mg base CX0 2 f fd ["self", "names", "rows"] (spTin C) := by
  refine F.ok scTin (fun vs H Q E h => ?_) (fun cdv A outer s H vs Q E hr h => ?_)
  · obtain ⟨p, dx, nl, l, ns, us, rfl, _⟩ := h
    rfl
  · obtain ⟨p, dx, nl, l, ns, us, rfl, hp, en, ne, nd0, n1000, el, ok, few, k⟩ := h
    have nd := scTin.nd
    refine ⟨_, pss_cons (ps_fld (pv 0) (pe_call Ck.ok (hr.mono (by decide)) (by rfl) Ck.at_ Ck.kp Ck.bd .nil pass0 (pa_cons (pv 1) pa_nil)) rfl)
      (pss_one (ps_fld (pv 0) (pe_call CCkr.ok (hr.mono (by decide)) (by rfl) CCkr.at_ CCkr.kp CCkr.bd .nil pass0 (pa_cons (pe_fld (pv 0) rfl) (pa_cons (pv 2) pa_nil))) rfl)), ?_⟩
    refine ⟨_, rfl, nl, ns, rfl, en, ne, nd0, n1000, fun H1 t s1 fr1 nt et => ?_⟩
    have tp : t ≠ p := fun q => by rw [q, hp] at nt; cases nt
    refine ⟨_, rfl, p, C, dx, _, rfl, s1 _ _ hp, T.cl, T.no _ (by simp), by show 0 < 1000; decide, ?_⟩
    obtain ⟨H2, k2, e2, r2⟩ : ∃ H2, (∀ b o, b ≠ p → H1 b = some o → H2 b = some o) ∧ H2 p = some (.ins C dx (putF "names" (.ref t) [])) ∧ upd H1 p (.ins C dx (putF "names" (.ref t) [])) = H2 := ⟨_, fun b o n e => by rw [upd_ne n]; exact e, upd_same, rfl⟩
    rw [r2]
    clear r2
    have lp : l ≠ p := fun z => by rw [z, hp] at el; cases el
    have up : ∀ u ∈ us, u.1 ≠ p := fun u hu z => by
      rcases (ok u hu).1 with e | e
      · rw [z, hp] at e; cases e
      · rw [z, hp] at e; cases e
    have et2 : TpK H2 t (ns.map V.str) := by obtain ⟨o, po, e⟩ := et; exact ⟨o, po, k2 _ _ tp e⟩
    have lk : (putF "names" (.ref t) []).lookup ("names" : Str) = some (.ref t) := by
      show List.lookup _ [(("names" : Str), V.ref t)] = _
      simp [List.lookup]
    refine ⟨_, rfl, p, C, dx, _, _, rfl, e2, T.cl, T.no _ (by simp), lk, _, rfl, t, l, ns, us, rfl, et2, k2 _ _ lp (s1 _ _ el), fun u hu => ⟨(ok u hu).1.elim (fun e => .inl (k2 _ _ (up u hu) (s1 _ _ e))) (fun e => .inr (k2 _ _ (up u hu) (s1 _ _ e))), (ok u hu).2⟩, few, fun H3 r ts s3 nr rw3 e3 => ?_⟩
    have rp : r ≠ p := fun z => by rw [z, e2] at nr; cases nr
    refine ⟨_, rfl, p, C, dx, _, rfl, s3 _ _ e2, T.cl, T.no _ (by simp), by show 1 < 1000; decide, ?_⟩
    refine k _ ⟨dx, t, r, ts, by rw [upd_same, tput], by obtain ⟨o, po, e⟩ := et2.same s3; exact ⟨o, po, by rw [upd_ne tp]; exact e⟩, ⟨by rw [upd_ne rp]; exact rw3.lst, fun v hv => ?_⟩, e3⟩ fun b o h1 h2 => ?_
    · have h1 := rw3.tup v hv
      rw [upd_ne fun z => by rw [z, s3 _ _ e2] at h1; cases h1]; exact h1
    · rw [upd_ne h1]; exact s3 _ _ (k2 _ _ h1 (s1 _ _ h2))
abbrev sAlo : Stmt := inClass (topS 14) 1
abbrev nAlo : List Str := ["self", "values"]
theorem scAlo : FnScope nAlo ["self", "values"] (defScope sAlo) := ⟨rfl, rfl, rfl, by decide +kernel, rfl, by decide +kernel, by decide +kernel⟩
def spAlo (C : Addr) : Sp := fun vs H Q _ => ∃ (p d : Addr) (ns : List Str) (rs : List (List Int)) (A : List (Str × Int)) (g : Str → Int), vs = [.ref p, .ref d] ∧ Tb C H p ns rs ∧ H d = some (.dK (intK A)) ∧ ns.length ≤ 1000 ∧ (∀ x ∈ ns, aget A x = some (g x)) ∧
  ∀ H', Same H H' → Q (.bl (decide (ns.map g ∈ rs))) H'
theorem ok_Alo {f C f0 : Addr} {fd fd0 : FuncData} (F : Fun K "allows" "Table.allows" sAlo f fd) (B : Bt mg) (T : Kls K mg "Table" C tF) (CRof : Call P w K mg base 1 "row_of" f0 fd0 ["names", "values"] spRof) : FnOk P w K mg base CX0 2 f fd ["self", "values"] (spAlo C) := by
  refine F.ok scAlo (fun vs H Q E h => ?_) (fun cdv A outer s H vs Q E hr h => ?_)
  · obtain ⟨p, d, ns, rs, A0, g, rfl, _⟩ := h
    rfl
  · obtain ⟨p, d, ns, rs, A0, g, rfl, tb, ed, n1000, av, q⟩ := h
    have hu := hu_of hr
    have nd := scAlo.nd
    obtain ⟨dx, t, r, ts, hp, et, rw0, e1⟩ := tb
    refine ⟨_, pss_one (ps_ret (pe_cmpR (r := rInTt K) (op_inTt hr.units) (pe_call CRof.ok (hr.mono (by decide)) (by rfl) CRof.at_ CRof.kp CRof.bd .nil pass0 (pa_cons (pe_fld (pv 0) rfl) (pa_cons (pv 1) pa_nil))) (pe_fld (pv 0) rfl) rfl)), ?_⟩
    refine ⟨_, rfl, p, C, dx, _, _, rfl, hp, T.cl, T.no _ (by simp), tlook1 _ _, _, rfl, t, d, ns, A0, g, rfl, et, ed, n1000, av, fun H1 r1 s1 nr er => ?_⟩
    refine ⟨_, rfl, p, C, dx, _, _, rfl, s1 _ _ hp, T.cl, T.no _ (by simp), tlook2 _ _, r1, r, ns.map g, ts, rfl, rfl, .inl (.inl er), .inr (.inl (.inl (s1 _ _ rw0.lst))), fun v hv => .inl (.inl (s1 _ _ (rw0.tup v hv))), ?_⟩
    rw [show ts.map (·.2) = rs from e1]
    exact q _ s1
abbrev sRin : Stmt := inClass (topS 14) 6
abbrev nRin : List Str := ["self", "box", "row"]
theorem scRin : FnScope nRin ["self", "box"] (defScope sRin) := ⟨rfl, rfl, rfl, by decide +kernel, rfl, by decide +kernel, by decide +kernel⟩
def spRin (C : Addr) : Sp := fun vs H Q _ => ∃ (p b : Addr) (ns : List Str) (rs : List (List Int)) (L : List Ent) (S : Str → List Int), vs = [.ref p, .ref b] ∧ Tb C H p ns rs ∧ (∀ r ∈ rs, r.length = ns.length) ∧ ns.length ≤ 1000 ∧ rs.length ≤ 400 ∧ Bu H b L ∧ Fit L ns S ∧
  ∀ (H' : Hp) (l : Addr) (ts : List Row), Same H H' → H l = none → RwL H' l ts → rws ts = rs.filter (inB S ns) → Q (.ref l) H'
theorem ok_Rin {f C f0 : Addr} {fd fd0 : FuncData} (F : Fun K "_rows_in" "Table._rows_in" sRin f fd) (B : Bt mg) (T : Kls K mg "Table" C tF) (CRwi : Call P w K mg base 1 "row_within" f0 fd0 ["names", "row", "box"] spRwi) : FnOk P w K mg base CX0 2 f fd ["self", "box"] (spRin C) := by
  refine F.ok scRin (fun vs H Q E h => ?_) (fun cdv A outer s H vs Q E hr h => ?_)
  · obtain ⟨p, b, ns, rs, L, S, rfl, _⟩ := h
    rfl
  · obtain ⟨p, b, ns, rs, L, S, rfl, tb, lens, n1000, few, B1, F1, q⟩ := h
    have hu := hu_of hr
    have nd := scRin.nd
    obtain ⟨dx, t, r, ts, hp, et, rw0, e1⟩ := tb
    refine ⟨_, pss_one (ps_ret (pe_lc (own := [("row", 2)]) (g := gName 2) (tt := tB (tCall spRwi [] E0 (tCons (tFld K (tVar 0) "names") (tCons (tVar 2) (tCons (tVar 1) tNil))))) (te := tVar 2) rfl nd (pi_tup (pe_fld (pv 0) rfl)) (blkOk_by (N := nRin) (sc := defScope sRin) (by decide +kernel)) (fun _ _ _ _ _ => pg_name (i := 2) nd rfl (.inl rfl)) (fun _ _ _ _ _ => pts_one (pt_val (pe_call CRwi.ok (hr.mono (by decide)) (by rfl) CRwi.at_ CRwi.kp CRwi.bd .nil pass0 (pa_cons (pe_fld (pv 0) rfl) (pa_cons (pv 2) (pa_cons (pv 1) pa_nil))))))
          (fun _ _ _ _ _ => (pv 2)))), ?_⟩
    refine ⟨_, rfl, p, C, dx, _, _, rfl, hp, T.cl, T.no _ (by simp), tlook2 _ _, r, rfl, ⟨_, .inl (.inl rw0.lst)⟩, fun Z nZ => lc_tup (xs := ts.map fun t => V.ref t.1) (fun i H' => ∃ us : List Row, Same H H' ∧ RwL H' Z us ∧ rws us = (rs.take i).filter (inB S ns)) ⟨[], same_new nZ, ⟨upd_same, (fun _ h => nomatch h)⟩, rfl⟩ (fun i H' _ h => by obtain ⟨_, h, _⟩ := h; exact .inl (.inl (h _ _ rw0.lst))) ?_ ?_⟩
    · rintro i x0 H1 hx0 ⟨us, s1, rw1, eu⟩
      rw [List.getElem?_map] at hx0
      obtain ⟨v, hv, rfl⟩ := Option.map_eq_some_iff.mp hx0
      have hi := (List.getElem?_eq_some_iff.mp hv).1
      have vm := List.mem_of_getElem? hv
      have hr2 : rs[i]? = some v.2 := by rw [← e1, List.getElem?_map, hv] <;> rfl
      have lu : us.length ≤ 400 := by
        have h1 := congrArg List.length eu
        have h2 := List.length_filter_le (inB S ns) (rs.take i)
        rw [List.length_take] at h2
        rw [List.length_map] at h1
        omega
      refine ⟨rfl, _, rfl, p, C, dx, _, _, rfl, s1 _ _ hp, T.cl, T.no _ (by simp), tlook1 _ _, _, rfl, _, rfl, t, v.1, b, ns, v.2, L, S, rfl, et.same s1, s1 _ _ (rw0.tup v vm), (lens _ (List.mem_of_getElem? hr2)).symm, n1000, B1.same' s1, F1, fun H2 s2 => ⟨_, rfl, ite_both (fun c => ?_) fun c => ?_⟩⟩
      · have rw2 := rw1.same s2
        have s12 := s1.trans s2
        have nt : ∀ {b : Addr} {ys : List V}, H2 b = some (.tup ys) → b ≠ Z := fun h z => by rw [z, rw2.lst] at h; cases h
        refine ⟨_, rfl, _, rw2.lst, by rw [List.length_map]; exact small1000 (by omega), us ++ [v], same_at s12 nZ, ⟨by rw [upd_same, List.map_append] <;> rfl, fun u hu => ?_⟩, ?_⟩
        · rcases List.mem_append.mp hu with m | m
          · rw [upd_ne (nt (rw2.tup u m))]; exact rw2.tup u m
          · rw [List.mem_singleton.mp m]
            have := s12 _ _ (rw0.tup v vm)
            rw [upd_ne (nt this)]; exact this
        · rw [take_snoc hr2, List.filter_append, ← eu]
          show List.map _ _ = _
          rw [List.map_append]
          simp [c]
      · refine ⟨us, s1.trans s2, rw1.same s2, ?_⟩
        rw [take_snoc hr2, List.filter_append, ← eu]
        simp [c]
    · rintro H1 ⟨us, s1, rw1, eu⟩
      rw [List.length_map, show ts.length = rs.length by rw [← e1, List.length_map], List.take_length] at eu
      exact q _ Z us s1 nZ rw1 eu
/-- what witness may answer -/
inductive Wto (ns : List Str) (rs : List (List Int)) (S : Str → List Int) (H H1 : Hp) : V → Prop
  | none (n : rs.filter (inB S ns) = []) : Wto ns rs S H H1 .non
  | least (d : Addr) (r : List Int) (nd : H d = Option.none) (ed : H1 d = some (.dK (intK (ns.zip r)))) (m : r ∈ rs.filter (inB S ns)) (le : ∀ u ∈ rs.filter (inB S ns), lxLt u r = false) : Wto ns rs S H H1 (.ref d)
abbrev sWit : Stmt := inClass (topS 14) 2
abbrev nWit : List Str := ["self", "box", "rows"]
theorem scWit : FnScope nWit ["self", "box"] (defScope sWit) := ⟨rfl, rfl, rfl, by decide +kernel, rfl, by decide +kernel, by decide +kernel⟩
def spWit (C : Addr) : Sp := fun vs H Q _ => ∃ (p b : Addr) (ns : List Str) (rs : List (List Int)) (L : List Ent) (S : Str → List Int), vs = [.ref p, .ref b] ∧ Tb C H p ns rs ∧ (∀ r ∈ rs, r.length = ns.length) ∧ ns.Nodup ∧ ns.length ≤ 1000 ∧ rs.length ≤ 400 ∧ Bu H b L ∧ Fit L ns S ∧
  ∀ (H' : Hp) (v : V), Same H H' → Wto ns rs S H H' v → Q v H'
theorem ok_Wit {f C f0 : Addr} {fd fd0 : FuncData} (F : Fun K "witness" "Table.witness" sWit f fd) (B : Bt mg) (zmin : mg "min" = none) (zzip : mg "zip" = none) (T : Kls K mg "Table" C tF) (Ri : CallM P w K mg base 2 C "_rows_in" f0 fd0 ["self", "box"] (spRin C)) : FnOk P w K mg base CX0 3 f fd ["self", "box"] (spWit C) := by
  refine F.ok scWit (fun vs H Q E h => ?_) (fun cdv A outer s H vs Q E hr h => ?_)
  · obtain ⟨p, b, ns, rs, L, S, rfl, _⟩ := h
    rfl
  · obtain ⟨p, b, ns, rs, L, S, rfl, tb, lens, nd0, n1000, few, B1, F1, q⟩ := h
    have hu := hu_of hr
    have nd := scWit.nd
    obtain ⟨dx, t, r, ts, hp, et, rw0, e1⟩ := id tb
    refine ⟨_, pss_cons (ps_set (i := 2) nd rfl (.inl rfl) (pe_meth (pv 0) T.cl Ri.mt Ri.ok (hr.mono (by decide)) Ri.bd .nil pass0 (pa_cons (pv 1) pa_nil)))
      (pss_cons (ps_if (pt_cmpR op_eq (pe_callB call_len_seq (by rfl) B.len PySem.boot_len (pa_cons (pv 2) pa_nil)) pe_int rfl)
        (pss_one (ps_ret pe_non))
        pss_nil)
      (pss_one (ps_ret (pe_dictZip rfl (by rfl) B.dict (by rfl) zzip (pa_cons (pe_fld (pv 0) rfl) (pa_cons (pe_callB (r := rMinT K) (cr_minT rfl hr.units) (by rfl) zmin PyProof.Rows.boot_min (pa_cons (pv 2) pa_nil)) pa_nil)))))), ?_⟩
    refine ⟨_, rfl, p, dx, _, rfl, hp, tl_no (by decide +kernel) (by decide +kernel) _ _, _, rfl, p, b, ns, rs, L, S, rfl, tb, lens, n1000, few, B1, F1, fun H1 l us s1 nl rl eu => ?_⟩
    refine ⟨_, rfl, l, _, rfl, .inl (sl_map rl.lst), rfl, _, rfl, ite_both (fun c => ?_) fun c => ?_⟩
    · have := V.int.inj (of_decide_eq_true c)
      have u0 : us = [] := List.length_eq_zero_iff.mp (by rw [List.length_map] at this; omega)
      rw [u0] at eu
      exact q _ _ s1 (.none eu.symm)
    · have une : us ≠ [] := fun z => by rw [z] at c; exact absurd c (by simp)
      refine ⟨_, rfl, p, C, dx, _, _, rfl, s1 _ _ hp, T.cl, T.no _ (by simp), tlook1 _ _, _, rfl, l, us, rfl, sl_map rl.lst, fun u hu => .inl (.inl (rl.tup u hu)), une, fun u hu le => ?_⟩
      have um : u.2 ∈ rs.filter (inB S ns) := by rw [← eu]; exact List.mem_map.mpr ⟨u, hu, rfl⟩
      refine ⟨t, u.1, ns, u.2.map V.int, rfl, (et.same s1).sq, .inl (.inl (rl.tup u hu)), by rw [List.length_map]; exact (lens _ (List.mem_filter.mp um).1).symm, fun d nd1 => ?_⟩
      rw [merge_zip nd0]
      refine q _ _ (s1.trans (same_new nd1)) (.least d u.2 (s1.free nd1) upd_same um fun w hw => ?_)
      rw [← eu] at hw
      obtain ⟨v, hv, rfl⟩ := List.mem_map.mp hw
      exact le v hv
abbrev sSpd : Stmt := inClass (topS 14) 3
abbrev nSpd : List Str := ["self", "box", "name", "place", "row"]
theorem scSpd : FnScope nSpd ["self", "box", "name"] (defScope sSpd) := ⟨rfl, rfl, rfl, by decide +kernel, rfl, by decide +kernel, by decide +kernel⟩
def spSpd (C : Addr) : Sp := fun vs H Q _ => ∃ (p b : Addr) (x : Str) (i : Nat) (ns : List Str) (rs : List (List Int)) (L : List Ent) (S : Str → List Int), vs = [.ref p, .ref b, .str x] ∧ Tb C H p ns rs ∧ (∀ r ∈ rs, r.length = ns.length) ∧ ns.Nodup ∧ ns.length ≤ 1000 ∧ rs.length ≤ 400 ∧ Bu H b L ∧ Fit L ns S ∧ ns[i]? = some x ∧
  ∀ (H' : Hp) (l : Addr) (ks : List Int), Same H H' → H l = none → H' l = some (.lst (ks.map V.int)) → Srt ks → (∀ v, v ∈ ks ↔ ∃ r ∈ rs.filter (inB S ns), r[i]? = some v) → Q (.ref l) H'
theorem ok_Spd {f C f0 f1 : Addr} {fd fd0 fd1 : FuncData} (F : Fun K "supported" "Table.supported" sSpd f fd) (B : Bt mg) (T : Kls K mg "Table" C tF) (Ri : CallM P w K mg base 2 C "_rows_in" f0 fd0 ["self", "box"] (spRin C)) (CSof : Call P w K mg base 1 "side_of" f1 fd1 ["values"] spSof) : FnOk P w K mg base CX0 3 f fd ["self", "box", "name"] (spSpd C) := by
  refine F.ok scSpd (fun vs H Q E h => ?_) (fun cdv A outer s H vs Q E hr h => ?_)
  · obtain ⟨p, b, x, i, ns, rs, L, S, rfl, _⟩ := h
    rfl
  · obtain ⟨p, b, x, i, ns, rs, L, S, rfl, tb, lens, nd0, n1000, few, B1, F1, hx, q⟩ := h
    have hu := hu_of hr
    have nd := scSpd.nd
    obtain ⟨dx, t, r, ts, hp, et, rw0, e1⟩ := id tb
    refine ⟨_, pss_cons (ps_set (i := 3) nd rfl (.inr rfl) (pe_bmT PySem.F.plainAttrs_tuple PySem.F.slot_tuple_index PySem.F.type_tuple_index L2.mt_tup_index (pe_fld (pv 0) rfl) (pa_cons (pv 2) pa_nil)))
      (pss_one (ps_ret (pe_call CSof.ok (hr.mono (by decide)) (by rfl) CSof.at_ CSof.kp CSof.bd .nil pass0 (pa_cons (pe_lc (own := [("row", 4)]) (g := gName 4) (tt := tYes)  rfl nd (pi_list (pe_meth (pv 0) T.cl Ri.mt Ri.ok (hr.mono (by decide)) Ri.bd .nil pass0 (pa_cons (pv 1) pa_nil))) (blkOk_by (N := nSpd) (sc := defScope sSpd) (by decide +kernel)) (fun _ _ _ _ _ => pg_name (i := 4) nd rfl (.inl rfl)) (fun _ _ _ _ _ => pts_nil)
        (fun _ _ _ _ _ => (pe_ix (r := rIxT K) ix_tup (pv 4) (pv 3) (fun _ _ => rfl)))) pa_nil)))), ?_⟩
    have first : ∀ m, m < i → ns[m]? ≠ some x := fun m hm e => by
      obtain ⟨h1, h2⟩ := List.getElem?_eq_some_iff.mp e
      obtain ⟨h3, h4⟩ := List.getElem?_eq_some_iff.mp hx
      have := (List.getElem_inj nd0).mp (h2.trans h4.symm)
      omega
    refine ⟨_, rfl, p, C, dx, _, _, rfl, hp, T.cl, T.no _ (by simp), tlook1 _ _, ?_⟩
    refine ⟨⟨t, _, rfl, et⟩, _, rfl, t, ns, x, i, rfl, rfl, et.sq, hx, first, ?_⟩
    refine ⟨_, rfl, p, dx, _, rfl, hp, tl_no (by decide +kernel) (by decide +kernel) _ _, _, rfl, p, b, ns, rs, L, S, rfl, tb, lens, n1000, few, B1, F1, fun H1 l us s1 nl rl eu => ?_⟩
    have lu : us.length ≤ 400 := by
      have h1 := congrArg List.length eu
      have h2 := List.length_filter_le (inB S ns) rs
      rw [List.length_map] at h1
      omega
    have in_ : ∀ {u : Row}, u ∈ us → ∃ k, u.2[i]? = some k := fun {u} hu => by
      have um : u.2 ∈ rs.filter (inB S ns) := by rw [← eu]; exact List.mem_map.mpr ⟨u, hu, rfl⟩
      have := lens _ (List.mem_filter.mp um).1
      have hi := (List.getElem?_eq_some_iff.mp hx).1
      exact ⟨_, List.getElem?_eq_getElem (by omega)⟩
    refine ⟨l, rfl, ⟨_, sl_map rl.lst⟩, fun Z nZ => lc_list (xs := us.map fun u => V.ref u.1) (fun j H' => Same H1 H' ∧ H' Z = some (.lst (((us.take j).map fun u => (u.2[i]?).getD 0).map V.int))) ⟨same_new nZ, upd_same⟩ (fun i H' _ h => sl_map (h.1 _ _ rl.lst)) ?_ ?_⟩
    · rintro j x0 H2 hx0 ⟨s2, eZ⟩
      rw [List.getElem?_map] at hx0
      obtain ⟨u, hv, rfl⟩ := Option.map_eq_some_iff.mp hx0
      have um := List.mem_of_getElem? hv
      have hj := (List.getElem?_eq_some_iff.mp hv).1
      obtain ⟨k, hk⟩ := in_ um
      refine ⟨rfl, _, rfl, _, rfl, u.1, _, _, .int k, rfl, rfl, .inl (.inl (s2 _ _ (rl.tup u um))), atI_nat (j := i) (by rw [List.getElem?_map, hk] <;> rfl), _, eZ, by rw [List.length_map, List.length_map, List.length_take]; exact small1000 (by omega), same_at s2 nZ, ?_⟩
      rw [upd_same, take_snoc hv, List.map_append, List.map_append]
      show _ = some (HO.lst (_ ++ [V.int ((u.2[i]?).getD 0)]))
      rw [hk] <;> rfl
    · rintro H2 ⟨s2, eZ⟩
      rw [List.length_map, List.take_length] at eZ
      refine ⟨Z, _, rfl, eZ, by rw [List.length_map]; omega, fun H3 r3 js s3 nr er as mem => ?_⟩
      refine q _ r3 js (s1.trans (s2.trans s3)) ((s1.trans s2).free nr) er as fun v => (mem v).trans ⟨fun h => ?_, fun ⟨r0, hr0, e0⟩ => ?_⟩
      · obtain ⟨u, hu1, rfl⟩ := List.mem_map.mp h
        obtain ⟨k, hk⟩ := in_ hu1
        exact ⟨u.2, by rw [← eu]; exact List.mem_map.mpr ⟨u, hu1, rfl⟩, by rw [hk] <;> rfl⟩
      · rw [← eu] at hr0
        obtain ⟨u, hu1, rfl⟩ := List.mem_map.mp hr0
        exact List.mem_map.mpr ⟨u, hu1, by rw [e0] <;> rfl⟩
end
end K07
set_option Elab.async false
set_option linter.all false
set_option maxRecDepth 100000
set_option maxHeartbeats 4000000
namespace K07
open PySem PySem.Spec PyProof.Rows L2 Cs CsX
/-- rows in the making, where a stream is drawn from -/
structure RwG (H Hn : Hp) (s l : Addr) (ts : List Row) (n : Nat) : Prop where
  keep : Keep s H Hn
  st : Strm Hn s
  rw_ : RwL Hn l ts
  ls : l ≠ s
  nl : H l = none
  few : ts.length ≤ n
theorem keep_tup {H H' : Hp} {s b : Addr} {xs : List V} (st : Strm H s) (k : Keep s H H') (h : H b = some (.tup xs)) : H' b = some (.tup xs) := k _ _ (fun z => by
  obtain ⟨x, y, w, e⟩ := st
  rw [z, e] at h; cases h) h
theorem RwL.keep {H H' : Hp} {s l : Addr} {ts : List Row} (h : RwL H l ts) (st : Strm H s) (ls : l ≠ s) (k : Keep s H H') : RwL H' l ts := ⟨k _ _ ls h.lst, fun t m => keep_tup st k (h.tup t m)⟩
theorem RwL.push {H H' : Hp} {l q : Addr} {ts : List Row} {r : List Int} (h : RwL H l ts) (s : Same H H') (e : H' q = some (.tup (r.map V.int))) : RwL (upd H' l (.lst ((ts.map fun t => V.ref t.1) ++ [.ref q]))) l (ts ++ [(q, r)]) := by
  have nt : ∀ {b : Addr} {ys : List V}, H' b = some (.tup ys) → b ≠ l := fun h2 z => by rw [z, s _ _ h.lst] at h2; cases h2
  refine ⟨by rw [upd_same, List.map_append] <;> rfl, fun v hv => ?_⟩
  rcases List.mem_append.mp hv with m | m
  · rw [upd_ne (nt (s _ _ (h.tup v m)))]; exact s _ _ (h.tup v m)
  · rw [List.mem_singleton.mp m]
    show (upd H' l _) q = _
    rw [upd_ne (nt e)]; exact e
section
variable {P : Program} {w : World} {K : PySem.W.Frag} {mg : Str → Option Value} {base : Heap}
abbrev sSd : Stmt := topS 22
abbrev nSd : List Str := ["_law_domains_here", "_law_sides_here", "_law_domain"]
theorem scSd : FnScope nSd ["_law_domains_here"] (defScope sSd) := ⟨rfl, rfl, rfl, by decide +kernel, rfl, by decide +kernel, by decide +kernel⟩
def spSd : Sp := fun vs H Q _ => ∃ (dl : Addr) (ds : List DomE), vs = [.ref dl] ∧ Doms H dl ds ∧ ds.length ≤ 30 ∧ (ds.map (·.2.1)).Nodup ∧
  ∀ (H' : Hp) (b : Addr) (N : List Ent), Same H H' → Nb H H' b N → shape N = ds.map (fun d => (d.2.1, d.2.2.2)) → Q (.ref b) H'
theorem ok_Sd {f  : Addr} {fd  : FuncData} (F : Fun K "_law_sides" "_law_sides" sSd f fd) (B : Bt mg) :
    FnOk P w K mg base CX0 1 f fd ["_law_domains_here"] spSd := by
  refine F.ok scSd (fun vs H Q E h => ?_) (fun cdv A outer s H vs Q E hr h => ?_)
  · obtain ⟨dl, ds, rfl, _⟩ := h
    rfl
  · obtain ⟨dl, ds, rfl, dm, dlen, dnd, q⟩ := h
    have hu := hu_of hr
    have nd := scSd.nd
    refine ⟨_, pss_cons (ps_set (i := 1) nd rfl (.inl rfl) pe_dnewK)
      (pss_cons (ps_for PassesOwn.never rfl (pi_list (pv 0)) (pg_name (i := 2) nd rfl (.inl rfl))
        (pss_one (ps_dput hu (pv 1) (pe_ix ix_tup (pv 2) pe_int (fun _ _ => rfl)) (pe_callTy call_list_of (by rfl) B.list PyProof.Rows.boot_list (pa_cons (pe_ix ix_tup (pv 2) pe_int (fun _ _ => rfl)) pa_nil)) rfl)))
      (pss_one (ps_ret (pv 1)))), ?_⟩
    intro D nD
    have s0 := same_new (o := HO.dK []) nD
    refine ⟨.ref dl, rfl, dl, rfl, ⟨_, sl_map (s0 _ _ dm.lst)⟩, for_list (xs := ds.map fun d : DomE => V.ref d.1) (fun i σ H' => ∃ (N : List Ent) (y2 : Option V), σ = [some (.ref dl), some (.ref D), y2] ∧ Same H H' ∧ Nb H H' D N ∧ shape N = (ds.take i).map (fun d => (d.2.1, d.2.2.2)))
      ⟨[], none, rfl, s0, Nb.nil nD upd_same, rfl⟩ (fun i σ H' _ h => by obtain ⟨_, _, _, h, _⟩ := h; exact sl_map (h _ _ dm.lst)) ?_ ?_⟩
    · rintro i x σ H' hx ⟨N, y2, rfl, sm, nb, sh⟩
      rw [List.getElem?_map] at hx
      obtain ⟨d, hv, rfl⟩ := Option.map_eq_some_iff.mp hx
      have dmem := List.mem_of_getElem? hv
      have hi := (List.getElem?_eq_some_iff.mp hv).1
      have lN : N.length ≤ i := by
        have := congrArg List.length sh
        rw [List.length_map, List.length_map, List.length_take] at this
        omega
      have tt : SqT K H' d.1 [V.str d.2.1, V.ref d.2.2.1] := .inl (.inl (sm _ _ (dm.tup d dmem)))
      have sd := sl_map (K := K) (sm _ _ (dm.side d dmem))
      refine ⟨.ref d.1, rfl, d.1, _, _, .ref d.2.2.1, rfl, rfl, tt, atI_nat (j := 1) rfl, d.2.2.1, _, rfl, .inl sd, fun l nl => ?_⟩
      have sl := same_new (o := HO.lst (d.2.2.2.map V.int)) nl
      have nb2 := nb.push sl
      have tt2 : SqT K (upd H' l (HO.lst (d.2.2.2.map V.int))) d.1 [V.str d.2.1, V.ref d.2.2.1] := .inl (.inl (sl _ _ (sm _ _ (dm.tup d dmem))))
      refine ⟨.ref D, rfl, .ref d.1, rfl, d.1, _, _, .str d.2.1, rfl, rfl, tt2, atI_nat (j := 0) rfl, D, _, rfl, DPut.k (k := .inr d.2.1) nb2.un (by rw [entK_len]; exact small1000 (by omega)), ?_⟩
      rw [putK_ent (s := d.2.2.2)]
      have xn : d.2.1 ∉ N.map (·.1) := by
        have h1 : N.map (·.1) = (ds.take i).map (·.2.1) := by
          have := congrArg (List.map (·.1)) sh
          rw [List.map_map, List.map_map] at this
          exact this
        rw [h1, List.map_take]
        exact not_take dnd (by rw [List.getElem?_map, hv] <;> rfl)
      refine ⟨putE N d.2.1 l d.2.2.2, _, rfl, same_at (sm.trans sl) nD, nb.put (sm.free nl) nl sl upd_same (by omega), ?_⟩
      · rw [putE_new xn, take_snoc hv]
        unfold shape at sh ⊢
        rw [List.map_append, List.map_append, sh] <;> rfl
    · rintro σ H' ⟨N, y2, rfl, sm, nb, sh⟩
      rw [List.length_map, List.take_length] at sh
      exact ⟨_, rfl, q H' D N sm nb sh⟩
abbrev sSv : Stmt := topS 26
abbrev nSv : List Str := ["_law_actual", "_law_expected", "_law_found", "_law_name"]
theorem scSv : FnScope nSv ["_law_actual", "_law_expected"] (defScope sSv) := ⟨rfl, rfl, rfl, by decide +kernel, rfl, by decide +kernel, by decide +kernel⟩
def spSV : Sp := fun vs H Q _ => ∃ (a e : Addr) (M X : List (Str × Int)), vs = [.ref a, .ref e] ∧ Vd H a M ∧ Vd H e X ∧ SameA M X ∧ a ≠ e ∧ ∀ H', Same H H' → Q (.bl true) H'
theorem ok_Sv {f f0 : Addr} {fd fd0 : FuncData} (F : Fun K "_law_same_values" "_law_same_values" sSv f fd) (B : Bt mg) (Cii : Call P w K mg base 1 "_law_is_integer" f0 fd0 ["_law_actual"] spIsInt) :
    FnOk P w K mg base CX0 2 f fd ["_law_actual", "_law_expected"] spSV := by
  refine F.ok scSv (fun vs H Q E h => ?_) (fun cdv A outer s H vs Q E hr h => ?_)
  · obtain ⟨a, e, M, E, rfl, _⟩ := h
    rfl
  · obtain ⟨a, e, M, X, rfl, bm, be, same, nae, q⟩ := h
    have hu := hu_of hr
    have nd := scSv.nd
    refine ⟨_, pss_cons (ps_if (PW.pt (pw_or (pt_not (pt_val (pe_callB call_isi (by rfl) B.isi PyProof.Rows.boot_isinstance (pa_cons (pv 0) (pa_cons (pe_bltn (by rfl) B.dict PyProof.Rows.boot_dict (v := .ty "dict") rfl) pa_nil)))))
        (pw_or1 (pt_cmpR op_ne (pe_callB call_lenD (by rfl) B.len PySem.boot_len (pa_cons (pv 0) pa_nil)) (pe_callB call_lenD (by rfl) B.len PySem.boot_len (pa_cons (pv 1) pa_nil)) rfl)))) (pss_one (ps_ret pe_bl)) pss_nil)
      (pss_cons (ps_lock (ps_setLc (i := 2) (own := [("_law_name", 3)]) (g := gName 3) (te := tVar 3) rfl nd rfl rfl (by rfl) (pi_keys (pv 1)) (blkOk_by (N := nSv) (sc := defScope sSv) (by decide +kernel)) (fun _ _ _ _ _ => pg_name (i := 3) nd rfl (Or.inl rfl))
          (fun _ _ _ _ _ => pts_one (PW.pt (pw_and (pt_cmp (pc_din hu (pv 3) (pv 0))) (pw_and1 (pt_val (pe_call Cii.ok (hr.mono (by decide)) (by rfl) Cii.at_ Cii.kp Cii.bd .nil pass0 (pa_cons (pe_dget hu (pv 0) (pv 3) (fun _ _ => rfl)) pa_nil))))))) (fun _ _ _ _ _ => pv 3)))
      (pss_one (ps_ret (pe_and (pe_cmpR op_eq (pe_callB call_len_seq (by rfl) B.len PySem.boot_len (pa_cons (pv 2) pa_nil)) (pe_callB call_lenD (by rfl) B.len PySem.boot_len (pa_cons (pv 1) pa_nil)) rfl)
        (pe_one (pe_callB (cr_all rfl) (by rfl) B.all PyProof.Rows.boot_all (pa_cons
          (pe_lc (own := [("_law_name", 3)]) (g := gName 3) (tt := tYes) (te := tOp rEq (tDGet (tVar 0) (tVar 3)) (tDGet (tVar 1) (tVar 3))) rfl nd (pi_list (pv 2)) (blkOk_by (N := nSv) (sc := defScope sSv) (by decide +kernel)) (fun _ _ _ _ _ => pg_name (i := 3) nd rfl (Or.inl rfl)) (fun _ _ _ _ _ => pts_nil)
            (fun _ _ _ _ _ => pe_cmpR (r := rEq) op_eq (pe_dget hu (pv 0) (pv 3) (fun _ _ => rfl)) (pe_dget hu (pv 1) (pv 3) (fun _ _ => rfl)) rfl)) pa_nil))))))), ?_⟩
    have lens : M.length = X.length := same.len bm.nd be.nd
    refine ⟨.ref a, rfl, .ref a, .ty "dict", .type "dict", .type "dict", true, rfl, .ty _, .base (.dK bm.un), kit_ty (by decide +kernel), true, rfl, iteF ?_⟩
    refine ⟨.ref a, rfl, a, _, rfl, bm.un, .ref e, rfl, e, _, rfl, be.un, rfl, ?_⟩
    rw [intK_len, intK_len, lens, decide_eq_true rfl]
    refine ⟨false, rfl, iteF ?_⟩
    refine ⟨e, _, be.un, trivial, fun od => ?_⟩
    have ax0 : (upd H e (.frz od (.dK (intK X)))) a = some (.dK (intK M)) := by rw [upd_ne nae]; exact bm.un
    refine ⟨.ref e, rfl, e, od, rfl, .inl ⟨intK X, upd_same, fun D nD => lc_it walk_keys (fun i H' => Same (upd H e (.frz od (.dK (intK X)))) H' ∧ H' D = some (.lst (((X.take i).map (·.1)).map V.str))) ⟨same_new nD, upd_same⟩ (fun i H' _ h => h.1 _ _ upd_same) ?_ ?_⟩⟩
    · rintro i x Hz H' hi ⟨sm, eD⟩ ⟨rfl, k1, v1, hk, rfl⟩
      obtain ⟨x, hx, rfl, rfl⟩ := keysI hk
      have xm := List.mem_of_getElem? hx
      have gx := (aget_iff be.nd x.1 x.2).mpr xm
      have gv := (Ax.get (H := H') (d := a) (A := M) ⟨.inl (sm _ _ ax0)⟩ x.1)
      rw [same x.1, gx] at gv
      refine ⟨rfl, .str x.1, rfl, .ref a, rfl, a, _, rfl, gv, true, rfl, iteT ?_⟩
      refine ⟨.ref a, rfl, .str x.1, rfl, a, .int x.2, rfl, gv, x.2, rfl, true, rfl, iteT ⟨.str x.1, rfl, _, eD, ?_, same_at sm nD, ?_⟩⟩
      · rw [List.length_map, List.length_map, List.length_take]
        have := be.few
        exact small1000 (by omega)
      · rw [upd_same, List.take_add_one, hx, List.map_append, List.map_append]
        rfl
    · rintro H' ⟨sm, eD⟩
      rw [intK_len, List.take_length] at eD
      have eF := sm _ _ (upd_same (H := H) (a := e) (o := HO.frz od (.dK (intK X))))
      have nDe : D ≠ e := fun z => by rw [z, eF] at eD; cases eD
      refine ⟨eF, ?_⟩
      have s2 : Same H (upd H' e (.dK (intK X))) := unlock be.un sm
      have eD2 : (upd H' e (.dK (intK X))) D = some (.lst ((X.map (·.1)).map V.str)) := by rw [upd_ne nDe]; exact eD
      generalize upd H' e (.dK (intK X)) = H2 at s2 eD2 ⊢
      clear sm eD eF H'
      refine ⟨.ref D, rfl, D, _, rfl, .inl (sl_map eD2), .ref e, rfl, e, _, rfl, s2 _ _ be.un, rfl, ?_⟩
      rw [intK_len, List.length_map, List.length_map, decide_eq_true rfl]
      refine ⟨true, rfl, iteT ?_⟩
      refine ⟨.ref D, rfl, D, rfl, ⟨_, sl_map eD2⟩, fun R nR => lc_list (xs := (X.map (·.1)).map V.str) (fun i H' => Same H2 H' ∧ H' R = some (.lst ((List.replicate i true).map V.bl))) ⟨same_new nR, upd_same⟩ (fun i H' _ h => h.1.seq (sl_map eD2)) ?_ ?_⟩
      · rintro i z H' hz ⟨sm, hd⟩
        rw [List.getElem?_map, List.getElem?_map] at hz
        obtain ⟨v, hv, rfl⟩ := Option.map_eq_some_iff.mp hz
        obtain ⟨x, hx, rfl⟩ := Option.map_eq_some_iff.mp hv
        have xm := List.mem_of_getElem? hx
        have gx := (aget_iff be.nd x.1 x.2).mpr xm
        have s3 := s2.trans sm
        have gv := (bm.same s3).ax.get x.1
        rw [same x.1, gx] at gv
        have ev := (be.same s3).ax.get x.1
        rw [gx] at ev
        have few := be.few
        have hi := (List.getElem?_eq_some_iff.mp hx).1
        refine ⟨rfl, .ref a, rfl, .str x.1, rfl, a, .int x.2, rfl, gv, .ref e, rfl, .str x.1, rfl, e, .int x.2, rfl, ev, rfl, ?_⟩
        rw [decide_eq_true rfl]
        refine ⟨_, hd, ?_, same_at sm nR, ?_⟩
        · rw [List.length_map, List.length_replicate]
          exact small1000 (by omega)
        · rw [upd_same, List.replicate_succ', List.map_append]
          rfl
      · rintro H' ⟨sm, hd⟩
        refine ⟨R, _, rfl, sl_map hd, ?_⟩
        rw [all_repl]
        exact q _ (s2.trans sm)
abbrev sVal : Stmt := topS 28
abbrev nVal : List Str := ["_law_names_here", "_law_row", "_law_values_here", "_law_k"]
theorem scVal : FnScope nVal ["_law_names_here", "_law_row"] (defScope sVal) := ⟨rfl, rfl, rfl, by decide +kernel, rfl, by decide +kernel, by decide +kernel⟩
def spVal : Sp := fun vs H Q _ => ∃ (l t : Addr) (ns : List Str) (r : List Int), vs = [.ref l, .ref t] ∧ H l = some (.lst (ns.map V.str)) ∧ H t = some (.tup (r.map V.int)) ∧ ns.length = r.length ∧ ns.Nodup ∧ ns.length ≤ 1000 ∧
  ∀ (H' : Hp) (d : Addr), Same H H' → H d = none → H' d = some (.dK (intK (ns.zip r))) → Q (.ref d) H'
theorem ok_Val {f  : Addr} {fd  : FuncData} (F : Fun K "_law_values" "_law_values" sVal f fd) (B : Bt mg) :
    FnOk P w K mg base CX0 1 f fd ["_law_names_here", "_law_row"] spVal := by
  refine F.ok scVal (fun vs H Q E h => ?_) (fun cdv A outer s H vs Q E hr h => ?_)
  · obtain ⟨l, t, ns, r, rfl, _⟩ := h
    rfl
  · obtain ⟨l, t, ns, r, rfl, el, et, len, nd0, n1000, q⟩ := h
    have hu := hu_of hr
    have nd := scVal.nd
    refine ⟨_, pss_cons (ps_set (i := 2) nd rfl (.inl rfl) pe_dnewK)
      (pss_cons (ps_for PassesOwn.never rfl (pi_range1 (by rfl) B.range (pa_cons (pe_callB call_len_seq (by rfl) B.len PySem.boot_len (pa_cons (pv 0) pa_nil)) pa_nil)) (pg_name (i := 3) nd rfl (.inl rfl))
        (pss_one (ps_dput hu (pv 2) (pe_ix ix_list (pv 0) (pv 3) (fun _ _ => rfl)) (pe_ix ix_tup (pv 1) (pv 3) (fun _ _ => rfl)) rfl)))
      (pss_one (ps_ret (pv 2)))), ?_⟩
    intro D nD
    have s0 := same_new (o := HO.dK []) nD
    have lz : (ns.zip r).length = ns.length := by rw [List.length_zip, len, Nat.min_self]
    refine ⟨_, rfl, l, _, rfl, .inl (sl_map (s0 _ _ el)), _, rfl, by omega, by rw [List.length_map]; omega, for_range (lo := 0) (n := (ns.map V.str).length) (fun j σ H' => ∃ (y3 : Option V), σ = [some (.ref l), some (.ref t), some (.ref D), y3] ∧ Same H H' ∧ H' D = some (.dK (intK ((ns.zip r).take j)))) ⟨none, rfl, s0, upd_same⟩ ?_ ?_⟩
    · rintro j σ H1 hj ⟨y3, rfl, s1, eD⟩
      rw [List.length_map] at hj
      obtain ⟨x, hx⟩ : ∃ x, ns[j]? = some x := ⟨_, List.getElem?_eq_getElem hj⟩
      obtain ⟨k, hk⟩ : ∃ k, r[j]? = some k := ⟨_, List.getElem?_eq_getElem (by omega)⟩
      have hk2 : (r.map V.int)[j]? = some (.int k) := by rw [List.getElem?_map, hk] <;> rfl
      have hx2 : (ns.map V.str)[j]? = some (.str x) := by rw [List.getElem?_map, hx] <;> rfl
      have hz : (ns.zip r)[j]? = some (x, k) := by rw [List.getElem?_zip_eq_some]; exact ⟨hx, hk⟩
      have nx : x ∉ ((ns.zip r).take j).map (·.1) := by
        have e : ((ns.zip r).take j).map (·.1) = ns.take j := by rw [List.map_take, List.map_fst_zip (by omega)]
        rw [e]; exact not_take nd0 hx
      refine ⟨_, rfl, _, rfl, t, _, _, .int k, rfl, rfl, .inl (.inl (s1 _ _ et)), at_eq (by omega) hk2, _, rfl, _, rfl, _, rfl, l, _, _, .str x, rfl, rfl, sl_map (s1 _ _ el), at_eq (by omega) hx2, D, _, rfl, DPut.k (k := .inr x) eD (by rw [intK_len, List.length_take]; exact small1000 (by omega)), ?_⟩
      refine ⟨_, rfl, same_at s1 nD, ?_⟩
      rw [upd_same, putK_int, putA_new nx, take_snoc hz]
    · rintro σ H1 ⟨y3, rfl, s1, eD⟩
      rw [List.length_map, ← lz, List.take_length] at eD
      exact ⟨_, rfl, q _ D s1 nD eD⟩
abbrev sIns : Stmt := topS 29
abbrev nIns : List Str := ["_law_row", "_law_names_here", "_law_sides_here", "_law_k"]
theorem scIns : FnScope nIns ["_law_row", "_law_names_here", "_law_sides_here"] (defScope sIns) := ⟨rfl, rfl, rfl, by decide +kernel, rfl, by decide +kernel, by decide +kernel⟩
def spIns : Sp := fun vs H Q _ => ∃ (t l b : Addr) (ns : List Str) (r : List Int) (L : List Ent) (S : Str → List Int), vs = [.ref t, .ref l, .ref b] ∧ H l = some (.lst (ns.map V.str)) ∧ H t = some (.tup (r.map V.int)) ∧ ns.length = r.length ∧ ns.length ≤ 1000 ∧ Bu H b L ∧ Fit L ns S ∧ Q (.bl (inB S ns r)) H
theorem ok_Ins {f  : Addr} {fd  : FuncData} (F : Fun K "_law_row_inside" "_law_row_inside" sIns f fd) (B : Bt mg) :
    FnOk P w K mg base CX0 1 f fd ["_law_row", "_law_names_here", "_law_sides_here"] spIns := by
  refine F.ok scIns (fun vs H Q E h => ?_) (fun cdv A outer s H vs Q E hr h => ?_)
  · obtain ⟨t, l, b, ns, r, L, S, rfl, _⟩ := h
    rfl
  · obtain ⟨t, l, b, ns, r, L, S, rfl, el, et, len, n1000, B1, F1, q⟩ := h
    have hu := hu_of hr
    have nd := scIns.nd
    refine ⟨_, pss_cons (ps_for PassesOwn.never rfl (pi_range1 (by rfl) B.range (pa_cons (pe_callB call_len_seq (by rfl) B.len PySem.boot_len (pa_cons (pv 1) pa_nil)) pa_nil)) (pg_name (i := 3) nd rfl (.inl rfl))
        (pss_one (ps_if (pt_cmpR (r := rIn K true) op_notIn_seq (pe_ix ix_tup (pv 0) (pv 3) (fun _ _ => rfl)) (pe_dget hu (pv 2) (pe_ix ix_list (pv 1) (pv 3) (fun _ _ => rfl)) (fun _ _ => rfl)) rfl)
            (pss_one (ps_ret pe_bl))
            pss_nil)))
      (pss_one (ps_ret pe_bl)), ?_⟩
    refine ⟨_, rfl, l, _, rfl, .inl (sl_map el), _, rfl, by omega, by rw [List.length_map]; omega, for_range (lo := 0) (n := (ns.map V.str).length) (fun j σ H' => ∃ (y3 : Option V), σ = [some (.ref t), some (.ref l), some (.ref b), y3] ∧ H' = H ∧ inB S (ns.take j) (r.take j) = true) ⟨none, rfl, rfl, rfl⟩ ?_ ?_⟩
    · rintro j σ H1 hj ⟨y3, rfl, rfl, al⟩
      rw [List.length_map] at hj
      obtain ⟨x, hx⟩ : ∃ x, ns[j]? = some x := ⟨_, List.getElem?_eq_getElem hj⟩
      obtain ⟨k, hk⟩ : ∃ k, r[j]? = some k := ⟨_, List.getElem?_eq_getElem (by omega)⟩
      obtain ⟨a, ga, ea⟩ := Fit.get B1 F1 (List.mem_of_getElem? hx)
      have hk2 : (r.map V.int)[j]? = some (.int k) := by rw [List.getElem?_map, hk] <;> rfl
      have hx2 : (ns.map V.str)[j]? = some (.str x) := by rw [List.getElem?_map, hx] <;> rfl
      refine ⟨_, rfl, _, rfl, t, _, _, .int k, rfl, rfl, .inl (.inl et), at_eq (by omega) hk2, _, rfl, _, rfl, _, rfl, l, _, _, .str x, rfl, rfl, sl_map el, at_eq (by omega) hx2, b, .ref a, rfl, ga, a, _, rfl, .inl (sl_map ea), rfl, flats_int _, ?_⟩
      rw [if_pos rfl, in_ints]
      refine ⟨_, rfl, ite_both (fun c => ?_) fun c => ?_⟩
      · have c2 : ¬ k ∈ S x := of_decide_eq_false (by simpa using c)
        have e : inB S ns r = false := by
          unfold inB
          refine Bool.eq_false_iff.mpr fun z => c2 ?_
          have m : (x, k) ∈ ns.zip r := List.mem_of_getElem? (i := j) (by rw [List.getElem?_zip_eq_some]; exact ⟨hx, hk⟩)
          exact of_decide_eq_true (List.all_eq_true.mp z _ m)
        rw [e] at q
        exact q
      · have c2 : k ∈ S x := of_decide_eq_true (by simpa using c)
        exact ⟨_, rfl, rfl, by rw [inB_app hx hk, al, decide_eq_true c2] <;> rfl⟩
    · rintro σ H1 ⟨y3, rfl, rfl, al⟩
      rw [List.length_map, List.take_length, len, List.take_length] at al
      rw [al] at q
      exact q
end
end K07
set_option Elab.async false
set_option linter.all false
set_option maxRecDepth 100000
set_option maxHeartbeats 4000000
namespace K07
open PySem PySem.Spec PyProof.Rows L2 Cs CsX
section
variable {H Hn H' : Hp} {s l q : Addr} {ts : List Row} {n : Nat} {r : List Int}
theorem RwG.go (g : RwG H Hn s l ts n) (k : Keep s Hn H') (st : Strm H' s) : RwG H H' s l ts n := ⟨g.keep.trans k, st, g.rw_.keep g.st g.ls k, g.ls, g.nl, g.few⟩
theorem RwG.push (g : RwG H Hn s l ts n) (e : Hn q = some (.tup (r.map V.int))) : RwG H (upd Hn l (.lst ((ts.map fun t => V.ref t.1) ++ [.ref q]))) s l (ts ++ [(q, r)]) (n + 1) :=
  ⟨g.keep.at_ g.nl, g.st.upd g.ls.symm, g.rw_.push (fun _ _ h => h) e, g.ls, g.nl, by rw [List.length_append]; have := g.few; show ts.length + 1 ≤ _; omega⟩
theorem RwG.up (g : RwG H Hn s l ts n) {m : Nat} (h : n ≤ m) : RwG H Hn s l ts m := ⟨g.keep, g.st, g.rw_, g.ls, g.nl, Nat.le_trans g.few h⟩
end
abbrev rLnS (K : PySem.W.Frag) : List V → Hp → VK → Prop := fun xs H Q => ∃ p ys, xs = [.ref p] ∧ (SqL K H p ys ∨ SqT K H p ys) ∧ Q (.int (ys.length : Nat)) H
section
variable {P : Program} {w : World} {K : PySem.W.Frag} {mg : Str → Option Value} {base : Heap}
abbrev sRws : Stmt := topS 24
abbrev nRws : List Str := ["_law_stream_here", "_law_scope", "_law_pool_here", "_law_many", "_law_rows_here", "_law_k", "_law_name"]
theorem scRws : FnScope nRws ["_law_stream_here", "_law_scope", "_law_pool_here", "_law_many"] (defScope sRws) := ⟨rfl, rfl, rfl, by decide +kernel, rfl, by decide +kernel, by decide +kernel⟩
def spRws : Sp := fun vs H Q _ => ∃ (s sc pl : Addr) (ns : List Str) (ps : List Int) (many : Nat), vs = [.ref s, .ref sc, .ref pl, .int (many : Int)] ∧ Strm H s ∧ H sc = some (.lst (ns.map V.str)) ∧ sc ≠ s ∧ H pl = some (.lst (ps.map V.int)) ∧ pl ≠ s ∧ 1 ≤ ps.length ∧ ps.length ≤ 100 ∧ ns.length ≤ 100 ∧ many ≤ 100 ∧
  ∀ (H' : Hp) (l : Addr) (ts : List Row), RwG H H' s l ts (many + 1) → (∀ r ∈ rws ts, r.length = ns.length) → Q (.ref l) H'
theorem ok_Rws {f f0 : Addr} {fd fd0 : FuncData} (F : Fun K "_law_rows" "_law_rows" sRws f fd) (B : Bt mg) (ztuple : mg "tuple" = none) (D : Call P w K mg base 1 "_law_next" f0 fd0 ["_law_stream_here", "_law_size"] spDraw) :
    FnOk P w K mg base CX0 2 f fd ["_law_stream_here", "_law_scope", "_law_pool_here", "_law_many"] spRws := by
  refine F.ok scRws (fun vs H Q E h => ?_) (fun cdv A outer s H vs Q E hr h => ?_)
  · obtain ⟨s, sc, pl, ns, ps, many, rfl, _⟩ := h
    rfl
  · obtain ⟨s, sc, pl, ns, ps, many, rfl, hs, esc, scs, epl, pls, p1, p100, n100, m100, q⟩ := h
    have hu := hu_of hr
    have nd := scRws.nd
    refine ⟨_, pss_cons (ps_set (i := 4) nd rfl (.inl rfl) (pe_lst pa_nil))
      (pss_cons (ps_for PassesOwn.never rfl (pi_range1 (by rfl) B.range (pa_cons (pv 3) pa_nil)) (pg_name (i := 5) nd rfl (.inl rfl))
        (pss_one (ps_expr (pe_bm PySem.F.plainAttrs_list PySem.F.slot_list_append PySem.F.type_list_append mt_append (pv 4) (pa_cons (pe_callTy call_tuple_of (by rfl) ztuple PyProof.Rows.boot_tuple (pa_cons (pe_lc (own := [("_law_name", 6)]) (g := gName 6) (tt := tYes)  rfl nd (pi_list (pv 1)) (blkOk_by (N := nRws) (sc := defScope sRws) (by decide +kernel)) (fun _ _ _ _ _ => pg_name (i := 6) nd rfl (.inl rfl)) (fun _ _ _ _ _ => pts_nil)
        (fun _ _ _ _ _ => (pe_ix (r := rIxL K) ix_list (pv 2) (pe_call D.ok (hr.mono (by decide)) (by rfl) D.at_ D.kp D.bd .nil pass0 (pa_cons (pv 0) (pa_cons (pe_callB (r := rLnS K) call_len_seq (by rfl) B.len PySem.boot_len (pa_cons (pv 2) pa_nil)) pa_nil))) (fun _ _ => rfl)))) pa_nil)) pa_nil)))))
      (pss_cons (ps_if (PW.pt (pw_and (pt_cmpR op_gt (pv 3) pe_int rfl) (pw_and1 (pt_cmpR op_eq (pe_call D.ok (hr.mono (by decide)) (by rfl) D.at_ D.kp D.bd .nil pass0 (pa_cons (pv 0) (pa_cons pe_int pa_nil))) pe_int rfl))))
        (pss_one (ps_expr (pe_bm PySem.F.plainAttrs_list PySem.F.slot_list_append PySem.F.type_list_append mt_append (pv 4) (pa_cons (pe_ix ix_list (pv 4) (pe_call D.ok (hr.mono (by decide)) (by rfl) D.at_ D.kp D.bd .nil pass0 (pa_cons (pv 0) (pa_cons (pv 3) pa_nil))) (fun _ _ => rfl)) pa_nil))))
        pss_nil)
      (pss_one (ps_ret (pv 4))))), ?_⟩
    refine ⟨by show 0 ≤ sizeLine; decide, fun R nR => ?_⟩
    have Rs : R ≠ s := fun z => hs.some (z ▸ nR)
    have g0 : RwG H (upd H R (.lst [])) s R [] 0 := ⟨(Keep.refl _ _).at_ nR, hs.upd Rs.symm, ⟨upd_same, (fun _ h => nomatch h)⟩, Rs, nR, Nat.zero_le _⟩
    refine ⟨_, rfl, many, rfl, by omega, by omega, for_range (lo := 0) (n := many) (fun j σ H' => ∃ (y5 y6 : Option V) (ts : List Row), σ = [some (.ref s), some (.ref sc), some (.ref pl), some (.int (many : Int)), some (.ref R), y5, y6] ∧ RwG H H' s R ts j ∧ ts.length = j ∧ ∀ r ∈ rws ts, r.length = ns.length) ⟨none, none, [], rfl, g0, rfl, (fun _ h => nomatch h)⟩ ?_ ?_⟩
    · rintro j σ H1 hj ⟨y5, y6, ts, rfl, g, lt, lens⟩
      have esc1 := g.keep _ _ scs esc
      have epl1 := g.keep _ _ pls epl
      refine ⟨_, rfl, .inl ⟨rfl, _, sl_map g.rw_.lst⟩, _, rfl, sc, rfl, ⟨_, sl_map esc1⟩, fun Z nZ => ?_⟩
      have Zs : Z ≠ s := fun z => g.st.some (z ▸ nZ)
      refine lc_list (xs := ns.map V.str) (fun i H' => Keep s H1 H' ∧ Strm H' s ∧ ∃ ks : List Int, H' Z = some (.lst (ks.map V.int)) ∧ ks.length = i) ⟨(Keep.refl _ _).at_ nZ, g.st.upd Zs.symm, [], upd_same, rfl⟩ (fun i H' _ h => sl_map (h.1 _ _ scs esc1)) ?_ ?_
      · rintro i x0 H2 hx0 ⟨k2, st2, ks, eZ, lk⟩
        have hi := (List.getElem?_eq_some_iff.mp hx0).1
        rw [List.length_map] at hi
        refine ⟨rfl, _, rfl, _, rfl, _, rfl, pl, _, rfl, .inl (sl_map (k2 _ _ pls epl1)), s, _, rfl, st2, by rw [List.length_map]; omega, by rw [List.length_map]; omega, fun H3 y o3 st3 y0 y1 => ?_⟩
        have k3 := k2.oth o3
        rw [List.length_map] at y1
        obtain ⟨m, rfl⟩ : ∃ m : Nat, y = (m : Int) := ⟨y.toNat, by omega⟩
        obtain ⟨v, hv⟩ : ∃ v, ps[m]? = some v := ⟨_, List.getElem?_eq_getElem (by omega)⟩
        refine ⟨pl, _, _, .int v, rfl, rfl, sl_map (k3 _ _ pls epl1), atI_nat (j := m) (by rw [List.getElem?_map, hv] <;> rfl), _, (o3 _ Zs).trans eZ, by rw [List.length_map]; exact small1000 (by omega), k3.at_ nZ, st3.upd Zs.symm, ks ++ [v], by rw [upd_same, List.map_append] <;> rfl, by rw [List.length_append, lk] <;> rfl⟩
      · rintro H2 ⟨k2, st2, ks, eZ, lk⟩
        rw [List.length_map] at lk
        refine ⟨Z, _, rfl, .inl ⟨sl_map eZ, fun T nT => ?_⟩⟩
        have Ts : T ≠ s := fun z => st2.some (z ▸ nT)
        have g3 := (g.go k2 st2).go (Keep.same (same_new (o := HO.tup (ks.map V.int)) nT)) (st2.upd Ts.symm)
        have g4 := g3.push (q := T) (r := ks) upd_same
        refine ⟨R, _, _, rfl, rfl, g3.rw_.lst, by have := g.few; rw [List.length_map]; exact small1000 (by omega), _, _, _, rfl, g4, by rw [List.length_append, lt] <;> rfl, fun r hr => ?_⟩
        replace hr : r ∈ (ts ++ ([(T, ks)] : List Row)).map (·.2) := hr
        rw [List.map_append] at hr
        rcases List.mem_append.mp hr with m | m
        · exact lens r m
        · rw [List.mem_singleton.mp m]; exact lk
    · rintro σ H1 ⟨y5, y6, ts, rfl, g, lt, lens⟩
      refine' with_restS (fun σ H' => ∃ (y5 y6 : Option V) (ts : List Row), σ = [some (.ref s), some (.ref sc), some (.ref pl), some (.int (many : Int)), some (.ref R), y5, y6] ∧ RwG H H' s R ts (many + 1) ∧ ∀ r ∈ rws ts, r.length = ns.length) ?r1 (fun rest => ⟨_, rfl, _, _, rfl, rfl, _, rfl, ite_both (fun c0 => ⟨_, rfl, s, 4, rfl, g.st, by decide, by decide, fun H2 y o2 st2 y0 y1 => ⟨rfl, _, rfl, ite_both (fun _ => ?g1) fun _ => rest _ _ ⟨_, _, ts, rfl, (g.go ((Keep.refl _ _).oth o2) st2).up (by omega), lens⟩⟩⟩) fun _ => rest _ _ ⟨_, _, ts, rfl, g.up (by omega), lens⟩⟩)
      case' g1 =>
        have g2 := g.go ((Keep.refl _ _).oth o2) st2
        have m1 : 0 < many := by have := of_decide_eq_true c0; omega
        refine ⟨_, rfl, .inl ⟨rfl, _, sl_map g2.rw_.lst⟩, _, rfl, _, rfl, _, rfl, s, many, rfl, st2, by omega, by omega, fun H3 y o3 st3 z0 z1 => ?_⟩
        have g3 := g2.go ((Keep.refl _ _).oth o3) st3
        obtain ⟨m, rfl⟩ : ∃ m : Nat, y = (m : Int) := ⟨y.toNat, by omega⟩
        obtain ⟨v, hv⟩ : ∃ v, ts[m]? = some v := ⟨_, List.getElem?_eq_getElem (by omega)⟩
        have vm := List.mem_of_getElem? hv
        refine ⟨R, _, _, .ref v.1, rfl, rfl, sl_map g3.rw_.lst, atI_nat (j := m) (by rw [List.getElem?_map, hv] <;> rfl), R, _, _, rfl, rfl, g3.rw_.lst, by rw [List.length_map]; exact small1000 (by omega), ?_⟩
        refine rest _ _ ⟨_, _, _, rfl, g3.push (r := v.2) (g3.rw_.tup v vm), fun r hr => ?_⟩
        replace hr : r ∈ (ts ++ ([(v.1, v.2)] : List Row)).map (·.2) := hr
        rw [List.map_append] at hr
        rcases List.mem_append.mp hr with m | m
        · exact lens r m
        · rw [List.mem_singleton.mp m]; exact lens _ (List.mem_map.mpr ⟨v, vm, rfl⟩)
      rintro σ H2 ⟨y5, y6, ts, rfl, g, lens⟩
      exact ⟨_, rfl, q _ R ts g lens⟩
end
end K07
set_option Elab.async false
set_option linter.all false
set_option maxRecDepth 100000
set_option maxHeartbeats 4000000
namespace K07
open PySem PySem.Spec PyProof.Rows L2 Cs CsX
section
variable {P : Program} {w : World} {K : PySem.W.Frag} {mg : Str → Option Value} {base : Heap}
abbrev sSom : Stmt := topS 30
abbrev nSom : List Str := ["_law_stream_here", "_law_names_here", "_law_pool_here", "_law_many"]
theorem scSom : FnScope nSom ["_law_stream_here", "_law_names_here", "_law_pool_here"] (defScope sSom) := ⟨rfl, rfl, rfl, by decide +kernel, rfl, by decide +kernel, by decide +kernel⟩
def spSom : Sp := fun vs H Q _ => ∃ (s sc pl : Addr) (ns : List Str) (ps : List Int), vs = [.ref s, .ref sc, .ref pl] ∧ Strm H s ∧ H sc = some (.lst (ns.map V.str)) ∧ sc ≠ s ∧ H pl = some (.lst (ps.map V.int)) ∧ pl ≠ s ∧ 1 ≤ ps.length ∧ ps.length ≤ 100 ∧ ns.length ≤ 100 ∧
  ∀ (H' : Hp) (l : Addr) (ts : List Row), RwG H H' s l ts 70 → (∀ r ∈ rws ts, r.length = ns.length) → Q (.ref l) H'
theorem ok_Som {f f0 f1 : Addr} {fd fd0 fd1 : FuncData} (F : Fun K "_law_some_rows" "_law_some_rows" sSom f fd) (B : Bt mg) (D : Call P w K mg base 1 "_law_next" f0 fd0 ["_law_stream_here", "_law_size"] spDraw)
    (CRws : Call P w K mg base 2 "_law_rows" f1 fd1 ["_law_stream_here", "_law_scope", "_law_pool_here", "_law_many"] spRws) : FnOk P w K mg base CX0 3 f fd ["_law_stream_here", "_law_names_here", "_law_pool_here"] spSom := by
  refine F.ok scSom (fun vs H Q E h => ?_) (fun cdv A outer s H vs Q E hr h => ?_)
  · obtain ⟨s, sc, pl, ns, ps, rfl, _⟩ := h
    rfl
  · obtain ⟨s, sc, pl, ns, ps, rfl, hs, esc, scs, epl, pls, p1, p100, n100, q⟩ := h
    have hu := hu_of hr
    have nd := scSom.nd
    refine ⟨_, pss_cons (ps_set (i := 3) nd rfl (.inl rfl) (pe_call D.ok (hr.mono (by decide)) (by rfl) D.at_ D.kp D.bd .nil pass0 (pa_cons (pv 0) (pa_cons pe_int pa_nil))))
      (pss_cons (ps_if (pt_cmpR op_eq (pe_call D.ok (hr.mono (by decide)) (by rfl) D.at_ D.kp D.bd .nil pass0 (pa_cons (pv 0) (pa_cons pe_int pa_nil))) pe_int rfl)
        (pss_one (ps_set (i := 3) nd rfl (.inl rfl) (pe_op op_add (pv 3) pe_int)))
        pss_nil)
      (pss_one (ps_ret (pe_call CRws.ok (hr.mono (by decide)) (by rfl) CRws.at_ CRws.kp CRws.bd .nil pass0 (pa_cons (pv 0) (pa_cons (pv 1) (pa_cons (pv 2) (pa_cons (pv 3) pa_nil)))))))), ?_⟩
    refine ⟨_, rfl, s, 9, rfl, hs, by decide, by decide, fun H1 y o1 st1 y0 y1 => ?_⟩
    obtain ⟨m, rfl⟩ : ∃ m : Nat, y = (m : Int) := ⟨y.toNat, by omega⟩
    have k1 : Keep s H H1 := (Keep.refl _ _).oth o1
    refine ⟨_, rfl, s, 6, rfl, st1, by decide, by decide, fun H2 z o2 st2 z0 z1 => ?_⟩
    have k2 := k1.oth o2
    refine' with_restS (fun σ H' => ∃ (m : Nat), σ = [some (.ref s), some (.ref sc), some (.ref pl), some (.int (m : Int))] ∧ H' = H2 ∧ m ≤ 66) ?r1 (fun rest => ⟨rfl, _, rfl, ite_both (fun _ => ?g1) fun _ => rest _ _ ⟨m, rfl, rfl, by omega⟩⟩)
    case' g1 =>
      refine ⟨_, rfl, _, _, rfl, rfl, ?_⟩
      exact rest _ _ ⟨m + 57, rfl, rfl, by omega⟩
    rintro σ H' ⟨m, rfl, rfl, hm⟩
    exact ⟨_, rfl, _, rfl, _, rfl, _, rfl, s, sc, pl, ns, ps, m, rfl, st2, k2 _ _ scs esc, scs, k2 _ _ pls epl, pls, p1, p100, n100, by omega, fun H3 l ts g lens => q _ l ts ⟨k2.trans g.keep, g.st, g.rw_, g.ls, k2.free st2 g.nl, by have := g.few; omega⟩ lens⟩
abbrev sPas : Stmt := topS 33
abbrev nPas : List Str := ["_law_rows_here", "_law_first", "_law_passed_here", "_law_row"]
theorem scPas : FnScope nPas ["_law_rows_here", "_law_first"] (defScope sPas) := ⟨rfl, rfl, rfl, by decide +kernel, rfl, by decide +kernel, by decide +kernel⟩
def spPas : Sp := fun vs H Q _ => ∃ (l : Addr) (ts : List Row) (first : Int), vs = [.ref l, .int first] ∧ RwL H l ts ∧ ts.length ≤ 400 ∧ 0 ≤ first ∧ first ≤ 1000 ∧
  ∀ (H' : Hp) (r : Addr) (us : List Row), Same H H' → H r = none → H' r = some (.lst (us.map fun u => V.ref u.1)) → (∀ u ∈ us, Rwh H' u) → rws us = rws ts → Q (.ref r) H'
theorem ok_Pas {f  : Addr} {fd  : FuncData} (F : Fun K "_law_passed" "_law_passed" sPas f fd) (B : Bt mg) :
    FnOk P w K mg base CX0 1 f fd ["_law_rows_here", "_law_first"] spPas := by
  refine F.ok scPas (fun vs H Q E h => ?_) (fun cdv A outer s H vs Q E hr h => ?_)
  · obtain ⟨l, ts, first, rfl, _⟩ := h
    rfl
  · obtain ⟨l, ts, first, rfl, rl, few, f0, f1, q⟩ := h
    have hu := hu_of hr
    have nd := scPas.nd
    refine ⟨_, pss_cons (ps_set (i := 2) nd rfl (.inl rfl) (pe_lst pa_nil))
      (pss_cons (ps_for PassesOwn.never rfl (pi_list (pv 0)) (pg_name (i := 3) nd rfl (.inl rfl))
        (pss_one (ps_if (pt_cmpR op_eq (pe_op op_mod (pe_callTy call_int1 (by rfl) B.int PyProof.Rows.boot_int (pa_cons (pe_op op_add (pe_callB call_len_seq (by rfl) B.len PySem.boot_len (pa_cons (pv 2) pa_nil)) (pv 1)) pa_nil)) pe_int) pe_int rfl)
            (pss_one (ps_expr (pe_bm PySem.F.plainAttrs_list PySem.F.slot_list_append PySem.F.type_list_append mt_append (pv 2) (pa_cons (pe_callTy call_list_of (by rfl) B.list PyProof.Rows.boot_list (pa_cons (pv 3) pa_nil)) pa_nil))))
            (pss_one (ps_expr (pe_bm PySem.F.plainAttrs_list PySem.F.slot_list_append PySem.F.type_list_append mt_append (pv 2) (pa_cons (pv 3) pa_nil)))))))
      (pss_one (ps_ret (pv 2)))), ?_⟩
    refine ⟨by show 0 ≤ sizeLine; decide, fun R nR => ?_⟩
    have s0 := same_new (o := HO.lst []) nR
    refine ⟨_, rfl, l, rfl, ⟨_, sl_map (s0 _ _ rl.lst)⟩, for_list (xs := ts.map fun t => V.ref t.1) (fun i σ H' => ∃ (y3 : Option V) (us : List Row), σ = [some (.ref l), some (.int first), some (.ref R), y3] ∧ Same H H' ∧ H' R = some (.lst (us.map fun u => V.ref u.1)) ∧ (∀ u ∈ us, Rwh H' u ∧ u.1 ≠ R) ∧ rws us = (rws ts).take i)
      ⟨none, [], rfl, s0, upd_same, (fun _ h => nomatch h), rfl⟩ (fun i σ H' _ h => by obtain ⟨_, _, _, h, _⟩ := h; exact sl_map (h _ _ rl.lst)) ?_ ?_⟩
    · rintro i x0 σ H1 hx0 ⟨y3, us, rfl, s1, eR, rh, eu⟩
      rw [List.getElem?_map] at hx0
      obtain ⟨t, ht, rfl⟩ := Option.map_eq_some_iff.mp hx0
      have hi := (List.getElem?_eq_some_iff.mp ht).1
      have lu : us.length = i := by have := congrArg List.length eu; rw [List.length_take, List.length_map, List.length_map] at this; omega
      have et := s1 _ _ (rl.tup t (List.mem_of_getElem? ht))
      have fin : ∀ {H2 : Hp} {a : Addr}, Same H1 H2 → Rwh H2 (a, t.2) → a ≠ R → Same H (upd H2 R (.lst ((us.map fun u => V.ref u.1) ++ [.ref a]))) ∧ (upd H2 R (.lst ((us.map fun u => V.ref u.1) ++ [.ref a]))) R = some (.lst ((us ++ ([(a, t.2)] : List Row)).map fun u => V.ref u.1)) ∧ (∀ u ∈ us ++ ([(a, t.2)] : List Row), Rwh (upd H2 R (.lst ((us.map fun u => V.ref u.1) ++ [.ref a]))) u ∧ u.1 ≠ R) ∧ rws (us ++ ([(a, t.2)] : List Row)) = (rws ts).take (i + 1) := fun {H2 a} s2 ra aR => by
        have up : ∀ {u : Row} {o : HO}, Rwh H2 u → u.1 ≠ R → Rwh (upd H2 R o) u := fun h n => h.elim (fun e => .inl (by rw [upd_ne n]; exact e)) fun e => .inr (by rw [upd_ne n]; exact e)
        refine ⟨same_at (s1.trans s2) nR, by rw [upd_same, List.map_append] <;> rfl, fun u hu => ?_, ?_⟩
        · rcases List.mem_append.mp hu with m | m
          · exact ⟨up ((rh u m).1.same s2) (rh u m).2, (rh u m).2⟩
          · rw [List.mem_singleton.mp m]; exact ⟨up ra aR, aR⟩
        · rw [take_snoc (show (rws ts)[i]? = some t.2 by rw [List.getElem?_map, ht] <;> rfl), ← eu]
          show List.map _ _ = _
          rw [List.map_append] <;> rfl
      refine ⟨_, rfl, R, _, rfl, .inl (sl_map eR), _, rfl, _, _, rfl, rfl, .inl ⟨_, rfl, _, _, rfl, rfl, (by show (0 : Int) < 2; decide), rfl, _, rfl, ite_both (fun _ => ?_) fun _ => ?_⟩⟩
      · refine ⟨_, rfl, .inl ⟨rfl, _, sl_map eR⟩, _, rfl, t.1, _, rfl, .inr (.inl (.inl et)), fun a na => ?_⟩
        have s2 := same_new (o := HO.lst (t.2.map V.int)) na
        have aR : a ≠ R := fun z => by rw [z, eR] at na; cases na
        obtain ⟨p1, p2, p3, p4⟩ := fin s2 (.inl upd_same) aR
        exact ⟨R, _, _, rfl, rfl, s2 _ _ eR, by rw [List.length_map]; exact small1000 (by omega), _, _, rfl, p1, p2, p3, p4⟩
      · have tR : t.1 ≠ R := fun z => by rw [z, eR] at et; cases et
        obtain ⟨p1, p2, p3, p4⟩ := fin (fun _ _ h => h) (a := t.1) (.inr et) tR
        exact ⟨_, rfl, .inl ⟨rfl, _, sl_map eR⟩, _, rfl, R, _, _, rfl, rfl, eR, by rw [List.length_map]; exact small1000 (by omega), _, _, rfl, p1, p2, p3, p4⟩
    · rintro σ H1 ⟨y3, us, rfl, s1, eR, rh, eu⟩
      rw [List.length_map, show ts.length = (rws ts).length from (List.length_map _).symm, List.take_length] at eu
      exact ⟨_, rfl, q _ R us s1 nR eR (fun u hu => (rh u hu).1) eu⟩
end
end K07
set_option Elab.async false
set_option linter.all false
set_option maxRecDepth 100000
set_option maxHeartbeats 4000000
namespace K07
open PySem PySem.Spec PyProof.Rows L2 Cs CsX
section
variable {P : Program} {w : World} {K : PySem.W.Frag} {mg : Str → Option Value} {base : Heap}
abbrev sGiv : Stmt := topS 32
abbrev nGiv : List Str := ["_law_stream_here", "_law_names_here", "_law_sides_here", "_law_pool_here", "_law_at", "_law_given_here", "_law_name"]
theorem scGiv : FnScope nGiv ["_law_stream_here", "_law_names_here", "_law_sides_here", "_law_pool_here"] (defScope sGiv) := ⟨rfl, rfl, rfl, by decide +kernel, rfl, by decide +kernel, by decide +kernel⟩
def spGiv : Sp := fun vs H Q _ => ∃ (H0 : Hp) (s nl b pl : Addr) (ns : List Str) (ps : List Int) (L : List Ent) (S : Str → List Int), vs = [.ref s, .ref nl, .ref b, .ref pl] ∧ Strm H s ∧ H nl = some (.lst (ns.map V.str)) ∧ nl ≠ s ∧ H pl = some (.lst (ps.map V.int)) ∧ pl ≠ s ∧ ps.length ≤ 100 ∧ 1 ≤ ns.length ∧ ns.length ≤ 12 ∧ (∀ x ∈ ns, nmOk x = true) ∧ Nb H0 H b L ∧ H0 s ≠ none ∧ Fit L ns S ∧
  ∀ (H' : Hp) (d : Addr) (M : List Ent), Keep s H H' → Strm H' s → Nb H H' d M → M.length ≤ ns.length + 1 → Fit M ns S → Q (.ref d) H'
theorem ok_Giv {f f0 f1 : Addr} {fd fd0 fd1 : FuncData} (F : Fun K "_law_given" "_law_given" sGiv f fd) (B : Bt mg) (D : Call P w K mg base 1 "_law_next" f0 fd0 ["_law_stream_here", "_law_size"] spDraw)
    (Cpa : Call P w K mg base 2 "_law_part" f1 fd1 ["_law_stream_here", "_law_side"] (spPart K)) : FnOk P w K mg base CX0 3 f fd ["_law_stream_here", "_law_names_here", "_law_sides_here", "_law_pool_here"] spGiv := by
  refine F.ok scGiv (fun vs H Q E h => ?_) (fun cdv A outer s H vs Q E hr h => ?_)
  · obtain ⟨H0, s, nl, b, pl, ns, ps, L, S, rfl, _⟩ := h
    rfl
  · obtain ⟨H0, s, nl, b, pl, ns, ps, L, S, rfl, hs, en, ns_, ep, ps_, p100, n1, n12, nms, nb, h0s, fit, q⟩ := h
    have hu := hu_of hr
    have nd := scGiv.nd
    refine ⟨_, pss_cons (ps_set (i := 4) nd rfl (.inl rfl) (pe_call D.ok (hr.mono (by decide)) (by rfl) D.at_ D.kp D.bd .nil pass0 (pa_cons (pv 0) (pa_cons (pe_callB call_len_seq (by rfl) B.len PySem.boot_len (pa_cons (pv 1) pa_nil)) pa_nil))))
      (pss_cons (ps_set (i := 5) nd rfl (.inl rfl) pe_dnewK)
      (pss_cons (ps_if (pt_cmpR op_eq (pe_call D.ok (hr.mono (by decide)) (by rfl) D.at_ D.kp D.bd .nil pass0 (pa_cons (pv 0) (pa_cons pe_int pa_nil))) pe_int rfl)
        (pss_one (ps_dput hu (pv 5) (pe_op op_add_str (pe_ix ix_list (pv 1) (pv 4) (fun _ _ => rfl)) pe_str) (pe_slice sl_list (pe_call Cpa.ok (hr.mono (by decide)) (by rfl) Cpa.at_ Cpa.kp Cpa.bd .nil pass0 (pa_cons (pv 0) (pa_cons (pv 3) pa_nil))) po_none (po_some (pe_call D.ok (hr.mono (by decide)) (by rfl) D.at_ D.kp D.bd .nil pass0 (pa_cons (pv 0) (pa_cons pe_int pa_nil))))) rfl))
        pss_nil)
      (pss_cons (ps_for PassesOwn.never rfl (pi_list (pe_op op_cat (pe_slice sl_list (pv 1) (po_some (pv 4)) po_none) (pe_slice sl_list (pv 1) po_none (po_some (pv 4))))) (pg_name (i := 6) nd rfl (.inl rfl))
        (pss_one (ps_dput hu (pv 5) (pv 6) (pe_callTy call_list_of (by rfl) B.list PyProof.Rows.boot_list (pa_cons (pe_dget hu (pv 2) (pv 6) (fun _ _ => rfl)) pa_nil)) rfl)))
      (pss_one (ps_ret (pv 5)))))), ?_⟩
    refine ⟨_, rfl, _, rfl, nl, _, rfl, .inl (sl_map en), s, _, rfl, hs, by rw [List.length_map]; omega, by rw [List.length_map]; omega, fun H1 y o1 st1 y0 y1 => ?_⟩
    rw [List.length_map] at y1
    obtain ⟨at_, rfl⟩ : ∃ m : Nat, y = (m : Int) := ⟨y.toNat, by omega⟩
    have k1 : Keep s H H1 := (Keep.refl _ _).oth o1
    intro D nD
    have Ds : D ≠ s := fun z => st1.some (z ▸ nD)
    have nDH := k1.free st1 nD
    have k2 : Keep s H (upd H1 D (.dK [])) := k1.at_ nDH
    have st2 := st1.upd (o := HO.dK []) Ds.symm
    have nb2 : Nb H (upd H1 D (.dK [])) D [] := Nb.nil nDH upd_same
    generalize upd H1 D (.dK []) = H2 at k2 st2 nb2 ⊢
    obtain ⟨x0, hx0⟩ : ∃ x0, ns[at_]? = some x0 := ⟨_, List.getElem?_eq_getElem (by omega)⟩
    have len0 : x0.length ≤ 70 := by
      have := nms x0 (List.mem_of_getElem? hx0)
      unfold nmOk at this
      exact of_decide_eq_true (Bool.and_eq_true_iff.mp this).2
    refine' with_restS (fun σ H' => ∃ (M : List Ent), σ = [some (.ref s), some (.ref nl), some (.ref b), some (.ref pl), some (.int (at_ : Int)), some (.ref D), none] ∧ Keep s H H' ∧ Strm H' s ∧ Nb H H' D M ∧ M.length ≤ 1) ?r1 (fun rest => ⟨_, rfl, s, 2, rfl, st2, by decide, by decide, fun H3 z o3 st3 z0 z1 => ⟨rfl, _, rfl, ite_both (fun _ => ?g1) fun _ => rest _ _ ⟨[], rfl, k2.oth o3, st3, nb2.keep hs.some ((Keep.refl _ _).oth o3), Nat.zero_le _⟩⟩⟩)
    case' g1 =>
      have k3 := k2.oth o3
      have nb3 := nb2.keep hs.some ((Keep.refl _ _).oth o3)
      refine ⟨_, rfl, _, rfl, s, pl, ps, rfl, st3, k3 _ _ ps_ ep, ps_.symm, by omega, fun H4 l ms k4 nl4 st4 el4 sub => ?_⟩
      refine ⟨_, rfl, s, 3, rfl, st4, by decide, by decide, fun H5 z5 o5 st5 w0 w1 => ?_⟩
      have ls : l ≠ s := fun z => st3.some (z ▸ nl4)
      obtain ⟨j5, rfl⟩ : ∃ m : Nat, z5 = (m : Int) := ⟨z5.toNat, by omega⟩
      have k5 := (k3.trans k4).oth o5
      have nb5 := (nb3.keep hs.some k4).keep hs.some ((Keep.refl _ _).oth o5)
      refine ⟨_, rfl, l, _, rfl, sl_map ((o5 _ ls).trans el4), fun Y nY => ?_⟩
      rw [cutV_to, ← List.map_take]
      have sY := same_new (o := HO.lst ((ms.take j5).map V.int)) nY
      have nYH := k5.free st5 nY
      have Ys : Y ≠ s := fun z => st5.some (z ▸ nY)
      have st6 := st5.upd (o := HO.lst ((ms.take j5).map V.int)) Ys.symm
      have k6 : Keep s H (upd H5 Y (.lst ((ms.take j5).map V.int))) := k5.at_ nYH
      have fY : (upd H5 Y (.lst ((ms.take j5).map V.int))) Y = some (.lst ((ms.take j5).map V.int)) := upd_same
      have nb6 := nb5.put (x := x0 ++ "_") nYH nY sY fY (by show 0 + 1 ≤ 40; decide)
      have un6 := (nb5.push sY).un
      generalize upd H5 Y (.lst ((ms.take j5).map V.int)) = H6 at st6 k6 nb6 un6 fY ⊢
      refine ⟨_, rfl, _, rfl, _, rfl, nl, _, _, .str x0, rfl, rfl, sl_map (k6 _ _ ns_ en), atI_nat (j := at_) (by rw [List.getElem?_map, hx0] <;> rfl), x0, "_", rfl, rfl, Nat.le_trans (Nat.add_le_add_right len0 _) (by decide), D, _, rfl, DPut.k (k := .inr (x0 ++ "_")) un6 (by show 0 < sizeLine; decide), ?_⟩
      rw [putK_ent (s := ms.take j5)]
      exact rest _ _ ⟨_, rfl, k6.at_ nDH, st6.upd Ds.symm, nb6, by have := putE_len [] (x0 ++ "_") Y (ms.take j5); exact this⟩
    rintro σ H3 ⟨M, rfl, k3, st3, nb3, lM⟩
    have en3 := k3 _ _ ns_ en
    refine ⟨_, rfl, _, rfl, _, rfl, nl, _, rfl, sl_map en3, fun Y1 n1 => ?_⟩
    rw [cutV_from, ← List.map_drop]
    have s1 := same_new (o := HO.lst ((ns.drop at_).map V.str)) n1
    refine ⟨_, rfl, _, rfl, _, rfl, nl, _, rfl, sl_map (s1 _ _ en3), fun Y2 n2 => ?_⟩
    rw [cutV_to, ← List.map_take]
    have s2 := same_new (o := HO.lst ((ns.take at_).map V.str)) n2
    refine ⟨Y1, Y2, _, _, rfl, rfl, s2 _ _ upd_same, upd_same, by rw [List.length_map, List.length_map, List.length_drop, List.length_take]; exact Nat.le_of_lt (small1000 (by omega)), fun Y3 n3 => ?_⟩
    rw [← List.map_append]
    have s3 := same_new (o := HO.lst ((ns.drop at_ ++ ns.take at_).map V.str)) n3
    have S3 := s1.trans (s2.trans s3)
    have f3 := upd_same (H := upd (upd H3 Y1 (.lst ((ns.drop at_).map V.str))) Y2 (.lst ((ns.take at_).map V.str))) (a := Y3) (o := HO.lst ((ns.drop at_ ++ ns.take at_).map V.str))
    generalize upd (upd (upd H3 Y1 (.lst ((ns.drop at_).map V.str))) Y2 (.lst ((ns.take at_).map V.str))) Y3 (.lst ((ns.drop at_ ++ ns.take at_).map V.str)) = H4 at S3 f3 ⊢
    obtain ⟨rot, hrot⟩ : ∃ rot, rot = ns.drop at_ ++ ns.take at_ := ⟨_, rfl⟩
    rw [← hrot] at f3
    have mem : ∀ x, x ∈ rot ↔ x ∈ ns := fun x => by
      rw [hrot, List.mem_append]
      constructor
      · rintro (h | h)
        · exact List.mem_of_mem_drop h
        · exact List.mem_of_mem_take h
      · intro h
        rw [← List.take_append_drop at_ ns] at h
        exact (List.mem_append.mp h).symm
    have lrot : rot.length = ns.length := by rw [hrot, List.length_append, List.length_drop, List.length_take]; omega
    have k4 : Keep s H H4 := k3.trans (Keep.same S3)
    have st4 : Strm H4 s := by obtain ⟨x, y, w, e⟩ := st3; exact ⟨x, y, w, S3 _ _ e⟩
    have nb4 := nb3.push S3
    have nbL := nb.keep h0s k4
    have Y3D : Y3 ≠ D := fun z => by have := nb4.un; rw [← z, f3] at this; cases this
    refine ⟨Y3, rfl, ⟨_, sl_map f3⟩, for_list (xs := rot.map V.str) (fun i σ H' => ∃ (y6 : Option V) (M : List Ent), σ = [some (.ref s), some (.ref nl), some (.ref b), some (.ref pl), some (.int (at_ : Int)), some (.ref D), y6] ∧ Keep D H4 H' ∧ Nb H H' D M ∧ M.length ≤ 1 + i ∧ ∀ x ∈ rot.take i, look M x = some (S x))
      ⟨_, M, rfl, Keep.refl _ _, nb4, by omega, (fun _ h => nomatch h)⟩ (fun i σ H' _ h => by obtain ⟨_, _, _, h, _⟩ := h; exact sl_map (h _ _ Y3D f3)) ?_ ?_⟩
    · rintro i v0 σ H5 hv0 ⟨y6, M, rfl, k5, nb5, lM, lk⟩
      rw [List.getElem?_map] at hv0
      obtain ⟨x, hx, rfl⟩ := Option.map_eq_some_iff.mp hv0
      have hi := (List.getElem?_eq_some_iff.mp hx).1
      have kk : Keep s H H5 := fun b o n e => k5 _ _ (fun z => by rw [z, nDH] at e; cases e) (k4 _ _ n e)
      have st5 : Strm H5 s := by obtain ⟨x, y, w, e⟩ := st4; exact ⟨x, y, w, k5 _ _ Ds.symm e⟩
      have bD : b ≠ D := fun z => by have := nb.un; rw [z, nDH] at this; cases this
      have bu5 : Bu H5 b L := ⟨⟨.inl (k5 _ _ bD nbL.un), fun g hg => k5 _ _ (fun z => by have := nb.sides g hg; rw [z, nDH] at this; cases this) (nbL.sides g hg), nbL.nd, nbL.few⟩, k5 _ _ bD nbL.un⟩
      obtain ⟨a, ga, ea⟩ := Fit.get bu5 fit ((mem x).mp (List.mem_of_getElem? hx))
      refine ⟨_, rfl, _, rfl, b, .ref a, rfl, ga, a, _, rfl, .inl (sl_map ea), fun Y nY => ?_⟩
      have sY := same_new (o := HO.lst ((S x).map V.int)) nY
      have nYH := kk.free st5 nY
      have fY : (upd H5 Y (.lst ((S x).map V.int))) Y = some (.lst ((S x).map V.int)) := upd_same
      have nb6 := nb5.put (x := x) nYH nY sY fY (by omega)
      have un6 := (nb5.push sY).un
      refine ⟨_, rfl, _, rfl, D, _, rfl, DPut.k (k := .inr x) un6 (by rw [entK_len]; exact small1000 (by omega)), ?_⟩
      rw [putK_ent (s := S x)]
      refine ⟨_, _, rfl, fun b o n e => by rw [upd_ne n]; exact sY _ _ (k5 _ _ n e), nb6, by have := putE_len M x Y (S x); omega, fun z hz => ?_⟩
      rw [look_put]
      by_cases c : z = x
      · rw [if_pos c, c]
      · rw [if_neg c]
        rw [take_snoc hx] at hz
        rcases List.mem_append.mp hz with h | h
        · exact lk z h
        · exact absurd (List.mem_singleton.mp h) c
    · rintro σ H5 ⟨y6, M, rfl, k5, nb5, lM, lk⟩
      rw [List.length_map] at lM lk
      rw [List.take_length] at lk
      have kk : Keep s H H5 := fun b o n e => k5 _ _ (fun z => by rw [z, nDH] at e; cases e) (k4 _ _ n e)
      have st5 : Strm H5 s := by obtain ⟨x, y, w, e⟩ := st4; exact ⟨x, y, w, k5 _ _ Ds.symm e⟩
      exact ⟨_, rfl, q _ D M kk st5 nb5 (by omega) fun x hx => lk x ((mem x).mpr hx)⟩
end
end K07
set_option Elab.async false
set_option linter.all false
set_option maxRecDepth 100000
set_option maxHeartbeats 4000000
namespace K07
open PySem PySem.Spec PyProof.Rows L2 Cs CsX
/-- a box of these names in the making, where a stream is drawn from -/
structure Bg (H H' : Hp) (s b : Addr) (ns : List Str) (N : List Ent) (c : Nat) : Prop where
  nb : Nb H H' b N
  keep : Keep s H H'
  st : Strm H' s
  keys : N.map (·.1) = ns
  srt : ∀ g ∈ N, Srt g.2.2 ∧ g.2.2.length ≤ c
section
variable {H H1 H3 : Hp} {s b Y : Addr} {ns : List Str} {N : List Ent} {c : Nat} {x : Str} {ks : List Int}
theorem Bg.go (g : Bg H H1 s b ns N c) (hs : Strm H s) (k : Keep s H1 H3) (st : Strm H3 s) : Bg H H3 s b ns N c := ⟨g.nb.keep hs.some k, g.keep.trans k, st, g.keys, g.srt⟩
theorem Bg.same (g : Bg H H1 s b ns N c) (hs : Strm H s) (k : Same H1 H3) : Bg H H3 s b ns N c := g.go hs (Keep.same k) (by obtain ⟨x, y, w, e⟩ := g.st; exact ⟨x, y, w, k _ _ e⟩)
theorem Bg.up (g : Bg H H1 s b ns N c) {c' : Nat} (h : c ≤ c') : Bg H H1 s b ns N c' := ⟨g.nb, g.keep, g.st, g.keys, fun e he => ⟨(g.srt e he).1, Nat.le_trans (g.srt e he).2 h⟩⟩
theorem Bg.put (g : Bg H H1 s b ns N c) (nY : H1 Y = none) (s3 : Same H1 H3) (eY : H3 Y = some (.lst (ks.map V.int))) (hx : x ∈ ns) (sk : Srt ks) (lk : ks.length ≤ c) (n30 : ns.length ≤ 30) : Bg H (upd H3 b (.dK (entK (putE N x Y ks)))) s b ns (putE N x Y ks) c := by
  have bs : b ≠ s := fun z => by
    obtain ⟨x, y, w, e⟩ := g.st
    have := g.nb.un
    rw [z, e] at this; cases this
  have xk : x ∈ N.map (·.1) := by rw [g.keys]; exact hx
  have ky := putE_keys N x Y ks
  rw [if_pos xk] at ky
  have ln : (putE N x Y ks).length = N.length := by have := congrArg List.length ky; rw [List.length_map, List.length_map] at this; exact this
  refine ⟨?_, (g.keep.trans (Keep.same s3)).at_ g.nb.fresh, ?_, ky.trans g.keys, fun e he => ?_⟩
  · have l1 : N.length = ns.length := by rw [← g.keys, List.length_map]
    exact g.nb.put (g.keep.free g.st nY) nY s3 eY (by omega)
  · obtain ⟨x', y, w, e⟩ := g.st
    exact ⟨x', y, w, by rw [upd_ne bs.symm]; exact s3 _ _ e⟩
  · rcases putE_mem he with z | ⟨z, _⟩
    · rw [z]; exact ⟨sk, lk⟩
    · exact g.srt e z
theorem Bg.get (g : Bg H H1 s b ns N c) (hx : x ∈ ns) : ∃ a ks, DGet H1 b (.str x) (some (.ref a)) ∧ H1 a = some (.lst (ks.map V.int)) ∧ Srt ks ∧ ks.length ≤ c := by
  rw [← g.keys] at hx
  obtain ⟨e, he, rfl⟩ := List.mem_map.mp hx
  have h := g.nb.toBu.toBx.get e.1
  rw [getE_of g.nb.nd he] at h
  exact ⟨e.2.1, e.2.2, h, g.nb.sides e he, (g.srt e he).1, (g.srt e he).2⟩
theorem Bg.get2 (g : Bg H H1 s b ns N c) (hx : x ∈ ns) : ∃ a ks, (x, a, ks) ∈ N ∧ DGet H1 b (.str x) (some (.ref a)) ∧ H1 a = some (.lst (ks.map V.int)) ∧ Srt ks := by
  rw [← g.keys] at hx
  obtain ⟨e, he, rfl⟩ := List.mem_map.mp hx
  have h := g.nb.toBu.toBx.get e.1
  rw [getE_of g.nb.nd he] at h
  exact ⟨e.2.1, e.2.2, he, h, g.nb.sides e he, (g.srt e he).1⟩
theorem Bg.hole (g : Bg H H1 s b ns N c) (hs : Strm H s) (nY : H1 Y = none) (Ys : Y ≠ s) (k : Keep s H1 H3) (st : Strm H3 s) : ∃ G, Bg H G s b ns N c ∧ G Y = none ∧ Same G H3 := by
  refine ⟨fun a => if a = Y then none else H3 a, g.go hs (fun a o n e => ?_) ?_, if_pos rfl, fun a o e => ?_⟩
  · have : a ≠ Y := fun z => by rw [z, nY] at e; cases e
    show (if a = Y then none else H3 a) = _
    rw [if_neg this]; exact k _ _ n e
  · obtain ⟨x, y, w, e⟩ := st
    refine ⟨x, y, w, ?_⟩
    show (if s = Y then none else H3 s) = _
    rw [if_neg Ys.symm]; exact e
  · have e' : (if a = Y then none else H3 a) = some o := e
    by_cases z : a = Y
    · rw [if_pos z] at e'; cases e'
    · rw [if_neg z] at e'; exact e'
end
section
variable {P : Program} {w : World} {K : PySem.W.Frag} {mg : Str → Option Value} {base : Heap}
abbrev sBxx : Stmt := topS 31
abbrev nBxx : List Str := ["_law_stream_here", "_law_names_here", "_law_pool_here", "_law_rows_here", "_law_sides_here", "_law_way", "_law_name", "_law_k", "_law_row"]
theorem scBxx : FnScope nBxx ["_law_stream_here", "_law_names_here", "_law_pool_here", "_law_rows_here"] (defScope sBxx) := ⟨rfl, rfl, rfl, by decide +kernel, rfl, by decide +kernel, by decide +kernel⟩
def spBxx : Sp := fun vs H Q _ => ∃ (s nl pl rl : Addr) (ns : List Str) (ps : List Int) (ts : List Row), vs = [.ref s, .ref nl, .ref pl, .ref rl] ∧ Strm H s ∧ H nl = some (.lst (ns.map V.str)) ∧ nl ≠ s ∧ H pl = some (.lst (ps.map V.int)) ∧ pl ≠ s ∧ Srt ps ∧ 1 ≤ ps.length ∧ ps.length ≤ 100 ∧ 1 ≤ ns.length ∧ ns.length ≤ 12 ∧ ns.Nodup ∧ RwL H rl ts ∧ rl ≠ s ∧ ts.length ≤ 400 ∧ (∀ r ∈ rws ts, r.length = ns.length) ∧
  ∀ (H' : Hp) (b : Addr) (N : List Ent), Bg H H' s b ns N 40 → Q (.ref b) H'
theorem ok_Bxx {f f0 f1 f2 : Addr} {fd fd0 fd1 fd2 : FuncData} (F : Fun K "_law_box" "_law_box" sBxx f fd) (B : Bt mg) (D : Call P w K mg base 1 "_law_next" f0 fd0 ["_law_stream_here", "_law_size"] spDraw) (CSd : Call P w K mg base 1 "_law_sides" f1 fd1 ["_law_domains_here"] spSd)
    (Cdo : Call P w K mg base 2 "_law_domains" f2 fd2 ["_law_stream_here", "_law_names_here", "_law_pool_here", "_law_most"] spDoms) : FnOk P w K mg base CX0 3 f fd ["_law_stream_here", "_law_names_here", "_law_pool_here", "_law_rows_here"] spBxx := by
  refine F.ok scBxx (fun vs H Q E h => ?_) (fun cdv A outer s H vs Q E hr h => ?_)
  · obtain ⟨s, nl, pl, rl, ns, ps, ts, rfl, _⟩ := h
    rfl
  · obtain ⟨s, nl, pl, rl, ns, ps, ts, rfl, hs, en, ns_, ep, ps_, sp, p1, p100, n1, n12, nd0, rw0, rs, t400, lens, q⟩ := h
    have hu := hu_of hr
    have nd := scBxx.nd
    refine ⟨_, pss_cons (ps_set (i := 4) nd rfl (.inl rfl) (pe_call CSd.ok (hr.mono (by decide)) (by rfl) CSd.at_ CSd.kp CSd.bd .nil pass0 (pa_cons (pe_call Cdo.ok (hr.mono (by decide)) (by rfl) Cdo.at_ Cdo.kp Cdo.bd .nil pass0 (pa_cons (pv 0) (pa_cons (pv 1) (pa_cons (pv 2) (pa_cons pe_int pa_nil))))) pa_nil)))
      (pss_cons (ps_set (i := 5) nd rfl (.inl rfl) (pe_call D.ok (hr.mono (by decide)) (by rfl) D.at_ D.kp D.bd .nil pass0 (pa_cons (pv 0) (pa_cons pe_int pa_nil))))
      (pss_cons (ps_if (pt_cmpR op_eq (pv 5) pe_int rfl)
        (pss_one (ps_dput hu (pv 4) (pe_ix ix_list (pv 1) (pe_call D.ok (hr.mono (by decide)) (by rfl) D.at_ D.kp D.bd .nil pass0 (pa_cons (pv 0) (pa_cons (pe_callB call_len_seq (by rfl) B.len PySem.boot_len (pa_cons (pv 1) pa_nil)) pa_nil))) (fun _ _ => rfl)) (pe_lst pa_nil) rfl))
        pss_nil)
      (pss_cons (ps_if (pt_cmpR op_eq (pv 5) pe_int rfl)
        (pss_one (ps_for PassesOwn.never rfl (pi_list (pv 1)) (pg_name (i := 6) nd rfl (.inl rfl))
            (pss_one (ps_dput hu (pv 4) (pv 6) (pe_callB (r := rSortedN w) (cr_sortedN rfl) (by rfl) B.sorted PyProof.Rows.boot_sorted (pa_cons (pe_callTy (r := rSetI K w) (cr_setI rfl) (by rfl) B.set PyProof.Rows.boot_set (pa_cons (pe_op op_cat (pe_dget hu (pv 4) (pv 6) (fun _ _ => rfl)) (pe_lc (own := [("_law_k", 7)]) (g := gName 7) (tt := tYes)  rfl nd (pi_range1 (by rfl) B.range (pa_cons pe_int pa_nil)) (blkOk_by (N := nBxx) (sc := defScope sBxx) (by decide +kernel)) (fun _ _ _ _ _ => pg_name (i := 7) nd rfl (.inl rfl)) (fun _ _ _ _ _ => pts_nil)
        (fun _ _ _ _ _ => (pe_op op_sub (pv 7) pe_int)))) pa_nil)) pa_nil)) rfl))))
        pss_nil)
      (pss_cons (ps_if (PW.pt (pw_and (pt_cmpR op_gt (pv 5) pe_int rfl) (pw_and1 (pt_cmpR op_gt (pe_callB call_len_seq (by rfl) B.len PySem.boot_len (pa_cons (pv 3) pa_nil)) pe_int rfl))))
        (pss_cons (ps_set (i := 8) nd rfl (.inl rfl) (pe_ix ix_list (pv 3) (pe_call D.ok (hr.mono (by decide)) (by rfl) D.at_ D.kp D.bd .nil pass0 (pa_cons (pv 0) (pa_cons (pe_callB call_len_seq (by rfl) B.len PySem.boot_len (pa_cons (pv 3) pa_nil)) pa_nil))) (fun _ _ => rfl)))
          (pss_one (ps_for PassesOwn.never rfl (pi_range1 (by rfl) B.range (pa_cons (pe_callB call_len_seq (by rfl) B.len PySem.boot_len (pa_cons (pv 1) pa_nil)) pa_nil)) (pg_name (i := 7) nd rfl (.inl rfl))
            (pss_one (ps_if (pt_cmpR (r := rIn K true) op_notIn_seq (pe_ix ix_tup (pv 8) (pv 7) (fun _ _ => rfl)) (pe_dget hu (pv 4) (pe_ix ix_list (pv 1) (pv 7) (fun _ _ => rfl)) (fun _ _ => rfl)) rfl)
                (pss_one (ps_dput hu (pv 4) (pe_ix ix_list (pv 1) (pv 7) (fun _ _ => rfl)) (pe_callB cr_sorted (by rfl) B.sorted PyProof.Rows.boot_sorted (pa_cons (pe_op op_cat (pe_dget hu (pv 4) (pe_ix ix_list (pv 1) (pv 7) (fun _ _ => rfl)) (fun _ _ => rfl)) (pe_lst (pa_cons (pe_ix ix_tup (pv 8) (pv 7) (fun _ _ => rfl)) pa_nil))) pa_nil)) rfl))
                pss_nil)))))
        pss_nil)
      (pss_one (ps_ret (pv 4))))))), ?_⟩
    refine ⟨_, rfl, _, rfl, _, rfl, s, nl, pl, ns, ps, 9, rfl, hs, en, ep, ns_.symm, ps_.symm, sp, p1, p100, by omega, fun H1 l ds k1 nl1 st1 dm dk dok dnd => ?_⟩
    have dl : ds.length = ns.length := by rw [← dk, List.length_map]
    refine ⟨l, ds, rfl, dm, by omega, by rw [dk]; exact nd0, fun H2 b N s2 nb2 sh => ?_⟩
    have g2 : Bg H H2 s b ns N 16 := by
      refine ⟨⟨nb2.toBu, k1.free st1 nb2.fresh, fun e he => k1.free st1 (nb2.freshS e he), nb2.inj⟩, k1.trans (Keep.same s2), by obtain ⟨x, y, w, e⟩ := st1; exact ⟨x, y, w, s2 _ _ e⟩, ?_, fun g hg => ?_⟩
      · have := congrArg (List.map (·.1)) sh
        rw [List.map_map, List.map_map] at this
        rw [← dk]; exact this
      · have h1 : (g.1, g.2.2) ∈ shape N := List.mem_map.mpr ⟨g, hg, rfl⟩
        rw [sh] at h1
        obtain ⟨d, hd, e⟩ := List.mem_map.mp h1
        have e2 : d.2.2.2 = g.2.2 := (Prod.mk.inj e).2
        rw [← e2]
        exact ⟨(dok d hd).1, Nat.le_trans (dok d hd).2.1 (by decide)⟩
    clear dok dnd dm dk dl nb2 sh s2 k1 nl1 st1 H1 ds l
    refine ⟨_, rfl, s, 8, rfl, g2.st, by decide, by decide, fun H3 y o3 st3 y0 y1 => ?_⟩
    have g3 := g2.go hs ((Keep.refl _ _).oth o3) st3
    clear st3 o3 g2 H2
    refine' with_restS (fun σ H' => ∃ N, σ = [some (.ref s), some (.ref nl), some (.ref pl), some (.ref rl), some (.ref b), some (.int y), none, none, none] ∧ Bg H H' s b ns N 16) ?r1 (fun rest => ⟨_, rfl, rfl, _, rfl, ite_both (fun _ => ?g1) fun _ => rest _ _ ⟨N, rfl, g3⟩⟩)
    case' g1 =>
      refine ⟨by show 0 ≤ sizeLine; decide, fun Y nY => ?_⟩
      have Ys : Y ≠ s := fun z => g3.st.some (z ▸ nY)
      have sY := same_new (o := HO.lst []) nY
      have g4 := g3.same hs sY
      refine ⟨_, rfl, _, rfl, _, rfl, _, rfl, nl, _, rfl, .inl (sl_map (g4.keep _ _ ns_ en)), s, _, rfl, g4.st, by rw [List.length_map]; omega, by rw [List.length_map]; omega, fun H5 z o5 st5 z0 z1 => ?_⟩
      rw [List.length_map] at z1
      obtain ⟨m, rfl⟩ : ∃ m : Nat, z = (m : Int) := ⟨z.toNat, by omega⟩
      obtain ⟨x, hx⟩ : ∃ x, ns[m]? = some x := ⟨_, List.getElem?_eq_getElem (by omega)⟩
      have k5 : Keep s H3 H5 := (Keep.same sY).oth o5
      have g5 := g4.go hs ((Keep.refl _ _).oth o5) st5
      obtain ⟨G, gG, nG, sG⟩ := g3.hole hs nY Ys k5 st5
      have eY : H5 Y = some (.lst (([] : List Int).map V.int)) := (o5 _ Ys).trans upd_same
      refine ⟨nl, _, _, .str x, rfl, rfl, sl_map (g5.keep _ _ ns_ en), atI_nat (j := m) (by rw [List.getElem?_map, hx] <;> rfl), b, _, rfl, DPut.k (k := .inr x) (sG _ _ gG.nb.un) (by rw [entK_len]; have := g5.nb.few; exact small1000 (by omega)), ?_⟩
      rw [putK_ent (s := [])]
      exact rest _ _ ⟨_, rfl, gG.put nG sG eY (List.mem_of_getElem? hx) List.Pairwise.nil (Nat.zero_le _) (by omega)⟩
    clear g3 H3 N
    rintro σ H3 ⟨N, rfl, g3⟩
    refine' with_restS (fun σ H' => ∃ N y6 y7, σ = [some (.ref s), some (.ref nl), some (.ref pl), some (.ref rl), some (.ref b), some (.int y), y6, y7, none] ∧ Bg H H' s b ns N 38) ?r2 (fun rest => ⟨_, rfl, rfl, _, rfl, ite_both (fun _ => ?g2) fun _ => rest _ _ ⟨N, _, _, rfl, g3.up (by decide)⟩⟩)
    case' g2 =>
      have en3 := g3.keep _ _ ns_ en
      refine ⟨_, rfl, nl, rfl, ⟨_, sl_map en3⟩, for_list (xs := ns.map V.str) (fun i σ H' => ∃ N y6, σ = [some (.ref s), some (.ref nl), some (.ref pl), some (.ref rl), some (.ref b), some (.int y), y6, none, none] ∧ Bg H H' s b ns N 38 ∧ ∀ g ∈ N, g.1 ∈ ns.drop i → g.2.2.length ≤ 16) ⟨N, none, rfl, g3.up (by decide), fun g hg _ => (g3.srt g hg).2⟩ (fun i σ H' _ h => by obtain ⟨_, _, _, h, _⟩ := h; exact sl_map (h.keep _ _ ns_ en)) ?f1 ?f2⟩
      case f1 =>
        rintro i v0 σ H4 hv0 ⟨N, y6, rfl, g4, small⟩
        rw [List.getElem?_map] at hv0
        obtain ⟨x, hx, rfl⟩ := Option.map_eq_some_iff.mp hv0
        have xm := List.mem_of_getElem? hx
        have hi := (List.getElem?_eq_some_iff.mp hx).1
        obtain ⟨a, ks, hm, ga, ea, sk⟩ := g4.get2 xm
        have lk : ks.length ≤ 16 := small _ hm (by
          rw [List.drop_eq_getElem_cons hi, (List.getElem?_eq_some_iff.mp hx).2]; exact List.mem_cons_self)
        refine ⟨_, rfl, _, rfl, b, .ref a, rfl, ga, ?_⟩
        refine ⟨12, rfl, by decide, by decide, fun Z nZ => ?_⟩
        refine lc_range (lo := 0) (n := 12) (fun j H' => Same H4 H' ∧ H' Z = some (.lst (((List.range j).map fun k : Nat => (k : Int) - 6).map V.int))) ⟨same_new nZ, upd_same⟩ ?_ ?_
        · rintro j H5 hj ⟨s5, eZ⟩
          refine ⟨rfl, _, rfl, _, _, rfl, rfl, _, eZ, by rw [List.length_map, List.length_map, List.length_range]; exact small1000 (by omega), same_at s5 nZ, ?_⟩
          rw [upd_same, List.range_succ, List.map_append, List.map_append]
          show _ = some (HO.lst (_ ++ [V.int ((j : Int) - 6)]))
          rw [Int.zero_add]
        · rintro H5 ⟨s5, eZ⟩
          obtain ⟨zs, hzs, lz⟩ : ∃ zs : List Int, (List.range 12).map (fun k : Nat => (k : Int) - 6) = zs ∧ zs.length = 12 := ⟨_, rfl, by decide⟩
          rw [hzs] at eZ
          refine ⟨a, Z, _, _, rfl, rfl, s5 _ _ ea, eZ, by rw [List.length_map, List.length_map]; exact Nat.le_of_lt (small1000 (by omega)), fun Y2 n2 => ?_⟩
          rw [← List.map_append]
          have s6 := s5.trans (same_new (o := HO.lst ((ks ++ zs).map V.int)) n2)
          refine ⟨Y2, ks ++ zs, rfl, sl_map upd_same, by rw [List.length_append]; omega, fun p c np hc => ⟨p, _, c, rfl, upd_same, by rw [List.length_append] at hc; omega, fun js r as memj len nr => ?_⟩⟩
          have s7 := s6.trans ((same_new np).trans (same_new (o := HO.lst (js.map V.int)) nr))
          have nr4 : H4 r = none := (s6.trans (same_new np)).free nr
          rw [List.length_append] at hc
          refine ⟨_, rfl, _, rfl, b, _, rfl, DPut.k (k := .inr x) (s7 _ _ g4.nb.un) (by rw [entK_len]; have := g4.nb.few; exact small1000 (by omega)), ?_⟩
          rw [putK_ent (s := js)]
          refine ⟨_, _, rfl, g4.put nr4 s7 upd_same xm as (by omega) (by omega), fun g hg hgx => ?_⟩
          rcases putE_mem hg with z | ⟨z, _⟩
          · exfalso
            rw [z] at hgx
            have nd1 := nd0
            rw [← List.take_append_drop (i + 1) ns] at nd1
            exact (List.nodup_append.mp nd1).2.2 x (by rw [take_snoc hx]; exact List.mem_append_right _ (List.mem_singleton.mpr rfl)) x hgx rfl
          · exact small g z (by rw [List.drop_eq_getElem_cons hi]; exact List.mem_cons_of_mem _ hgx)
      case f2 =>
        rintro σ H4 ⟨N, y6, rfl, g4, _⟩
        exact rest _ _ ⟨N, _, _, rfl, g4⟩
    clear g3 H3 N
    rintro σ H4 ⟨N, y6, y7, rfl, g4⟩
    have rw4 := rw0.keep hs rs g4.keep
    refine' with_restS (fun σ H' => ∃ N y6 y7 y8, σ = [some (.ref s), some (.ref nl), some (.ref pl), some (.ref rl), some (.ref b), some (.int y), y6, y7, y8] ∧ Bg H H' s b ns N 40) ?r3 (fun rest => ⟨_, rfl, _, _, rfl, rfl, _, rfl, ite_both (fun c0 => ⟨_, rfl, rl, _, rfl, .inl (sl_map rw4.lst), _, _, rfl, rfl, _, rfl, ite_both (fun c1 => ?g3) fun _ => rest _ _ ⟨N, _, _, _, rfl, g4.up (by decide)⟩⟩) fun _ => rest _ _ ⟨N, _, _, _, rfl, g4.up (by decide)⟩⟩)
    case' g3 =>
      have t1 : 0 < ts.length := by
        have := of_decide_eq_true c1
        rw [List.length_map] at this
        omega
      refine ⟨_, rfl, _, rfl, _, rfl, rl, _, rfl, .inl (sl_map rw4.lst), s, _, rfl, g4.st, by rw [List.length_map]; omega, by rw [List.length_map]; omega, fun H5 z o5 st5 z0 z1 => ?_⟩
      rw [List.length_map] at z1
      obtain ⟨m, rfl⟩ : ∃ m : Nat, z = (m : Int) := ⟨z.toNat, by omega⟩
      obtain ⟨v, hv⟩ : ∃ v, ts[m]? = some v := ⟨_, List.getElem?_eq_getElem (by omega)⟩
      have vm := List.mem_of_getElem? hv
      have g5 := g4.go hs ((Keep.refl _ _).oth o5) st5
      have rw5 := rw0.keep hs rs g5.keep
      have lv : v.2.length = ns.length := lens _ (List.mem_map.mpr ⟨v, vm, rfl⟩)
      refine ⟨rl, _, _, .ref v.1, rfl, rfl, sl_map rw5.lst, atI_nat (j := m) (by rw [List.getElem?_map, hv] <;> rfl), ?_⟩
      refine ⟨_, rfl, nl, _, rfl, .inl (sl_map (g5.keep _ _ ns_ en)), _, rfl, by omega, by rw [List.length_map]; omega, for_range (lo := 0) (n := (ns.map V.str).length) (fun j σ H' => ∃ N y7, σ = [some (.ref s), some (.ref nl), some (.ref pl), some (.ref rl), some (.ref b), some (.int y), y6, y7, some (.ref v.1)] ∧ Bg H H' s b ns N 40 ∧ ∀ g ∈ N, g.1 ∈ ns.drop j → g.2.2.length ≤ 38) ⟨N, _, rfl, g5.up (by decide), fun g hg _ => (g5.srt g hg).2⟩ ?f3 ?f4⟩
      case f3 =>
        clear g4 g5 rw4 rw5 N y7
        rintro j σ H6 hj ⟨N, y7, rfl, g6, small⟩
        rw [List.length_map] at hj
        obtain ⟨x, hx⟩ : ∃ x, ns[j]? = some x := ⟨_, List.getElem?_eq_getElem hj⟩
        obtain ⟨k, hk⟩ : ∃ k, v.2[j]? = some k := ⟨_, List.getElem?_eq_getElem (by omega)⟩
        have hk2 : (v.2.map V.int)[j]? = some (.int k) := by rw [List.getElem?_map, hk] <;> rfl
        have hx2 : (ns.map V.str)[j]? = some (.str x) := by rw [List.getElem?_map, hx] <;> rfl
        have xm := List.mem_of_getElem? hx
        obtain ⟨a, ks, hm, ga, ea, sk⟩ := g6.get2 xm
        have lk : ks.length ≤ 38 := small _ hm (by
          rw [List.drop_eq_getElem_cons hj, (List.getElem?_eq_some_iff.mp hx).2]; exact List.mem_cons_self)
        have en6 := g6.keep _ _ ns_ en
        have et6 := (rw0.keep hs rs g6.keep).tup v vm
        have after : ∀ {g : Ent}, g ∈ N → g.1 ∈ ns.drop (j + 1) → g.2.2.length ≤ 38 := fun {g} hg hgx => small g hg (by rw [List.drop_eq_getElem_cons hj]; exact List.mem_cons_of_mem _ hgx)
        refine ⟨_, rfl, _, rfl, v.1, _, _, .int k, rfl, rfl, .inl (.inl et6), at_eq (by omega) hk2, _, rfl, _, rfl, _, rfl, nl, _, _, .str x, rfl, rfl, sl_map en6, at_eq (by omega) hx2, b, .ref a, rfl, ga, a, _, rfl, .inl (sl_map ea), rfl, flats_int _, ?_⟩
        rw [if_pos rfl, in_ints]
        refine ⟨_, rfl, ite_both (fun c => ?_) fun c => ⟨N, _, rfl, g6, fun g hg hgx => after hg hgx⟩⟩
        have kn : ¬ k ∈ ks := of_decide_eq_false (by simpa using c)
        refine ⟨_, rfl, _, rfl, _, rfl, nl, _, _, .str x, rfl, rfl, sl_map en6, at_eq (by omega) hx2, b, .ref a, rfl, ga, ?_⟩
        refine ⟨_, rfl, _, rfl, v.1, _, _, .int k, rfl, rfl, .inl (.inl et6), at_eq (by omega) hk2, by show 1 ≤ sizeLine; decide, fun Z nZ => ?_⟩
        have s7 := same_new (o := HO.lst [V.int k]) nZ
        refine ⟨a, Z, _, _, rfl, rfl, s7 _ _ ea, upd_same, by rw [List.length_map]; exact Nat.le_of_lt (small1000 (by show ks.length + 1 ≤ 1000; omega)), fun Y nY => ?_⟩
        rw [show ks.map V.int ++ [V.int k] = (ks ++ [k]).map V.int by rw [List.map_append] <;> rfl]
        have s8 := s7.trans (same_new (o := HO.lst ((ks ++ [k]).map V.int)) nY)
        refine ⟨Y, ks ++ [k], rfl, sl_map upd_same, by rw [List.length_append]; show ks.length + 1 < 64; omega, fun js r perm asc nr => ?_⟩
        have s9 := s8.trans (same_new (o := HO.lst (js.map V.int)) nr)
        have nr6 : H6 r = none := s8.free nr
        have ljs : js.length = ks.length + 1 := by rw [perm.length_eq, List.length_append] <;> rfl
        have ndk : (ks ++ [k]).Nodup := List.nodup_append.mpr ⟨sk.imp fun h => by omega, by simp, fun p hp q hq e => kn (by rw [List.mem_singleton.mp hq] at e; rw [← e]; exact hp)⟩
        have as : Srt js := (List.Pairwise.and asc (perm.nodup_iff.mpr ndk)).imp fun h => by omega
        refine ⟨_, rfl, _, rfl, _, rfl, nl, _, _, .str x, rfl, rfl, sl_map (s9 _ _ en6), at_eq (by omega) hx2, b, _, rfl, DPut.k (k := .inr x) (s9 _ _ g6.nb.un) (by rw [entK_len]; have := g6.nb.few; exact small1000 (by omega)), ?_⟩
        rw [putK_ent (s := js)]
        refine ⟨_, _, rfl, g6.put nr6 s9 upd_same xm as (by omega) (by omega), fun g hg hgx => ?_⟩
        rcases putE_mem hg with z | ⟨z, _⟩
        · exfalso
          rw [z] at hgx
          have nd1 := nd0
          rw [← List.take_append_drop (j + 1) ns] at nd1
          exact (List.nodup_append.mp nd1).2.2 x (by rw [take_snoc hx]; exact List.mem_append_right _ (List.mem_singleton.mpr rfl)) x hgx rfl
        · exact after z hgx
      case f4 =>
        rintro σ H6 ⟨N, y7, rfl, g6, _⟩
        exact rest _ _ ⟨N, _, _, _, rfl, g6⟩
    rintro σ H6 ⟨N, y6, y7, y8, rfl, g6⟩
    exact ⟨_, rfl, q _ b N g6⟩
end
end K07
set_option Elab.async false
set_option linter.all false
set_option maxRecDepth 100000
set_option maxHeartbeats 4000000
namespace K07
open PySem PySem.Spec PyProof.Rows L2 Cs CsX
theorem srt_few : ∀ {ks s : List Int}, Srt ks → (∀ v ∈ ks, v ∈ s) → ks.length ≤ s.length := fun {ks s} h m =>
  len_le (h.imp fun {a b} (l : a < b) => (by omega : a ≠ b)) m
theorem inB_mem {S : Str → List Int} {ns : List Str} {r : List Int} {j : Nat} {x : Str} {v : Int} (h : inB S ns r = true) (hx : ns[j]? = some x) (hv : r[j]? = some v) : v ∈ S x := by
  have m : (x, v) ∈ ns.zip r := List.mem_of_getElem? (i := j) (by rw [List.getElem?_zip_eq_some]; exact ⟨hx, hv⟩)
  exact of_decide_eq_true (List.all_eq_true.mp h _ m)
theorem keys_ent (L : List Ent) : (entK L).map (fun kv => kV kv.1) = (L.map (·.1)).map V.str := by
  unfold entK
  rw [List.map_map, List.map_map] <;> rfl
theorem lxLt_tot : ∀ {a b : List Int}, lxLt a b = false → lxLt b a = false → a = b
  | [], [], _, _ => rfl
  | [], _ :: _, h, _ => by cases h
  | _ :: _, [], _, h => by cases h
  | x :: xs, y :: ys, h, g => by
    unfold lxLt at h g
    by_cases c : x = y
    · subst c
      rw [if_pos rfl] at h g
      rw [lxLt_tot h g]
    · rw [if_neg c] at h
      rw [if_neg (fun z => c z.symm)] at g
      have h1 := of_decide_eq_false h
      have g1 := of_decide_eq_false g
      exact absurd (by omega : x = y) c
section
variable {P : Program} {w : World} {K : PySem.W.Frag} {mg : Str → Option Value} {base : Heap}
abbrev sDue : Stmt := topS 34
abbrev nDue : List Str := ["_law_table", "_law_names_here", "_law_rows_here", "_law_handed", "_law_kept", "_law_inside", "_law_k", "_law_met", "_law_told", "_law_found", "_law_row", "_law_value"]
theorem scDue : FnScope nDue ["_law_table", "_law_names_here", "_law_rows_here", "_law_handed"] (defScope sDue) := ⟨rfl, rfl, rfl, by decide +kernel, rfl, by decide +kernel, by decide +kernel⟩
def spDue (C : Addr) : Sp := fun vs H Q _ => ∃ (p nl rl d : Addr) (ns : List Str) (ts : List Row) (M : List Ent) (S : Str → List Int), vs = [.ref p, .ref nl, .ref rl, .ref d] ∧ Tb C H p ns (rws ts) ∧ H nl = some (.lst (ns.map V.str)) ∧ RwL H rl ts ∧ (∀ r ∈ rws ts, r.length = ns.length) ∧ 1 ≤ ns.length ∧ ns.length ≤ 12 ∧ ns.Nodup ∧ ts.length ≤ 400 ∧ Bu H d M ∧ Fit M ns S ∧ (∀ x ∈ ns, Srt (S x) ∧ (S x).length ≤ 40) ∧
  ∀ H', Same H H' → Q (.bl true) H'
theorem ok_Due {f f0 f1 f2 f3 f4 f5 f6 C : Addr} {fd fd0 fd1 fd2 fd3 fd4 fd5 fd6 : FuncData} (F : Fun K "_law_due" "_law_due" sDue f fd) (B : Bt mg) (zmin : mg "min" = none) (T : Kls K mg "Table" C tF)
    (Cco : Call P w K mg base 1 "_law_copied" f0 fd0 ["_law_sides_here"] spCopy) (CIns : Call P w K mg base 1 "_law_row_inside" f1 fd1 ["_law_row", "_law_names_here", "_law_sides_here"] spIns) (Su : CallM P w K mg base 3 C "supported" f2 fd2 ["self", "box", "name"] (spSpd C))
    (Wi : CallM P w K mg base 3 C "witness" f3 fd3 ["self", "box"] (spWit C)) (Cis : Call P w K mg base 2 "_law_is_side" f4 fd4 ["_law_actual"] spIsSide) (CSv : Call P w K mg base 2 "_law_same_values" f5 fd5 ["_law_actual", "_law_expected"] spSV)
    (CVal : Call P w K mg base 1 "_law_values" f6 fd6 ["_law_names_here", "_law_row"] spVal) : FnOk P w K mg base CX0 4 f fd ["_law_table", "_law_names_here", "_law_rows_here", "_law_handed"] (spDue C) := by
  refine F.ok scDue (fun vs H Q E h => ?_) (fun cdv A outer s H vs Q E hr h => ?_)
  · obtain ⟨p, nl, rl, d, ns, ts, M, S, rfl, _⟩ := h
    rfl
  · obtain ⟨p, nl, rl, d, ns, ts, M, S, rfl, tb, en, rw0, lens, n1, n12, nd0, few, bd, fit, so, q⟩ := h
    have hu := hu_of hr
    have nd := scDue.nd
    refine ⟨_, pss_cons (ps_set (i := 4) nd rfl (.inr rfl) (pe_call Cco.ok (hr.mono (by decide)) (by rfl) Cco.at_ Cco.kp Cco.bd .nil pass0 (pa_cons (pv 3) pa_nil)))
      (pss_cons (ps_setLc (i := 5) (own := [("_law_row", 10)]) (g := gName 10) (tt := _) (te := tVar 10) rfl nd rfl rfl (by rfl) (pi_list (pv 2)) (blkOk_by (N := nDue) (sc := defScope sDue) (by decide +kernel)) (fun _ _ _ _ _ => pg_name (i := 10) nd rfl (.inl rfl)) (fun _ _ _ _ _ => pts_one (pt_val (pe_call CIns.ok (hr.mono (by decide)) (by rfl) CIns.at_ CIns.kp CIns.bd .nil pass0 (pa_cons (pv 10) (pa_cons (pv 1) (pa_cons (pv 4) pa_nil))))))
          (fun _ _ _ _ _ => (pv 10)))
      (pss_cons (ps_for PassesOwn.never rfl (pi_list (pe_revL (pe_listRg rfl (by rfl) B.list (prg_1 (by rfl) B.range (pe_callB call_len_seq (by rfl) B.len PySem.boot_len (pa_cons (pv 1) pa_nil)))))) (pg_name (i := 6) nd rfl (.inr rfl))
        (pss_cons (ps_set (i := 7) nd rfl (.inr rfl) (pe_lc (own := [("_law_row", 10)]) (g := gName 10) (tt := tYes)  rfl nd (pi_list (pv 5)) (blkOk_by (N := nDue) (sc := defScope sDue) (by decide +kernel)) (fun _ _ _ _ _ => pg_name (i := 10) nd rfl (.inl rfl)) (fun _ _ _ _ _ => pts_nil)
              (fun _ _ _ _ _ => (pe_ix (r := rIxT K) ix_tup (pv 10) (pv 6) (fun _ _ => rfl)))))
          (pss_cons (ps_set (i := 8) nd rfl (.inl rfl) (pe_meth (pv 0) T.cl Su.mt Su.ok (hr.mono (by decide)) Su.bd .nil pass0 (pa_cons (pv 3) (pa_cons (pe_ix ix_list (pv 1) (pv 6) (fun _ _ => rfl)) pa_nil))))
          (pss_cons (ps_if (PW.pt (pw_or (pt_not (pt_val (pe_call Cis.ok (hr.mono (by decide)) (by rfl) Cis.at_ Cis.kp Cis.bd .nil pass0 (pa_cons (pv 8) pa_nil)))) (pw_or1 (pt_cmpR (op_neV hr.units) (pv 8) (pe_lc (own := [("_law_value", 11)]) (g := gName 11) (tt := _) (te := tVar 11) rfl nd (pi_list (pe_dget hu (pv 4) (pe_ix ix_list (pv 1) (pv 6) (fun _ _ => rfl)) (fun _ _ => rfl))) (blkOk_by (N := nDue) (sc := defScope sDue) (by decide +kernel)) (fun _ _ _ _ _ => pg_name (i := 11) nd rfl (.inl rfl)) (fun _ _ _ _ _ => pts_one (pt_cmpR (r := rIn K false) op_in_seq (pv 11) (pv 7) rfl))
        (fun _ _ _ _ _ => (pv 11))) rfl))))
            (pss_one (ps_ret pe_bl))
            pss_nil)
          (pss_one (ps_expr (pe_bm PySem.F.plainAttrs_list PySem.F.slot_list_append PySem.F.type_list_append mt_append (pv 8) (pa_cons (pe_op op_pow pe_int pe_int) pa_nil))))))))
      (pss_cons (ps_set (i := 9) nd rfl (.inl rfl) (pe_meth (pv 0) T.cl Wi.mt Wi.ok (hr.mono (by decide)) Wi.bd .nil pass0 (pa_cons (pv 3) pa_nil)))
      (pss_cons (ps_if (pt_cmpR (op_neV hr.units) (pe_callTy (call_listD rfl) (by rfl) B.list PyProof.Rows.boot_list (pa_cons (pv 3) pa_nil)) (pe_callTy (call_listD rfl) (by rfl) B.list PyProof.Rows.boot_list (pa_cons (pv 4) pa_nil)) rfl)
        (pss_one (ps_ret pe_bl))
        pss_nil)
      (pss_cons (ps_if (pt_cmpR op_eq (pe_callB call_len_seq (by rfl) B.len PySem.boot_len (pa_cons (pv 5) pa_nil)) pe_int rfl)
        (pss_one (ps_ret (pe_and (pe_cmp (pc_isN (pv 9)) rfl) (pe_one (pe_cmpR (op_eqV hr.units) (pv 3) (pv 4) rfl)))))
        pss_nil)
      (pss_cons (ps_if (pt_not (pt_val (pe_call CSv.ok (hr.mono (by decide)) (by rfl) CSv.at_ CSv.kp CSv.bd .nil pass0 (pa_cons (pv 9) (pa_cons (pe_call CVal.ok (hr.mono (by decide)) (by rfl) CVal.at_ CVal.kp CVal.bd .nil pass0 (pa_cons (pv 1) (pa_cons (pe_callB (r := rMinT K) (cr_minT rfl hr.units) (by rfl) zmin PyProof.Rows.boot_min (pa_cons (pv 5) pa_nil)) pa_nil))) pa_nil)))))
        (pss_one (ps_ret pe_bl))
        pss_nil)
      (pss_cons (ps_dput hu (pv 9) (pe_ix ix_list (pv 1) pe_int (fun _ _ => rfl)) (pe_op op_pow pe_int pe_int) rfl)
      (pss_one (ps_ret (pe_cmpR (op_eqV hr.units) (pv 3) (pv 4) rfl)))))))))), ?_⟩
    refine ⟨_, rfl, d, M, rfl, bd, fun H1 k L s1 nbL sh => ?_⟩
    have FL : Fit L ns S := fun x hx => (shape_same sh x).trans (fit x hx)
    have n1000 : ns.length ≤ 1000 := by omega
    refine ⟨_, rfl, rl, rfl, ⟨_, sl_map (s1 _ _ rw0.lst)⟩, fun Z nZ => ?_⟩
    refine lc_list (xs := ts.map fun t => V.ref t.1) (fun i H' => ∃ us : List Row, Same H1 H' ∧ RwL H' Z us ∧ rws us = ((rws ts).take i).filter (inB S ns)) ⟨[], same_new nZ, ⟨upd_same, (fun _ h => nomatch h)⟩, rfl⟩ (fun i H' _ h => by obtain ⟨_, h, _⟩ := h; exact sl_map (h _ _ (s1 _ _ rw0.lst))) ?_ ?_
    · rintro i x0 H2 hx0 ⟨us, s2, rw2, eu⟩
      rw [List.getElem?_map] at hx0
      obtain ⟨v, hv, rfl⟩ := Option.map_eq_some_iff.mp hx0
      have hi := (List.getElem?_eq_some_iff.mp hv).1
      have vm := List.mem_of_getElem? hv
      have hr2 : (rws ts)[i]? = some v.2 := by rw [List.getElem?_map, hv] <;> rfl
      have S2 := s1.trans s2
      have lu : us.length ≤ 400 := by
        have h1 := congrArg List.length eu
        have h2 := List.length_filter_le (inB S ns) ((rws ts).take i)
        rw [List.length_take] at h2
        rw [List.length_map] at h1
        omega
      have et := S2 _ _ (rw0.tup v vm)
      refine ⟨rfl, _, rfl, _, rfl, _, rfl, v.1, nl, k, ns, v.2, L, S, rfl, S2 _ _ en, et, (lens _ (List.mem_map.mpr ⟨v, vm, rfl⟩)).symm, n1000, (nbL.push s2).toBu, FL, _, rfl, ite_both (fun c => ?_) fun c => ?_⟩
      · have nt : ∀ {b : Addr} {ys : List V}, H2 b = some (.tup ys) → b ≠ Z := fun h z => by rw [z, rw2.lst] at h; cases h
        refine ⟨_, rfl, _, rw2.lst, by rw [List.length_map]; exact small1000 (by omega), us ++ [v], same_at s2 nZ, ⟨by rw [upd_same, List.map_append] <;> rfl, fun u hu => ?_⟩, ?_⟩
        · rcases List.mem_append.mp hu with m | m
          · rw [upd_ne (nt (rw2.tup u m))]; exact rw2.tup u m
          · rw [List.mem_singleton.mp m, upd_ne (nt et)]; exact et
        · rw [take_snoc hr2, List.filter_append, ← eu]
          show List.map _ _ = _
          rw [List.map_append]
          simp [c]
      · refine ⟨us, s2, rw2, ?_⟩
        rw [take_snoc hr2, List.filter_append, ← eu]
        simp [c]
    rintro H2 ⟨us, s2, rw2, eu⟩
    rw [List.length_map, show ts.length = (rws ts).length from (List.length_map _).symm, List.take_length] at eu
    have S2 := s1.trans s2
    have nbL2 := nbL.push s2
    have tb2 := tb.same S2
    have bd2 := bd.same' S2
    have en2 := S2 _ _ en
    have lu : us.length ≤ 400 := by
      have h1 := congrArg List.length eu
      have h2 := List.length_filter_le (inB S ns) (rws ts)
      rw [List.length_map] at h1 h2
      omega
    clear s1 s2 nZ nbL
    -- the values supported
    refine ⟨_, rfl, nl, _, rfl, .inl (sl_map en2), _, rfl, ?_⟩
    refine ⟨RgOk.of_le (by decide) (by rw [List.length_map]; omega) (by decide) (by omega), fun R1 nR1 => ⟨R1, _, rfl, sl_map upd_same, fun R2 nR2 => ?_⟩⟩
    obtain ⟨rv, hrv, mrv⟩ : ∃ rv, rv = (rgV 0 (((ns.map V.str).length : Nat) : Int)).reverse ∧ ∀ v ∈ rv, ∃ j : Nat, j < ns.length ∧ v = .int (j : Int) := by
      refine ⟨_, rfl, fun v hv => ?_⟩
      have h1 := List.mem_reverse.mp hv
      unfold rgV at h1
      obtain ⟨j, hj, rfl⟩ := List.mem_map.mp h1
      rw [List.mem_range, List.length_map] at hj
      exact ⟨j, by omega, by rw [Int.zero_add]⟩
    rw [← hrv]
    have s3 := (same_new (o := HO.lst (rgV 0 (((ns.map V.str).length : Nat) : Int))) nR1).trans (same_new (o := HO.lst rv) nR2)
    have e3 : (upd (upd H2 R1 (.lst (rgV 0 (((ns.map V.str).length : Nat) : Int)))) R2 (.lst rv)) R2 = some (.lst rv) := upd_same
    generalize upd (upd H2 R1 (.lst (rgV 0 (((ns.map V.str).length : Nat) : Int)))) R2 (.lst rv) = H3 at s3 e3 ⊢
    have rw3 := rw2.same s3
    have nb3 := nbL2.push s3
    have tb3 := tb2.same s3
    have bd3 := bd2.same' s3
    have en3 := s3 _ _ en2
    have S3 := S2.trans s3
    clear s3 nR2 nR1 hrv rw2 nbL2 tb2 bd2 en2 S2
    obtain ⟨dx, t, r, tsx, hp, et, rwx, e1⟩ := id tb3
    refine ⟨R2, rfl, ⟨_, sl_map e3⟩, for_list (xs := rv) (fun i σ H' => ∃ (y6 y7 y8 : Option V), σ = [some (.ref p), some (.ref nl), some (.ref rl), some (.ref d), some (.ref k), some (.ref Z), y6, y7, y8, none, none, none] ∧ Same H3 H') ⟨none, none, none, rfl, fun _ _ h => h⟩ (fun i σ H' _ h => by obtain ⟨_, _, _, _, h⟩ := h; exact sl_map (h _ _ e3)) ?_ ?_⟩
    · rintro i v0 σ H4 hv0 ⟨y6, y7, y8, rfl, s4⟩
      obtain ⟨j, hj, rfl⟩ := mrv v0 (List.mem_of_getElem? hv0)
      obtain ⟨x, hx⟩ : ∃ x, ns[j]? = some x := ⟨_, List.getElem?_eq_getElem hj⟩
      have hx2 : (ns.map V.str)[j]? = some (.str x) := by rw [List.getElem?_map, hx] <;> rfl
      have xm := List.mem_of_getElem? hx
      have in_ : ∀ {u : Row}, u ∈ us → ∃ v, u.2[j]? = some v ∧ inB S ns u.2 = true ∧ u.2 ∈ rws ts := fun {u} hu => by
        have um : u.2 ∈ (rws ts).filter (inB S ns) := by rw [← eu]; exact List.mem_map.mpr ⟨u, hu, rfl⟩
        have := lens _ (List.mem_filter.mp um).1
        exact ⟨_, List.getElem?_eq_getElem (by omega), (List.mem_filter.mp um).2, (List.mem_filter.mp um).1⟩
      refine ⟨_, rfl, Z, rfl, ⟨_, sl_map (rw3.same s4).lst⟩, fun Y nY => ?_⟩
      refine lc_list (xs := us.map fun u => V.ref u.1) (fun i H' => Same H4 H' ∧ H' Y = some (.lst (((us.take i).map fun u => (u.2[j]?).getD 0).map V.int))) ⟨same_new nY, upd_same⟩ (fun i H' _ h => sl_map (h.1 _ _ (rw3.same s4).lst)) ?_ ?_
      · rintro i x0 H5 hx0 ⟨s5, eY⟩
        rw [List.getElem?_map] at hx0
        obtain ⟨u, hv, rfl⟩ := Option.map_eq_some_iff.mp hx0
        have um := List.mem_of_getElem? hv
        have hi := (List.getElem?_eq_some_iff.mp hv).1
        obtain ⟨w, hw, _⟩ := in_ um
        refine ⟨rfl, _, rfl, _, rfl, u.1, _, _, .int w, rfl, rfl, .inl (.inl (s5 _ _ ((rw3.same s4).tup u um))), atI_nat (j := j) (by rw [List.getElem?_map, hw] <;> rfl), _, eY, by rw [List.length_map, List.length_map, List.length_take]; exact small1000 (by omega), same_at s5 nY, ?_⟩
        rw [upd_same, take_snoc hv, List.map_append, List.map_append]
        show _ = some (HO.lst (_ ++ [V.int ((u.2[j]?).getD 0)]))
        rw [hw] <;> rfl
      rintro H5 ⟨s5, eY⟩
      rw [List.length_map, List.take_length] at eY
      have S5 := s4.trans s5
      have met : ∀ v, v ∈ us.map (fun u => (u.2[j]?).getD 0) ↔ ∃ r ∈ (rws ts).filter (inB S ns), r[j]? = some v := fun v => by
        rw [← eu]
        constructor
        · intro h
          obtain ⟨u, hu1, rfl⟩ := List.mem_map.mp h
          obtain ⟨w, hw, _⟩ := in_ hu1
          exact ⟨u.2, List.mem_map.mpr ⟨u, hu1, rfl⟩, by rw [hw] <;> rfl⟩
        · rintro ⟨r0, hr0, e0⟩
          obtain ⟨u, hu1, rfl⟩ := List.mem_map.mp hr0
          exact List.mem_map.mpr ⟨u, hu1, by rw [e0] <;> rfl⟩
      refine ⟨_, rfl, p, dx, _, rfl, S5 _ _ hp, tl_no (by decide +kernel) (by decide +kernel) _ _, _, rfl, _, rfl, _, rfl, nl, _, _, .str x, rfl, rfl, sl_map (S5 _ _ en3), atI_nat (j := j) hx2, p, d, x, j, ns, rws ts, M, S, rfl, tb3.same S5, lens, nd0, n1000, by rw [List.length_map]; exact few, bd3.same' S5, fit, hx, fun H6 l ks s6 nl6 el as mem => ?_⟩
      have lks : ks.length ≤ 40 := Nat.le_trans (srt_few as fun v hv => by
        obtain ⟨r0, hr0, e0⟩ := (mem v).mp hv
        exact inB_mem (List.mem_filter.mp hr0).2 hx e0) (so x xm).2
      refine ⟨_, rfl, l, ks, rfl, el, as, by omega, fun H7 s7 => ⟨true, rfl, iteF ?_⟩⟩
      have S67 := s6.trans s7
      have S7 := S5.trans S67
      obtain ⟨a, ga, ea⟩ := Fit.get (nb3.push S7).toBu FL xm
      have eY7 : H7 Y = some (.lst ((us.map fun u => (u.2[j]?).getD 0).map V.int)) := S67 _ _ eY
      have el7 := s7 _ _ el
      refine ⟨_, rfl, _, rfl, _, rfl, _, rfl, nl, _, _, .str x, rfl, rfl, sl_map (S7 _ _ en3), atI_nat (j := j) hx2, k, .ref a, rfl, ga, a, rfl, ⟨_, sl_map ea⟩, fun W nW => ?_⟩
      refine lc_list (xs := (S x).map V.int) (fun i H' => Same H7 H' ∧ H' W = some (.lst ((((S x).take i).filter fun v => decide (v ∈ us.map fun u => (u.2[j]?).getD 0)).map V.int))) ⟨same_new nW, upd_same⟩ (fun i H' _ h => sl_map (h.1 _ _ ea)) ?_ ?_
      · rintro i x0 H8 hx0 ⟨s8, eW⟩
        rw [List.getElem?_map] at hx0
        obtain ⟨v, hv, rfl⟩ := Option.map_eq_some_iff.mp hx0
        have hi := (List.getElem?_eq_some_iff.mp hv).1
        have lS := (so x xm).2
        refine ⟨rfl, _, rfl, _, rfl, Y, _, rfl, .inl (sl_map (s8 _ _ eY7)), rfl, flats_int _, ?_⟩
        rw [if_neg (by decide), in_ints]
        refine ⟨_, rfl, ite_both (fun c => ?_) fun c => ⟨s8, ?_⟩⟩
        · refine ⟨_, rfl, _, eW, ?_, same_at s8 nW, ?_⟩
          · have := List.length_filter_le (fun v => decide (v ∈ us.map fun u => (u.2[j]?).getD 0)) ((S x).take i)
            rw [List.length_take] at this
            rw [List.length_map]; exact small1000 (by omega)
          · rw [upd_same, take_snoc hv, List.filter_append, List.map_append]
            simp [c]
        · rw [take_snoc hv, List.filter_append]
          have e : [v].filter (fun v => decide (v ∈ us.map fun u => (u.2[j]?).getD 0)) = [] := by
            rw [List.filter_cons_of_neg (by simpa using c)] <;> rfl
          rw [e, List.append_nil]; exact eW
      rintro H8 ⟨s8, eW⟩
      rw [List.length_map, List.take_length] at eW
      have eks : (S x).filter (fun v => decide (v ∈ us.map fun u => (u.2[j]?).getD 0)) = ks := by
        refine srt_ext ((so x xm).1.filter _) as fun v => ?_
        rw [List.mem_filter, decide_eq_true_iff, met, mem]
        exact ⟨fun h => h.2, fun h => ⟨by obtain ⟨r0, hr0, e0⟩ := h; exact inB_mem (List.mem_filter.mp hr0).2 hx e0, h⟩⟩
      rw [eks] at eW
      have el8 := s8 _ _ el7
      have pr : Paired (EqV K H8 1) (ks.map V.int) (ks.map V.int) := paired_flat (n := 0) _ fun v hv => by obtain ⟨z, _, rfl⟩ := List.mem_map.mp hv; rfl
      refine ⟨l, W, _, _, rfl, rfl, sl_map el8, sl_map eW, ⟨1, by decide, pr⟩, false, rfl, iteF ?_⟩
      refine ⟨_, rfl, .inl ⟨rfl, _, sl_map el8⟩, _, _, rfl, rfl, ⟨by decide, by decide, by decide⟩, l, _, _, rfl, rfl, el8, by rw [List.length_map]; exact small1000 (by omega), ?_⟩
      exact ⟨_, _, _, rfl, same_at (S7.trans s8) (S5.free nl6)⟩
    · rintro σ H4 ⟨y6, y7, y8, rfl, s4⟩
      refine ⟨_, rfl, p, dx, _, rfl, s4 _ _ hp, tl_no (by decide +kernel) (by decide +kernel) _ _, _, rfl, p, d, ns, rws ts, M, S, rfl, tb3.same s4, lens, nd0, n1000, by rw [List.length_map]; exact few, bd3.same' s4, fit, fun H5 v5 s5 wt => ?_⟩
      have S5 := s4.trans s5
      have keys : L.map (·.1) = M.map (·.1) := shape_keys sh
      refine ⟨_, rfl, d, _, rfl, .inl ((bd3.same' S5).un), fun Z1 nZ1 => ?_⟩
      have s6 := same_new (o := HO.lst ((entK M).map fun kv => kV kv.1)) nZ1
      refine ⟨_, rfl, k, _, rfl, .inl (s6 _ _ (nb3.push S5).un), fun Z2 nZ2 => ?_⟩
      have s7 := s6.trans (same_new (o := HO.lst ((entK L).map fun kv => kV kv.1)) nZ2)
      refine ⟨Z1, Z2, _, _, rfl, rfl, sl_map (same_new (o := HO.lst ((entK L).map fun kv => kV kv.1)) nZ2 _ _ upd_same), sl_map upd_same, ⟨1, by decide, by rw [keys_ent, keys_ent, keys]; exact paired_flat (n := 0) _ fun v hv => by obtain ⟨z, _, rfl⟩ := List.mem_map.mp hv; rfl⟩, false, rfl, iteF ?_⟩
      generalize upd (upd H5 Z1 (.lst ((entK M).map fun kv => kV kv.1))) Z2 (.lst ((entK L).map fun kv => kV kv.1)) = H7 at s7 ⊢
      have S7 := S5.trans s7
      have rw7 := rw3.same S7
      have bd7 := bd3.same' S7
      have nb7 := nb3.push S7
      have samB : SameB M L := fun x => (shape_same sh x).symm
      refine ⟨_, rfl, Z, _, rfl, .inl (sl_map rw7.lst), rfl, _, rfl, ite_both (fun c => ?_) fun c => ?_⟩
      · have := V.int.inj (of_decide_eq_true c)
        have u0 : us = [] := List.length_eq_zero_iff.mp (by rw [List.length_map] at this; omega)
        have f0 : (rws ts).filter (inB S ns) = [] := by rw [← eu, u0] <;> rfl
        cases wt with
        | least d2 r2 nd2 ed2 m2 le2 => rw [f0] at m2; cases m2
        | none _ =>
          exact ⟨_, rfl, true, rfl, iteT ⟨_, rfl, _, rfl, 2, by decide, eqB bd7 nb7.toBu samB, q _ (S3.trans S7)⟩⟩
      · have une : us ≠ [] := fun z => by rw [z] at c; exact absurd c (by simp)
        cases wt with
        | none f0 =>
          exfalso
          rw [← eu] at f0
          exact une (List.map_eq_nil_iff.mp f0)
        | least d2 r2 nd2 ed2 m2 le2 =>
        refine ⟨_, rfl, _, rfl, _, rfl, Z, us, rfl, sl_map rw7.lst, fun u hu => .inl (.inl (rw7.tup u hu)), une, fun u hu1 least => ?_⟩
        have um : u.2 ∈ (rws ts).filter (inB S ns) := by rw [← eu]; exact List.mem_map.mpr ⟨u, hu1, rfl⟩
        have er : r2 = u.2 := by
          refine lxLt_tot ?_ (le2 _ um)
          rw [← eu] at m2
          obtain ⟨w, hw, e⟩ := List.mem_map.mp m2
          rw [← e]; exact least w hw
        have lu2 : ns.length = u.2.length := (lens _ (List.mem_filter.mp um).1).symm
        refine ⟨nl, u.1, ns, u.2, rfl, S7 _ _ en3, rw7.tup u hu1, lu2, nd0, n1000, fun H8 dv s8 ndv edv => ?_⟩
        have ed8 := s8 _ _ (s7 _ _ ed2)
        rw [er] at ed8
        have kz : (ns.zip u.2).map (·.1) = ns := List.map_fst_zip (by omega)
        have lz : (ns.zip u.2).length ≤ 40 := by rw [List.length_zip]; omega
        have vd : ∀ {a : Addr}, H8 a = some (.dK (intK (ns.zip u.2))) → Vd H8 a (ns.zip u.2) := fun h => ⟨h, by rw [kz]; exact nd0, lz⟩
        refine ⟨d2, dv, _, _, rfl, vd ed8, vd edv, fun _ => rfl, fun z => ?_, fun H9 s9 => ⟨true, rfl, iteF ?_⟩⟩
        · rw [← z] at ndv
          rw [s7 _ _ ed2] at ndv; cases ndv
        have S9 := S7.trans (s8.trans s9)
        have ed9 := s9 _ _ ed8
        obtain ⟨x0, hx0⟩ : ∃ x0, ns[0]? = some x0 := ⟨_, List.getElem?_eq_getElem (by omega)⟩
        refine ⟨_, _, rfl, rfl, ⟨by decide, by decide, by decide⟩, _, rfl, _, rfl, nl, _, _, .str x0, rfl, rfl, sl_map (S9 _ _ en3), atI_nat (j := 0) (by rw [List.getElem?_map, hx0] <;> rfl), d2, _, rfl, DPut.k (k := .inr x0) ed9 (by rw [intK_len]; exact small1000 (by omega)), ?_⟩
        have n3 : H3 d2 = none := s4.free nd2
        refine ⟨_, rfl, _, rfl, 2, by decide, eqB (bd3.same' (same_at S9 n3)) (nb3.push (same_at S9 n3)).toBu samB, q _ (S3.trans (same_at S9 n3))⟩
end
end K07
set_option Elab.async false
set_option linter.all false
set_option maxRecDepth 100000
set_option maxHeartbeats 4000000
namespace K07
open PySem PySem.Spec PyProof.Rows L2 Cs CsX
section
variable {P : Program} {w : World} {K : PySem.W.Frag} {mg : Str → Option Value} {base : Heap}
abbrev sTri : Stmt := topS 35
abbrev nTri : List Str := ["_law_stream_here", "_law_names_here", "_law_rows_here", "_law_pool_here", "_law_tried_here", "_law_turn", "_law_row", "_law_at", "_law_change", "_law_name"]
theorem scTri : FnScope nTri ["_law_stream_here", "_law_names_here", "_law_rows_here", "_law_pool_here"] (defScope sTri) := ⟨rfl, rfl, rfl, by decide +kernel, rfl, by decide +kernel, by decide +kernel⟩
def spTri : Sp := fun vs H Q _ => ∃ (s nl rl pl : Addr) (ns : List Str) (ts : List Row) (ps : List Int), vs = [.ref s, .ref nl, .ref rl, .ref pl] ∧ Strm H s ∧ H nl = some (.lst (ns.map V.str)) ∧ nl ≠ s ∧ RwL H rl ts ∧ rl ≠ s ∧ ts.length ≤ 400 ∧ (∀ r ∈ rws ts, r.length = ns.length) ∧ H pl = some (.lst (ps.map V.int)) ∧ pl ≠ s ∧ 1 ≤ ps.length ∧ ps.length ≤ 100 ∧ 1 ≤ ns.length ∧ ns.length ≤ 12 ∧
  ∀ (H' : Hp) (l : Addr) (us : List Row), RwG H H' s l us (ts.length + 3) → (∀ r ∈ rws us, r.length = ns.length) → Q (.ref l) H'
theorem ok_Tri {f f0 : Addr} {fd fd0 : FuncData} (F : Fun K "_law_tried" "_law_tried" sTri f fd) (B : Bt mg) (ztuple : mg "tuple" = none) (zabs : mg "abs" = none) (D : Call P w K mg base 1 "_law_next" f0 fd0 ["_law_stream_here", "_law_size"] spDraw) :
    FnOk P w K mg base CX0 2 f fd ["_law_stream_here", "_law_names_here", "_law_rows_here", "_law_pool_here"] spTri := by
  refine F.ok scTri (fun vs H Q E h => ?_) (fun cdv A outer s H vs Q E hr h => ?_)
  · obtain ⟨s, nl, rl, pl, ns, ts, ps, rfl, _⟩ := h
    rfl
  · obtain ⟨s, nl, rl, pl, ns, ts, ps, rfl, hs, en, ns_, rw0, rs, t400, lens, ep, ps_, p1, p100, n1, n12, q⟩ := h
    have hu := hu_of hr
    have nd := scTri.nd
    refine ⟨_, pss_cons (ps_set (i := 4) nd rfl (.inl rfl) (pe_callTy call_list_of (by rfl) B.list PyProof.Rows.boot_list (pa_cons (pv 2) pa_nil)))
      (pss_cons (ps_for PassesOwn.never rfl (pi_range1 (by rfl) B.range (pa_cons pe_int pa_nil)) (pg_name (i := 5) nd rfl (.inl rfl))
        (pss_cons (ps_setLc (i := 6) (own := [("_law_name", 9)]) (g := gName 9) (tt := tYes)  rfl nd rfl rfl (by rfl) (pi_list (pv 1)) (blkOk_by (N := nTri) (sc := defScope sTri) (by decide +kernel)) (fun _ _ _ _ _ => pg_name (i := 9) nd rfl (.inl rfl)) (fun _ _ _ _ _ => pts_nil)
              (fun _ _ _ _ _ => (pe_ix (r := rIxL K) ix_list (pv 3) (pe_call D.ok (hr.mono (by decide)) (by rfl) D.at_ D.kp D.bd .nil pass0 (pa_cons (pv 0) (pa_cons (pe_callB (r := rLnS K) call_len_seq (by rfl) B.len PySem.boot_len (pa_cons (pv 3) pa_nil)) pa_nil))) (fun _ _ => rfl))))
          (pss_cons (ps_if (PW.pt (pw_and (pt_cmpR op_gt (pe_callB call_len_seq (by rfl) B.len PySem.boot_len (pa_cons (pv 2) pa_nil)) pe_int rfl) (pw_and1 (pt_cmpR op_eq (pe_call D.ok (hr.mono (by decide)) (by rfl) D.at_ D.kp D.bd .nil pass0 (pa_cons (pv 0) (pa_cons pe_int pa_nil))) pe_int rfl))))
            (pss_cons (ps_set (i := 6) nd rfl (.inl rfl) (pe_callTy call_list_of (by rfl) B.list PyProof.Rows.boot_list (pa_cons (pe_ix ix_list (pv 2) (pe_call D.ok (hr.mono (by decide)) (by rfl) D.at_ D.kp D.bd .nil pass0 (pa_cons (pv 0) (pa_cons (pe_callB call_len_seq (by rfl) B.len PySem.boot_len (pa_cons (pv 2) pa_nil)) pa_nil))) (fun _ _ => rfl)) pa_nil)))
              (pss_cons (ps_set (i := 7) nd rfl (.inl rfl) (pe_call D.ok (hr.mono (by decide)) (by rfl) D.at_ D.kp D.bd .nil pass0 (pa_cons (pv 0) (pa_cons (pe_callB call_len_seq (by rfl) B.len PySem.boot_len (pa_cons (pv 1) pa_nil)) pa_nil))))
              (pss_cons (ps_set (i := 8) nd rfl (.inl rfl) (pe_op op_sub (pe_call D.ok (hr.mono (by decide)) (by rfl) D.at_ D.kp D.bd .nil pass0 (pa_cons (pv 0) (pa_cons pe_int pa_nil))) pe_int))
              (pss_one (ps_if (pt_cmpR op_lt (pe_callB call_abs (by rfl) zabs PyProof.Rows.boot_abs (pa_cons (pe_ix ix_list (pv 6) (pv 7) (fun _ _ => rfl)) pa_nil)) (pe_op op_pow pe_int pe_int) rfl)
                (pss_one (ps_asg (pe_op op_add (pe_ix ix_list (pv 6) (pv 7) (fun _ _ => rfl)) (pv 8)) (pg_sub (pv 6) (pv 7) set_list)))
                pss_nil)))))
            pss_nil)
          (pss_one (ps_expr (pe_bm PySem.F.plainAttrs_list PySem.F.slot_list_append PySem.F.type_list_append mt_append (pv 4) (pa_cons (pe_callTy call_tuple_of (by rfl) ztuple PyProof.Rows.boot_tuple (pa_cons (pv 6) pa_nil)) pa_nil)))))))
      (pss_one (ps_ret (pv 4)))), ?_⟩
    refine ⟨_, rfl, rl, _, rfl, .inl (sl_map rw0.lst), fun R nR => ?_⟩
    have Rs : R ≠ s := fun z => hs.some (z ▸ nR)
    have sR := same_new (o := HO.lst (ts.map fun t => V.ref t.1)) nR
    have g0 : RwG H (upd H R (.lst (ts.map fun t => V.ref t.1))) s R ts (ts.length + 0) := ⟨(Keep.refl _ _).at_ nR, hs.upd Rs.symm, ⟨upd_same, fun t ht => sR _ _ (rw0.tup t ht)⟩, Rs, nR, Nat.le_refl _⟩
    refine ⟨3, rfl, by decide, by decide, for_range (lo := 0) (n := 3) (fun j σ H' => ∃ (y5 y6 y7 y8 y9 : Option V) (us : List Row), σ = [some (.ref s), some (.ref nl), some (.ref rl), some (.ref pl), some (.ref R), y5, y6, y7, y8, y9] ∧ RwG H H' s R us (ts.length + j) ∧ ∀ r ∈ rws us, r.length = ns.length) ⟨none, none, none, none, none, ts, rfl, g0, lens⟩ ?_ ?_⟩
    · rintro j σ H1 hj ⟨y5, y6, y7, y8, y9, us, rfl, g, lu⟩
      have en1 := g.keep _ _ ns_ en
      have ep1 := g.keep _ _ ps_ ep
      refine ⟨_, rfl, nl, rfl, ⟨_, sl_map en1⟩, fun Z nZ => ?_⟩
      have Zs : Z ≠ s := fun z => g.st.some (z ▸ nZ)
      refine lc_list (xs := ns.map V.str) (fun i H' => Keep s H1 H' ∧ Strm H' s ∧ ∃ ks : List Int, H' Z = some (.lst (ks.map V.int)) ∧ ks.length = i) ⟨(Keep.refl _ _).at_ nZ, g.st.upd Zs.symm, [], upd_same, rfl⟩ (fun i H' _ h => sl_map (h.1 _ _ ns_ en1)) ?_ ?_
      · rintro i x0 H2 hx0 ⟨k2, st2, ks, eZ, lk⟩
        have hi := (List.getElem?_eq_some_iff.mp hx0).1
        rw [List.length_map] at hi
        refine ⟨rfl, _, rfl, _, rfl, _, rfl, pl, _, rfl, .inl (sl_map (k2 _ _ ps_ ep1)), s, _, rfl, st2, by rw [List.length_map]; omega, by rw [List.length_map]; omega, fun H3 y o3 st3 y0 y1 => ?_⟩
        have k3 := k2.oth o3
        rw [List.length_map] at y1
        obtain ⟨m, rfl⟩ : ∃ m : Nat, y = (m : Int) := ⟨y.toNat, by omega⟩
        obtain ⟨v, hv⟩ : ∃ v, ps[m]? = some v := ⟨_, List.getElem?_eq_getElem (by omega)⟩
        refine ⟨pl, _, _, .int v, rfl, rfl, sl_map (k3 _ _ ps_ ep1), atI_nat (j := m) (by rw [List.getElem?_map, hv] <;> rfl), _, (o3 _ Zs).trans eZ, by rw [List.length_map]; exact small1000 (by omega), k3.at_ nZ, st3.upd Zs.symm, ks ++ [v], by rw [upd_same, List.map_append] <;> rfl, by rw [List.length_append, lk] <;> rfl⟩
      rintro H2 ⟨k2, st2, ks, eZ, lk⟩
      rw [List.length_map] at lk
      have g2 := g.go k2 st2
      refine' with_restS (fun σ H' => ∃ (y7 y8 y9 : Option V) (Y : Addr) (ks : List Int), σ = [some (.ref s), some (.ref nl), some (.ref rl), some (.ref pl), some (.ref R), some (.int (0 + (j : Int))), some (.ref Y), y7, y8, y9] ∧ RwG H H' s R us (ts.length + j) ∧ H' Y = some (.lst (ks.map V.int)) ∧ ks.length = ns.length) ?r1 (fun rest => ⟨_, rfl, rl, _, rfl, .inl (sl_map (rw0.keep hs rs g2.keep).lst), _, _, rfl, rfl, _, rfl, ite_both (fun c0 => ⟨_, rfl, s, 2, rfl, st2, by decide, by decide, fun H3 z o3 st3 z0 z1 => ⟨rfl, _, rfl, ite_both (fun _ => ?g1) fun _ => rest _ _ ⟨_, _, _, Z, ks, rfl, g2.go ((Keep.refl _ _).oth o3) st3, (o3 _ Zs).trans eZ, lk⟩⟩⟩) fun _ => rest _ _ ⟨_, _, _, Z, ks, rfl, g2, eZ, lk⟩⟩)
      case' g1 =>
        have t1 : 0 < ts.length := by
          have := of_decide_eq_true c0
          rw [List.length_map] at this
          omega
        have g3 := g2.go ((Keep.refl _ _).oth o3) st3
        refine ⟨_, rfl, _, rfl, _, rfl, rl, _, rfl, .inl (sl_map (rw0.keep hs rs g3.keep).lst), s, _, rfl, g3.st, by rw [List.length_map]; omega, by rw [List.length_map]; omega, fun H4 y o4 st4 y0 y1 => ?_⟩
        rw [List.length_map] at y1
        have g4 := g3.go ((Keep.refl _ _).oth o4) st4
        have rw4 := rw0.keep hs rs g4.keep
        obtain ⟨m, rfl⟩ : ∃ m : Nat, y = (m : Int) := ⟨y.toNat, by omega⟩
        obtain ⟨v, hv⟩ : ∃ v, ts[m]? = some v := ⟨_, List.getElem?_eq_getElem (by omega)⟩
        have vm := List.mem_of_getElem? hv
        have lv : v.2.length = ns.length := lens _ (List.mem_map.mpr ⟨v, vm, rfl⟩)
        refine ⟨rl, _, _, .ref v.1, rfl, rfl, sl_map rw4.lst, atI_nat (j := m) (by rw [List.getElem?_map, hv] <;> rfl), v.1, _, rfl, .inr (.inl (.inl (rw4.tup v vm))), fun Y nY => ?_⟩
        have Ys : Y ≠ s := fun z => g4.st.some (z ▸ nY)
        have g5 := g4.go (Keep.same (same_new (o := HO.lst (v.2.map V.int)) nY)) (g4.st.upd Ys.symm)
        have nYH := g4.keep.free g4.st nY
        have eY : (upd H4 Y (.lst (v.2.map V.int))) Y = some (.lst (v.2.map V.int)) := upd_same
        have YR : Y ≠ R := fun z => by rw [z, g4.rw_.lst] at nY; cases nY
        generalize upd H4 Y (.lst (v.2.map V.int)) = H5 at g5 eY ⊢
        refine ⟨_, rfl, _, rfl, nl, _, rfl, .inl (sl_map (g5.keep _ _ ns_ en)), s, _, rfl, g5.st, by rw [List.length_map]; omega, by rw [List.length_map]; omega, fun H6 w o6 st6 w0 w1 => ?_⟩
        rw [List.length_map] at w1
        obtain ⟨a, rfl⟩ : ∃ m : Nat, w = (m : Int) := ⟨w.toNat, by omega⟩
        have g6 := g5.go ((Keep.refl _ _).oth o6) st6
        refine ⟨_, rfl, s, 3, rfl, g6.st, by decide, by decide, fun H7 b o7 st7 b0 b1 => ⟨_, _, rfl, rfl, ?_⟩⟩
        have g7 := g6.go ((Keep.refl _ _).oth o7) st7
        have eY7 : H7 Y = some (.lst (v.2.map V.int)) := (o7 _ Ys).trans ((o6 _ Ys).trans eY)
        obtain ⟨x, hx⟩ : ∃ x, v.2[a]? = some x := ⟨_, List.getElem?_eq_getElem (by omega)⟩
        have hx2 : (v.2.map V.int)[a]? = some (.int x) := by rw [List.getElem?_map, hx] <;> rfl
        refine ⟨_, rfl, _, rfl, Y, _, _, .int x, rfl, rfl, sl_map eY7, atI_nat (j := a) hx2, _, rfl, _, _, rfl, rfl, ⟨by decide, by decide, by decide⟩, _, _, rfl, rfl, _, rfl, ite_both (fun c2 => ?_) fun _ => rest _ _ ⟨_, _, _, Y, v.2, rfl, g7, eY7, lv⟩⟩
        refine ⟨_, rfl, _, rfl, Y, _, _, .int x, rfl, rfl, sl_map eY7, atI_nat (j := a) hx2, _, rfl, _, _, rfl, rfl, _, rfl, _, rfl, Y, _, (a : Int), a, rfl, rfl, eY7, ixN_nat (by rw [List.length_map]; omega), ?_⟩
        have nt : ∀ {b : Addr} {ys : List V}, H7 b = some (.tup ys) → b ≠ Y := fun h z => by rw [z, eY7] at h; cases h
        have g8 : ∀ o : HO, RwG H (upd H7 Y o) s R us (ts.length + j) := fun o => ⟨g7.keep.at_ nYH, g7.st.upd Ys.symm, ⟨by rw [upd_ne YR.symm]; exact g7.rw_.lst, fun t ht => by rw [upd_ne (nt (g7.rw_.tup t ht))]; exact g7.rw_.tup t ht⟩, g7.ls, g7.nl, g7.few⟩
        refine rest _ _ ⟨_, _, _, Y, v.2.set a (x + (b - 1)), rfl, g8 _, ?_, by rw [List.length_set]; exact lv⟩
        rw [upd_same, List.map_set]
      rintro σ H3 ⟨y7, y8, y9, Y, ks, rfl, g3, eY, lk⟩
      refine ⟨_, rfl, .inl ⟨rfl, _, sl_map g3.rw_.lst⟩, _, rfl, Y, _, rfl, .inl ⟨sl_map eY, fun T nT => ?_⟩⟩
      have Ts : T ≠ s := fun z => g3.st.some (z ▸ nT)
      have g4 := g3.go (Keep.same (same_new (o := HO.tup (ks.map V.int)) nT)) (g3.st.upd Ts.symm)
      have g5 := g4.push (q := T) (r := ks) upd_same
      refine ⟨R, _, _, rfl, rfl, g4.rw_.lst, by have := g.few; rw [List.length_map]; exact small1000 (by omega), _, _, _, _, _, _, rfl, g5, fun r hr => ?_⟩
      replace hr : r ∈ (us ++ ([(T, ks)] : List Row)).map (·.2) := hr
      rw [List.map_append] at hr
      rcases List.mem_append.mp hr with m | m
      · exact lu r m
      · rw [List.mem_singleton.mp m]; exact lk
    · rintro σ H1 ⟨y5, y6, y7, y8, y9, us, rfl, g, lu⟩
      exact ⟨_, rfl, q _ R us g lu⟩
end
end K07
set_option Elab.async false
set_option linter.all false
set_option maxRecDepth 100000
set_option maxHeartbeats 4000000
/-! values of names and of a row that are turned by the same number of places -/
namespace K07
open PySem PySem.Spec PyProof.Rows L2 Cs CsX
abbrev turn {α : Type} (a : Nat) (xs : List α) : List α := xs.drop a ++ xs.take a
theorem turn_zip {α β : Type} (a : Nat) {xs : List α} {ys : List β} (len : xs.length = ys.length) : (turn a xs).zip (turn a ys) = turn a (xs.zip ys) := by
  unfold turn
  rw [List.zip_append (by rw [List.length_drop, List.length_drop, len])]
  show List.zipWith Prod.mk _ _ ++ List.zipWith Prod.mk _ _ = List.drop a (List.zipWith Prod.mk xs ys) ++ List.take a (List.zipWith Prod.mk xs ys)
  rw [List.drop_zipWith, List.take_zipWith]
theorem turn_mem {α : Type} {a : Nat} {xs : List α} {x : α} : x ∈ turn a xs ↔ x ∈ xs := by
  unfold turn
  rw [List.mem_append]
  constructor
  · rintro (h | h)
    · exact List.mem_of_mem_drop h
    · exact List.mem_of_mem_take h
  · intro h
    rw [← List.take_append_drop a xs] at h
    exact (List.mem_append.mp h).symm
theorem turn_perm {α : Type} (a : Nat) (xs : List α) : (turn a xs).Perm xs := by
  have := List.perm_append_comm (l₁ := xs.drop a) (l₂ := xs.take a)
  rwa [List.take_append_drop] at this
theorem turn_nd {α : Type} {a : Nat} {xs : List α} (h : xs.Nodup) : (turn a xs).Nodup := (turn_perm a xs).nodup_iff.mpr h
theorem turn_len {α : Type} (a : Nat) (xs : List α) : (turn a xs).length = xs.length := (turn_perm a xs).length_eq
theorem aget_turn {ns : List Str} {r : List Int} (nd : ns.Nodup) (len : ns.length = r.length) (a : Nat) {i : Nat} {x : Str} {v : Int} (hx : ns[i]? = some x) (hv : r[i]? = some v) : aget ((turn a ns).zip (turn a r)) x = some v := by
  have kz : ((turn a ns).zip (turn a r)).map (·.1) = turn a ns := List.map_fst_zip (by rw [turn_len, turn_len, len]; exact Nat.le_refl _)
  refine (aget_iff (by rw [kz]; exact turn_nd nd) x v).mpr ?_
  rw [turn_zip a len, turn_mem]
  exact List.mem_of_getElem? (i := i) (by rw [List.getElem?_zip_eq_some]; exact ⟨hx, hv⟩)
/-- the values as a function, and the row that they give -/
theorem map_row {ns : List Str} {r : List Int} (len : ns.length = r.length) {g : Str → Int} (h : ∀ (i : Nat) (x : Str) (v : Int), ns[i]? = some x → r[i]? = some v → g x = v) : ns.map g = r := by
  refine List.ext_getElem? fun i => ?_
  rw [List.getElem?_map]
  cases c : ns[i]? with
  | none =>
    have := List.getElem?_eq_none_iff.mp c
    rw [List.getElem?_eq_none (by omega)] <;> rfl
  | some x =>
    have hi := (List.getElem?_eq_some_iff.mp c).1
    have hv : r[i]? = some r[i] := List.getElem?_eq_getElem (by omega)
    rw [hv]
    show some (g x) = _
    rw [h i x _ c hv]
end K07
set_option Elab.async false
set_option linter.all false
set_option maxRecDepth 100000
set_option maxHeartbeats 400000
/-! != of two dicts that are equal, deep -/
namespace Cs
open PySem PySem.Spec PyProof.Rows L2
section
variable {X : Cx}
def rNeDV (K : PySem.W.Frag) : R2 := fun x y H Q => ∃ a b ks ls, x = .ref a ∧ y = .ref b ∧ H a = some (.dK ks) ∧ H b = some (.dK ls) ∧ ks.length = ls.length ∧ (∃ n, n ≤ 60 ∧ ∀ p ∈ ks, ∃ u, valV ls p.1 = some u ∧ EqV K H n p.2 u) ∧ Q (.bl false) H
theorem op_neDV (hu : X.A.units + 64 < cLine) : OpR X (compareOp .NotEq) (rNeDV X.K) := by
  intro pins s σ H x y v u Q I rx ry h
  obtain ⟨a, b, ks, ls, rfl, rfl, ea, eb, len, ⟨n, hn, hp⟩, q⟩ := h
  cases (show v = Value.ref a from rx)
  cases (show u = Value.ref b from ry)
  obtain ⟨_, ya, va, ra, da⟩ := (show ObjOk X.prog X.w H s.heap a (.dK ks) from I.hok a _ ea)
  obtain ⟨_, yb, vb, rb, db⟩ := (show ObjOk X.prog X.w H s.heap b (.dK ls) from I.hok b _ eb)
  have e : va.length = vb.length := by rw [← ra.length, ← rb.length]; exact len
  have hits := hits_run (eqV_run I n X.A.in1 (by show X.A.units + 1 + n < cLine; omega)) rb ra hp
  refine wpAny_richCompare_same_room (op := .NotEq) da.typeIs db.typeIs PySem.F.slot_dict_ne (wpAny_call_entry PySem.F.slot_dict_ne da.typeIs PySem.F.entry_dict_ne ?_ (PySem.F.args_dict_ne_2 _ _)) (by omega)
  show wpAny _ _ (Builtin.Dict.dictSlotArgs "__ne__" ⟨[.ref a, .ref b], []⟩ >>= _) _ _ s
  unfold Builtin.Dict.dictSlotArgs
  refine wpAny_bind (wpAny_bind (wpAny_notOrdered_dict da.typeIs ?_))
  show wpAny _ _ (pure (Value.ref a, Value.ref b)) _ _ s
  refine wpAny_pure (wpAny_bind (wpAny_isInstance (T := "dict") db.typeIs PySem.F.sub_dict_dict ?_))
  simp only [Bool.not_true, Bool.false_eq_true, if_false]
  refine wpAny_bind (wpAny_pure (wpAny_bind (wpAny_pure ?_)))
  refine wpAny_bind (PySem.W.samePairsP (r := true) ya yb da db (fun _ => hits) ?_)
  have w0 : ((va.length == vb.length && true) == false) = false := by rw [e]; simp
  refine wpAny_pure ⟨_, rfl, ?_, ?_⟩
  · intro x
    cases x
  · have z : EP X pins σ Q (.bool false) s := ⟨.bl false, H, I, rfl, q⟩
    rw [← w0] at z
    exact z
end
end Cs
set_option Elab.async false
set_option linter.all false
set_option maxRecDepth 100000
set_option maxHeartbeats 4000000
namespace K07
open PySem PySem.Spec PyProof.Rows L2 Cs CsX
theorem rSlA_of {K : PySem.W.Frag} {H : Hp} {v : Addr} {xs : List V} {lo hi : Option Int} {Q : VK} (e : H v = some (.tup xs)) (q : ∀ T H', Same H H' → H' T = some (.tup (cutV xs lo hi)) → Q (.ref T) H') : rSlA K (.ref v) lo hi H Q :=
  ⟨v, xs, rfl, .inl (.inl e), fun w => q v H (fun _ _ h => h) (by rw [e]; unfold cutV; rw [w.1, w.2]; simp), fun _ T nT => q T _ (same_new nT) upd_same⟩
theorem rSlA_no {K : PySem.W.Frag} {H : Hp} {σ : L2.St} {v : Addr} {xs : List V} {lo : Option Int} {Q : VK} (e : H v = some (.tup xs)) (q : ∀ T H', Same H H' → H' T = some (.tup (cutV xs lo none)) → Q (.ref T) H') : tNoPart σ H fun u H3 => rSlA K (.ref v) lo u H3 Q := rSlA_of e q
theorem rCatT_of {K : PySem.W.Frag} {H : Hp} {v w : Addr} {xs ys : List V} {Q : VK} (e : H v = some (.tup xs)) (e2 : H w = some (.tup ys)) (ne : xs ≠ []) (few : xs.length + ys.length ≤ sizeLine) (q : ∀ T H', Same H H' → H' T = some (.tup (xs ++ ys)) → Q (.ref T) H') : rCatT K (.ref v) (.ref w) H Q :=
  ⟨v, w, xs, ys, rfl, rfl, .inl (.inl e), .inl (.inl e2), ne, few, fun z => q v H (fun _ _ h => h) (by rw [e, z, List.append_nil]), fun _ T nT => q T _ (same_new nT) upd_same⟩
theorem Tb.keep {C : Addr} {H H' : Hp} {s p : Addr} {ns : List Str} {rs : List (List Int)} (R : Tb C H p ns rs) (st : Strm H s) (k : Keep s H H') : Tb C H' p ns rs := by
  obtain ⟨dx, t, e, ts, h1, ⟨o, po, h2⟩, h3, h4⟩ := R
  have ne : ∀ {b : Addr} {u : HO}, H b = some u → (∀ xs, u ≠ .lst xs) → b ≠ s := fun h n z => by
    obtain ⟨x, y, w, e⟩ := st
    rw [z, e] at h; exact n _ (Option.some.inj h).symm
  exact ⟨dx, t, e, ts, k _ _ (ne h1 (fun _ z => by cases z)) h1, ⟨o, po, k _ _ (ne h2 (fun _ z => by cases z)) h2⟩, ⟨k _ _ (ne h3.lst (fun _ z => by cases z)) h3.lst, fun v hv => keep_tup st k (h3.tup v hv)⟩, h4⟩
theorem RwG.upd {H Hn : Hp} {s l d : Addr} {us : List Row} {n : Nat} {A : List (Key × V)} {o : HO} (g : RwG H Hn s l us n) (nH : H d = none) (e : Hn d = some (.dK A)) : RwG H (upd Hn d o) s l us n := by
  have nd : ∀ {b : Addr} {u : HO}, Hn b = some u → (∀ xs, u ≠ .dK xs) → b ≠ d := fun h n z => by
    rw [z, e] at h; exact n _ (Option.some.inj h).symm
  obtain ⟨x, y, w, es⟩ := g.st
  refine ⟨g.keep.at_ nH, ⟨x, y, w, by rw [upd_ne (nd es (fun _ z => by cases z))]; exact es⟩, ⟨by rw [upd_ne (nd g.rw_.lst (fun _ z => by cases z))]; exact g.rw_.lst, fun v hv => by rw [upd_ne (nd (g.rw_.tup v hv) (fun _ z => by cases z))]; exact g.rw_.tup v hv⟩, g.ls, g.nl, g.few⟩
theorem RwG.same {H Hn H' : Hp} {s l : Addr} {us : List Row} {n : Nat} (g : RwG H Hn s l us n) (k : Same Hn H') : RwG H H' s l us n := g.go (Keep.same k) (by obtain ⟨x, y, w, e⟩ := g.st; exact ⟨x, y, w, k _ _ e⟩)
theorem RwG.free {H Hn : Hp} {s l d : Addr} {us : List Row} {n : Nat} (g : RwG H Hn s l us n) (nd : Hn d = none) : H d = none := g.keep.free g.st nd
theorem dict_hit {K : PySem.W.Frag} {H : Hp} {A : List (Str × Int)} (nd : (A.map (·.1)).Nodup) : ∃ n, n ≤ 60 ∧ ∀ p ∈ intK A, ∃ u, valV (intK A) p.1 = some u ∧ EqV K H n p.2 u := by
  refine ⟨1, by decide, fun p hp => ?_⟩
  unfold intK at hp
  obtain ⟨e, he, rfl⟩ := List.mem_map.mp hp
  refine ⟨.int e.2, ?_, .inl ⟨rfl, rfl⟩⟩
  show valV (intK A) (Sum.inr e.1) = _
  rw [valV_int, (aget_iff nd e.1 e.2).mpr he] <;> rfl
section
variable {P : Program} {w : World} {K : PySem.W.Frag} {mg : Str → Option Value} {base : Heap}
abbrev sAld : Stmt := topS 36
abbrev nAld : List Str := ["_law_stream_here", "_law_table", "_law_names_here", "_law_rows_here", "_law_pool_here", "_law_tried_here", "_law_at", "_law_k", "_law_values_here", "_law_kept", "_law_told", "_law_name"]
theorem scAld : FnScope nAld ["_law_stream_here", "_law_table", "_law_names_here", "_law_rows_here", "_law_pool_here"] (defScope sAld) := ⟨rfl, rfl, rfl, by decide +kernel, rfl, by decide +kernel, by decide +kernel⟩
def spAld (C : Addr) : Sp := fun vs H Q _ => ∃ (s p nl rl pl : Addr) (ns : List Str) (ts : List Row) (ps : List Int), vs = [.ref s, .ref p, .ref nl, .ref rl, .ref pl] ∧ Strm H s ∧ Tb C H p ns (rws ts) ∧ H nl = some (.lst (ns.map V.str)) ∧ nl ≠ s ∧ RwL H rl ts ∧ rl ≠ s ∧ ts.length ≤ 400 ∧ (∀ r ∈ rws ts, r.length = ns.length) ∧ H pl = some (.lst (ps.map V.int)) ∧ pl ≠ s ∧ 1 ≤ ps.length ∧ ps.length ≤ 100 ∧ 1 ≤ ns.length ∧ ns.length ≤ 12 ∧ ns.Nodup ∧ (∀ x ∈ ns, nmOk x = true) ∧
  ∀ (H' : Hp), Keep s H H' → Strm H' s → Q (.bl true) H'
theorem ok_Ald {f f0 f1 f2 f3 C : Addr} {fd fd0 fd1 fd2 fd3 : FuncData} (F : Fun K "_law_allows_due" "_law_allows_due" sAld f fd) (B : Bt mg) (ztuple : mg "tuple" = none) (T : Kls K mg "Table" C tF) (D : Call P w K mg base 1 "_law_next" f0 fd0 ["_law_stream_here", "_law_size"] spDraw)
    (CTri : Call P w K mg base 2 "_law_tried" f1 fd1 ["_law_stream_here", "_law_names_here", "_law_rows_here", "_law_pool_here"] spTri) (CVal : Call P w K mg base 1 "_law_values" f2 fd2 ["_law_names_here", "_law_row"] spVal) (Al : CallM P w K mg base 2 C "allows" f3 fd3 ["self", "values"] (spAlo C)) :
    FnOk P w K mg base CX0 3 f fd ["_law_stream_here", "_law_table", "_law_names_here", "_law_rows_here", "_law_pool_here"] (spAld C) := by
  refine F.ok scAld (fun vs H Q E h => ?_) (fun cdv A outer s H vs Q E hr h => ?_)
  · obtain ⟨s, p, nl, rl, pl, ns, ts, ps, rfl, _⟩ := h
    rfl
  · obtain ⟨s, p, nl, rl, pl, ns, ts, ps, rfl, hs, tb, en, ns_, rw0, rs, t400, lens, ep, ps_, p1, p100, n1, n12, nd0, nms, q⟩ := h
    have hu := hu_of hr
    have nd := scAld.nd
    refine ⟨_, pss_cons (ps_set (i := 5) nd rfl (.inl rfl) (pe_call CTri.ok (hr.mono (by decide)) (by rfl) CTri.at_ CTri.kp CTri.bd .nil pass0 (pa_cons (pv 0) (pa_cons (pv 2) (pa_cons (pv 3) (pa_cons (pv 4) pa_nil))))))
      (pss_cons (ps_set (i := 6) nd rfl (.inl rfl) (pe_call D.ok (hr.mono (by decide)) (by rfl) D.at_ D.kp D.bd .nil pass0 (pa_cons (pv 0) (pa_cons (pe_callB call_len_seq (by rfl) B.len PySem.boot_len (pa_cons (pv 2) pa_nil)) pa_nil))))
      (pss_cons (ps_for PassesOwn.never rfl (pi_range1 (by rfl) B.range (pa_cons (pe_callB call_len_seq (by rfl) B.len PySem.boot_len (pa_cons (pv 5) pa_nil)) pa_nil)) (pg_name (i := 7) nd rfl (.inl rfl))
        (pss_cons (ps_set (i := 8) nd rfl (.inr rfl) (pe_call CVal.ok (hr.mono (by decide)) (by rfl) CVal.at_ CVal.kp CVal.bd .nil pass0 (pa_cons (pe_op op_cat (pe_slice sl_list (pv 2) (po_some (pv 6)) po_none) (pe_slice sl_list (pv 2) po_none (po_some (pv 6)))) (pa_cons (pe_op op_catT (pe_slice sl_tupA (pe_ix ix_list (pv 5) (pv 7) (fun _ _ => rfl)) (po_some (pv 6)) po_none) (pe_slice sl_tupA (pe_ix ix_list (pv 5) (pv 7) (fun _ _ => rfl)) po_none (po_some (pv 6)))) pa_nil))))
          (pss_cons (ps_if (pt_cmpR op_eq (pe_op op_mod (pe_callTy call_int1 (by rfl) B.int PyProof.Rows.boot_int (pa_cons (pe_op op_add (pv 7) (pv 6)) pa_nil)) pe_int) pe_int rfl)
            (pss_one (ps_dput hu (pv 8) (pe_op op_add_str (pe_ix ix_list (pv 2) (pv 6) (fun _ _ => rfl)) pe_str) (pe_ix ix_tup (pe_ix ix_list (pv 5) (pv 7) (fun _ _ => rfl)) (pv 6) (fun _ _ => rfl)) rfl))
            pss_nil)
          (pss_cons (ps_set (i := 9) nd rfl (.inl rfl) (pe_callTy call_dictD (by rfl) B.dict PyProof.Rows.boot_dict (pa_cons (pv 8) pa_nil)))
          (pss_cons (ps_set (i := 10) nd rfl (.inl rfl) (pe_meth (pv 1) T.cl Al.mt Al.ok (hr.mono (by decide)) Al.bd .nil pass0 (pa_cons (pv 8) pa_nil)))
          (pss_cons (ps_if (PW.pt (pw_or (pt_not (pt_val (pe_callB call_isi (by rfl) B.isi PyProof.Rows.boot_isinstance (pa_cons (pv 10) (pa_cons (pe_bltn (by rfl) B.bool PyProof.Rows.boot_bool (v := .ty "bool") rfl) pa_nil))))) (pw_or (pt_cmpR op_ne (pv 10) (pe_cmpR (r := rInTt K) (op_inTt hr.units) (pe_ix ix_list (pv 5) (pv 7) (fun _ _ => rfl)) (pv 3) rfl) rfl) (pw_or1 (pt_cmpR (op_neDV hr.units) (pv 8) (pv 9) rfl)))))
            (pss_one (ps_ret pe_bl))
            pss_nil)
          (pss_cons (ps_dput hu (pv 8) (pe_ix ix_list (pv 2) pe_int (fun _ _ => rfl)) (pe_ix ix_list (pv 4) (pe_call D.ok (hr.mono (by decide)) (by rfl) D.at_ D.kp D.bd .nil pass0 (pa_cons (pv 0) (pa_cons (pe_callB call_len_seq (by rfl) B.len PySem.boot_len (pa_cons (pv 4) pa_nil)) pa_nil))) (fun _ _ => rfl)) rfl)
          (pss_one (ps_if (pt_cmpR op_ne (pe_meth (pv 1) T.cl Al.mt Al.ok (hr.mono (by decide)) Al.bd .nil pass0 (pa_cons (pv 8) pa_nil)) (pe_cmpR (r := rInTt K) (op_inTt hr.units) (pe_callTy call_tuple_of (by rfl) ztuple PyProof.Rows.boot_tuple (pa_cons (pe_lc (own := [("_law_name", 11)]) (g := gName 11) (tt := tYes)  rfl nd (pi_list (pv 2)) (blkOk_by (N := nAld) (sc := defScope sAld) (by decide +kernel)) (fun _ _ _ _ _ => pg_name (i := 11) nd rfl (.inl rfl)) (fun _ _ _ _ _ => pts_nil)
        (fun _ _ _ _ _ => (pe_dget hu (pv 8) (pv 11) (fun _ _ => rfl)))) pa_nil)) (pv 3) rfl) rfl)
            (pss_one (ps_ret pe_bl))
            pss_nil)))))))))
      (pss_one (ps_ret (pe_and (pe_cmpR (r := rEqTs K) (op_eqTs hr.units) (pe_fld (pv 1) rfl) (pe_callTy call_tuple_of (by rfl) ztuple PyProof.Rows.boot_tuple (pa_cons (pv 2) pa_nil)) rfl) (pe_one (pe_cmpR (r := rEqTt K) (op_eqTt hr.units) (pe_fld (pv 1) rfl) (pe_callTy call_tuple_of (by rfl) ztuple PyProof.Rows.boot_tuple (pa_cons (pv 3) pa_nil)) rfl))))))), ?_⟩
    refine ⟨_, rfl, _, rfl, _, rfl, _, rfl, s, nl, rl, pl, ns, ts, ps, rfl, hs, en, ns_, rw0, rs, t400, lens, ep, ps_, p1, p100, n1, n12, fun H1 X us g0 lu => ?_⟩
    refine ⟨_, rfl, _, rfl, nl, _, rfl, .inl (sl_map (g0.keep _ _ ns_ en)), s, _, rfl, g0.st, by rw [List.length_map]; omega, by rw [List.length_map]; omega, fun H2 y o2 st2 y0 y1 => ?_⟩
    rw [List.length_map] at y1
    obtain ⟨a, rfl⟩ : ∃ m : Nat, y = (m : Int) := ⟨y.toNat, by omega⟩
    have g2 := g0.go ((Keep.refl _ _).oth o2) st2
    have uf := g2.few
    obtain ⟨x0, hx0⟩ : ∃ x0, ns[a]? = some x0 := ⟨_, List.getElem?_eq_getElem (by omega)⟩
    have len0 : x0.length ≤ 70 := by
      have := nms x0 (List.mem_of_getElem? hx0)
      unfold nmOk at this
      exact of_decide_eq_true (Bool.and_eq_true_iff.mp this).2
    refine ⟨_, rfl, X, _, rfl, .inl (sl_map g2.rw_.lst), _, rfl, by omega, by rw [List.length_map]; omega, for_range (lo := 0) (n := (us.map fun t => V.ref t.1).length) (fun j σ H' => ∃ (y7 y8 y9 y10 y11 : Option V), σ = [some (.ref s), some (.ref p), some (.ref nl), some (.ref rl), some (.ref pl), some (.ref X), some (.int (a : Int)), y7, y8, y9, y10, y11] ∧ RwG H H' s X us (ts.length + 3)) ⟨none, none, none, none, none, rfl, g2⟩ ?_ ?_⟩
    · clear g2 st2 o2 g0 H1 H2
      rintro j σ H1 hj ⟨y7, y8, y9, y10, y11, rfl, g⟩
      rw [List.length_map] at hj
      obtain ⟨v, hv⟩ : ∃ v, us[j]? = some v := ⟨_, List.getElem?_eq_getElem hj⟩
      have vm := List.mem_of_getElem? hv
      have hv2 : (us.map fun t => V.ref t.1)[j]? = some (.ref v.1) := by rw [List.getElem?_map, hv] <;> rfl
      have lv : v.2.length = ns.length := lu _ (List.mem_map.mpr ⟨v, vm, rfl⟩)
      have en1 := g.keep _ _ ns_ en
      refine ⟨_, rfl, _, rfl, _, rfl, nl, _, rfl, sl_map en1, fun Y1 m1 => ?_⟩
      rw [cutV_from, ← List.map_drop]
      have s1 := same_new (o := HO.lst ((ns.drop a).map V.str)) m1
      refine ⟨_, rfl, _, rfl, _, rfl, nl, _, rfl, sl_map (s1 _ _ en1), fun Y2 m2 => ?_⟩
      rw [cutV_to, ← List.map_take]
      have s2 := same_new (o := HO.lst ((ns.take a).map V.str)) m2
      refine ⟨Y1, Y2, _, _, rfl, rfl, s2 _ _ upd_same, upd_same, by rw [List.length_map, List.length_map, List.length_drop, List.length_take]; exact Nat.le_of_lt (small1000 (by omega)), fun Y3 m3 => ?_⟩
      rw [← List.map_append]
      have s3 := same_new (o := HO.lst ((ns.drop a ++ ns.take a).map V.str)) m3
      have S3 := s1.trans (s2.trans s3)
      have f3 := upd_same (H := upd (upd H1 Y1 (.lst ((ns.drop a).map V.str))) Y2 (.lst ((ns.take a).map V.str))) (a := Y3) (o := HO.lst ((ns.drop a ++ ns.take a).map V.str))
      generalize upd (upd (upd H1 Y1 (.lst ((ns.drop a).map V.str))) Y2 (.lst ((ns.take a).map V.str))) Y3 (.lst ((ns.drop a ++ ns.take a).map V.str)) = H4 at S3 f3 ⊢
      have g4 : RwG H H4 s X us (ts.length + 3) := g.go (Keep.same S3) (by obtain ⟨x, y, w, e⟩ := g.st; exact ⟨x, y, w, S3 _ _ e⟩)
      have alen : a < (v.2.map V.int).length := by rw [List.length_map]; omega
      refine ⟨_, rfl, _, rfl, X, _, _, .ref v.1, rfl, rfl, sl_map g4.rw_.lst, at_eq (by omega) hv2, _, rfl, _, rfl, ?_⟩
      refine rSlA_no (lo := some (a : Int)) (g4.rw_.tup v vm) fun T1 H5 s5 e5 => ?_
      rw [cutV_from, ← List.map_drop] at e5
      have g5 : RwG H H5 s X us (ts.length + 3) := g4.go (Keep.same s5) (by obtain ⟨x, y, w, e⟩ := g4.st; exact ⟨x, y, w, s5 _ _ e⟩)
      refine ⟨_, rfl, _, rfl, X, _, _, .ref v.1, rfl, rfl, sl_map g5.rw_.lst, at_eq (by omega) hv2, _, rfl, _, rfl, ?_⟩
      refine rSlA_of (lo := none) (hi := some (a : Int)) (g5.rw_.tup v vm) fun T2 H6 s6 e6 => ?_
      rw [cutV_to, ← List.map_take] at e6
      refine rCatT_of (s6 _ _ e5) e6 (fun z => ?_) (by rw [List.length_map, List.length_map, List.length_drop, List.length_take]; exact Nat.le_of_lt (small1000 (by omega))) fun T3 H7 s7 e7 => ?_
      · have := congrArg List.length z
        rw [List.length_map, List.length_drop] at this
        have e : ([] : List V).length = 0 := rfl
        omega
      rw [← List.map_append] at e7
      have s47 := s5.trans (s6.trans s7)
      refine ⟨Y3, T3, turn a ns, turn a v.2, rfl, s47 _ _ f3, e7, by rw [turn_len, turn_len, lv], turn_nd nd0, by rw [turn_len]; omega, fun H8 d s8 nd8 ed8 => ?_⟩
      have g8 : RwG H H8 s X us (ts.length + 3) := g4.same (s47.trans s8)
      have dH : H d = none := g4.free (s47.free nd8)
      have kz : ((turn a ns).zip (turn a v.2)).map (·.1) = turn a ns := List.map_fst_zip (by rw [turn_len, turn_len, lv]; exact Nat.le_refl _)
      obtain ⟨g0, hg0⟩ : ∃ g0 : Str → Int, ∀ (i : Nat) (x : Str) (u : Int), ns[i]? = some x → v.2[i]? = some u → g0 x = u := ⟨fun x => (aget ((turn a ns).zip (turn a v.2)) x).getD 0, fun i x u hx hu => by show Option.getD _ 0 = u; rw [aget_turn nd0 lv.symm a hx hu] <;> rfl⟩
      have row0 : ns.map g0 = v.2 := map_row lv.symm hg0
      have ga0 : ∀ x ∈ ns, aget ((turn a ns).zip (turn a v.2)) x = some (g0 x) := fun x hx => by
        obtain ⟨i, hi, rfl⟩ := List.mem_iff_getElem.mp hx
        have hv3 : v.2[i]? = some v.2[i] := List.getElem?_eq_getElem (by omega)
        rw [aget_turn nd0 lv.symm a (List.getElem?_eq_getElem hi) hv3, hg0 i _ _ (List.getElem?_eq_getElem hi) hv3]
      have vd8 : Vd H8 d ((turn a ns).zip (turn a v.2)) := ⟨ed8, by rw [kz]; exact turn_nd nd0, by rw [List.length_zip, turn_len, turn_len]; omega⟩
      have few8 : ((turn a ns).zip (turn a v.2)).length ≤ 12 := by rw [List.length_zip, turn_len, turn_len]; omega
      refine' with_restS (fun σ H' => ∃ (A : List (Str × Int)), σ = [some (.ref s), some (.ref p), some (.ref nl), some (.ref rl), some (.ref pl), some (.ref X), some (.int (a : Int)), some (.int (0 + (j : Int))), some (.ref d), y9, y10, y11] ∧ RwG H H' s X us (ts.length + 3) ∧ Vd H' d A ∧ A.length ≤ 13 ∧ ∀ x ∈ ns, aget A x = some (g0 x)) ?r1 (fun rest => ⟨_, rfl, _, rfl, _, _, rfl, rfl, .inl ⟨_, rfl, _, _, rfl, rfl, (by show (0 : Int) < 2; decide), rfl, _, rfl, ite_both (fun _ => ?g1) fun _ => rest _ _ ⟨_, rfl, g8, vd8, by omega, ga0⟩⟩⟩)
      case' g1 =>
        have hva : v.2[a]? = some v.2[a] := List.getElem?_eq_getElem (by omega)
        refine ⟨_, rfl, _, rfl, X, _, _, .ref v.1, rfl, rfl, sl_map g8.rw_.lst, at_eq (by omega) hv2, _, rfl, v.1, _, _, .int v.2[a], rfl, rfl, .inl (.inl (g8.rw_.tup v vm)), atI_nat (j := a) (by rw [List.getElem?_map, hva] <;> rfl), ?_⟩
        refine ⟨_, rfl, _, rfl, _, rfl, nl, _, _, .str x0, rfl, rfl, sl_map (g8.keep _ _ ns_ en), atI_nat (j := a) (by rw [List.getElem?_map, hx0] <;> rfl), x0, "_", rfl, rfl, Nat.le_trans (Nat.add_le_add_right len0 _) (by decide), d, _, rfl, DPut.k (k := .inr (x0 ++ "_")) vd8.un (by rw [intK_len]; exact small1000 (by omega)), ?_⟩
        rw [putK_int]
        refine rest _ _ ⟨_, rfl, g8.upd dH vd8.un, ⟨upd_same, putA_nd vd8.nd, by have := putA_len ((turn a ns).zip (turn a v.2)) (x0 ++ "_") v.2[a]; omega⟩, by have := putA_len ((turn a ns).zip (turn a v.2)) (x0 ++ "_") v.2[a]; omega, fun x hx => ?_⟩
        rw [aget_put, if_neg fun z => nm_under (nms x hx) z.symm]
        exact ga0 x hx
      rintro σ H9 ⟨A, rfl, g9, vd9, fa, ga⟩
      refine ⟨_, rfl, d, _, rfl, .inl vd9.un, fun kp nkp => ?_⟩
      have s10 := same_new (o := HO.dK (intK A)) nkp
      have g10 : RwG H (upd H9 kp (.dK (intK A))) s X us (ts.length + 3) := g9.same s10
      have vd10 := vd9.same s10
      have ek10 : (upd H9 kp (.dK (intK A))) kp = some (.dK (intK A)) := upd_same
      generalize upd H9 kp (.dK (intK A)) = H10 at g10 vd10 ek10 ⊢
      have tb10 := tb.keep hs g10.keep
      obtain ⟨dx, ta, ra, tt, hp, et, rwt, ett⟩ := id tb10
      refine ⟨_, rfl, p, dx, _, rfl, hp, tl_no (by decide +kernel) (by decide +kernel) _ _, _, rfl, p, d, ns, rws ts, A, g0, rfl, tb10, vd10.un, by omega, ga, fun H11 s11 => ?_⟩
      have g11 : RwG H H11 s X us (ts.length + 3) := g10.same s11
      have vd11 := vd10.same s11
      have rw11 : RwL H11 rl ts := rw0.keep hs rs g11.keep
      rw [row0]
      refine ⟨_, rfl, .bl _, .ty "bool", .type "bool", .type "bool", true, rfl, .ty _, .base (.bl _), kit_ty (by decide +kernel), true, rfl, iteF ?_⟩
      refine ⟨_, rfl, _, rfl, _, rfl, X, _, _, .ref v.1, rfl, rfl, sl_map g11.rw_.lst, at_eq (by omega) hv2, _, rfl, v.1, rl, v.2, ts, rfl, rfl, .inl (.inl (g11.rw_.tup v vm)), .inl (sl_map rw11.lst), fun u hu => .inl (.inl (rw11.tup u hu)), ?_⟩
      refine ⟨rfl, _, rfl, ite_both (fun c => absurd c (by simp)) fun _ => ?_⟩
      refine ⟨_, rfl, _, rfl, d, kp, _, _, rfl, rfl, vd11.un, s11 _ _ ek10, rfl, dict_hit vd11.nd, false, rfl, iteF ?_⟩
      refine ⟨_, rfl, _, rfl, _, rfl, pl, _, rfl, .inl (sl_map (g11.keep _ _ ps_ ep)), s, _, rfl, g11.st, by rw [List.length_map]; omega, by rw [List.length_map]; omega, fun H12 z o12 st12 z0 z1 => ?_⟩
      rw [List.length_map] at z1
      have g12 := g11.go ((Keep.refl _ _).oth o12) st12
      have ds : d ≠ s := fun z => hs.some (z ▸ dH)
      have vd12 : Vd H12 d A := ⟨(o12 _ ds).trans vd11.un, vd11.nd, vd11.few⟩
      obtain ⟨m, rfl⟩ : ∃ m : Nat, z = (m : Int) := ⟨z.toNat, by omega⟩
      obtain ⟨u, hu2⟩ : ∃ u, ps[m]? = some u := ⟨_, List.getElem?_eq_getElem (by omega)⟩
      obtain ⟨x1, hx1⟩ : ∃ x1, ns[0]? = some x1 := ⟨_, List.getElem?_eq_getElem (by omega)⟩
      refine ⟨pl, _, _, .int u, rfl, rfl, sl_map (g12.keep _ _ ps_ ep), atI_nat (j := m) (by rw [List.getElem?_map, hu2] <;> rfl), ?_⟩
      refine ⟨_, rfl, _, rfl, nl, _, _, .str x1, rfl, rfl, sl_map (g12.keep _ _ ns_ en), atI_nat (j := 0) (by rw [List.getElem?_map, hx1] <;> rfl), d, _, rfl, DPut.k (k := .inr x1) vd12.un (by rw [intK_len]; exact small1000 (by omega)), ?_⟩
      rw [putK_int]
      have g13 := g12.upd (o := HO.dK (intK (putA A x1 u))) dH vd12.un
      have e13 : (upd H12 d (.dK (intK (putA A x1 u)))) d = some (.dK (intK (putA A x1 u))) := upd_same
      generalize upd H12 d (.dK (intK (putA A x1 u))) = H13 at g13 e13 ⊢
      have ga2 : ∀ x ∈ ns, aget (putA A x1 u) x = some (if x1 = x then u else g0 x) := fun x hx => by
        rw [aget_put]
        by_cases c : x1 = x
        · rw [if_pos c, if_pos c]
        · rw [if_neg c, if_neg c]; exact ga x hx
      have tb13 := tb.keep hs g13.keep
      obtain ⟨dx2, ta2, ra2, tt2, hp2, et2, rwt2, ett2⟩ := id tb13
      refine ⟨_, rfl, p, dx2, _, rfl, hp2, tl_no (by decide +kernel) (by decide +kernel) _ _, _, rfl, p, d, ns, rws ts, _, fun x => if x1 = x then u else g0 x, rfl, tb13, e13, by omega, ga2, fun H14 s14 => ?_⟩
      have g14 : RwG H H14 s X us (ts.length + 3) := g13.same s14
      have en14 := g14.keep _ _ ns_ en
      refine ⟨_, rfl, nl, rfl, ⟨_, sl_map en14⟩, fun Z nZ => lc_list (xs := ns.map V.str) (fun i H' => Same H14 H' ∧ H' Z = some (.lst (((ns.take i).map fun x => if x1 = x then u else g0 x).map V.int))) ⟨same_new nZ, upd_same⟩ (fun i H' _ h => sl_map (h.1 _ _ en14)) ?_ ?_⟩
      · rintro i x0' H15 hx0' ⟨s15, eZ⟩
        rw [List.getElem?_map] at hx0'
        obtain ⟨x, hx, rfl⟩ := Option.map_eq_some_iff.mp hx0'
        have hi := (List.getElem?_eq_some_iff.mp hx).1
        refine ⟨rfl, _, rfl, _, rfl, d, _, rfl, dgetI (s15 _ _ (s14 _ _ e13)) (ga2 x (List.mem_of_getElem? hx)), _, eZ, by rw [List.length_map, List.length_map, List.length_take]; exact small1000 (by omega), same_at s15 nZ, ?_⟩
        rw [upd_same, take_snoc hx, List.map_append, List.map_append] <;> rfl
      · rintro H15 ⟨s15, eZ⟩
        rw [List.length_map, List.take_length] at eZ
        have g15 : RwG H H15 s X us (ts.length + 3) := g14.same s15
        refine ⟨Z, _, rfl, .inl ⟨sl_map eZ, fun r nr => ?_⟩⟩
        have s16 := same_new (o := HO.tup ((ns.map fun x => if x1 = x then u else g0 x).map V.int)) nr
        have e16 : (upd H15 r (.tup ((ns.map fun x => if x1 = x then u else g0 x).map V.int))) r = some (.tup ((ns.map fun x => if x1 = x then u else g0 x).map V.int)) := upd_same
        have g16 : RwG H _ s X us (ts.length + 3) := g15.same s16
        generalize upd H15 r (.tup ((ns.map fun x => if x1 = x then u else g0 x).map V.int)) = H16 at g16 e16 ⊢
        have rw16 : RwL H16 rl ts := rw0.keep hs rs g16.keep
        refine ⟨_, rfl, r, rl, _, ts, rfl, rfl, .inl (.inl e16), .inl (sl_map rw16.lst), fun u hu => .inl (.inl (rw16.tup u hu)), ?_⟩
        refine ⟨rfl, _, rfl, ite_both (fun c => absurd c (by simp)) fun _ => ?_⟩
        exact ⟨_, _, _, _, _, rfl, g16⟩
    · rintro σ H3 ⟨y7, y8, y9, y10, y11, rfl, g⟩
      obtain ⟨dx, ta, ra, tt, hp, et, rwt, ett⟩ := tb.keep hs g.keep
      have rw3 : RwL H3 rl ts := rw0.keep hs rs g.keep
      refine ⟨_, rfl, p, C, dx, _, _, rfl, hp, T.cl, T.no _ (by simp), tlook1 _ _, _, rfl, nl, _, rfl, .inl ⟨sl_map (g.keep _ _ ns_ en), fun T1 nT1 => ?_⟩⟩
      have s1 := same_new (o := HO.tup (ns.map V.str)) nT1
      refine ⟨ta, T1, ns, ns, rfl, rfl, (et.same s1).sq, .inl (.inl upd_same), _, rfl, ?_⟩
      rw [if_pos (decide_eq_true rfl)]
      refine ⟨_, rfl, p, C, dx, _, _, rfl, s1 _ _ hp, T.cl, T.no _ (by simp), tlook2 _ _, _, rfl, rl, _, rfl, .inl ⟨sl_map (s1 _ _ rw3.lst), fun T2 nT2 => ?_⟩⟩
      have s2 := s1.trans (same_new (o := HO.tup (ts.map fun t => V.ref t.1)) nT2)
      refine ⟨ra, T2, tt, ts, rfl, rfl, .inl (.inl (s2 _ _ rwt.lst)), .inl (.inl upd_same), fun u hu => .inl (.inl (s2 _ _ (rwt.tup u hu))), fun u hu => .inl (.inl (s2 _ _ (rw3.tup u hu))), ?_⟩
      rw [decide_eq_true (show tt.map (·.2) = ts.map (·.2) from ett)]
      have g2 : RwG H _ s X us (ts.length + 3) := g.same s2
      exact q _ g2.keep g2.st
end
end K07
set_option Elab.async false
set_option linter.all false
set_option maxRecDepth 100000
set_option maxHeartbeats 4000000
namespace K07
open PySem PySem.Spec PyProof.Rows L2 Cs CsX
/-- another side for x, in the same list -/
def repl (M : List Ent) (x : Str) (ks : List Int) : List Ent := M.map fun e => if e.1 = x then (e.1, e.2.1, ks) else e
theorem repl_keys (M : List Ent) (x : Str) (ks : List Int) : (repl M x ks).map (·.1) = M.map (·.1) := by
  unfold repl
  rw [List.map_map]
  refine List.map_congr_left fun e _ => ?_
  show (if e.1 = x then (e.1, e.2.1, ks) else e).1 = e.1
  split <;> rfl
theorem repl_ads (M : List Ent) (x : Str) (ks : List Int) : (repl M x ks).map (·.2.1) = M.map (·.2.1) := by
  unfold repl
  rw [List.map_map]
  refine List.map_congr_left fun e _ => ?_
  show (if e.1 = x then (e.1, e.2.1, ks) else e).2.1 = e.2.1
  split <;> rfl
theorem repl_ent (M : List Ent) (x : Str) (ks : List Int) : entK (repl M x ks) = entK M := by
  unfold entK repl
  rw [List.map_map]
  refine List.map_congr_left fun e _ => ?_
  show (Sum.inr (if e.1 = x then (e.1, e.2.1, ks) else e).1, V.ref (if e.1 = x then (e.1, e.2.1, ks) else e).2.1) = _
  split <;> rfl
theorem repl_repl (M : List Ent) (x : Str) (ks js : List Int) : repl (repl M x ks) x js = repl M x js := by
  unfold repl
  rw [List.map_map]
  refine List.map_congr_left fun e _ => ?_
  by_cases c : e.1 = x <;> simp [c]
theorem repl_mem {M : List Ent} {x : Str} {ks : List Int} {g : Ent} (h : g ∈ repl M x ks) : ∃ e ∈ M, e.1 = g.1 ∧ e.2.1 = g.2.1 ∧ ((e.1 = x ∧ g.2.2 = ks) ∨ (e.1 ≠ x ∧ g = e)) := by
  obtain ⟨e, he, rfl⟩ := List.mem_map.mp h
  refine ⟨e, he, ?_⟩
  by_cases c : e.1 = x
  · rw [if_pos c]; exact ⟨rfl, rfl, .inl ⟨c, rfl⟩⟩
  · rw [if_neg c]; exact ⟨rfl, rfl, .inr ⟨c, rfl⟩⟩
theorem inj_at {α β : Type} {M : List α} {f : α → β} (h : (M.map f).Nodup) {a b : α} (ha : a ∈ M) (hb : b ∈ M) (e : f a = f b) : a = b := by
  obtain ⟨i, hi⟩ := List.mem_iff_getElem?.mp ha
  obtain ⟨j, hj⟩ := List.mem_iff_getElem?.mp hb
  have h1 : (M.map f)[i]? = some (f a) := by rw [List.getElem?_map, hi] <;> rfl
  have h2 : (M.map f)[j]? = some (f a) := by rw [List.getElem?_map, hj, e] <;> rfl
  rw [nd_ix h h1 h2, hj] at hi
  exact (Option.some.inj hi).symm
theorem Nb.repl {H0 H : Hp} {d a : Addr} {M : List Ent} {x : Str} {s ks : List Int} (N : Nb H0 H d M) (hm : (x, a, s) ∈ M) : Nb H0 (upd H a (.lst (ks.map V.int))) d (K07.repl M x ks) := by
  have ad : d ≠ a := fun z => by have h1 := N.un; have h2 := N.sides _ hm; rw [z] at h1; rw [show H a = _ from h2] at h1; cases h1
  have un : (upd H a (.lst (ks.map V.int))) d = some (.dK (entK (K07.repl M x ks))) := by rw [upd_ne ad, repl_ent]; exact N.un
  refine ⟨⟨⟨.inl un, fun g hg => ?_, by rw [repl_keys]; exact N.nd, by unfold K07.repl; rw [List.length_map]; exact N.few⟩, un⟩, N.fresh, fun g hg => ?_, by rw [repl_ads]; exact N.inj⟩
  · obtain ⟨e, he, e1, e2, c⟩ := repl_mem hg
    rcases c with ⟨c1, c2⟩ | ⟨c1, c2⟩
    · have : e = (x, a, s) := inj_at N.nd he hm c1
      rw [← e2, this, c2]; exact upd_same
    · rw [c2]
      have : e.2.1 ≠ a := fun z => c1 (by rw [inj_at N.inj he hm z])
      rw [upd_ne this]; exact N.sides e he
  · obtain ⟨e, he, e1, e2, _⟩ := repl_mem hg
    rw [← e2]; exact N.freshS e he
theorem repl_in {M : List Ent} {x : Str} {a : Addr} {s ks : List Int} (hm : (x, a, s) ∈ M) : (x, a, ks) ∈ repl M x ks := List.mem_map.mpr ⟨_, hm, if_pos rfl⟩
theorem Nb.dget {H0 H : Hp} {d a : Addr} {M : List Ent} {x : Str} {s : List Int} (N : Nb H0 H d M) (hm : (x, a, s) ∈ M) : DGet H d (.str x) (some (.ref a)) ∧ H a = some (.lst (s.map V.int)) := by
  have g := N.toBu.toBx.get x
  rw [getE_of N.nd hm] at g
  exact ⟨g, N.sides _ hm⟩
theorem look_repl {x : Str} {ks : List Int} {y : Str} (n : y ≠ x) : ∀ M : List Ent, look (repl M x ks) y = look M y
  | [] => rfl
  | e :: M => by
    have ih := look_repl n (ks := ks) M
    have hr : repl (e :: M) x ks = (if e.1 = x then (e.1, e.2.1, ks) else e) :: repl M x ks := rfl
    unfold look at ih ⊢
    rw [hr]
    by_cases c : e.1 = y
    · have : e.1 ≠ x := fun z => n (c.symm.trans z)
      rw [if_neg this, getE_pos c, getE_pos c]
    · have c2 : (if e.1 = x then (e.1, e.2.1, ks) else e).1 ≠ y := by
        split <;> exact c
      rw [getE_neg c2, getE_neg c]
      exact ih
theorem KeepL.at_ {as : List Addr} {H H' : Hp} {p : Addr} {o : HO} (k : KeepL as H H') (h : p ∈ as) : KeepL as H (upd H' p o) := fun b u n e => by
  have : b ≠ p := fun z => n (by rw [z]; exact h)
  rw [upd_ne this]; exact k b u n e
theorem look_in {M : List Ent} {x : Str} {a : Addr} {ks : List Int} (nd : (M.map (·.1)).Nodup) (h : (x, a, ks) ∈ M) : look M x = some ks := by
  unfold look
  rw [show getE M x = some (x, a, ks) from getE_of (e := (x, a, ks)) nd h]; rfl
theorem keep_same {H H1 H2 : Hp} {s : Addr} (a : Same H H1) (k : Keep s H1 H2) (n : H s = none) : Same H H2 := fun b o e => k b o (ne_some' e n) (a b o e)
/-- a box's side of x -/
def sdB (N : List Ent) (x : Str) : List Int := (look N x).getD []
theorem Bg.fit {H H1 : Hp} {s b : Addr} {ns : List Str} {N : List Ent} {c : Nat} (g : Bg H H1 s b ns N c) : Fit N ns (sdB N) ∧ ∀ x ∈ ns, Srt (sdB N x) ∧ (sdB N x).length ≤ c := by
  have h : ∀ x ∈ ns, ∃ e ∈ N, look N x = some e.2.2 := fun x hx => by
    rw [← g.keys] at hx
    obtain ⟨e, he, rfl⟩ := List.mem_map.mp hx
    refine ⟨e, he, ?_⟩
    unfold look
    rw [getE_of g.nb.nd he] <;> rfl
  refine ⟨fun x hx => ?_, fun x hx => ?_⟩
  · obtain ⟨e, he, l⟩ := h x hx
    unfold sdB; rw [l] <;> rfl
  · obtain ⟨e, he, l⟩ := h x hx
    unfold sdB; rw [l]
    exact g.srt e he
theorem Bu.keepL2 {H H' : Hp} {d : Addr} {M : List Ent} {as : List Addr} (B : Bu H d M) (k : KeepL as H H') (h1 : d ∉ as) (h2 : ∀ e ∈ M, e.2.1 ∉ as) : Bu H' d M :=
  ⟨⟨.inl (k _ _ h1 B.un), fun e he => k _ _ (h2 e he) (B.sides e he), B.nd, B.few⟩, k _ _ h1 B.un⟩
theorem Fit.at_ {b : Addr} {L : List Ent} {ns : List Str} {S : Str → List Int} (F : Fit L ns S) {x : Str} (hx : x ∈ ns) : ∃ e ∈ L, ∀ {H : Hp}, Bu H b L → DGet H b (.str x) (some (.ref e.2.1)) ∧ H e.2.1 = some (.lst ((S x).map V.int)) := by
  have h := F x hx
  unfold look at h
  obtain ⟨e, he, e2⟩ := Option.map_eq_some_iff.mp h
  refine ⟨e, (getE_mem he).1, fun {H} B => ?_⟩
  have g := B.toBx.get x
  rw [he] at g
  refine ⟨g, ?_⟩
  rw [← e2]; exact B.sides e (getE_mem he).1
structure Dat (K : PySem.W.Frag) (C : Addr) (H : Hp) (a nl pl rl ol p1 p2 : Addr) (cs : List Int) (ns : List Str) (ps : List Int) (ts us : List Row) : Prop where
  ha : SqL K H a (cs.map V.int)
  en : H nl = some (.lst (ns.map V.str))
  ep : H pl = some (.lst (ps.map V.int))
  r1 : RwL H rl ts
  r2 : RwL H ol us
  t1 : Tb C H p1 ns (rws ts)
  t2 : Tb C H p2 ns (rws us)
theorem Dat.same {K : PySem.W.Frag} {C : Addr} {H H' : Hp} {a nl pl rl ol p1 p2 : Addr} {cs : List Int} {ns : List Str} {ps : List Int} {ts us : List Row} (d : Dat K C H a nl pl rl ol p1 p2 cs ns ps ts us) (s : Same H H') : Dat K C H' a nl pl rl ol p1 p2 cs ns ps ts us :=
  ⟨s.seq d.ha, s _ _ d.en, s _ _ d.ep, d.r1.same s, d.r2.same s, d.t1.same s, d.t2.same s⟩
section
variable {P : Program} {w : World} {K : PySem.W.Frag} {mg : Str → Option Value} {base : Heap}
abbrev sLaw : Stmt := topS 37
abbrev nLaw : List Str := ["_law_script", "_law_stream_here", "_law_size", "_law_pool_here", "_law_names_here", "_law_rows_here", "_law_second", "_law_others", "_law_table", "_law_other", "_law_third", "_law_handed", "_law_later", "_law_turn", "_law_name", "_law_value"]
theorem scLaw : FnScope nLaw ["_law_script"] (defScope sLaw) := ⟨rfl, rfl, rfl, by decide +kernel, rfl, by decide +kernel, by decide +kernel⟩
def spLaw (K : PySem.W.Frag) : Sp := fun vs H Q _ => ∃ (a : Addr) (ns : List Int), vs = [.ref a] ∧ SqL K H a (ns.map V.int) ∧ ns.length ≤ 63 ∧ ∀ H', Q (.bl true) H'
theorem ok_Law {f f0 f1 f2 f3 f4 f5 f6 f7 f8 f9 f10 f11 C : Addr} {fd fd0 fd1 fd2 fd3 fd4 fd5 fd6 fd7 fd8 fd9 fd10 fd11 : FuncData} (F : Fun K "law" "law" sLaw f fd) (B : Bt mg) (T : Kls K mg "Table" C tF)
    (Cst : Call P w K mg base 1 "_law_stream" f0 fd0 ["_law_script", "_law_k"] (spStream K)) (D : Call P w K mg base 1 "_law_next" f1 fd1 ["_law_stream_here", "_law_size"] spDraw)
    (Cpo : Call P w K mg base 2 "_law_pool" f2 fd2 ["_law_stream_here", "_law_count"] spPool) (Cna : Call P w K mg base 2 "_law_names" f3 fd3 ["_law_stream_here", "_law_count"] spNames)
    (CSom : Call P w K mg base 3 "_law_some_rows" f4 fd4 ["_law_stream_here", "_law_names_here", "_law_pool_here"] spSom) (CRws : Call P w K mg base 2 "_law_rows" f5 fd5 ["_law_stream_here", "_law_scope", "_law_pool_here", "_law_many"] spRws)
    (CPas : Call P w K mg base 1 "_law_passed" f6 fd6 ["_law_rows_here", "_law_first"] spPas) (MT : CallN P w K mg base 2 C f7 fd7 ["self", "names", "rows"] (spTin C))
    (CBxx : Call P w K mg base 3 "_law_box" f8 fd8 ["_law_stream_here", "_law_names_here", "_law_pool_here", "_law_rows_here"] spBxx) (CGiv : Call P w K mg base 3 "_law_given" f9 fd9 ["_law_stream_here", "_law_names_here", "_law_sides_here", "_law_pool_here"] spGiv)
    (CDue : Call P w K mg base 4 "_law_due" f10 fd10 ["_law_table", "_law_names_here", "_law_rows_here", "_law_handed"] (spDue C)) (CAld : Call P w K mg base 3 "_law_allows_due" f11 fd11 ["_law_stream_here", "_law_table", "_law_names_here", "_law_rows_here", "_law_pool_here"] (spAld C)) :
    FnOk P w K mg base CX0 5 f fd ["_law_script"] (spLaw K) := by
  refine F.ok scLaw (fun vs H Q E h => ?_) (fun cdv A outer s H vs Q E hr h => ?_)
  · obtain ⟨a, ns, rfl, _⟩ := h
    rfl
  · obtain ⟨a, cs, rfl, ha, ln, q⟩ := h
    have hu := hu_of hr
    have nd := scLaw.nd
    refine ⟨_, pss_cons (ps_set (i := 1) nd rfl (.inl rfl) (pe_call Cst.ok (hr.mono (by decide)) (by rfl) Cst.at_ Cst.kp Cst.bd .nil pass0 (pa_cons (pv 0) (pa_cons pe_int pa_nil))))
      (pss_cons (ps_set (i := 2) nd rfl (.inl rfl) (pe_op op_add pe_int (pe_call D.ok (hr.mono (by decide)) (by rfl) D.at_ D.kp D.bd .nil pass0 (pa_cons (pv 1) (pa_cons pe_int pa_nil)))))
      (pss_cons (ps_if (pt_cmpR op_eq (pe_call D.ok (hr.mono (by decide)) (by rfl) D.at_ D.kp D.bd .nil pass0 (pa_cons (pv 1) (pa_cons pe_int pa_nil))) pe_int rfl)
        (pss_one (ps_set (i := 2) nd rfl (.inl rfl) (pe_op op_add (pv 2) pe_int)))
        pss_nil)
      (pss_cons (ps_set (i := 3) nd rfl (.inl rfl) (pe_call Cpo.ok (hr.mono (by decide)) (by rfl) Cpo.at_ Cpo.kp Cpo.bd .nil pass0 (pa_cons (pv 1) (pa_cons (pe_op op_add pe_int (pe_call D.ok (hr.mono (by decide)) (by rfl) D.at_ D.kp D.bd .nil pass0 (pa_cons (pv 1) (pa_cons pe_int pa_nil)))) pa_nil))))
      (pss_cons (ps_if (pt_cmpR op_eq (pe_call D.ok (hr.mono (by decide)) (by rfl) D.at_ D.kp D.bd .nil pass0 (pa_cons (pv 1) (pa_cons pe_int pa_nil))) pe_int rfl)
        (pss_one (ps_set (i := 3) nd rfl (.inl rfl) (pe_op op_cat (pe_op op_cat (pe_lst (pa_cons (pe_un un_neg (pe_op op_pow pe_int pe_int)) pa_nil)) (pv 3)) (pe_lst (pa_cons (pe_op op_pow pe_int pe_int) pa_nil)))))
        pss_nil)
      (pss_cons (ps_set (i := 4) nd rfl (.inl rfl) (pe_call Cna.ok (hr.mono (by decide)) (by rfl) Cna.at_ Cna.kp Cna.bd .nil pass0 (pa_cons (pe_call Cst.ok (hr.mono (by decide)) (by rfl) Cst.at_ Cst.kp Cst.bd .nil pass0 (pa_cons (pv 0) (pa_cons pe_int pa_nil))) (pa_cons (pv 2) pa_nil))))
      (pss_cons (ps_set (i := 5) nd rfl (.inl rfl) (pe_call CSom.ok (hr.mono (by decide)) (by rfl) CSom.at_ CSom.kp CSom.bd .nil pass0 (pa_cons (pe_call Cst.ok (hr.mono (by decide)) (by rfl) Cst.at_ Cst.kp Cst.bd .nil pass0 (pa_cons (pv 0) (pa_cons pe_int pa_nil))) (pa_cons (pv 4) (pa_cons (pv 3) pa_nil)))))
      (pss_cons (ps_set (i := 6) nd rfl (.inl rfl) (pe_call Cst.ok (hr.mono (by decide)) (by rfl) Cst.at_ Cst.kp Cst.bd .nil pass0 (pa_cons (pv 0) (pa_cons pe_int pa_nil))))
      (pss_cons (ps_set (i := 7) nd rfl (.inl rfl) (pe_call CRws.ok (hr.mono (by decide)) (by rfl) CRws.at_ CRws.kp CRws.bd .nil pass0 (pa_cons (pv 6) (pa_cons (pv 4) (pa_cons (pv 3) (pa_cons (pe_call D.ok (hr.mono (by decide)) (by rfl) D.at_ D.kp D.bd .nil pass0 (pa_cons (pv 6) (pa_cons pe_int pa_nil))) pa_nil))))))
      (pss_cons (ps_set (i := 8) nd rfl (.inl rfl) (pe_make MT.mkr MT.ok (hr.mono (by decide)) (by rfl) T.gC MT.bd .nil pass0 (pa_cons (pe_callTy call_list_of (by rfl) B.list PyProof.Rows.boot_list (pa_cons (pv 4) pa_nil)) (pa_cons (pe_call CPas.ok (hr.mono (by decide)) (by rfl) CPas.at_ CPas.kp CPas.bd .nil pass0 (pa_cons (pv 5) (pa_cons (pe_call D.ok (hr.mono (by decide)) (by rfl) D.at_ D.kp D.bd .nil pass0 (pa_cons (pv 6) (pa_cons pe_int pa_nil))) pa_nil))) pa_nil))))
      (pss_cons (ps_set (i := 9) nd rfl (.inl rfl) (pe_make MT.mkr MT.ok (hr.mono (by decide)) (by rfl) T.gC MT.bd .nil pass0 (pa_cons (pe_callTy call_list_of (by rfl) B.list PyProof.Rows.boot_list (pa_cons (pv 4) pa_nil)) (pa_cons (pe_call CPas.ok (hr.mono (by decide)) (by rfl) CPas.at_ CPas.kp CPas.bd .nil pass0 (pa_cons (pv 7) (pa_cons (pe_call D.ok (hr.mono (by decide)) (by rfl) D.at_ D.kp D.bd .nil pass0 (pa_cons (pv 6) (pa_cons pe_int pa_nil))) pa_nil))) pa_nil))))
      (pss_cons (ps_set (i := 10) nd rfl (.inl rfl) (pe_call Cst.ok (hr.mono (by decide)) (by rfl) Cst.at_ Cst.kp Cst.bd .nil pass0 (pa_cons (pv 0) (pa_cons pe_int pa_nil))))
      (pss_cons (ps_set (i := 11) nd rfl (.inl rfl) (pe_call CGiv.ok (hr.mono (by decide)) (by rfl) CGiv.at_ CGiv.kp CGiv.bd .nil pass0 (pa_cons (pv 10) (pa_cons (pv 4) (pa_cons (pe_call CBxx.ok (hr.mono (by decide)) (by rfl) CBxx.at_ CBxx.kp CBxx.bd .nil pass0 (pa_cons (pv 10) (pa_cons (pv 4) (pa_cons (pv 3) (pa_cons (pv 5) pa_nil))))) (pa_cons (pv 3) pa_nil))))))
      (pss_cons (ps_set (i := 12) nd rfl (.inl rfl) (pe_call CBxx.ok (hr.mono (by decide)) (by rfl) CBxx.at_ CBxx.kp CBxx.bd .nil pass0 (pa_cons (pe_call Cst.ok (hr.mono (by decide)) (by rfl) Cst.at_ Cst.kp Cst.bd .nil pass0 (pa_cons (pv 0) (pa_cons pe_int pa_nil))) (pa_cons (pv 4) (pa_cons (pv 3) (pa_cons (pv 7) pa_nil))))))
      (pss_cons (ps_for PassesOwn.never rfl (pi_range1 (by rfl) B.range (pa_cons pe_int pa_nil)) (pg_name (i := 13) nd rfl (.inl rfl))
        (pss_cons (ps_if (PW.pt (pw_or (pt_not (pt_val (pe_call CDue.ok (hr.mono (by decide)) (by rfl) CDue.at_ CDue.kp CDue.bd .nil pass0 (pa_cons (pv 8) (pa_cons (pv 4) (pa_cons (pv 5) (pa_cons (pv 11) pa_nil))))))) (pw_or1 (pt_not (pt_val (pe_call CDue.ok (hr.mono (by decide)) (by rfl) CDue.at_ CDue.kp CDue.bd .nil pass0 (pa_cons (pv 9) (pa_cons (pv 4) (pa_cons (pv 7) (pa_cons (pv 11) pa_nil))))))))))
            (pss_one (ps_ret pe_bl))
            pss_nil)
          (pss_cons (ps_if (pt_not (pt_val (pe_call CDue.ok (hr.mono (by decide)) (by rfl) CDue.at_ CDue.kp CDue.bd .nil pass0 (pa_cons (pv 8) (pa_cons (pv 4) (pa_cons (pv 5) (pa_cons (pv 11) pa_nil)))))))
            (pss_one (ps_ret pe_bl))
            pss_nil)
          (pss_one (ps_for PassesOwn.never rfl (pi_list (pv 4)) (pg_name (i := 14) nd rfl (.inl rfl))
            (pss_cons (ps_expr (pe_bm0 PySem.F.plainAttrs_list PySem.F.slot_list_clear PySem.F.type_list_clear mt_clear (pe_dget hu (pv 11) (pv 14) (fun _ _ => rfl))))
              (pss_one (ps_for PassesOwn.never rfl (pi_list (pe_dget hu (pv 12) (pv 14) (fun _ _ => rfl))) (pg_name (i := 15) nd rfl (.inl rfl))
                (pss_one (ps_expr (pe_bm PySem.F.plainAttrs_list PySem.F.slot_list_append PySem.F.type_list_append mt_append (pe_dget hu (pv 11) (pv 14) (fun _ _ => rfl)) (pa_cons (pv 15) pa_nil))))))))))))
      (pss_cons (ps_if (pt_not (pt_val (pe_call CAld.ok (hr.mono (by decide)) (by rfl) CAld.at_ CAld.kp CAld.bd .nil pass0 (pa_cons (pe_call Cst.ok (hr.mono (by decide)) (by rfl) Cst.at_ Cst.kp Cst.bd .nil pass0 (pa_cons (pv 0) (pa_cons pe_int pa_nil))) (pa_cons (pv 8) (pa_cons (pv 4) (pa_cons (pv 5) (pa_cons (pv 3) pa_nil))))))))
        (pss_one (ps_ret pe_bl))
        pss_nil)
      (pss_one (ps_ret (pe_call CAld.ok (hr.mono (by decide)) (by rfl) CAld.at_ CAld.kp CAld.bd .nil pass0 (pa_cons (pe_call Cst.ok (hr.mono (by decide)) (by rfl) Cst.at_ Cst.kp Cst.bd .nil pass0 (pa_cons (pv 0) (pa_cons pe_int pa_nil))) (pa_cons (pv 9) (pa_cons (pv 4) (pa_cons (pv 7) (pa_cons (pv 3) pa_nil))))))))))))))))))))))), ?_⟩
    refine ⟨_, rfl, a, cs, 0, rfl, ha, fun H1 s0 s1 ns0 st1 => ?_⟩
    refine ⟨_, rfl, s0, 4, rfl, st1, by decide, by decide, fun H2 y2 o2 st2 y20 y21 => ⟨1, y2, rfl, rfl, ?_⟩⟩
    refine' with_restS (fun σ H' => ∃ z : Int, σ = [some (.ref a), some (.ref s0), some (.int z), none, none, none, none, none, none, none, none, none, none, none, none, none] ∧ Same H H' ∧ Strm H' s0 ∧ 1 ≤ z ∧ z ≤ 8) ?r1 (fun rest => ⟨_, rfl, s0, 8, rfl, st2, by decide, by decide, fun H3 y3 o3 st3 y30 y31 => ⟨rfl, _, rfl, ite_both (fun _ => ?g1) fun _ => rest _ _ ⟨_, rfl, keep_same s1 (((Keep.refl _ _).oth o2).oth o3) ns0, st3, by omega, by omega⟩⟩⟩)
    case' g1 =>
      refine ⟨_, rfl, _, _, rfl, rfl, ?_⟩
      exact rest _ _ ⟨_, rfl, keep_same s1 (((Keep.refl _ _).oth o2).oth o3) ns0, st3, by omega, by omega⟩
    clear st2 o2 st1 s1 H2 H1
    rintro σ H3 ⟨z, rfl, s3, st3, z1, z8⟩
    obtain ⟨m, rfl⟩ : ∃ m : Nat, z = (m : Int) := ⟨z.toNat, by omega⟩
    refine ⟨_, rfl, _, rfl, s0, 4, rfl, st3, by decide, by decide, fun H4 y4 o4 st4 y40 y41 => ⟨2, y4, rfl, rfl, ?_⟩⟩
    obtain ⟨j, rfl⟩ : ∃ j : Nat, y4 = (j : Int) := ⟨y4.toNat, by omega⟩
    refine ⟨s0, 2 + j, by show [V.ref s0, V.int (2 + (j : Int))] = [V.ref s0, V.int ((2 + j : Nat) : Int)]; rw [show ((2 + j : Nat) : Int) = 2 + (j : Int) by omega], st4, by omega, by omega, fun H5 pl0 ps0 k5 n5 st5 e5 so5 l5 b5 => ?_⟩
    have S5 : Same H H5 := keep_same (keep_same s3 ((Keep.refl _ _).oth o4) ns0) k5 ns0
    have p0s : pl0 ≠ s0 := fun z => st4.some (z ▸ n5)
    refine' with_restS (fun σ H' => ∃ (pl : Addr) (ps : List Int), σ = [some (.ref a), some (.ref s0), some (.int (m : Int)), some (.ref pl), none, none, none, none, none, none, none, none, none, none, none, none] ∧ Same H H' ∧ H' pl = some (.lst (ps.map V.int)) ∧ Srt ps ∧ 1 ≤ ps.length ∧ ps.length ≤ 20) ?r2 (fun rest => ⟨_, rfl, s0, 8, rfl, st5, by decide, by decide, fun H6 y6 o6 st6 y60 y61 => ⟨rfl, _, rfl, ite_both (fun _ => ?g2) fun _ => rest _ _ ⟨pl0, ps0, rfl, keep_same S5 ((Keep.refl _ _).oth o6) ns0, (o6 _ p0s).trans e5, so5, by omega, by omega⟩⟩⟩)
    case' g2 =>
      have S6 : Same H H6 := keep_same S5 ((Keep.refl _ _).oth o6) ns0
      have e6 : H6 pl0 = some (.lst (ps0.map V.int)) := (o6 _ p0s).trans e5
      refine ⟨10, 12, rfl, rfl, ⟨by decide, by decide, by decide⟩, _, rfl, by show 1 ≤ sizeLine; decide, fun a1 na1 => ?_⟩
      obtain ⟨z, hz, zz⟩ : ∃ z : Int, z = 10 ^ (12 : Int).toNat ∧ z = 1000000000000 := ⟨_, rfl, by decide⟩
      rw [← hz]
      have x1 := same_new (o := HO.lst [V.int (-z)]) na1
      refine ⟨_, rfl, a1, pl0, _, _, rfl, rfl, upd_same, x1 _ _ e6, by rw [List.length_map, l5]; exact Nat.le_of_lt (small1000 (by show 1 + (2 + j) ≤ 1000; omega)), fun a2 na2 => ?_⟩
      have x2 := same_new (o := HO.lst ([V.int (-z)] ++ ps0.map V.int)) na2
      refine ⟨10, 12, rfl, rfl, ⟨by decide, by decide, by decide⟩, by show 1 ≤ sizeLine; decide, fun a3 na3 => ?_⟩
      rw [show (fun (i j : Int) => V.int (i ^ j.toNat)) 10 12 = V.int z by rw [hz]]
      have x3 := same_new (o := HO.lst [V.int z]) na3
      refine ⟨a2, a3, _, _, rfl, rfl, x3 _ _ upd_same, upd_same, by rw [List.length_append, List.length_map, l5]; exact Nat.le_of_lt (small1000 (by show 1 + (2 + j) + 1 ≤ 1000; omega)), fun a4 na4 => ?_⟩
      have x4 := same_new (o := HO.lst ([V.int (-z)] ++ ps0.map V.int ++ [V.int z])) na4
      have x := ((x1.trans x2).trans x3).trans x4
      refine rest _ _ ⟨a4, ([-z] ++ ps0) ++ [z], rfl, S6.trans x, by rw [upd_same, List.map_append, List.map_append] <;> rfl, ?_, by simp, by simp; omega⟩
      refine srt_snoc (List.pairwise_append.mpr ⟨List.pairwise_singleton _ _, so5, fun u hu v hv => ?_⟩) fun k hk => ?_
      · have h1 := List.mem_singleton.mp hu
        have h2 := b5 v hv
        omega
      · rcases List.mem_append.mp hk with h | h
        · have h1 := List.mem_singleton.mp h
          omega
        · have h2 := b5 k h
          omega
    clear b5 l5 so5 e5 p0s S5 st5 k5 n5 st4 o4 st3 s3 H5 H4 H3 ps0 pl0 y2 y20 y21
    rintro σ H6 ⟨pl, ps, rfl, s6, e6, sp, p1, p20⟩
    refine ⟨_, rfl, a, cs, 1, rfl, s6.seq ha, fun H7 w1 s7 nw1 st7 => ⟨_, rfl, w1, m, rfl, st7, by omega, fun H8 nl ns k8 nnl st8 en8 nd0 lns nms => ?_⟩⟩
    have s8 : Same H6 H8 := keep_same s7 k8 nw1
    have S8 := s6.trans s8
    have ep8 := s8 _ _ e6
    clear st8 k8 st7 s7 H7 nnl nw1 w1 s8
    refine ⟨_, rfl, a, cs, 2, rfl, S8.seq ha, fun H9 w2 s9 nw2 st9 => ⟨_, rfl, _, rfl, w2, nl, pl, ns, ps, rfl, st9, s9 _ _ en8, ne_some' en8 nw2, s9 _ _ ep8, ne_some' ep8 nw2, p1, by omega, by omega, fun H10 rl ts g10 lens => ?_⟩⟩
    have s10 : Same H8 H10 := keep_same s9 g10.keep nw2
    have S10 := S8.trans s10
    have en10 := s10 _ _ en8
    have ep10 := s10 _ _ ep8
    have r10 := g10.rw_
    have t70 := g10.few
    clear g10 s10 s9 st9 nw2 H9 en8 ep8 S8 H8 e6 s6 H6 w2
    -- the second stream
    refine ⟨_, rfl, a, cs, 3, rfl, S10.seq ha, fun H11 s3 s11 ns3 st11 => ?_⟩
    refine ⟨_, rfl, _, rfl, _, rfl, _, rfl, s3, 5, rfl, st11, by decide, by decide, fun H12 y o12 st12 y0 y1 => ?_⟩
    obtain ⟨m2, rfl⟩ : ∃ m : Nat, y = (m : Int) := ⟨y.toNat, by omega⟩
    have s12 : Same H10 H12 := keep_same s11 ((Keep.refl _ _).oth o12) ns3
    refine ⟨s3, nl, pl, ns, ps, m2, rfl, st12, s12 _ _ en10, ne_some' en10 ns3, s12 _ _ ep10, ne_some' ep10 ns3, p1, by omega, by omega, by omega, fun H13 ol us g13 lens2 => ?_⟩
    have s13 : Same H10 H13 := keep_same s12 g13.keep ns3
    have u6 := g13.few
    have st13 := g13.st
    have r213 := g13.rw_
    have o3 : ol ≠ s3 := g13.ls
    have en13 := s13 _ _ en10
    have ep13 := s13 _ _ ep10
    have r13 := r10.same s13
    have n3 : nl ≠ s3 := ne_some' en10 ns3
    have l3 : pl ≠ s3 := ne_some' ep10 ns3
    have l2 : rl ≠ s3 := ne_some' r10.lst ns3
    have S13 := S10.trans s13
    have a3 : ∀ {G : Hp}, Keep s3 H13 G → Same H10 G := fun k => keep_same s13 k ns3
    clear g13 s12 st12 o12 st11 s11 H12 H11 en10 ep10
    -- the first table
    refine ⟨_, rfl, nl, _, rfl, .inl (sl_map en13), fun Z nZ => ?_⟩
    have sZ := same_new (o := HO.lst (ns.map V.str)) nZ
    have Zs : Z ≠ s3 := fun z => st13.some (z ▸ nZ)
    have stZ := st13.upd (o := HO.lst (ns.map V.str)) Zs.symm
    have eZ : (upd H13 Z (.lst (ns.map V.str))) Z = some (.lst (ns.map V.str)) := upd_same
    generalize upd H13 Z (.lst (ns.map V.str)) = HZ at sZ stZ eZ ⊢
    refine ⟨_, rfl, _, rfl, s3, 2, rfl, stZ, by decide, by decide, fun HY y oY stY y0 y1 => ?_⟩
    have kY : Keep s3 H13 HY := (Keep.same sZ).oth oY
    refine ⟨rl, ts, y, rfl, r13.keep st13 (by assumption) kY, by omega, y0, by omega, fun HX r vs_P1 sX nr er rh eu => ?_⟩
    have kX : Keep s3 H13 HX := kY.trans (Keep.same sX)
    have stX : Strm HX s3 := by obtain ⟨x, y, w, e⟩ := stY; exact ⟨x, y, w, sX _ _ e⟩
    have eZX : HX Z = some (.lst (ns.map V.str)) := sX _ _ ((oY _ Zs).trans eZ)
    refine fun P1 dx nu ndx ne => ⟨P1, dx, Z, r, ns, vs_P1, rfl, upd_same, same_at (same_new ndx) nu _ _ eZX, ?_, nd0, by omega, same_at (same_new ndx) nu _ _ er, fun u hu => ⟨(rh u hu).same (same_at (same_new ndx) nu), ?_⟩, ?_, fun H17 tbP1 kp => ⟨rfl, ?_⟩⟩
    · intro z; rw [z] at lns; exact absurd lns (by show ¬ 0 = m; omega)
    · exact lens _ (by rw [← eu]; exact List.mem_map.mpr ⟨u, hu, rfl⟩)
    · have := congrArg List.length eu; rw [List.length_map, List.length_map] at this; omega
    have sK : Same HX H17 := fun b o e => kp b o (ne_some' e nu) (by rw [upd_ne (ne_some' e nu)]; exact same_new ndx _ _ e)
    have k17 : Keep s3 H13 H17 := kX.trans (Keep.same sK)
    rw [eu] at tbP1
    have st17 : Strm H17 s3 := by obtain ⟨x, y, w, e⟩ := stX; exact ⟨x, y, w, sK _ _ e⟩
    have en17 := k17 _ _ n3 en13
    have ep17 := k17 _ _ l3 ep13
    have r17 := r13.keep st13 l2 k17
    have r217 := r213.keep st13 o3 k17
    clear eZX stX kX sK kp rh er nr sX kY stY oY eZ stZ sZ eu Zs
    refine ⟨_, rfl, nl, _, rfl, .inl (sl_map en17), fun Z nZ => ?_⟩
    have sZ := same_new (o := HO.lst (ns.map V.str)) nZ
    have Zs : Z ≠ s3 := fun z => st17.some (z ▸ nZ)
    have stZ := st17.upd (o := HO.lst (ns.map V.str)) Zs.symm
    have eZ : (upd H17 Z (.lst (ns.map V.str))) Z = some (.lst (ns.map V.str)) := upd_same
    generalize upd H17 Z (.lst (ns.map V.str)) = HZ at sZ stZ eZ ⊢
    refine ⟨_, rfl, _, rfl, s3, 2, rfl, stZ, by decide, by decide, fun HY y oY stY y0 y1 => ?_⟩
    have kY : Keep s3 H17 HY := (Keep.same sZ).oth oY
    refine ⟨ol, us, y, rfl, r217.keep st17 (by assumption) kY, by omega, y0, by omega, fun HX r vs_P2 sX nr er rh eu => ?_⟩
    have kX : Keep s3 H17 HX := kY.trans (Keep.same sX)
    have stX : Strm HX s3 := by obtain ⟨x, y, w, e⟩ := stY; exact ⟨x, y, w, sX _ _ e⟩
    have eZX : HX Z = some (.lst (ns.map V.str)) := sX _ _ ((oY _ Zs).trans eZ)
    refine fun P2 dx nu ndx ne => ⟨P2, dx, Z, r, ns, vs_P2, rfl, upd_same, same_at (same_new ndx) nu _ _ eZX, ?_, nd0, by omega, same_at (same_new ndx) nu _ _ er, fun u hu => ⟨(rh u hu).same (same_at (same_new ndx) nu), ?_⟩, ?_, fun H21 tbP2 kp => ⟨rfl, ?_⟩⟩
    · intro z; rw [z] at lns; exact absurd lns (by show ¬ 0 = m; omega)
    · exact lens2 _ (by rw [← eu]; exact List.mem_map.mpr ⟨u, hu, rfl⟩)
    · have := congrArg List.length eu; rw [List.length_map, List.length_map] at this; omega
    have sK : Same HX H21 := fun b o e => kp b o (ne_some' e nu) (by rw [upd_ne (ne_some' e nu)]; exact same_new ndx _ _ e)
    have k21 : Keep s3 H17 H21 := kX.trans (Keep.same sK)
    rw [eu] at tbP2
    have st21 : Strm H21 s3 := by obtain ⟨x, y, w, e⟩ := stX; exact ⟨x, y, w, sK _ _ e⟩
    have en21 := k21 _ _ n3 en17
    have ep21 := k21 _ _ l3 ep17
    have r21 := r17.keep st17 l2 k21
    have r221 := r217.keep st17 o3 k21
    have d0 : Dat K C H21 a nl pl rl ol P1 P2 cs ns ps ts us := ⟨(S10.trans (a3 (k17.trans k21))).seq ha, en21, ep21, r21, r221, tbP1.keep st17 k21, tbP2⟩
    clear eZX stX kX sK kp rh er nr sX kY stY oY eZ stZ sZ eu Zs k21 k17 tbP1 tbP2 en21 ep21 r21 r221 st21 en17 ep17 r17 r217 st17 en13 ep13 r13 r213 st13 n3 l3 l2 o3 a3 S13 s13 S10 ns3 r10 H10
    have p100 : ps.length ≤ 100 := by omega
    have n1 : 1 ≤ ns.length := by omega
    have n12 : ns.length ≤ 12 := by omega
    have ts400 : ts.length ≤ 400 := by omega
    have us400 : us.length ≤ 400 := by omega
    -- the box that is handed
    refine ⟨_, rfl, a, cs, 4, rfl, d0.ha, fun H22 s4 s22 ns4 st22 => ?_⟩
    have d22 := d0.same s22
    have h4 : ∀ {b : Addr} {o : HO}, H21 b = some o → b ≠ s4 := fun h => ne_some' h ns4
    refine ⟨_, rfl, _, rfl, _, rfl, _, rfl, _, rfl, _, rfl, s4, nl, pl, rl, ns, ps, ts, rfl, st22, d22.en, h4 d0.en, d22.ep, h4 d0.ep, sp, p1, p100, n1, n12, nd0, d22.r1, h4 d0.r1.lst, ts400, lens, fun H23 b N g23 => ?_⟩
    have s23 : Same H21 H23 := keep_same s22 g23.keep ns4
    have d23 := d0.same s23
    obtain ⟨fitN, srtN⟩ := g23.fit
    refine ⟨_, rfl, H22, s4, nl, b, pl, ns, ps, N, sdB N, rfl, g23.st, d23.en, h4 d0.en, d23.ep, h4 d0.ep, p100, n1, n12, nms, g23.nb, st22.some, fitN, fun H24 d M k24 st24 nb24 lM fitM => ?_⟩
    have s24 : Same H21 H24 := keep_same s23 k24 ns4
    -- from H23 with the stream
    have d24 := d0.same s24
    have nb21 : Nb H21 H24 d M := ⟨nb24.toBu, s23.free nb24.fresh, fun e he => s23.free (nb24.freshS e he), nb24.inj⟩
    clear nb24 st24 k24 g23 d23 s23 H23 d22 st22 s22 h4 ns4 H22 fitN
    -- the later box
    refine ⟨_, rfl, a, cs, 5, rfl, d24.ha, fun H25 s5 s25 ns5 st25 => ?_⟩
    have d25 := d24.same s25
    have h5 : ∀ {b : Addr} {o : HO}, H24 b = some o → b ≠ s5 := fun h => ne_some' h ns5
    refine ⟨_, rfl, _, rfl, _, rfl, s5, nl, pl, ol, ns, ps, us, rfl, st25, d25.en, h5 d24.en, d25.ep, h5 d24.ep, sp, p1, p100, n1, n12, nd0, d25.r2, h5 d24.r2.lst, us400, lens2, fun H26 b2 N2 g26 => ?_⟩
    have s26 : Same H24 H26 := keep_same s25 g26.keep ns5
    obtain ⟨fit2, srt2⟩ := g26.fit
    have nb26 := nb21.push s26
    have bu2 : Bu H26 b2 N2 := g26.nb.toBu
    obtain ⟨as, has⟩ : ∃ as, as = M.map (·.2.1) := ⟨_, rfl⟩
    have asf : ∀ b ∈ as, H21 b = none := fun b hb => by
      rw [has] at hb
      obtain ⟨e, he, rfl⟩ := List.mem_map.mp hb
      exact nb21.freshS e he
    have inA : ∀ b ∈ as, H24 b ≠ none := fun b hb => by
      rw [has] at hb
      obtain ⟨e, he, rfl⟩ := List.mem_map.mp hb
      have := nb21.sides e he
      rw [this]; exact fun z => by cases z
    have b2n : b2 ∉ as := fun h => inA _ h (s25.free g26.nb.fresh)
    have N2n : ∀ e ∈ N2, e.2.1 ∉ as := fun e he h => inA _ h (s25.free (g26.nb.freshS e he))
    have base : ∀ {G : Hp}, KeepL as H26 G → Same H21 G := fun k b o e => k b o (fun z => by rw [asf b z] at e; cases e) (s26 _ _ (s24 _ _ e))
    have d26 := d24.same s26
    clear inA h5 d25 s25 st25 ns5 g26 nb21 s26 d24 s24
    -- two turns
    refine ⟨2, rfl, by decide, by decide, for_range (lo := 0) (n := 2) (fun i σ H' => ∃ (y13 y14 y15 : Option V) (M' : List Ent) (S : Str → List Int), σ = [some (.ref a), some (.ref s0), some (.int (m : Int)), some (.ref pl), some (.ref nl), some (.ref rl), some (.ref s3), some (.ref ol), some (.ref P1), some (.ref P2), some (.ref s4), some (.ref d), some (.ref b2), y13, y14, y15] ∧ KeepL as H26 H' ∧ Nb H21 H' d M' ∧ M'.map (·.2.1) = as ∧ Fit M' ns S ∧ ∀ x ∈ ns, Srt (S x) ∧ (S x).length ≤ 40)
      ⟨none, none, none, M, sdB N, rfl, KeepL.refl _ _, nb26, has.symm, fitM, srtN⟩ ?_ ?_⟩
    · clear d26 nb26 fitM srtN lM has
      rintro i σ H1 hi ⟨y13, y14, y15, M', S, rfl, k1, nb1, ads, fit1, srt1⟩
      have e1 := d0.same (base k1)
      refine ⟨_, rfl, _, rfl, _, rfl, _, rfl, P1, nl, rl, d, ns, ts, M', S, rfl, e1.t1, e1.en, e1.r1, lens, n1, n12, nd0, ts400, nb1.toBu, fit1, srt1, fun H2 s2 => ⟨true, rfl, iteF ?_⟩⟩
      have e2 := e1.same s2
      have nb2 := nb1.push s2
      refine ⟨_, rfl, _, rfl, _, rfl, _, rfl, P2, nl, ol, d, ns, us, M', S, rfl, e2.t2, e2.en, e2.r2, lens2, n1, n12, nd0, us400, nb2.toBu, fit1, srt1, fun H3 s3' => ⟨true, rfl, iteF ?_⟩⟩
      have e3 := e2.same s3'
      have nb3 := nb2.push s3'
      refine ⟨_, rfl, _, rfl, _, rfl, _, rfl, P1, nl, rl, d, ns, ts, M', S, rfl, e3.t1, e3.en, e3.r1, lens, n1, n12, nd0, ts400, nb3.toBu, fit1, srt1, fun H4 s4' => ⟨true, rfl, iteF ?_⟩⟩
      have nb4 := nb3.push s4'
      have k4 : KeepL as H26 H4 := k1.same (s2.trans (s3'.trans s4'))
      clear nb3 e3 s4' H3 s3' nb2 e2 s2 H2 e1 nb1 k1 H1
      have e4 := d0.same (base k4)
      refine ⟨_, rfl, nl, rfl, ⟨_, sl_map e4.en⟩, for_list (xs := ns.map V.str) (fun j σ H' => ∃ (y14 y15 : Option V) (M'' : List Ent), σ = [some (.ref a), some (.ref s0), some (.int (m : Int)), some (.ref pl), some (.ref nl), some (.ref rl), some (.ref s3), some (.ref ol), some (.ref P1), some (.ref P2), some (.ref s4), some (.ref d), some (.ref b2), some (.int (0 + (i : Int))), y14, y15] ∧ KeepL as H26 H' ∧ Nb H21 H' d M'' ∧ M''.map (·.2.1) = as ∧ M''.map (·.1) = M'.map (·.1) ∧ ∀ x ∈ ns.take j, look M'' x = some (sdB N2 x))
        ⟨_, _, M', rfl, k4, nb4, ads, rfl, (fun _ h => nomatch h)⟩ (fun j σ H' _ h => by obtain ⟨_, _, _, _, h, _⟩ := h; exact sl_map (d0.same (base h)).en) ?_ ?_⟩
      · clear e4 nb4 k4 H4
        rintro j x0 σ H5 hx0 ⟨y14, y15, M'', rfl, k5, nb5, ads5, keys5, lk⟩
        rw [List.getElem?_map] at hx0
        obtain ⟨x, hx1, rfl⟩ := Option.map_eq_some_iff.mp hx0
        have hx := List.mem_of_getElem? hx1
        obtain ⟨⟨x', sa, ss⟩, hm, e1⟩ : ∃ e ∈ M'', e.1 = x := by
          have h := fit1 x hx
          unfold look at h
          obtain ⟨e, he, _⟩ := Option.map_eq_some_iff.mp h
          have : x ∈ M''.map (·.1) := by rw [keys5, ← (getE_mem he).2]; exact List.mem_map.mpr ⟨e, (getE_mem he).1, rfl⟩
          obtain ⟨g, hg, h2⟩ := List.mem_map.mp this
          exact ⟨g, hg, h2⟩
        have e1' : x' = x := e1
        subst e1'
        obtain ⟨ga, ea⟩ := nb5.dget hm
        have sin : sa ∈ as := by rw [← ads5]; exact List.mem_map.mpr ⟨_, hm, rfl⟩
        refine ⟨_, rfl, _, rfl, d, .ref sa, rfl, ga, .inl ⟨rfl, _, sl_map ea⟩, sa, _, rfl, rfl, ea, ?_⟩
        have nb6 : Nb H21 (upd H5 sa (.lst [])) d (repl M'' x' []) := nb5.repl (ks := []) hm
        have k6 : KeepL as H26 (upd H5 sa (.lst [])) := k5.at_ sin
        generalize upd H5 sa (.lst []) = H6 at nb6 k6 ⊢
        clear ga ea nb5 k5 H5
        obtain ⟨e2, he2, gk0⟩ := fit2.at_ (b := b2) hx
        have gk : ∀ {G : Hp}, KeepL as H26 G → DGet G b2 (.str x') (some (.ref e2.2.1)) ∧ G e2.2.1 = some (.lst ((sdB N2 x').map V.int)) := fun k => gk0 (bu2.keepL2 k b2n N2n)
        have kan : e2.2.1 ∉ as := N2n _ he2
        have l40 : (sdB N2 x').length ≤ 40 := (srt2 x' hx).2
        obtain ⟨sk, hsk⟩ : ∃ sk, sk = sdB N2 x' := ⟨_, rfl⟩
        rw [← hsk] at gk l40
        refine ⟨_, rfl, _, rfl, b2, .ref e2.2.1, rfl, (gk k6).1, e2.2.1, rfl, ⟨_, sl_map (gk k6).2⟩, for_list (xs := sk.map V.int) (fun t1 σ H' => ∃ (y15 : Option V), σ = [some (.ref a), some (.ref s0), some (.int (m : Int)), some (.ref pl), some (.ref nl), some (.ref rl), some (.ref s3), some (.ref ol), some (.ref P1), some (.ref P2), some (.ref s4), some (.ref d), some (.ref b2), some (.int (0 + (i : Int))), some (.str x'), y15] ∧ KeepL as H26 H' ∧ Nb H21 H' d (repl M'' x' (sk.take t1)))
          ⟨_, rfl, k6, nb6⟩ (fun j σ H' _ h => by obtain ⟨_, _, h, _⟩ := h; exact sl_map (gk h).2) ?_ ?_⟩
        · clear nb6 k6 H6 y15
          rintro t1 x0 σ H6 hx0 ⟨y15, rfl, k6, nb⟩
          rw [List.getElem?_map] at hx0
          obtain ⟨v, hv, rfl⟩ := Option.map_eq_some_iff.mp hx0
          have ht := (List.getElem?_eq_some_iff.mp hv).1
          obtain ⟨ga, ea⟩ := nb.dget (repl_in hm)
          refine ⟨_, rfl, _, rfl, d, .ref sa, rfl, ga, .inl ⟨rfl, _, sl_map ea⟩, _, rfl, sa, _, _, rfl, rfl, ea, by rw [List.length_map, List.length_take]; exact small1000 (by omega), _, rfl, k6.at_ sin, ?_⟩
          have := nb.repl (ks := sk.take (t1 + 1)) (repl_in hm)
          rw [repl_repl, take_snoc hv, List.map_append] at this
          rw [take_snoc hv]
          exact this
        · clear nb6 k6 H6 y15
          rintro σ H6 ⟨y15, rfl, k6, nb⟩
          rw [List.length_map, List.take_length] at nb
          refine ⟨_, _, _, rfl, k6, nb, (repl_ads _ _ _).trans ads5, (repl_keys _ _ _).trans keys5, fun y hy => ?_⟩
          by_cases c : y = x'
          · rw [c, ← hsk]
            exact look_in nb.nd (repl_in hm)
          · rw [look_repl c]
            rw [take_snoc hx1] at hy
            rcases List.mem_append.mp hy with h | h
            · exact lk y h
            · exact absurd (List.mem_singleton.mp h) c
      · clear e4 nb4 k4 H4
        rintro σ H5 ⟨y14, y15, M'', rfl, k5, nb5, ads5, keys5, lk⟩
        rw [List.length_map, List.take_length] at lk
        exact ⟨_, _, _, M'', sdB N2, rfl, k5, nb5, ads5, lk, srt2⟩
    · clear d26 nb26 fitM srtN lM has
      rintro σ H1 ⟨y13, y14, y15, M', S, rfl, k1, nb1, ads, fit1, srt1⟩
      have e1 := d0.same (base k1)
      refine ⟨_, rfl, a, cs, 6, rfl, e1.ha, fun H2 s6 s2 ns6 st2 => ?_⟩
      have e2 := e1.same s2
      have h6 : ∀ {b : Addr} {o : HO}, H1 b = some o → b ≠ s6 := fun h => ne_some' h ns6
      refine ⟨_, rfl, _, rfl, _, rfl, _, rfl, s6, P1, nl, rl, pl, ns, ts, ps, rfl, st2, e2.t1, e2.en, h6 e1.en, e2.r1, h6 e1.r1.lst, ts400, lens, e2.ep, h6 e1.ep, p1, p100, n1, n12, nd0, nms, fun H3 k3 st3 => ⟨true, rfl, iteF ?_⟩⟩
      have e3 := e1.same (keep_same s2 k3 ns6)
      refine ⟨_, rfl, a, cs, 7, rfl, e3.ha, fun H4 s7 s4' ns7 st4 => ?_⟩
      have e4 := e3.same s4'
      have h7 : ∀ {b : Addr} {o : HO}, H3 b = some o → b ≠ s7 := fun h => ne_some' h ns7
      exact ⟨_, rfl, _, rfl, _, rfl, _, rfl, s7, P2, nl, ol, pl, ns, us, ps, rfl, st4, e4.t2, e4.en, h7 e3.en, e4.r2, h7 e3.r2.lst, us400, lens2, e4.ep, h7 e3.ep, p1, p100, n1, n12, nd0, nms, fun H5 k5 st5 => q _⟩
end
end K07
set_option Elab.async false
set_option linter.all false
set_option maxRecDepth 100000
set_option maxHeartbeats 4000000
namespace K07
open PySem PySem.Spec PyProof.Rows L2 Cs CsX
/-! ### what the top has written -/
theorem all_mk {l : PySem.W.OpenLaw} {w : World} {K : PySem.W.Frag} {h : Heap} {mg : Str → Option Value} {fa kk0 km0_0 km0_1 km0_2 km0_3 km0_4 f1 f2 f3 f4 f5 f6 f7 f8 f9 f10 f11 f12 f13 f14 f15 f16 f17 f18 f19 f20 f21 f22 f23 f24 f25 f26 f27 : Addr} (X : K.In h) (G : h.Ns mainGlobals mg) (hfa : mg "law" = some (.ref fa))
    {od1 an1 od2 an2 od3 an3 od4 an4 od5 an5 od6 an6 od7 an7 od8 an8 od9 an9 od10 an10 od11 an11 od12 an12 od13 an13 od14 an14 od15 an15 od16 an16 od17 an17 od18 an18 od19 an19 od20 an20 od21 an21 od22 an22 od23 an23 od24 an24 od25 an25 od26 an26 od27 an27 : Option Addr} {sl1 sl2 sl3 sl4 sl5 sl6 sl7 sl8 sl9 sl10 sl11 sl12 sl13 sl14 sl15 sl16 sl17 sl18 sl19 sl20 sl21 sl22 sl23 sl24 sl25 sl26 sl27 : Array (Option Value)}
    {oc1 kV1 dc1 pm1 cd1 ct1 oc2 kV2 dc2 pm2 cd2 ct2 oc3 kV3 dc3 pm3 cd3 ct3 oc4 kV4 dc4 pm4 cd4 ct4 oc5 kV5 dc5 pm5 cd5 ct5 oc6 kV6 dc6 pm6 cd6 ct6 oc7 kV7 dc7 pm7 cd7 ct7 oc8 kV8 dc8 pm8 cd8 ct8 oc9 kV9 dc9 pm9 cd9 ct9 oc10 kV10 dc10 pm10 cd10 ct10 oc11 kV11 dc11 pm11 cd11 ct11 oc12 kV12 dc12 pm12 cd12 ct12 oc13 kV13 dc13 pm13 cd13 ct13 oc14 kV14 dc14 pm14 cd14 ct14 oc15 kV15 dc15 pm15 cd15 ct15 oc16 kV16 dc16 pm16 cd16 ct16 oc17 kV17 dc17 pm17 cd17 ct17 oc18 kV18 dc18 pm18 cd18 ct18 oc19 kV19 dc19 pm19 cd19 ct19 oc20 kV20 dc20 pm20 cd20 ct20 oc21 kV21 dc21 pm21 cd21 ct21 oc22 kV22 dc22 pm22 cd22 ct22 oc23 kV23 dc23 pm23 cd23 ct23 oc24 kV24 dc24 pm24 cd24 ct24 oc25 kV25 dc25 pm25 cd25 ct25 oc26 kV26 dc26 pm26 cd26 ct26 oc27 kV27 dc27 pm27 cd27 ct27 : Value}
    {km0_0od km0_0an : Option Addr} {km0_0sl : Array (Option Value)} {km0_0oc km0_0kV km0_0dc km0_0pm km0_0cd km0_0ct : Value}
    {km0_1od km0_1an : Option Addr} {km0_1sl : Array (Option Value)} {km0_1oc km0_1kV km0_1dc km0_1pm km0_1cd km0_1ct : Value}
    {km0_2od km0_2an : Option Addr} {km0_2sl : Array (Option Value)} {km0_2oc km0_2kV km0_2dc km0_2pm km0_2cd km0_2ct : Value}
    {km0_3od km0_3an : Option Addr} {km0_3sl : Array (Option Value)} {km0_3oc km0_3kV km0_3dc km0_3pm km0_3cd km0_3ct : Value}
    {km0_4od km0_4an : Option Addr} {km0_4sl : Array (Option Value)} {km0_4oc km0_4kV km0_4dc km0_4pm km0_4cd km0_4ct : Value}
    (a1 : PySem.W.nsIn K mainGlobals "_law_stream" = some (some (.ref f1))) (l1 : K.lookup f1 = some ⟨oc1, od1, .func (PySem.W.fnOf "_law_stream" "_law_stream" (defArgs sStream) (defBody sStream) (defScope sStream) .none kV1 dc1 pm1 an1 cd1 ct1), sl1⟩) (c1 : PySem.W.codeIn K cd1 "_law_stream" = true) (k1 : PySem.W.keepIn K (.ref f1) = true)
    (a2 : PySem.W.nsIn K mainGlobals "_law_next" = some (some (.ref f2))) (l2 : K.lookup f2 = some ⟨oc2, od2, .func (PySem.W.fnOf "_law_next" "_law_next" (defArgs sDraw) (defBody sDraw) (defScope sDraw) .none kV2 dc2 pm2 an2 cd2 ct2), sl2⟩) (c2 : PySem.W.codeIn K cd2 "_law_next" = true) (k2 : PySem.W.keepIn K (.ref f2) = true)
    (a3 : PySem.W.nsIn K mainGlobals "_law_pool" = some (some (.ref f3))) (l3 : K.lookup f3 = some ⟨oc3, od3, .func (PySem.W.fnOf "_law_pool" "_law_pool" (defArgs sPool) (defBody sPool) (defScope sPool) .none kV3 dc3 pm3 an3 cd3 ct3), sl3⟩) (c3 : PySem.W.codeIn K cd3 "_law_pool" = true) (k3 : PySem.W.keepIn K (.ref f3) = true)
    (a4 : PySem.W.nsIn K mainGlobals "_law_names" = some (some (.ref f4))) (l4 : K.lookup f4 = some ⟨oc4, od4, .func (PySem.W.fnOf "_law_names" "_law_names" (defArgs sNames) (defBody sNames) (defScope sNames) .none kV4 dc4 pm4 an4 cd4 ct4), sl4⟩) (c4 : PySem.W.codeIn K cd4 "_law_names" = true) (k4 : PySem.W.keepIn K (.ref f4) = true)
    (a5 : PySem.W.nsIn K mainGlobals "_law_rows" = some (some (.ref f5))) (l5 : K.lookup f5 = some ⟨oc5, od5, .func (PySem.W.fnOf "_law_rows" "_law_rows" (defArgs sRws) (defBody sRws) (defScope sRws) .none kV5 dc5 pm5 an5 cd5 ct5), sl5⟩) (c5 : PySem.W.codeIn K cd5 "_law_rows" = true) (k5 : PySem.W.keepIn K (.ref f5) = true)
    (a6 : PySem.W.nsIn K mainGlobals "_law_some_rows" = some (some (.ref f6))) (l6 : K.lookup f6 = some ⟨oc6, od6, .func (PySem.W.fnOf "_law_some_rows" "_law_some_rows" (defArgs sSom) (defBody sSom) (defScope sSom) .none kV6 dc6 pm6 an6 cd6 ct6), sl6⟩) (c6 : PySem.W.codeIn K cd6 "_law_some_rows" = true) (k6 : PySem.W.keepIn K (.ref f6) = true)
    (a7 : PySem.W.nsIn K mainGlobals "_law_passed" = some (some (.ref f7))) (l7 : K.lookup f7 = some ⟨oc7, od7, .func (PySem.W.fnOf "_law_passed" "_law_passed" (defArgs sPas) (defBody sPas) (defScope sPas) .none kV7 dc7 pm7 an7 cd7 ct7), sl7⟩) (c7 : PySem.W.codeIn K cd7 "_law_passed" = true) (k7 : PySem.W.keepIn K (.ref f7) = true)
    (a8 : PySem.W.nsIn K mainGlobals "checked_names" = some (some (.ref f8))) (l8 : K.lookup f8 = some ⟨oc8, od8, .func (PySem.W.fnOf "checked_names" "checked_names" (defArgs sChk) (defBody sChk) (defScope sChk) .none kV8 dc8 pm8 an8 cd8 ct8), sl8⟩) (c8 : PySem.W.codeIn K cd8 "checked_names" = true) (k8 : PySem.W.keepIn K (.ref f8) = true)
    (a9 : PySem.W.nsIn K mainGlobals "checked_rows" = some (some (.ref f9))) (l9 : K.lookup f9 = some ⟨oc9, od9, .func (PySem.W.fnOf "checked_rows" "checked_rows" (defArgs sCkr) (defBody sCkr) (defScope sCkr) .none kV9 dc9 pm9 an9 cd9 ct9), sl9⟩) (c9 : PySem.W.codeIn K cd9 "checked_rows" = true) (k9 : PySem.W.keepIn K (.ref f9) = true)
    (a10 : PySem.W.nsIn K mainGlobals "_law_sides" = some (some (.ref f10))) (l10 : K.lookup f10 = some ⟨oc10, od10, .func (PySem.W.fnOf "_law_sides" "_law_sides" (defArgs sSd) (defBody sSd) (defScope sSd) .none kV10 dc10 pm10 an10 cd10 ct10), sl10⟩) (c10 : PySem.W.codeIn K cd10 "_law_sides" = true) (k10 : PySem.W.keepIn K (.ref f10) = true)
    (a11 : PySem.W.nsIn K mainGlobals "_law_domains" = some (some (.ref f11))) (l11 : K.lookup f11 = some ⟨oc11, od11, .func (PySem.W.fnOf "_law_domains" "_law_domains" (defArgs sDoms) (defBody sDoms) (defScope sDoms) .none kV11 dc11 pm11 an11 cd11 ct11), sl11⟩) (c11 : PySem.W.codeIn K cd11 "_law_domains" = true) (k11 : PySem.W.keepIn K (.ref f11) = true)
    (a12 : PySem.W.nsIn K mainGlobals "_law_box" = some (some (.ref f12))) (l12 : K.lookup f12 = some ⟨oc12, od12, .func (PySem.W.fnOf "_law_box" "_law_box" (defArgs sBxx) (defBody sBxx) (defScope sBxx) .none kV12 dc12 pm12 an12 cd12 ct12), sl12⟩) (c12 : PySem.W.codeIn K cd12 "_law_box" = true) (k12 : PySem.W.keepIn K (.ref f12) = true)
    (a13 : PySem.W.nsIn K mainGlobals "_law_part" = some (some (.ref f13))) (l13 : K.lookup f13 = some ⟨oc13, od13, .func (PySem.W.fnOf "_law_part" "_law_part" (defArgs sPart) (defBody sPart) (defScope sPart) .none kV13 dc13 pm13 an13 cd13 ct13), sl13⟩) (c13 : PySem.W.codeIn K cd13 "_law_part" = true) (k13 : PySem.W.keepIn K (.ref f13) = true)
    (a14 : PySem.W.nsIn K mainGlobals "_law_given" = some (some (.ref f14))) (l14 : K.lookup f14 = some ⟨oc14, od14, .func (PySem.W.fnOf "_law_given" "_law_given" (defArgs sGiv) (defBody sGiv) (defScope sGiv) .none kV14 dc14 pm14 an14 cd14 ct14), sl14⟩) (c14 : PySem.W.codeIn K cd14 "_law_given" = true) (k14 : PySem.W.keepIn K (.ref f14) = true)
    (a15 : PySem.W.nsIn K mainGlobals "_law_copied" = some (some (.ref f15))) (l15 : K.lookup f15 = some ⟨oc15, od15, .func (PySem.W.fnOf "_law_copied" "_law_copied" (defArgs sCopied) (defBody sCopied) (defScope sCopied) .none kV15 dc15 pm15 an15 cd15 ct15), sl15⟩) (c15 : PySem.W.codeIn K cd15 "_law_copied" = true) (k15 : PySem.W.keepIn K (.ref f15) = true)
    (a16 : PySem.W.nsIn K mainGlobals "_law_row_inside" = some (some (.ref f16))) (l16 : K.lookup f16 = some ⟨oc16, od16, .func (PySem.W.fnOf "_law_row_inside" "_law_row_inside" (defArgs sIns) (defBody sIns) (defScope sIns) .none kV16 dc16 pm16 an16 cd16 ct16), sl16⟩) (c16 : PySem.W.codeIn K cd16 "_law_row_inside" = true) (k16 : PySem.W.keepIn K (.ref f16) = true)
    (a17 : PySem.W.nsIn K mainGlobals "row_within" = some (some (.ref f17))) (l17 : K.lookup f17 = some ⟨oc17, od17, .func (PySem.W.fnOf "row_within" "row_within" (defArgs sRwi) (defBody sRwi) (defScope sRwi) .none kV17 dc17 pm17 an17 cd17 ct17), sl17⟩) (c17 : PySem.W.codeIn K cd17 "row_within" = true) (k17 : PySem.W.keepIn K (.ref f17) = true)
    (a18 : PySem.W.nsIn K mainGlobals "side_of" = some (some (.ref f18))) (l18 : K.lookup f18 = some ⟨oc18, od18, .func (PySem.W.fnOf "side_of" "side_of" (defArgs sSof) (defBody sSof) (defScope sSof) .none kV18 dc18 pm18 an18 cd18 ct18), sl18⟩) (c18 : PySem.W.codeIn K cd18 "side_of" = true) (k18 : PySem.W.keepIn K (.ref f18) = true)
    (a19 : PySem.W.nsIn K mainGlobals "_law_is_integer" = some (some (.ref f19))) (l19 : K.lookup f19 = some ⟨oc19, od19, .func (PySem.W.fnOf "_law_is_integer" "_law_is_integer" (defArgs sIsInt) (defBody sIsInt) (defScope sIsInt) .none kV19 dc19 pm19 an19 cd19 ct19), sl19⟩) (c19 : PySem.W.codeIn K cd19 "_law_is_integer" = true) (k19 : PySem.W.keepIn K (.ref f19) = true)
    (a20 : PySem.W.nsIn K mainGlobals "_law_is_side" = some (some (.ref f20))) (l20 : K.lookup f20 = some ⟨oc20, od20, .func (PySem.W.fnOf "_law_is_side" "_law_is_side" (defArgs sIsSide) (defBody sIsSide) (defScope sIsSide) .none kV20 dc20 pm20 an20 cd20 ct20), sl20⟩) (c20 : PySem.W.codeIn K cd20 "_law_is_side" = true) (k20 : PySem.W.keepIn K (.ref f20) = true)
    (a21 : PySem.W.nsIn K mainGlobals "_law_same_values" = some (some (.ref f21))) (l21 : K.lookup f21 = some ⟨oc21, od21, .func (PySem.W.fnOf "_law_same_values" "_law_same_values" (defArgs sSv) (defBody sSv) (defScope sSv) .none kV21 dc21 pm21 an21 cd21 ct21), sl21⟩) (c21 : PySem.W.codeIn K cd21 "_law_same_values" = true) (k21 : PySem.W.keepIn K (.ref f21) = true)
    (a22 : PySem.W.nsIn K mainGlobals "_law_values" = some (some (.ref f22))) (l22 : K.lookup f22 = some ⟨oc22, od22, .func (PySem.W.fnOf "_law_values" "_law_values" (defArgs sVal) (defBody sVal) (defScope sVal) .none kV22 dc22 pm22 an22 cd22 ct22), sl22⟩) (c22 : PySem.W.codeIn K cd22 "_law_values" = true) (k22 : PySem.W.keepIn K (.ref f22) = true)
    (a23 : PySem.W.nsIn K mainGlobals "_law_due" = some (some (.ref f23))) (l23 : K.lookup f23 = some ⟨oc23, od23, .func (PySem.W.fnOf "_law_due" "_law_due" (defArgs sDue) (defBody sDue) (defScope sDue) .none kV23 dc23 pm23 an23 cd23 ct23), sl23⟩) (c23 : PySem.W.codeIn K cd23 "_law_due" = true) (k23 : PySem.W.keepIn K (.ref f23) = true)
    (a24 : PySem.W.nsIn K mainGlobals "_law_tried" = some (some (.ref f24))) (l24 : K.lookup f24 = some ⟨oc24, od24, .func (PySem.W.fnOf "_law_tried" "_law_tried" (defArgs sTri) (defBody sTri) (defScope sTri) .none kV24 dc24 pm24 an24 cd24 ct24), sl24⟩) (c24 : PySem.W.codeIn K cd24 "_law_tried" = true) (k24 : PySem.W.keepIn K (.ref f24) = true)
    (a25 : PySem.W.nsIn K mainGlobals "row_of" = some (some (.ref f25))) (l25 : K.lookup f25 = some ⟨oc25, od25, .func (PySem.W.fnOf "row_of" "row_of" (defArgs sRof) (defBody sRof) (defScope sRof) .none kV25 dc25 pm25 an25 cd25 ct25), sl25⟩) (c25 : PySem.W.codeIn K cd25 "row_of" = true) (k25 : PySem.W.keepIn K (.ref f25) = true)
    (a26 : PySem.W.nsIn K mainGlobals "_law_allows_due" = some (some (.ref f26))) (l26 : K.lookup f26 = some ⟨oc26, od26, .func (PySem.W.fnOf "_law_allows_due" "_law_allows_due" (defArgs sAld) (defBody sAld) (defScope sAld) .none kV26 dc26 pm26 an26 cd26 ct26), sl26⟩) (c26 : PySem.W.codeIn K cd26 "_law_allows_due" = true) (k26 : PySem.W.keepIn K (.ref f26) = true)
    (a27 : PySem.W.nsIn K mainGlobals "law" = some (some (.ref f27))) (l27 : K.lookup f27 = some ⟨oc27, od27, .func (PySem.W.fnOf "law" "law" (defArgs sLaw) (defBody sLaw) (defScope sLaw) .none kV27 dc27 pm27 an27 cd27 ct27), sl27⟩) (c27 : PySem.W.codeIn K cd27 "law" = true) (k27 : PySem.W.keepIn K (.ref f27) = true)
    (kc0 : PySem.W.nsIn K mainGlobals "Table" = some (some (.ref kk0)))
    (kpg0 : PySem.W.plainGet K kk0 Str.empty = true)
    (khd0 : PySem.W.hasDictIn K kk0 = true)
    (kpo0 : PySem.W.plainOver K kk0 = true)
    (ksa0 : PySem.W.findIn K (.ref kk0) "__setattr__" = some (some (.builtin "object.__setattr__")))
    (kmk0 : PySem.W.makesIn K kk0 = true)
    (kkc0 : PySem.W.keepIn K (.ref kk0) = true)
    (kn0_0 : PySem.W.findIn K (.ref kk0) "names" = some none)
    (kn0_1 : PySem.W.findIn K (.ref kk0) "rows" = some none)
    (km0_0a : PySem.W.findIn K (.ref kk0) "__init__" = some (some (.ref km0_0)))
    (km0_0i : PySem.W.isFn K (.ref km0_0) = true)
    (km0_0l : K.lookup km0_0 = some ⟨km0_0oc, km0_0od, .func (PySem.W.fnOf "__init__" "Table.__init__" (defArgs sTin) (defBody sTin) (defScope sTin) .none km0_0kV km0_0dc km0_0pm km0_0an km0_0cd km0_0ct), km0_0sl⟩)
    (km0_0c : PySem.W.codeIn K km0_0cd "Table.__init__" = true)
    (km0_0k : PySem.W.keepIn K (.ref km0_0) = true)
    (km0_1a : PySem.W.findIn K (.ref kk0) "_rows_in" = some (some (.ref km0_1)))
    (km0_1i : PySem.W.isFn K (.ref km0_1) = true)
    (km0_1l : K.lookup km0_1 = some ⟨km0_1oc, km0_1od, .func (PySem.W.fnOf "_rows_in" "Table._rows_in" (defArgs sRin) (defBody sRin) (defScope sRin) .none km0_1kV km0_1dc km0_1pm km0_1an km0_1cd km0_1ct), km0_1sl⟩)
    (km0_1c : PySem.W.codeIn K km0_1cd "Table._rows_in" = true)
    (km0_1k : PySem.W.keepIn K (.ref km0_1) = true)
    (km0_2a : PySem.W.findIn K (.ref kk0) "supported" = some (some (.ref km0_2)))
    (km0_2i : PySem.W.isFn K (.ref km0_2) = true)
    (km0_2l : K.lookup km0_2 = some ⟨km0_2oc, km0_2od, .func (PySem.W.fnOf "supported" "Table.supported" (defArgs sSpd) (defBody sSpd) (defScope sSpd) .none km0_2kV km0_2dc km0_2pm km0_2an km0_2cd km0_2ct), km0_2sl⟩)
    (km0_2c : PySem.W.codeIn K km0_2cd "Table.supported" = true)
    (km0_2k : PySem.W.keepIn K (.ref km0_2) = true)
    (km0_3a : PySem.W.findIn K (.ref kk0) "witness" = some (some (.ref km0_3)))
    (km0_3i : PySem.W.isFn K (.ref km0_3) = true)
    (km0_3l : K.lookup km0_3 = some ⟨km0_3oc, km0_3od, .func (PySem.W.fnOf "witness" "Table.witness" (defArgs sWit) (defBody sWit) (defScope sWit) .none km0_3kV km0_3dc km0_3pm km0_3an km0_3cd km0_3ct), km0_3sl⟩)
    (km0_3c : PySem.W.codeIn K km0_3cd "Table.witness" = true)
    (km0_3k : PySem.W.keepIn K (.ref km0_3) = true)
    (km0_4a : PySem.W.findIn K (.ref kk0) "allows" = some (some (.ref km0_4)))
    (km0_4i : PySem.W.isFn K (.ref km0_4) = true)
    (km0_4l : K.lookup km0_4 = some ⟨km0_4oc, km0_4od, .func (PySem.W.fnOf "allows" "Table.allows" (defArgs sAlo) (defBody sAlo) (defScope sAlo) .none km0_4kV km0_4dc km0_4pm km0_4an km0_4cd km0_4ct), km0_4sl⟩)
    (km0_4c : PySem.W.codeIn K km0_4cd "Table.allows" = true)
    (km0_4k : PySem.W.keepIn K (.ref km0_4) = true)
    (z1 : PySem.W.nsIn K mainGlobals "sorted" = some none) (z2 : PySem.W.nsIn K mainGlobals "set" = some none) (z3 : PySem.W.nsIn K mainGlobals "len" = some none) (z4 : PySem.W.nsIn K mainGlobals "isinstance" = some none) (z5 : PySem.W.nsIn K mainGlobals "int" = some none) (z6 : PySem.W.nsIn K mainGlobals "bool" = some none) (z7 : PySem.W.nsIn K mainGlobals "list" = some none) (z8 : PySem.W.nsIn K mainGlobals "all" = some none) (z9 : PySem.W.nsIn K mainGlobals "range" = some none) (z10 : PySem.W.nsIn K mainGlobals "dict" = some none) (z11 : PySem.W.nsIn K mainGlobals "abs" = some none) (z12 : PySem.W.nsIn K mainGlobals "min" = some none) (z13 : PySem.W.nsIn K mainGlobals "tuple" = some none) (z14 : PySem.W.nsIn K mainGlobals "zip" = some none) :
    ∃ fd : FuncData, (∀ (s : Shared) (v : Value), BindsTo s fd ⟨[v], []⟩ [("_law_script", v)]) ∧ ∀ base : Heap, K.In base → base.Ns mainGlobals mg → FnOk l.prog w K mg base CX0 5 fa fd ["_law_script"] (spLaw K) := by
  have e := hfa.symm.trans (PySem.W.mg_of X G a27)
  cases e
  have B : Bt mg := ⟨PySem.W.mg_none_of X G z1, PySem.W.mg_none_of X G z2, PySem.W.mg_none_of X G z3, PySem.W.mg_none_of X G z4, PySem.W.mg_none_of X G z5, PySem.W.mg_none_of X G z6, PySem.W.mg_none_of X G z7, PySem.W.mg_none_of X G z8, PySem.W.mg_none_of X G z9, PySem.W.mg_none_of X G z10⟩
  have F1 := fun_mk (st := sStream) l1 c1 k1
  have b1 := F1.binds (ps := ["_law_script", "_law_k"]) fun _ _ _ _ _ _ us hl => match us, hl with | [_, _], _ => rfl
  have F2 := fun_mk (st := sDraw) l2 c2 k2
  have b2 := F2.binds (ps := ["_law_stream_here", "_law_size"]) fun _ _ _ _ _ _ us hl => match us, hl with | [_, _], _ => rfl
  have F3 := fun_mk (st := sPool) l3 c3 k3
  have b3 := F3.binds (ps := ["_law_stream_here", "_law_count"]) fun _ _ _ _ _ _ us hl => match us, hl with | [_, _], _ => rfl
  have F4 := fun_mk (st := sNames) l4 c4 k4
  have b4 := F4.binds (ps := ["_law_stream_here", "_law_count"]) fun _ _ _ _ _ _ us hl => match us, hl with | [_, _], _ => rfl
  have F5 := fun_mk (st := sRws) l5 c5 k5
  have b5 := F5.binds (ps := ["_law_stream_here", "_law_scope", "_law_pool_here", "_law_many"]) fun _ _ _ _ _ _ us hl => match us, hl with | [_, _, _, _], _ => rfl
  have F6 := fun_mk (st := sSom) l6 c6 k6
  have b6 := F6.binds (ps := ["_law_stream_here", "_law_names_here", "_law_pool_here"]) fun _ _ _ _ _ _ us hl => match us, hl with | [_, _, _], _ => rfl
  have F7 := fun_mk (st := sPas) l7 c7 k7
  have b7 := F7.binds (ps := ["_law_rows_here", "_law_first"]) fun _ _ _ _ _ _ us hl => match us, hl with | [_, _], _ => rfl
  have F8 := fun_mk (st := sChk) l8 c8 k8
  have b8 := F8.binds (ps := ["names"]) fun _ _ _ _ _ _ us hl => match us, hl with | [_], _ => rfl
  have F9 := fun_mk (st := sCkr) l9 c9 k9
  have b9 := F9.binds (ps := ["names", "rows"]) fun _ _ _ _ _ _ us hl => match us, hl with | [_, _], _ => rfl
  have F10 := fun_mk (st := sSd) l10 c10 k10
  have b10 := F10.binds (ps := ["_law_domains_here"]) fun _ _ _ _ _ _ us hl => match us, hl with | [_], _ => rfl
  have F11 := fun_mk (st := sDoms) l11 c11 k11
  have b11 := F11.binds (ps := ["_law_stream_here", "_law_names_here", "_law_pool_here", "_law_most"]) fun _ _ _ _ _ _ us hl => match us, hl with | [_, _, _, _], _ => rfl
  have F12 := fun_mk (st := sBxx) l12 c12 k12
  have b12 := F12.binds (ps := ["_law_stream_here", "_law_names_here", "_law_pool_here", "_law_rows_here"]) fun _ _ _ _ _ _ us hl => match us, hl with | [_, _, _, _], _ => rfl
  have F13 := fun_mk (st := sPart) l13 c13 k13
  have b13 := F13.binds (ps := ["_law_stream_here", "_law_side"]) fun _ _ _ _ _ _ us hl => match us, hl with | [_, _], _ => rfl
  have F14 := fun_mk (st := sGiv) l14 c14 k14
  have b14 := F14.binds (ps := ["_law_stream_here", "_law_names_here", "_law_sides_here", "_law_pool_here"]) fun _ _ _ _ _ _ us hl => match us, hl with | [_, _, _, _], _ => rfl
  have F15 := fun_mk (st := sCopied) l15 c15 k15
  have b15 := F15.binds (ps := ["_law_sides_here"]) fun _ _ _ _ _ _ us hl => match us, hl with | [_], _ => rfl
  have F16 := fun_mk (st := sIns) l16 c16 k16
  have b16 := F16.binds (ps := ["_law_row", "_law_names_here", "_law_sides_here"]) fun _ _ _ _ _ _ us hl => match us, hl with | [_, _, _], _ => rfl
  have F17 := fun_mk (st := sRwi) l17 c17 k17
  have b17 := F17.binds (ps := ["names", "row", "box"]) fun _ _ _ _ _ _ us hl => match us, hl with | [_, _, _], _ => rfl
  have F18 := fun_mk (st := sSof) l18 c18 k18
  have b18 := F18.binds (ps := ["values"]) fun _ _ _ _ _ _ us hl => match us, hl with | [_], _ => rfl
  have F19 := fun_mk (st := sIsInt) l19 c19 k19
  have b19 := F19.binds (ps := ["_law_actual"]) fun _ _ _ _ _ _ us hl => match us, hl with | [_], _ => rfl
  have F20 := fun_mk (st := sIsSide) l20 c20 k20
  have b20 := F20.binds (ps := ["_law_actual"]) fun _ _ _ _ _ _ us hl => match us, hl with | [_], _ => rfl
  have F21 := fun_mk (st := sSv) l21 c21 k21
  have b21 := F21.binds (ps := ["_law_actual", "_law_expected"]) fun _ _ _ _ _ _ us hl => match us, hl with | [_, _], _ => rfl
  have F22 := fun_mk (st := sVal) l22 c22 k22
  have b22 := F22.binds (ps := ["_law_names_here", "_law_row"]) fun _ _ _ _ _ _ us hl => match us, hl with | [_, _], _ => rfl
  have F23 := fun_mk (st := sDue) l23 c23 k23
  have b23 := F23.binds (ps := ["_law_table", "_law_names_here", "_law_rows_here", "_law_handed"]) fun _ _ _ _ _ _ us hl => match us, hl with | [_, _, _, _], _ => rfl
  have F24 := fun_mk (st := sTri) l24 c24 k24
  have b24 := F24.binds (ps := ["_law_stream_here", "_law_names_here", "_law_rows_here", "_law_pool_here"]) fun _ _ _ _ _ _ us hl => match us, hl with | [_, _, _, _], _ => rfl
  have F25 := fun_mk (st := sRof) l25 c25 k25
  have b25 := F25.binds (ps := ["names", "values"]) fun _ _ _ _ _ _ us hl => match us, hl with | [_, _], _ => rfl
  have F26 := fun_mk (st := sAld) l26 c26 k26
  have b26 := F26.binds (ps := ["_law_stream_here", "_law_table", "_law_names_here", "_law_rows_here", "_law_pool_here"]) fun _ _ _ _ _ _ us hl => match us, hl with | [_, _, _, _, _], _ => rfl
  have F27 := fun_mk (st := sLaw) l27 c27 k27
  have T0 : Kls K mg "Table" kk0 ["names", "rows"] := ⟨⟨kpg0, khd0, kpo0, ksa0⟩, PySem.W.mg_of X G kc0, fun f hf => by
      simp only [List.mem_cons, List.not_mem_nil, or_false] at hf
      rcases hf with rfl | rfl
      · exact kn0_0
      · exact kn0_1⟩
  have Fkm0_0 := fun_mk (st := sTin) km0_0l km0_0c km0_0k
  have bkm0_0 := Fkm0_0.binds (ps := ["self", "names", "rows"]) fun _ _ _ _ _ _ us hl => match us, hl with | [_, _, _], _ => rfl
  have Fkm0_1 := fun_mk (st := sRin) km0_1l km0_1c km0_1k
  have bkm0_1 := Fkm0_1.binds (ps := ["self", "box"]) fun _ _ _ _ _ _ us hl => match us, hl with | [_, _], _ => rfl
  have Fkm0_2 := fun_mk (st := sSpd) km0_2l km0_2c km0_2k
  have bkm0_2 := Fkm0_2.binds (ps := ["self", "box", "name"]) fun _ _ _ _ _ _ us hl => match us, hl with | [_, _, _], _ => rfl
  have Fkm0_3 := fun_mk (st := sWit) km0_3l km0_3c km0_3k
  have bkm0_3 := Fkm0_3.binds (ps := ["self", "box"]) fun _ _ _ _ _ _ us hl => match us, hl with | [_, _], _ => rfl
  have Fkm0_4 := fun_mk (st := sAlo) km0_4l km0_4c km0_4k
  have bkm0_4 := Fkm0_4.binds (ps := ["self", "values"]) fun _ _ _ _ _ _ us hl => match us, hl with | [_, _], _ => rfl
  refine ⟨PySem.W.fnOf "law" "law" (defArgs sLaw) (defBody sLaw) (defScope sLaw) .none kV27 dc27 pm27 an27 cd27 ct27, fun s v => .of_eq rfl, fun base _ _ => ?_⟩
  have Cstream : Call l.prog w K mg base 1 "_law_stream" f1 _ ["_law_script", "_law_k"] (spStream K) := ⟨ok_stream F1 B, PySem.W.mg_of X G a1, k1, b1⟩
  have Cdraw : Call l.prog w K mg base 1 "_law_next" f2 _ ["_law_stream_here", "_law_size"] spDraw := ⟨ok_draw F2 B, PySem.W.mg_of X G a2, k2, b2⟩
  have Cpool : Call l.prog w K mg base 2 "_law_pool" f3 _ ["_law_stream_here", "_law_count"] spPool := ⟨ok_pool F3 B Cdraw, PySem.W.mg_of X G a3, k3, b3⟩
  have Cnames : Call l.prog w K mg base 2 "_law_names" f4 _ ["_law_stream_here", "_law_count"] spNames := ⟨ok_names F4 B Cdraw, PySem.W.mg_of X G a4, k4, b4⟩
  have CRws : Call l.prog w K mg base 2 "_law_rows" f5 _ ["_law_stream_here", "_law_scope", "_law_pool_here", "_law_many"] spRws := ⟨ok_Rws F5 B (PySem.W.mg_none_of X G z13) Cdraw, PySem.W.mg_of X G a5, k5, b5⟩
  have CSom : Call l.prog w K mg base 3 "_law_some_rows" f6 _ ["_law_stream_here", "_law_names_here", "_law_pool_here"] spSom := ⟨ok_Som F6 B Cdraw CRws, PySem.W.mg_of X G a6, k6, b6⟩
  have CPas : Call l.prog w K mg base 1 "_law_passed" f7 _ ["_law_rows_here", "_law_first"] spPas := ⟨ok_Pas F7 B, PySem.W.mg_of X G a7, k7, b7⟩
  have CChk : Call l.prog w K mg base 1 "checked_names" f8 _ ["names"] spChk := ⟨ok_Chk F8 B (PySem.W.mg_none_of X G z13), PySem.W.mg_of X G a8, k8, b8⟩
  have CCkr : Call l.prog w K mg base 1 "checked_rows" f9 _ ["names", "rows"] spCkr := ⟨ok_Ckr F9 B (PySem.W.mg_none_of X G z13), PySem.W.mg_of X G a9, k9, b9⟩
  have CTin : CallN l.prog w K mg base 2 kk0 km0_0 _ ["self", "names", "rows"] (spTin kk0) := ⟨ok_Tin Fkm0_0 B T0 CChk CCkr, ⟨kmk0, km0_0a, km0_0i, kkc0⟩, bkm0_0⟩
  have CSd : Call l.prog w K mg base 1 "_law_sides" f10 _ ["_law_domains_here"] spSd := ⟨ok_Sd F10 B, PySem.W.mg_of X G a10, k10, b10⟩
  have Cdoms : Call l.prog w K mg base 2 "_law_domains" f11 _ ["_law_stream_here", "_law_names_here", "_law_pool_here", "_law_most"] spDoms := ⟨ok_doms F11 B Cdraw, PySem.W.mg_of X G a11, k11, b11⟩
  have CBxx : Call l.prog w K mg base 3 "_law_box" f12 _ ["_law_stream_here", "_law_names_here", "_law_pool_here", "_law_rows_here"] spBxx := ⟨ok_Bxx F12 B Cdraw CSd Cdoms, PySem.W.mg_of X G a12, k12, b12⟩
  have Cpart : Call l.prog w K mg base 2 "_law_part" f13 _ ["_law_stream_here", "_law_side"] (spPart K) := ⟨ok_part F13 B Cdraw, PySem.W.mg_of X G a13, k13, b13⟩
  have CGiv : Call l.prog w K mg base 3 "_law_given" f14 _ ["_law_stream_here", "_law_names_here", "_law_sides_here", "_law_pool_here"] spGiv := ⟨ok_Giv F14 B Cdraw Cpart, PySem.W.mg_of X G a14, k14, b14⟩
  have Ccopied : Call l.prog w K mg base 1 "_law_copied" f15 _ ["_law_sides_here"] spCopy := ⟨ok_copied F15 B, PySem.W.mg_of X G a15, k15, b15⟩
  have CIns : Call l.prog w K mg base 1 "_law_row_inside" f16 _ ["_law_row", "_law_names_here", "_law_sides_here"] spIns := ⟨ok_Ins F16 B, PySem.W.mg_of X G a16, k16, b16⟩
  have CRwi : Call l.prog w K mg base 1 "row_within" f17 _ ["names", "row", "box"] spRwi := ⟨ok_Rwi F17 B (PySem.W.mg_none_of X G z14), PySem.W.mg_of X G a17, k17, b17⟩
  have CRin : CallM l.prog w K mg base 2 kk0 "_rows_in" km0_1 _ ["self", "box"] (spRin kk0) := ⟨ok_Rin Fkm0_1 B T0 CRwi, ⟨km0_1a, km0_1i, km0_1k⟩, bkm0_1⟩
  have CSof : Call l.prog w K mg base 1 "side_of" f18 _ ["values"] spSof := ⟨ok_Sof F18 B, PySem.W.mg_of X G a18, k18, b18⟩
  have CSpd : CallM l.prog w K mg base 3 kk0 "supported" km0_2 _ ["self", "box", "name"] (spSpd kk0) := ⟨ok_Spd Fkm0_2 B T0 CRin CSof, ⟨km0_2a, km0_2i, km0_2k⟩, bkm0_2⟩
  have CWit : CallM l.prog w K mg base 3 kk0 "witness" km0_3 _ ["self", "box"] (spWit kk0) := ⟨ok_Wit Fkm0_3 B (PySem.W.mg_none_of X G z12) (PySem.W.mg_none_of X G z14) T0 CRin, ⟨km0_3a, km0_3i, km0_3k⟩, bkm0_3⟩
  have CisInt : Call l.prog w K mg base 1 "_law_is_integer" f19 _ ["_law_actual"] spIsInt := ⟨ok_isInt F19 B, PySem.W.mg_of X G a19, k19, b19⟩
  have CisSide : Call l.prog w K mg base 2 "_law_is_side" f20 _ ["_law_actual"] spIsSide := ⟨ok_isSide F20 B CisInt, PySem.W.mg_of X G a20, k20, b20⟩
  have CSv : Call l.prog w K mg base 2 "_law_same_values" f21 _ ["_law_actual", "_law_expected"] spSV := ⟨ok_Sv F21 B CisInt, PySem.W.mg_of X G a21, k21, b21⟩
  have CVal : Call l.prog w K mg base 1 "_law_values" f22 _ ["_law_names_here", "_law_row"] spVal := ⟨ok_Val F22 B, PySem.W.mg_of X G a22, k22, b22⟩
  have CDue : Call l.prog w K mg base 4 "_law_due" f23 _ ["_law_table", "_law_names_here", "_law_rows_here", "_law_handed"] (spDue kk0) := ⟨ok_Due F23 B (PySem.W.mg_none_of X G z12) T0 Ccopied CIns CSpd CWit CisSide CSv CVal, PySem.W.mg_of X G a23, k23, b23⟩
  have CTri : Call l.prog w K mg base 2 "_law_tried" f24 _ ["_law_stream_here", "_law_names_here", "_law_rows_here", "_law_pool_here"] spTri := ⟨ok_Tri F24 B (PySem.W.mg_none_of X G z13) (PySem.W.mg_none_of X G z11) Cdraw, PySem.W.mg_of X G a24, k24, b24⟩
  have CRof : Call l.prog w K mg base 1 "row_of" f25 _ ["names", "values"] spRof := ⟨ok_Rof F25 B (PySem.W.mg_none_of X G z13), PySem.W.mg_of X G a25, k25, b25⟩
  have CAlo : CallM l.prog w K mg base 2 kk0 "allows" km0_4 _ ["self", "values"] (spAlo kk0) := ⟨ok_Alo Fkm0_4 B T0 CRof, ⟨km0_4a, km0_4i, km0_4k⟩, bkm0_4⟩
  have CAld : Call l.prog w K mg base 3 "_law_allows_due" f26 _ ["_law_stream_here", "_law_table", "_law_names_here", "_law_rows_here", "_law_pool_here"] (spAld kk0) := ⟨ok_Ald F26 B (PySem.W.mg_none_of X G z13) T0 Cdraw CTri CVal CAlo, PySem.W.mg_of X G a26, k26, b26⟩
  exact ok_Law F27 B T0 Cstream Cdraw Cpool Cnames CSom CRws CPas CTin CBxx CGiv CDue CAld
theorem walk {l : PySem.W.OpenLaw} {q : Program} {loose : List Str} {XP : (Str → Option Value) → Heap → Prop} {YP : World → Heap → Prop} {d : DefRec} {K : Params → PySem.W.Frag} (hn : l.most = some 63) (hdf : d.params.defaults = [])
    (hY : ∀ (w : World) (h : Heap), YP w h → (K w.params).In h)
    (F : ∀ (w : World) (mg : Str → Option Value) (fa : Addr) (h : Heap), (K w.params).In h → h.Ns mainGlobals mg → mg d.name = some (.ref fa) →
      ∃ fd : FuncData, (∀ (s : Shared) (u : Value), BindsTo s fd ⟨[u], []⟩ [("_law_script", u)]) ∧ ∀ base : Heap, (K w.params).In base → base.Ns mainGlobals mg → FnOk l.prog w (K w.params) mg base CX0 5 fa fd ["_law_script"] (spLaw (K w.params))) :
    PySem.W.WalkO q loose XP YP l.row.toRowW d [] (fun f vs => PySem.call f vs) :=
  L2.walk_of (n := 63) (k := 5) (x := "_law_script") (CX := fun _ => CX0) (sp := fun w => spLaw (K w.params)) hn (by decide) hdf ⟨rfl, by decide, by decide⟩ hY F (fun _ _ a ns hl _ hS => ⟨a, ns, rfl, hS, hl, fun _ => rfl⟩) fun _ _ _ _ _ z => z
end K07
set_option Elab.async false
set_option linter.all false
open PySem PySem.W PyProof.Rows
set_option maxRecDepth 100000 in
set_option maxHeartbeats 0 in
theorem PySem.Challenge.cw_curbdesk_k07_table_supported_holds : PySem.Challenge.rw_curbdesk_k07_table_supported.Holds := by
  w_on; o_law; k_head; (case hw => w_witness2)
  k_fill
  refine K07.walk (l := PySem.Challenge.rw_curbdesk_k07_table_supported) rfl rfl (fun w h Y => PySem.W.kIn_of Y) ?F
  case F =>
    intro w mg fa h KX G hmg
    refine' K07.all_mk KX G hmg ?a1 ?l1 ?c1 ?k1 ?a2 ?l2 ?c2 ?k2 ?a3 ?l3 ?c3 ?k3 ?a4 ?l4 ?c4 ?k4 ?a5 ?l5 ?c5 ?k5 ?a6 ?l6 ?c6 ?k6 ?a7 ?l7 ?c7 ?k7 ?a8 ?l8 ?c8 ?k8 ?a9 ?l9 ?c9 ?k9 ?a10 ?l10 ?c10 ?k10 ?a11 ?l11 ?c11 ?k11 ?a12 ?l12 ?c12 ?k12 ?a13 ?l13 ?c13 ?k13 ?a14 ?l14 ?c14 ?k14 ?a15 ?l15 ?c15 ?k15 ?a16 ?l16 ?c16 ?k16 ?a17 ?l17 ?c17 ?k17 ?a18 ?l18 ?c18 ?k18 ?a19 ?l19 ?c19 ?k19 ?a20 ?l20 ?c20 ?k20 ?a21 ?l21 ?c21 ?k21 ?a22 ?l22 ?c22 ?k22 ?a23 ?l23 ?c23 ?k23 ?a24 ?l24 ?c24 ?k24 ?a25 ?l25 ?c25 ?k25 ?a26 ?l26 ?c26 ?k26 ?a27 ?l27 ?c27 ?k27 ?kc0 ?kpg0 ?khd0 ?kpo0 ?ksa0 ?kmk0 ?kkc0 ?kn0_0 ?kn0_1 ?km0_0a ?km0_0i ?km0_0l ?km0_0c ?km0_0k ?km0_1a ?km0_1i ?km0_1l ?km0_1c ?km0_1k ?km0_2a ?km0_2i ?km0_2l ?km0_2c ?km0_2k ?km0_3a ?km0_3i ?km0_3l ?km0_3c ?km0_3k ?km0_4a ?km0_4i ?km0_4l ?km0_4c ?km0_4k ?z1 ?z2 ?z3 ?z4 ?z5 ?z6 ?z7 ?z8 ?z9 ?z10 ?z11 ?z12 ?z13 ?z14
    (case a1 => k_is)
    (case l1 => k_is)
    (case c1 => k_is)
    (case k1 => k_is)
    (case a2 => k_is)
    (case l2 => k_is)
    (case c2 => k_is)
    (case k2 => k_is)
    (case a3 => k_is)
    (case l3 => k_is)
    (case c3 => k_is)
    (case k3 => k_is)
    (case a4 => k_is)
    (case l4 => k_is)
    (case c4 => k_is)
    (case k4 => k_is)
    (case a5 => k_is)
    (case l5 => k_is)
    (case c5 => k_is)
    (case k5 => k_is)
    (case a6 => k_is)
    (case l6 => k_is)
    (case c6 => k_is)
    (case k6 => k_is)
    (case a7 => k_is)
    (case l7 => k_is)
    (case c7 => k_is)
    (case k7 => k_is)
    (case a8 => k_is)
    (case l8 => k_is)
    (case c8 => k_is)
    (case k8 => k_is)
    (case a9 => k_is)
    (case l9 => k_is)
    (case c9 => k_is)
    (case k9 => k_is)
    (case a10 => k_is)
    (case l10 => k_is)
    (case c10 => k_is)
    (case k10 => k_is)
    (case a11 => k_is)
    (case l11 => k_is)
    (case c11 => k_is)
    (case k11 => k_is)
    (case a12 => k_is)
    (case l12 => k_is)
    (case c12 => k_is)
    (case k12 => k_is)
    (case a13 => k_is)
    (case l13 => k_is)
    (case c13 => k_is)
    (case k13 => k_is)
    (case a14 => k_is)
    (case l14 => k_is)
    (case c14 => k_is)
    (case k14 => k_is)
    (case a15 => k_is)
    (case l15 => k_is)
    (case c15 => k_is)
    (case k15 => k_is)
    (case a16 => k_is)
    (case l16 => k_is)
    (case c16 => k_is)
    (case k16 => k_is)
    (case a17 => k_is)
    (case l17 => k_is)
    (case c17 => k_is)
    (case k17 => k_is)
    (case a18 => k_is)
    (case l18 => k_is)
    (case c18 => k_is)
    (case k18 => k_is)
    (case a19 => k_is)
    (case l19 => k_is)
    (case c19 => k_is)
    (case k19 => k_is)
    (case a20 => k_is)
    (case l20 => k_is)
    (case c20 => k_is)
    (case k20 => k_is)
    (case a21 => k_is)
    (case l21 => k_is)
    (case c21 => k_is)
    (case k21 => k_is)
    (case a22 => k_is)
    (case l22 => k_is)
    (case c22 => k_is)
    (case k22 => k_is)
    (case a23 => k_is)
    (case l23 => k_is)
    (case c23 => k_is)
    (case k23 => k_is)
    (case a24 => k_is)
    (case l24 => k_is)
    (case c24 => k_is)
    (case k24 => k_is)
    (case a25 => k_is)
    (case l25 => k_is)
    (case c25 => k_is)
    (case k25 => k_is)
    (case a26 => k_is)
    (case l26 => k_is)
    (case c26 => k_is)
    (case k26 => k_is)
    (case a27 => k_is)
    (case l27 => k_is)
    (case c27 => k_is)
    (case k27 => k_is)
    (case kc0 => k_is)
    (case kpg0 => k_is)
    (case khd0 => k_is)
    (case kpo0 => k_is)
    (case ksa0 => k_is)
    (case kmk0 => k_is)
    (case kkc0 => k_is)
    (case kn0_0 => k_is)
    (case kn0_1 => k_is)
    (case km0_0a => k_is)
    (case km0_0i => k_is)
    (case km0_0l => k_is)
    (case km0_0c => k_is)
    (case km0_0k => k_is)
    (case km0_1a => k_is)
    (case km0_1i => k_is)
    (case km0_1l => k_is)
    (case km0_1c => k_is)
    (case km0_1k => k_is)
    (case km0_2a => k_is)
    (case km0_2i => k_is)
    (case km0_2l => k_is)
    (case km0_2c => k_is)
    (case km0_2k => k_is)
    (case km0_3a => k_is)
    (case km0_3i => k_is)
    (case km0_3l => k_is)
    (case km0_3c => k_is)
    (case km0_3k => k_is)
    (case km0_4a => k_is)
    (case km0_4i => k_is)
    (case km0_4l => k_is)
    (case km0_4c => k_is)
    (case km0_4k => k_is)
    (case z1 => k_is)
    (case z2 => k_is)
    (case z3 => k_is)
    (case z4 => k_is)
    (case z5 => k_is)
    (case z6 => k_is)
    (case z7 => k_is)
    (case z8 => k_is)
    (case z9 => k_is)
    (case z10 => k_is)
    (case z11 => k_is)
    (case z12 => k_is)
    (case z13 => k_is)
    (case z14 => k_is)
