import PyProof.Rows.All
import Wide.All
import OpenK.AllK
import Wide.FinOn
import HandS.ForExc
import HandS.ExcInit
import HandS.ExcIs
import HandS.IsInst
import HandS.TryMany
import HandS.ExcField
import KE.KExcInit
import PyProof.InstStoreFacts
import HandS.ExcValue
import KE.KExcIs
import HandS.HotCalls
import HandS.ForMost
import HandS.Walk
import KE.GoesEnum
import KE.GoesMore
import HandS.Style
import HandS.Flow
import PySem.Challenge.RW_twicestep_k01_numbers_of_any_values
import KE.KStateDown
import Lean
import HandS.Head0
import HandS.Head1
import HandS.Head2
import HandS.Head3
import HandS.HeadEnd
import HandS.HeadHook1
import HandS.HeadHook2
import HandS.HeadHook3
import HandS.HeadHook4
import HandS.Conv
import HandS.AnyAll
import HandS.Wide
import HandS.TupAny
import HandS.Gcd
import PyProof.ReprRoads
import HandS.Rev
import HandS.Comp
import HandS.Zip
import PyProof.MaxThree
import HandS.Deep
import PyProof.FitsInt
import HandS.EndTab
import HandS.Iter
import HandS.NoneIn
import HandS.Star
import HandS.Dict
import PyProof.StrLawsRepr
import HandS.TupMul
import Flt.RightSqrt
set_option Elab.async false
set_option linter.all false
set_option maxRecDepth 100000
set_option maxHeartbeats 4000000
namespace PySem
namespace XK
open PySem PySem.Spec PyProof.Rows PySem.Calls
open PySem.HandSPX (excO)
section
variable {M : Model} {A : Around} {E : Value → Shared → Prop} {h : Heap} {g : Array GenState} {dr : Drawn} {tk : Nat} {os : OsState}
  {prog : Program} {w : World} {R : Result → Shared → Prop}
  {nm qn : Str} {C N : Addr} {bs bm bB : List Value} {hd : Bool} {sn : List Str} {sb : List Value} {ab : Bool} {col : Option Bool} {dd : Option Addr}
  {m0 m1 m2 m3 m5 : Option Value} {B nw ini : String}
/-- the check ahead of the maker, keywords or not -/
theorem xcheck (F : ExcBaseFacts B nw ini bB) (hT : ∀ X : String, bm.contains (.type X) = bB.contains (.type X))
    {rest : List Value} {kw : List (Str × Value)} {Q : Unit → Shared → Prop}
    (hC : h.get? C = some (excClassObj nm qn C N bs bm hd sn sb ab col dd m0 m1 m2 m3 m5 nw))
    (hq : Q () ⟨h, g, dr, tk, os⟩) :
    wpAny M A (checkBuiltinCall nw ⟨.ref C :: rest, kw⟩) Q E ⟨h, g, dr, tk, os⟩ := by
  have z1 : (Value.ref C :: bm).contains (.type B) = true := by
    rw [List.contains_cons, hT, F.hasB, Bool.or_true]
  have z2 := F.noStar
  simp only [checkBuiltinCall, F.newKind, F.newSplit, F.newRow]
  repeat (first
    | refine wpAny_loadPart_at hC ?_
    | (refine wpAny_isSubtype_exc hC ?_
       rw [z1])
    | refine wpAny_staticBase_exc hC ?_
    | refine wpAny_madeBy_exc hC ?_
    | simp only [bne_self_eq_false, Bool.false_eq_true, if_false]
    | wp_step)
  exact hq
end
section
variable {A : Around} {E : Value → Shared → Prop} {h : Heap} {g : Array GenState} {dr : Drawn} {tk : Nat} {os : OsState}
  {prog : Program} {w : World} {R : Result → Shared → Prop}
  {nm qn : Str} {C N : Addr} {bs bm bB : List Value} {hd : Bool} {sn : List Str} {sb : List Value} {ab : Bool} {col : Option Bool} {dd : Option Addr}
  {m0 m1 m2 m3 m5 : Option Value} {B nw ini : String}
/-- the maker: a tuple of the positional values, then the exception's object -/
theorem xnew (F : ExcBaseFacts B nw ini bB) (hT : ∀ X : String, bm.contains (.type X) = bB.contains (.type X))
    {rest : List Value} {kw : List (Str × Value)} (hz : rest.length ≤ sizeLine)
    (hC : h.get? C = some (excClassObj nm qn C N bs bm hd sn sb ab col dd m0 m1 m2 m3 m5 nw))
    (hq : R (.ok (.ret (.ref (h.objs.size + 1))))
      ⟨(h.push (W.kdv_tup rest)).push (excO C h.objs.size), g, dr, tk, os⟩) :
    codeAny (model prog w) A (.builtin nw ⟨.ref C :: rest, kw⟩) R ⟨h, g, dr, tk, os⟩ := by
  have y0 := F.ends
  have y1 : (Value.ref C :: bm).contains (.type B) = true := by
    rw [List.contains_cons, hT, F.hasB, Bool.or_true]
  have y2 : (Value.ref C :: bm).contains (.type "AttributeError") = false := by
    rw [List.contains_cons, hT, F.noAttr]
    rfl
  have y3 : (Value.ref C :: bm).contains (.type "NameError") = false := by
    rw [List.contains_cons, hT, F.noName]
    rfl
  refine codeAny_builtinAt F.entry ?_
  unfold Builtin.«BaseException.__new__»
  refine wpAt_bind ?_
  show wpAt _ _ _ (stack >>= _) _ _ _
  refine wpAt_bind (wpAt_stack fun p below => wpAt_of_wpAny ?_)
  wp_walk
  refine wpAt_of_wpAny ?_
  rw [F.owner]
  repeat (first
    | with_reducible refine wpAny_madeHere_exc F.canon hC ?_
    | with_reducible refine wpAny_loadPart_at hC ?_
    | (with_reducible refine wpAny_isSubtype_exc hC ?_
       first | rw [y1] | rw [y2] | rw [y3])
    | wp_step)
  show R _ _
  rw [Heap.size_push]
  exact hq
/-- type.__call__: the maker, then the class's own __init__ -/
theorem xtype (F : ExcBaseFacts B nw ini bB) (hT : ∀ X : String, bm.contains (.type X) = bB.contains (.type X))
    {rest : List Value} {kw : List (Str × Value)} {fI : Addr} {Q : Fin → Shared → Prop} (hz : rest.length ≤ sizeLine)
    (hC : h.get? C = some (excClassObj nm qn C N bs bm hd sn sb ab col dd m0 m1 m2 m3 m5 nw))
    (hi : W.Looks (model prog w) h (typeLookup (.ref C) "__init__") (some (.ref fI)))
    (hb : ∀ self, W.Looks (model prog w) h (bindSpecial (.ref fI) self) (.ref fI, [self]))
    (hq : codeAny (model prog w) A (.call (.ref fI) ⟨.ref (h.objs.size + 1) :: rest, kw⟩)
      (fun r s' => match r with
        | .ok (.ret v) => v = .none ∧ Q (.done (.ret (.ref (h.objs.size + 1)))) s'
        | .ok _ => False
        | .error e => E e s')
      ⟨(h.push (W.kdv_tup rest)).push (excO C h.objs.size), g, dr, tk, os⟩) :
    wpAny (model prog w) A (Builtin.«type.__call__» ⟨.ref C :: rest, kw⟩) Q E ⟨h, g, dr, tk, os⟩ := by
  repeat (first
    | with_reducible refine wpAny_loadPart_at hC ?_
    | with_reducible refine wpAny_madeBy_exc hC ?_
    | wp_step)
  refine codeAny_call_builtin_code (Code.quiet_builtin _ F.quiet) (xcheck F hT hC ?_)
  refine xnew F hT hz hC ?_
  show wpAny _ _ _ _ _ _
  have k1 : ∀ b o, h.get? b = some o → ((h.push (W.kdv_tup rest)).push (excO C h.objs.size)).get? b = some o :=
    fun b o e => Heap.get?_push_of_some _ (Heap.get?_push_of_some _ e)
  have hC1 := k1 _ _ hC
  have at1 : ((h.push (W.kdv_tup rest)).push (excO C h.objs.size)).get? (h.objs.size + 1) = some (excO C h.objs.size) := by heap_get
  have own : (Value.ref C :: bm).contains (.ref C) = true := by simp
  have hi1 := hi.keeps k1
  have hb1 := (hb (.ref (h.objs.size + 1))).keeps k1
  unfold isInstance
  repeat (first
    | with_reducible refine wpAny_loadPart_at at1 ?_
    | (with_reducible refine wpAny_isSubtype_exc hC1 ?_
       rw [own])
    | wp_step)
  show wpAny _ _ (typeLookup (.ref C) _) _ _ _
  refine hi1.at ?_
  refine wpAny_holding (wpAny_bind (hb1.at ?_))
  refine wpAny_bind (wpAny_call (codeAny_mono hq fun r s' z => ?_))
  rcases r with e | (v | _ | _ | _) <;> first | exact z | exact z.elim | skip
  obtain ⟨rfl, z⟩ := z
  first
    | exact wpAny_pure (wpAny_pure z)
    | (wp_walk; exact z)
theorem xcall (F : ExcBaseFacts B nw ini bB) (hT : ∀ X : String, bm.contains (.type X) = bB.contains (.type X))
    {rest : List Value} {kw : List (Str × Value)} {fI : Addr} (hz : rest.length ≤ sizeLine)
    (hC : h.get? C = some (excClassObj nm qn C N bs bm hd sn sb ab col dd m0 m1 m2 m3 m5 nw))
    (hi : W.Looks (model prog w) h (typeLookup (.ref C) "__init__") (some (.ref fI)))
    (hb : ∀ self, W.Looks (model prog w) h (bindSpecial (.ref fI) self) (.ref fI, [self]))
    (hq : codeAny (model prog w) (A.under (.builtin "type.__call__" ⟨.ref C :: rest, kw⟩)) (.call (.ref fI) ⟨.ref (h.objs.size + 1) :: rest, kw⟩)
      (W.InitBack (h.objs.size + 1) R) ⟨(h.push (W.kdv_tup rest)).push (excO C h.objs.size), g, dr, tk, os⟩) :
    codeAny (model prog w) A (.call (.ref C) ⟨rest, kw⟩) R ⟨h, g, dr, tk, os⟩ := by
  have f1 := tc_lookup
  have f2 := tc_bind (.ref C)
  have hTy : (⟨h, g, dr, tk, os⟩ : Shared).TypeIs (.ref C) "type" := ⟨_, hC, rfl⟩
  refine codeAny_of_tree ?_
  show wpAny _ _ (callAny (.ref C) _) _ _ _
  repeat (any_goals (first
    | assumption
    | with_reducible refine wpAny_loadPart_at hC ?_
    | wp_step))
  refine ⟨rfl, ?_⟩
  refine codeAny_call_builtin_at (Code.quiet_builtin _ (by decide +kernel)) entry_typeCall (wpAny_check_type_call_sub hC (xtype F hT hz hC hi hb ?_))
  refine codeAny_mono hq fun r s' z => ?_
  rcases r with e | (v | _ | _ | _) <;> exact z
end
end XK
end PySem
set_option Elab.async false
set_option linter.all false
set_option maxRecDepth 100000
set_option maxHeartbeats 4000000
namespace PySem
namespace XK
open PySem PySem.W PySem.Calls PyProof.Rows PySem.HandSPX Builtin Builtin.ObjectAttr
abbrev bmE : List Value := [.type "Exception", .type "BaseException", .type "object"]
def xA (p1 p2 : Pos) : Arguments := { posonlyargs := [], args := [{ arg := "self", annotation := none, pos := p1 }, { arg := "thing", annotation := none, pos := p2 }], vararg := none, kwonlyargs := [], kw_defaults := [], kwarg := none, defaults := [] }
def xB (q1 q2 q3 q4 : Pos) : List Stmt := [.Assign [.Attribute (.Name "self" q1) "thing" q2] (.Name "thing" q3) q4]
def xS : Scope := { kind := .function, names := [(PySem.Str.ofString "self", .local), (PySem.Str.ofString "thing", .local)], isGenerator := false, isCoroutine := false, more := [] }
/-- what is told of an error's class at C and of its __init__ at fI -/
structure ExF (K : Frag) (C fI : Addr) : Prop where
  ini : excInitIn K C bmE "Exception.__new__" = true
  ov : excOver K C bmE = true
  sa : findIn K (.ref C) "__setattr__" = some (some (.builtin "object.__setattr__"))
  ga : findIn K (.ref C) "__getattribute__" = some (some (.builtin "BaseException.__getattribute__"))
  gg : findIn K (.ref C) "__getattr__" = some none
  no : findIn K (.ref C) "thing" = some none
  hd : hasDictIn K C = true
  ic : findIn K (.ref C) "__init__" = some (some (.ref fI))
  ti : typeIn K (.ref fI) = some (.type "function")
  kc : keepIn K (.ref C) = true
  ex : subIn K (.ref C) (.type "BaseException") = some true
  ty : typeIn K (.ref C) = some (.type "type")
  cl : findIn K (.ref C) "__class__" = some (some (.builtin "object.__class__"))
  mo : mroIn K C (.type "object") = some true
  dn : specialIn K (.builtin "object.__class__") "__get__" = some (some (.builtin "getset_descriptor.__get__"))
  dt : takesIn K (.builtin "object.__class__") = some true
  fn : ∃ (oc : Value) (od : Option Addr) (qual : Str) (kV doc pm : Value) (an : Option Addr) (cdv ct : Value) (osl : Array (Option Value)) (p1 p2 q1 q2 q3 q4 : Pos),
    K.lookup fI = some ⟨oc, od, .func (fnOf "__init__" qual (xA p1 p2) (xB q1 q2 q3 q4) xS .none kV doc pm an cdv ct), osl⟩ ∧ codeIn K cdv qual = true
/-- the map of an error's own dict -/
def thingM (v : Value) : Str → Option Value := fun y => if y = "thing" then some v else none
section
variable {prog : Program} {w : World} {A : Around} {E : Value → Shared → Prop} {R : Result → Shared → Prop} {s : Shared} {K : Frag} {C fI : Addr}
theorem xld {M : Model} {name : Str} {scope : Scope} {L a : Addr} {cd : Value} {m : Str → Option Value} {x : Str} {pos : Pos} {v : Value} {Q : Value → Shared → Prop}
    (hn : s.heap.Ns L m) (hv : m x = some v) (h : Q v s)
    (hk : scope.kind = .function := by rfl) (hl : (envOfC name scope L a cd).kindOf x = some .local := by rfl) (hd : (x == ("__debug__" : Str)) = false := by decide) :
    wpAny M A (eval (.Name x pos) (envOfC name scope L a cd)) Q E s :=
  wpAny_Name (wpAny_loadName_local hk hl hn hv h) hd
/-- the attribute of an error that has no dict yet -/
theorem xstore {x : Addr} {fv : Array Value} {v : Value} {Q : Unit → Shared → Prop} (T : ExF K C fI) (X : K.In s.heap) (hx : s.heap.get? x = some { cls := .ref C, data := .fields fv })
    (hq : ∀ h' tk dx, (∀ b o, b ≠ x → s.heap.get? b = some o → h'.get? b = some o) → s.heap.objs.size ≤ dx → dx ≠ x →
      h'.get? x = some { cls := .ref C, dict := some dx, data := .fields fv } → h'.Ns1 dx (thingM v) → Q () { s with heap := h', toks := tk }) :
    wpAny (model prog w) A (setAttr (.ref x) "thing" v) Q E s := by
  obtain ⟨cd, hcd, hh⟩ := any_some T.hd
  obtain ⟨hp, g, d, t, os⟩ := s
  have I : InstAt hp x { cls := .ref C, data := .fields fv } C none := ⟨hx, rfl, rfl, trivial⟩
  have hcls : Looks (model prog w) hp (classData C) cd := looks_clsIn X hcd
  have hxs : x ≠ hp.objs.size := Nat.ne_of_lt (Heap.lt_size hx)
  refine set_plain X I T.sa ?_
  refine osa_openX F.store_Exception X I T.ov (r := none) (by unfold takerIn; rw [T.no]; rfl) fun b => ?_
  show wpAny _ _ (storeInOwnDict (.ref x) (.ref C) (.str "thing" t) "thing" v b) _ _ _
  obtain ⟨nm, bs, mro, ns, qn, hd, sn, sb, ab, col, del⟩ := cd
  dsimp only at hh
  subst hh
  unfold storeInOwnDict ownDictForStores
  repeat (first
    | with_reducible refine store_in_new ?_ ?_
    | with_reducible refine wpAny_loadPart_at hx ?_
    | with_reducible refine hcls.at ?_
    | wp_step)
  · exact ⟨_, #[], _, (Heap.get?_update_ne _ _ _ _ hxs.symm).trans (Heap.get?_push_at rfl rfl), rfl, fun e he => absurd he (by simp), fun _ => rfl⟩
  · intro h' tk' hn' hs
    have hx1 : (hp.push { cls := .type "dict", data := .dict #[] }).get? x = some { cls := .ref C, data := .fields fv } :=
      Heap.get?_push_of_some _ hx
    refine hq h' tk' hp.objs.size (fun c o hc ho => ?_) (Nat.le_refl _) hxs.symm ?_ hn'
    · exact (hs.2 c (Nat.ne_of_lt (Heap.lt_size ho))).trans ((Heap.get?_update_ne _ _ _ _ hc).trans (Heap.get?_push_of_some _ ho))
    · exact (hs.2 x hxs).trans (Heap.get?_update_self _ hx1 rfl)
/-- what stands behind the making of an error at x: its dict at dx -/
structure XEnd (h h' : Heap) (x C dx t0 : Addr) (v : Value) : Prop where
  keep : ∀ b o, b ≠ x → h.get? b = some o → h'.get? b = some o
  big : h.objs.size ≤ dx
  ne : dx ≠ x
  ob : h'.get? x = some { cls := .ref C, dict := some dx, data := .fields #[.ref t0, .none, .none, .none, .bool false, .none] }
  ns : h'.Ns1 dx (thingM v)
theorem xinit (T : ExF K C fI) {args : Args} {x t0 : Addr} {v : Value} (X : K.In s.heap) (hlim : s.heap.NoLimit) (hx : s.heap.get? x = some (excO C t0)) (hroom : A.depth < recursionLimit)
    (ha : args = ⟨[.ref x, v], []⟩ ∨ args = ⟨[.ref x], [("thing", v)]⟩)
    (hq : ∀ h' tk dx, XEnd s.heap h' x C dx t0 v → R (.ok (.ret .none)) { s with heap := h', toks := tk }) :
    codeAny (model prog w) A (.call (.ref fI) args) R s := by
  obtain ⟨oc, od, qual, kV, doc, pm, an, cdv, ct, osl, p1, p2, q1, q2, q3, q4, ho, hcd⟩ := T.fn
  have hb : BindsTo s (fnOf "__init__" qual (xA p1 p2) (xB q1 q2 q3 q4) xS .none kV doc pm an cdv ct) args [("self", .ref x), ("thing", v)] := by
    rcases ha with rfl | rfl
    · exact BindsTo.of_eq (by first | rfl | with_unfolding_all rfl)
    · exact BindsTo.of_eq (by first | rfl | with_unfolding_all rfl)
  refine Att.call_fn (binds := [("self", .ref x), ("thing", v)]) X hlim ho hcd hroom hb (by first | rfl | decide | with_unfolding_all rfl) (fun s1 IC => ?_) rfl rfl rfl
  obtain ⟨h1, t1, rfl⟩ := IC.toInCall.same
  have k : ∀ b o, s.heap.get? b = some o → h1.get? b = some o := IC.toInCall.keep
  have hn := IC.toInCall.ns
  show wpAny _ _ (execs _ _) _ _ _
  refine wpAny_execs_cons (plainObj_wpAny_Assign_Attribute ?_)
  refine xld (v := v) hn (by first | rfl | with_unfolding_all rfl | kernel_rfl) (xld (v := .ref x) hn (by first | rfl | with_unfolding_all rfl | kernel_rfl) ?_)
  refine xstore T (X.keeps k) (k _ _ hx) fun h3 t3 dx k3 big ne at3 ns3 => ?_
  have z : s.heap.objs.size < h1.objs.size := hn.lt
  exact wpAny_execs_nil (hq h3 t3 dx ⟨fun b o hb e => k3 b o hb (k b o e), Nat.le_of_lt (Nat.lt_of_lt_of_le z big), ne, at3, ns3⟩)
/-- an error that has been made: at e, its dict at d -/
structure XMade (h h' : Heap) (e C d : Addr) (v : Value) : Prop where
  keep : ∀ b o, h.get? b = some o → h'.get? b = some o
  new : h.objs.size ≤ e
  big : h.objs.size ≤ d
  ne : d ≠ e
  ob : ∃ t0 : Addr, h'.get? e = some { cls := .ref C, dict := some d, data := .fields #[.ref t0, .none, .none, .none, .bool false, .none] }
  ns : h'.Ns1 d (thingM v)
theorem xmade (T : ExF K C fI) {args : Args} {v : Value} (X : K.In s.heap) (hlim : s.heap.NoLimit) (hroom : A.depth + 1 < recursionLimit)
    (ha : args = ⟨[v], []⟩ ∨ args = ⟨[], [("thing", v)]⟩)
    (hq : ∀ h' tk e d, XMade s.heap h' e C d v → R (.ok (.ret (.ref e))) { s with heap := h', toks := tk }) :
    codeAny (model prog w) A (.call (.ref C) args) R s := by
  obtain ⟨nm, N', qn, bs, bm, hdct, sn, sub, ab, col, dd, k0, k1, k2, k3, k5, hC, hT⟩ := excInit_of X T.ini
  obtain ⟨hp, g, dr, tk, os⟩ := s
  obtain ⟨rest, kw⟩ := args
  have hz : rest.length ≤ sizeLine := by
    rcases ha with e | e <;> cases e
    · show 1 ≤ sizeLine
      rw [sizeLine_eq]
      decide
    · exact Nat.zero_le _
  have k : ∀ b o, hp.get? b = some o → ((hp.push (kdv_tup rest)).push (excO C hp.objs.size)).get? b = some o :=
    fun b o e => Heap.get?_push_of_some _ (Heap.get?_push_of_some _ e)
  have at1 : ((hp.push (kdv_tup rest)).push (excO C hp.objs.size)).get? (hp.objs.size + 1) = some (excO C hp.objs.size) := by heap_get
  refine xcall F.excBase_Exception hT hz hC (looks_findIn X T.ic) (fun self => bind_fn X self T.ti) ?_
  refine xinit (v := v) (s := ⟨(hp.push (kdv_tup rest)).push (excO C hp.objs.size), g, dr, tk, os⟩) T (X.keeps k) (hlim.keeps k) at1 ?_ ?_ fun h' tk' dx Z => ?_
  · have e : (A.under (.builtin "type.__call__" ⟨.ref C :: rest, kw⟩)).depth = A.depth + 1 := L2.make_depth
    rw [e]
    exact hroom
  · rcases ha with e | e <;> cases e
    · exact .inl rfl
    · exact .inr rfl
  · have z : hp.objs.size ≤ dx := by
      have q := Z.big
      have q2 : ((hp.push (kdv_tup rest)).push (excO C hp.objs.size)).objs.size = hp.objs.size + 1 + 1 := by rw [Heap.size_push, Heap.size_push]
      have q3 : ((hp.push (kdv_tup rest)).push (excO C hp.objs.size)).objs.size ≤ dx := q
      omega
    exact ⟨rfl, hq h' tk' (hp.objs.size + 1) dx ⟨fun b o e => Z.keep b o (Nat.ne_of_lt (Nat.lt_succ_of_lt (Heap.lt_size e))) (k b o e), Nat.le_succ _, z, Z.ne, ⟨_, Z.ob⟩, Z.ns⟩⟩
end
end XK
end PySem
set_option Elab.async false
set_option linter.all false
set_option maxRecDepth 100000
set_option maxHeartbeats 4000000
namespace XR
open PySem PySem.Spec PyProof.Rows L2
open PySem.XK (ExF thingM XMade xmade)
/-- an exception's object stands at a, as it is -/
def exq (a : Addr) (oe : Obj) : HO := .ext fun h => h.get? a = some oe
theorem exq_ok {P : Program} {w : World} {H : Hp} {h : Heap} {a : Addr} {oe : Obj} (e : h.get? a = some oe) : ObjOk P w H h a (exq a oe) :=
  ⟨e, ⟨oe, e⟩, fun _ _ z k => k _ z⟩
theorem exq_get {P : Program} {w : World} {H : Hp} {h : Heap} {a : Addr} {oe : Obj} (hok : HOk P w H h) (e : H a = some (exq a oe)) : h.get? a = some oe :=
  (show ObjOk P w H h a (.ext fun h => h.get? a = some oe) from hok a _ e).1
/-- of the class at C, its own dict at d -/
structure ErrO (C d : Addr) (oe : Obj) : Prop where
  cls : oe.cls = .ref C
  dict : oe.dict = some d
  data : ∃ vs, oe.data = .fields vs
/-- an error of the class at C that carries v stands at a -/
def Err (H : Hp) (a C : Addr) (v : V) : Prop := ∃ d oe, H a = some (exq a oe) ∧ ErrO C d oe ∧ H d = some (.xd [(("thing" : Str), v)])
theorem relO_thing {v : V} {u : Value} (r : RelV v u) (f : Str) : RelO (List.lookup f [(("thing" : Str), v)]) (thingM u f) := by
  unfold thingM
  by_cases hw : f = "thing"
  · subst hw
    rw [if_pos rfl]
    have q : List.lookup ("thing" : Str) [(("thing" : Str), v)] = some v := by simp [List.lookup]
    rw [q]
    exact r
  · rw [if_neg hw]
    have qw : (f == ("thing" : Str)) = false := by simpa using hw
    have q2 : List.lookup f [(("thing" : Str), v)] = none := by simp [List.lookup, qw]
    rw [q2]
    trivial
/-- C(e): a new error, its dict new too -/
def tExv (C : Addr) (t : TA) : TE := fun σ H Q => t σ H fun vs H1 => ∃ v, vs = [v] ∧ ∀ a d oe, H1 a = none → H1 d = none → d ≠ a → ErrO C d oe →
  Q (.ref a) (upd (upd H1 d (.xd [(("thing" : Str), v)])) a (exq a oe))
section
variable {X : Cx} {C fI : Addr} {x : Str} {p pos : Pos} {e : Expr} {t : TA} {k : Nat} {kn : Str} {kp : Pos}
/-- behind a made error: the dict is tracked, the object stands apart -/
theorem exv_inv {pins : List (Addr × Obj)} {σ : L2.St} {H1 : Hp} {hp h' : Heap} {g : Array GenState} {dr : Drawn} {tk tk' : Nat} {os : OsState} {a d : Addr} {v : V} {u : Value}
    (I1 : Inv X pins σ H1 ⟨hp, g, dr, tk, os⟩) (Z : XMade hp h' a C d u) (r : RelV v u) :
    ∃ G oe, (∀ b o, G.get? b = some o → h'.get? b = some o) ∧ G.get? a = none ∧ h'.get? a = some oe ∧ ErrO C d oe ∧
      (∃ t0 : Addr, oe.data = .fields #[.ref t0, .none, .none, .none, .bool false, .none]) ∧
      Inv X pins σ (upd H1 d (.xd [(("thing" : Str), v)])) ⟨G, g, dr, tk', os⟩ ∧ H1 a = none ∧ H1 d = none := by
  obtain ⟨t0, hob⟩ := Z.ob
  obtain ⟨G, g1, g2⟩ := restrict h' fun b => decide (b ≠ a)
  have gk : ∀ b, b ≠ a → G.get? b = h'.get? b := fun b hb => g1 b (decide_eq_true hb)
  have ge : G.get? a = none := g2 a (by simp)
  have sub : ∀ b o, G.get? b = some o → h'.get? b = some o := fun b o q => by
    by_cases hb : b = a
    · rw [hb, ge] at q
      cases q
    · exact (gk b hb).symm.trans q
  have old : ∀ b o, hp.get? b = some o → G.get? b = some o := fun b o q =>
    (gk b (Nat.ne_of_lt (Nat.lt_of_lt_of_le (Heap.lt_size q) Z.new))).trans (Z.keep b o q)
  have ob : ObjOk X.prog X.w (upd H1 d (.xd [(("thing" : Str), v)])) G d (.xd [(("thing" : Str), v)]) :=
    ⟨_, Z.ns.at (fun o q => (gk d Z.ne).trans q), fun f => relO_thing r f⟩
  exact ⟨G, _, sub, ge, hob, ⟨rfl, rfl, ⟨_, rfl⟩⟩, ⟨t0, rfl⟩, I1.laid (t' := tk') old Z.big ob, I1.hok.fresh Z.new, I1.hok.fresh Z.big⟩
theorem exv_run {pins : List (Addr × Obj)} {σ : L2.St} {H1 : Hp} {s1 : Shared} {Q : VK} {args : List Value} {kw : List (Str × Value)} {v : V} {u : Value} (T : ExF X.K C fI) (hr : Room k X.A)
    (I1 : Inv X pins σ H1 s1) (r : RelV v u) (ha : (⟨args, kw⟩ : Args) = ⟨[u], []⟩ ∨ (⟨args, kw⟩ : Args) = ⟨[], [("thing", u)]⟩)
    (q : ∀ a d oe, H1 a = none → H1 d = none → d ≠ a → ErrO C d oe → Q (.ref a) (upd (upd H1 d (.xd [(("thing" : Str), v)])) a (exq a oe))) :
    wpAny (model X.prog X.w) X.A (call (.ref C) args kw) (EP X pins σ Q) X.xe s1 := by
  have hlim := I1.nolimit
  have hK := I1.kIn
  obtain ⟨hp, g, dr, tk, os⟩ := s1
  refine wpAny_call (xmade T hK hlim (by have := hr.dp; omega) ha fun h' tk' a d Z => ?_)
  obtain ⟨G, oe, sub, ge, hob, EO, _, J, na, nd⟩ := exv_inv (tk' := tk') I1 Z r
  have na2 : upd H1 d (.xd [(("thing" : Str), v)]) a = none := by
    rw [upd_ne (Ne.symm Z.ne)]
    exact na
  exact ⟨.ref a, _, J.laidN (h' := h') (t' := tk') sub ge na2 (exq_ok hob), rfl, q a d oe na nd Z.ne EO⟩
theorem pe_exv (T : ExF X.K C fI) (hr : Room k X.A) (hg : Gl X x) (hm : X.mg x = some (.ref C)) (ha : PA X [e] t)
    (hdb : (x == ("__debug__" : Str)) = false := by decide) (he : starEach (e :: []) X.env = (false, eval e X.env) :: starEach [] X.env := by rfl)
    (hpl : (backTo pos (starEach [] X.env)).any (·.1) = false := by rfl) : PE X (.Call (.Name x p) [e] [] pos) (tExv C t) := by
  refine ⟨fun pins s σ H Q I h => ?_⟩
  refine wpAny_Call_Name_kw (ld_glob I hg hm ?_ hdb)
  refine PySem.W.callWith_K (h₀ := X.base) I.ok.mod.kin T.kc (thn (ha.run pos pins s σ H _ I h) fun us s1 ⟨vs, H1, I1, r, v, ev, q⟩ => ⟨I1.kIn, ?_⟩) he hpl
  subst ev
  obtain ⟨u, rfl, r1⟩ : ∃ u, us = [u] ∧ RelV v u := by
    cases r with
    | cons rv rn =>
      cases rn
      exact ⟨_, rfl, rv⟩
  exact exv_run T hr I1 r1 (.inl rfl) q
/-- C(thing=e) -/
theorem pe_exvK (T : ExF X.K C fI) (hr : Room k X.A) (hg : Gl X x) (hm : X.mg x = some (.ref C)) (ha : PK X [⟨some "thing", e, kp⟩] t)
    (hdb : (x == ("__debug__" : Str)) = false := by decide)
    (hall : (backToKw pos (keywordEach [⟨some "thing", e, kp⟩] X.env)).all (·.1.isSome) = true := by rfl)
    (hks : (backToKw pos (keywordEach [⟨some "thing", e, kp⟩] X.env)).filterMap (·.1) = [("thing" : Str)] := by rfl)
    (hpl : ((backTo pos (starEach [] X.env)).any (·.1) || (backToKw pos (keywordEach [⟨some "thing", e, kp⟩] X.env)).any (·.1.isNone)) = false := by rfl) :
    PE X (.Call (.Name x p) [] [⟨some "thing", e, kp⟩] pos) (tExv C t) := by
  refine ⟨fun pins s σ H Q I h => ?_⟩
  refine wpAny_Call_Name_kw (ld_glob I hg hm ?_ hdb)
  refine PySem.W.callWith_KW0 (h₀ := X.base) I.ok.mod.kin T.kc hall (thn (ha.run pos pins s σ H _ I h) fun us s1 ⟨vs, H1, I1, r, v, ev, q⟩ => ⟨I1.kIn, ?_⟩) hpl
  subst ev
  obtain ⟨u, rfl, r1⟩ : ∃ u, us = [u] ∧ RelV v u := by
    cases r with
    | cons rv rn =>
      cases rn
      exact ⟨_, rfl, rv⟩
  rw [hks]
  exact exv_run T hr I1 r1 (.inr rfl) q
/-- raise C(e), raise C(thing=e): the error's dict is tracked -/
def tExr (C : Addr) (t : TA) : L2.St → Hp → XK → Prop := fun σ H Q => t σ H fun vs H1 => ∃ v, vs = [v] ∧ ∀ d, H1 d = none → Q (.ref C) (some d) (upd H1 d (.xd [(("thing" : Str), v)]))
theorem exr_run {pins : List (Addr × Obj)} {σ : L2.St} {H1 : Hp} {s1 : Shared} {Q : XK} {args : List Value} {kw : List (Str × Value)} {v : V} {u : Value} (T : ExF X.K C fI) (hr : Room k X.A)
    (I1 : Inv X pins σ H1 s1) (r : RelV v u) (ha : (⟨args, kw⟩ : Args) = ⟨[u], []⟩ ∨ (⟨args, kw⟩ : Args) = ⟨[], [("thing", u)]⟩)
    (q : ∀ d, H1 d = none → Q (.ref C) (some d) (upd H1 d (.xd [(("thing" : Str), v)]))) :
    wpAny (model X.prog X.w) X.A (call (.ref C) args kw) (MkP X pins σ Q) X.xe s1 := by
  have hlim := I1.nolimit
  have hK := I1.kIn
  obtain ⟨hp, g, dr, tk, os⟩ := s1
  refine wpAny_call (xmade T hK hlim (by have := hr.dp; omega) ha fun h' tk' a d Z => ?_)
  obtain ⟨G, oe, sub, ge, hob, EO, ⟨t0, hdat⟩, J, na, nd⟩ := exv_inv (tk' := tk') I1 Z r
  refine ⟨a, oe, _, ⟨G, g, dr, tk', os⟩, _, .ref C, some d, rfl, J, sub, ge, hob, ⟨EO.cls, EO.dict⟩, hdat, rfl, ?_, rfl, I1.bare, raises_own T.ex T.ty, q d nd⟩
  rw [upd_ne (Ne.symm Z.ne)]
  exact na
theorem pmk_exv (T : ExF X.K C fI) (hr : Room k X.A) (hg : Gl X x) (hm : X.mg x = some (.ref C)) (ha : PA X [e] t)
    (hdb : (x == ("__debug__" : Str)) = false := by decide) (he : starEach (e :: []) X.env = (false, eval e X.env) :: starEach [] X.env := by rfl)
    (hpl : (backTo pos (starEach [] X.env)).any (·.1) = false := by rfl) : PMk X (.Call (.Name x p) [e] [] pos) (tExr C t) := by
  intro pins s σ H Q I h
  refine wpAny_Call_Name_kw (ld_glob I hg hm ?_ hdb)
  refine PySem.W.callWith_K (h₀ := X.base) I.ok.mod.kin T.kc (thn (ha.run pos pins s σ H _ I h) fun us s1 ⟨vs, H1, I1, r, v, ev, q⟩ => ⟨I1.kIn, ?_⟩) he hpl
  subst ev
  obtain ⟨u, rfl, r1⟩ : ∃ u, us = [u] ∧ RelV v u := by
    cases r with
    | cons rv rn =>
      cases rn
      exact ⟨_, rfl, rv⟩
  exact exr_run T hr I1 r1 (.inl rfl) q
theorem pmk_exvK (T : ExF X.K C fI) (hr : Room k X.A) (hg : Gl X x) (hm : X.mg x = some (.ref C)) (ha : PK X [⟨some "thing", e, kp⟩] t)
    (hdb : (x == ("__debug__" : Str)) = false := by decide)
    (hall : (backToKw pos (keywordEach [⟨some "thing", e, kp⟩] X.env)).all (·.1.isSome) = true := by rfl)
    (hks : (backToKw pos (keywordEach [⟨some "thing", e, kp⟩] X.env)).filterMap (·.1) = [("thing" : Str)] := by rfl)
    (hpl : ((backTo pos (starEach [] X.env)).any (·.1) || (backToKw pos (keywordEach [⟨some "thing", e, kp⟩] X.env)).any (·.1.isNone)) = false := by rfl) :
    PMk X (.Call (.Name x p) [] [⟨some "thing", e, kp⟩] pos) (tExr C t) := by
  intro pins s σ H Q I h
  refine wpAny_Call_Name_kw (ld_glob I hg hm ?_ hdb)
  refine PySem.W.callWith_KW0 (h₀ := X.base) I.ok.mod.kin T.kc hall (thn (ha.run pos pins s σ H _ I h) fun us s1 ⟨vs, H1, I1, r, v, ev, q⟩ => ⟨I1.kIn, ?_⟩) hpl
  subst ev
  obtain ⟨u, rfl, r1⟩ : ∃ u, us = [u] ∧ RelV v u := by
    cases r with
    | cons rv rn =>
      cases rn
      exact ⟨_, rfl, rv⟩
  rw [hks]
  exact exr_run T hr I1 r1 (.inr rfl) q
end
end XR
set_option Elab.async false
set_option linter.all false
set_option maxRecDepth 100000
set_option maxHeartbeats 4000000
namespace XR
open PySem PySem.Spec PyProof.Rows L2
open PySem.XK (ExF)
section
variable {X : Cx} {C fI a d : Addr} {oe : Obj} {v : V} {pins : List (Addr × Obj)} {σ : L2.St} {H : Hp} {s : Shared}
/-- what the library's rules ask of such an object -/
theorem err_inst (hok : HOk X.prog X.w H s.heap) (ha : s.heap.get? a = some oe) (EO : ErrO C d oe) (ed : H d = some (.xd [(("thing" : Str), v)])) :
    ∃ od u, PySem.W.InstAt s.heap a oe C (some od) ∧ PySem.W.lookIn "thing" od = some (some u) ∧ RelV v u := by
  have hx : ObjOk X.prog X.w H s.heap d (.xd [(("thing" : Str), v)]) := hok d _ ed
  obtain ⟨mA, hns, hr⟩ := hx
  obtain ⟨od, ho, hl⟩ := lookIn_ns hns
  have l : List.lookup ("thing" : Str) [(("thing" : Str), v)] = some v := by simp [List.lookup]
  obtain ⟨u, hu, ru⟩ := RelO.some_of (v := v) (o := mA "thing") (by rw [← l]; exact hr "thing")
  obtain ⟨vs, hd⟩ := EO.data
  refine ⟨od, u, ⟨ha, EO.cls, ?_, ?_⟩, by rw [hl, hu], ru⟩
  · unfold PySem.W.notCls
    rw [hd] <;> rfl
  · rw [EO.dict]
    exact ho
theorem err_read {A : Around} {E : Value → Shared → Prop} {ex : Bool} {Q : Value → Shared → Prop} (T : ExF X.K C fI) (hK : X.K.In s.heap) (hok : HOk X.prog X.w H s.heap) (ha : s.heap.get? a = some oe) (EO : ErrO C d oe)
    (ed : H d = some (.xd [(("thing" : Str), v)])) (h : ∀ u, RelV v u → Q u { s with toks := s.toks + 1 }) :
    wpAny (model X.prog X.w) A (getAttr (.ref a) "thing" ex) Q E s := by
  obtain ⟨od, u, J, hl, ru⟩ := err_inst hok ha EO ed
  exact HandSPX.exc_get hK J T.ga T.gg T.ex (PySem.W.findObj_own T.hd T.no rfl hl) (handed_of ru) (h u ru)
theorem err_is {A : Around} {E : Value → Shared → Prop} {c : Value} {b : Bool} {Q : Value → Shared → Prop} (T : ExF X.K C fI) (hK : X.K.In s.heap) (hok : HOk X.prog X.w H s.heap) (ha : s.heap.get? a = some oe) (EO : ErrO C d oe)
    (ed : H d = some (.xd [(("thing" : Str), v)])) (e : PySem.W.kitOne X.K (.ref C) c = some b) (h : ∀ tk, Q (.bool b) { s with toks := tk }) :
    wpAny (model X.prog X.w) A (call (.builtin "isinstance") [.ref a, c]) Q E s := by
  obtain ⟨od, u, J, hl, ru⟩ := err_inst hok ha EO ed
  obtain ⟨cd, hcd, _⟩ := PySem.W.any_some T.hd
  exact PySem.W.kia_one (PySem.W.kitx_exc (by rw [hcd]; rfl) T.ga T.gg T.ex T.cl T.dn T.dt T.mo) hK J e (fun z => nomatch z) h
theorem err_isT {A : Around} {E : Value → Shared → Prop} {tp : Addr} {dd : Option Addr} {its : List Value} {n : Nat} {sl : Array (Option Value)} {b : Bool} {Q : Value → Shared → Prop} (T : ExF X.K C fI) (hK : X.K.In s.heap) (hok : HOk X.prog X.w H s.heap) (ha : s.heap.get? a = some oe) (EO : ErrO C d oe)
    (ed : H d = some (.xd [(("thing" : Str), v)])) (htp : s.heap.get? tp = some ⟨.type "tuple", dd, .seq its.toArray n, sl⟩) (e : PySem.W.kitAny X.K (.ref C) its = some b) (h : ∀ tk, Q (.bool b) { s with toks := tk }) :
    wpAny (model X.prog X.w) A (call (.builtin "isinstance") [.ref a, .ref tp]) Q E s := by
  obtain ⟨od, u, J, hl, ru⟩ := err_inst hok ha EO ed
  obtain ⟨cd, hcd, _⟩ := PySem.W.any_some T.hd
  exact PySem.W.kia_tup (PySem.W.kitx_exc (by rw [hcd]; rfl) T.ga T.gg T.ex T.cl T.dn T.dt T.mo) hK J htp e (fun z => nomatch z) h
end
/-- an error that is tracked, its facts beside it -/
def ErrK (K : PySem.W.Frag) (H : Hp) (a C : Addr) (v : V) : Prop := ∃ fI d oe, ExF K C fI ∧ ErrO C d oe ∧ H a = some (exq a oe) ∧ H d = some (.xd [(("thing" : Str), v)])
/-- e.thing -/
def tEf (K : PySem.W.Frag) (te : TE) : TE := fun σ H Q => te σ H fun x H1 => ∃ a C v, x = .ref a ∧ ErrK K H1 a C v ∧ Q v H1
/-- isinstance(e, c), isinstance(e, (c, ..)) -/
def rIsX (K : PySem.W.Frag) : List V → Hp → VK → Prop := fun xs H Q => ∃ (a C : Addr) (v c : V) (u : Value) (b : Bool), xs = [.ref a, c] ∧ ErrK K H a C v ∧ ClsV c u ∧ PySem.W.kitOne K (.ref C) u = some b ∧ Q (.bl b) H
def rIsXT (K : PySem.W.Frag) : List V → Hp → VK → Prop := fun xs H Q => ∃ (a C tp : Addr) (v : V) (cs : List V) (us : List Value) (b : Bool), xs = [.ref a, .ref tp] ∧ ErrK K H a C v ∧ H tp = some (.tup cs) ∧ Paired ClsV cs us ∧
  PySem.W.kitAny K (.ref C) us = some b ∧ Q (.bl b) H
section
variable {X : Cx} {e : Expr} {te : TE} {pos : Pos}
theorem pe_ef (he : PE X e te) (hb : attributeBase e "thing" X.env (eval e X.env) = eval e X.env := by rfl) : PE X (.Attribute e "thing" pos) (tEf X.K te) := by
  refine ⟨fun pins s σ H Q I h => ?_⟩
  refine attr_of hb (thn (he.run pins s σ H _ I h) fun u s1 hh => ?_)
  obtain ⟨x, H1, I1, rx, a, C, v, ex, ⟨fI, d, oe, T, EO, ea, ed⟩, q⟩ := hh
  subst ex
  obtain rfl : u = Value.ref a := rx
  exact err_read T I1.kIn I1.hok (exq_get I1.hok ea) EO ed fun u ru => ⟨v, H1, I1.tok _, ru, q⟩
theorem call_isX : CallR X (.builtin "isinstance") (rIsX X.K) := by
  intro pins s σ H xs us Q I r h
  obtain ⟨a, C, v, c, u, b, rfl, ⟨fI, d, oe, T, EO, ea, ed⟩, k, e, q⟩ := h
  obtain ⟨u1, u2, rfl, r1, r2⟩ := vals2 r
  obtain rfl : u1 = Value.ref a := r1
  have e2 := k.eq r2
  subst e2
  exact err_is T I.kIn I.hok (exq_get I.hok ea) EO ed e fun tk => ⟨.bl b, H, I.tok tk, rfl, q⟩
theorem call_isXT : CallR X (.builtin "isinstance") (rIsXT X.K) := by
  intro pins s σ H xs us Q I r h
  obtain ⟨a, C, tp, v, cs, ws, b, rfl, ⟨fI, d, oe, T, EO, ea, ed⟩, hT, k, e, q⟩ := h
  obtain ⟨u1, u2, rfl, r1, r2⟩ := vals2 r
  obtain rfl : u1 = Value.ref a := r1
  obtain rfl : u2 = Value.ref tp := r2
  obtain ⟨_, its, rv, o, h1, h2, n, h3⟩ := (show ObjOk X.prog X.w H s.heap tp (.tup cs) from I.hok tp _ hT)
  have e3 := ClsV.all k rv
  subst e3
  obtain ⟨oc, od, dt, sl⟩ := o
  simp only at h2 h3
  subst h2 h3
  exact err_isT T I.kIn I.hok (exq_get I.hok ea) EO ed h1 e fun tk => ⟨.bl b, H, I.tok tk, rfl, q⟩
end
/-! ### in an except suite: the error that it holds -/
/-- e.thing -/
def tSf (K : PySem.W.Frag) (a : Addr) (cls : Value) (d : Option Addr) (te : TE) : TE := fun σ H Q => te σ H fun x H1 => x = .ref a ∧ ∃ C fI dd v, cls = .ref C ∧ d = some dd ∧ ExF K C fI ∧ H1 dd = some (.xd [(("thing" : Str), v)]) ∧ Q v H1
/-- isinstance(e, c) -/
def rIsS (K : PySem.W.Frag) (a : Addr) (cls : Value) (d : Option Addr) : List V → Hp → VK → Prop := fun xs H Q => ∃ (C fI dd : Addr) (v c : V) (u : Value) (b : Bool), xs = [.ref a, c] ∧ cls = .ref C ∧ d = some dd ∧ ExF K C fI ∧
  H dd = some (.xd [(("thing" : Str), v)]) ∧ ClsV c u ∧ PySem.W.kitOne K (.ref C) u = some b ∧ Q (.bl b) H
section
variable {X : Cx} {a : Addr} {oe : Obj} {cls : Value} {d : Option Addr} {pn : List (Addr × Obj)} {e : Expr} {te : TE} {pos : Pos}
theorem pe_sf (hz : Zc cls d oe) (hf : ∃ vs, oe.data = .fields vs) (he : PE (X.suite a ((a, oe) :: pn)) e te)
    (hb : attributeBase e "thing" X.env (eval e X.env) = eval e X.env := by rfl) : PE (X.suite a ((a, oe) :: pn)) (.Attribute e "thing" pos) (tSf X.K a cls d te) := by
  refine ⟨fun pins s σ H Q I h => ?_⟩
  refine attr_of hb (thn (he.run pins s σ H _ I h) fun u s1 hh => ?_)
  obtain ⟨x, H1, I1, rx, ex, C, fI, dd, v, ec, edd, T, ed, q⟩ := hh
  subst ex
  obtain rfl : u = Value.ref a := rx
  subst ec
  subst edd
  have pa := (I1.pin (a, oe) (List.mem_append_left _ List.mem_cons_self)).1
  exact err_read (X := X) T I1.kIn I1.hok pa ⟨hz.1, hz.2, hf⟩ ed fun u ru => ⟨v, H1, I1.tok _, ru, q⟩
theorem call_isS (hz : Zc cls d oe) (hf : ∃ vs, oe.data = .fields vs) : CallR (X.suite a ((a, oe) :: pn)) (.builtin "isinstance") (rIsS X.K a cls d) := by
  intro pins s σ H xs us Q I r h
  obtain ⟨C, fI, dd, v, c, u, b, rfl, ec, edd, T, ed, k, e, q⟩ := h
  obtain ⟨u1, u2, rfl, r1, r2⟩ := vals2 r
  obtain rfl : u1 = Value.ref a := r1
  subst ec
  subst edd
  have e2 := k.eq r2
  subst e2
  have pa := (I.pin (a, oe) (List.mem_append_left _ List.mem_cons_self)).1
  exact err_is (X := X) T I.kIn I.hok pa ⟨hz.1, hz.2, hf⟩ ed e fun tk => ⟨.bl b, H, I.tok tk, rfl, q⟩
end
end XR
set_option Elab.async false
set_option linter.all false
set_option maxRecDepth 100000
set_option maxHeartbeats 4000000
namespace XR
open PySem PySem.Spec PyProof.Rows L2
open PySem.XK (ExF)
/-- the ways out of a suite: the clause's name goes -/
def goE (i : Nat) (D : Ends) : Ends := { nx := fun σ H => D.nx (σ.set i none) H, rt := D.rt, bk := fun σ H => D.bk (σ.set i none) H, ct := fun σ H => D.ct (σ.set i none) H }
/-- what the clauses, each with a name in slot i, wish of an exception of the body, one behind the other -/
def wMa (K : PySem.W.Frag) (Wout : WX) (i : Nat) (D : Ends) : List (Value × (Addr → Value → Option Addr → TS)) → WX
  | [] => Wout
  | (c, ts) :: r => fun cls d σ H => ∃ b, PySem.W.exmOne K cls c = some b ∧ (b = true → ∀ a, H a = none → ts a cls d (goE i D) (σ.set i (some (.ref a))) H) ∧ (b = false → wMa K Wout i D r cls d σ H)
inductive HdA (X : Cx) (n : Str) : List ExceptHandler → List (Value × (Addr → Value → Option Addr → TS)) → Prop
  | nil : HdA X n [] []
  | cons {x : Str} {c : Value} {ts : Addr → Value → Option Addr → TS} {b₀ : Stmt} {su : List Stmt} {np pos' : Pos} {hds : List ExceptHandler} {l : List (Value × (Addr → Value → Option Addr → TS))}
      (hc : Names X x c)
      (hs : ∀ (a : Addr) (oe : Obj) (cls : Value) (d : Option Addr) (pn : List (Addr × Obj)), Zc cls d oe → (∃ vs, oe.data = .fields vs) → X.base.get? a = none → PSs (X.suite a ((a, oe) :: pn)) (b₀ :: su) (ts a cls d))
      (r : HdA X n hds l) : HdA X n (.ExceptHandler (some (.Name x np)) (some n) (b₀ :: su) pos' :: hds) ((c, ts) :: l)
section
variable {X : Cx} {n : Str} {i : Nat} {body : List Stmt} {h₀ : ExceptHandler} {hds : List ExceptHandler} {l : List (Value × (Addr → Value → Option Addr → TS))} {pos : Pos} {tb : WX → TS} {Wout : WX}
theorem ps_try_ma (hs : X.stack = X.env :: X.outer) (hf : X.env.frame = some X.env.locals) (hN : X.N.Nodup) (hi : X.N[i]? = some n) (hln : X.env.kindOf n = some .local) (tk : Takes X Wout)
    (hb : ∀ (W : WX) (pn : List (Addr × Obj)) (xe : Value → Shared → Prop), Takes (X.tr pn xe) W → PassesOwn (model X.prog X.w) X.A X.env xe → PSs (X.tr pn xe) body (tb W))
    (hh : HdA X n (h₀ :: hds) l) : PS X (.Try body (h₀ :: hds) [] [] pos) (fun D σ H => tb (wMa X.K Wout i D l) D σ H) := by
  refine ⟨fun pins s σ H D I h => ?_⟩
  have ok := I.ok
  have fr : X.A.frames = some (X.env :: X.outer) := by
    rw [ok.frames, hs]
  have lc : Loc X.env.scope n := .inl hln
  refine wpAny_Try_except ?_
  refine wpAny_mono ((hb (wMa X.K Wout i D l) (X.pn ++ pins)
    (fun e sA => wpAny (model X.prog X.w) X.A (noteFrame e X.env) (fun _ sB => wpAny (model X.prog X.w) X.A (setFlight e none)
      (fun _ sC => wpAny (model X.prog X.w) X.A (handleBy e X.env (h₀ :: hds)) (SP X pins D) X.xe sC) X.xe sB) X.xe sA)
    (fun u sX xx => ?_) PassesOwn.looking).run [] s σ H D (I.toTry _) h) (fun f sY fin => ?_) (fun _ _ z => z)
  · obtain ⟨a, B, sI, pq, σ', H', cls, d, rfl, J', nb, up, sky, na, os, ag, w⟩ := xx
    have J : Inv X pins σ' H' sI := J'.ofTry ok
    have sky2 : Sky B (X.env :: X.outer) a (Zc cls d) X.env.locals sX.heap := by
      rw [← hs]
      exact sky
    show wpAny (model X.prog X.w) X.A (noteFrame (.ref a) X.env) _ _ _
    refine Sky.land Zc.steady fr hf sky2 fun hL flL upL => ?_
    have JL : Inv X pins σ' H' { sX with heap := hL } := J.landed nb flL.1 (up.trans upL) os ag
    obtain ⟨oL, vL, eL, zL, dL⟩ := flL.there
    have notFrame : a ∉ frs (X.env :: X.outer) := fun hm => by
      obtain ⟨_, o', e', hnf⟩ := flL.2.2.1.mem hm
      rw [eL] at e'
      cases e'
      exact hnf _ dL
    have nL : a ≠ X.env.locals := fun z => notFrame (List.mem_filterMap.mpr ⟨X.env, List.mem_cons_self, by rw [hf, z]⟩)
    have nF : a ∉ X.fs := fun hm => by
      obtain ⟨e, he, q⟩ := List.mem_filterMap.mp hm
      exact notFrame (List.mem_filterMap.mpr ⟨e, List.mem_cons_of_mem _ he, q⟩)
    have nB : X.base.get? a = none := by
      cases q : X.base.get? a with
      | none => rfl
      | some o =>
        have z := nb a o (J.bk a o q) (by rw [hs]; exact notFrame)
        rw [flL.2.1] at z
        cases z
    have SL := JL.suite eL dL na nL nF
    have go : ∀ {hk : List ExceptHandler} {lk : List (Value × (Addr → Value → Option Addr → TS))}, HdA X n hk lk → wMa X.K Wout i D lk cls d σ' H' →
        wpAny (model X.prog X.w) X.A (handleBy (.ref a) X.env hk) (SP X pins D) X.xe { sX with heap := hL } := by
      intro hk lk z
      induction z with
      | nil =>
        intro w
        refine wpAny_handleBy_nil ?_
        obtain ⟨k1, k2, k3, oe, vs, T, oT, ts', he, hz, hd, h1, hr⟩ := id flL
        unfold PySem.passOn
        refine wpAny_bind (wpAny_field he hd h1 ?_)
        rw [if_neg (show ¬ ((Value.ref T == Value.none) = true) from by simp)]
        have out : wpAny (model X.prog X.w) X.A (setFlight (.ref a) X.env.frame)
            (fun _ s4 => wpAny (model X.prog X.w) X.A (throw (.ref a) : Sem Flow) (SP X pins D) X.xe s4) X.xe { sX with heap := hL } := by
          rw [hf]
          refine HandSPX.setFlight_upZ flL fun h4 hh4 up4 => wpAny_throw (tk _ _ ?_)
          exact ⟨a, B, sI, pins, σ', H', cls, d, rfl, J, nb, (up.trans upL).trans up4, .inr (.inr (by rw [hs]; exact hh4)), na, os, ag, w⟩
        first
          | exact wpAny_bind (wpAny_pure (wpAny_bind out))
          | exact wpAny_bind out
      | @cons x c ts b₁ su np pos' hds2 l2 hc hsu r ih =>
        intro w
        obtain ⟨b, hb1, yes, no⟩ := w
        refine wpAny_handleBy_cons (codeAny_handlers_test ?_) (by intro q; cases q)
        have LT : PySem.W.Looks (model X.prog X.w) hL (typeOf (.ref a)) cls := fun A Q E s k q => wpAny_typeOf_ref (k _ _ eL) (by rw [zL.1]; exact q)
        have LM := PySem.W.exm_one (M := model X.prog X.w) (JL.kIn) LT hb1
        have test : ∀ {Q : Value → Shared → Prop} {E : Value → Shared → Prop}, Q c { sX with heap := hL } →
            wpAny (model X.prog X.w) (X.A.mark (some (.ref a))) (eval (.Name x np) X.env) Q E { sX with heap := hL } := fun {Q E} q => by
          obtain ⟨g1, g2, m1 | ⟨m1, m2, m3⟩⟩ := hc
          · exact ld_glob (X := X.suite a ((a, oL) :: (X.pn ++ pins))) SL g1 m1 q g2
          · exact ld_blt (X := X.suite a ((a, oL) :: (X.pn ++ pins))) SL g1 m1 m2 q m3 g2
        refine test (LM.here ?_)
        cases b with
        | true =>
          refine codeAny_handlers_suite_as ?_
          refine HandSPX.lands_againZ flL fun h4 fl4 up4 => ?_
          have J4 : Inv X pins σ' H' { sX with heap := h4 } := J.landed nb fl4.1 ((up.trans upL).trans up4) os ag
          obtain ⟨o4, v4, e4, z4, d4⟩ := fl4.there
          have S4 := J4.suite e4 d4 na nL nF
          refine store_ok (X := X.suite a ((a, o4) :: (X.pn ++ pins))) (v := .ref a) S4 hN hi lc rfl (fun s5 S5 => ?_) (.inr hln)
          refine wpAny_mono ((hsu a o4 cls d (X.pn ++ pins) z4 ⟨_, d4⟩ nB).run [] s5 _ H' _ S5 (yes rfl a na)) (fun f s6 hsp => ?_) (fun _ _ z => False.elim z)
          have fin : ∀ {σ6 : L2.St} {H6 : Hp} {Q : Shared → Prop}, Inv (X.suite a ((a, o4) :: (X.pn ++ pins))) [] σ6 H6 s6 → (∀ s7, Inv X pins (σ6.set i none) H6 s7 → Q s7) →
              wpAny (model X.prog X.w) X.A (do bindName X.env n .none; unbindBehindTheSuite X.env n pos') (fun _ s7 => Q s7) X.xe s6 :=
            fun {σ6 H6 Q} S6 hq => gone_ok (S6.unsuite ok) hN hi hln hq
          cases f with
          | next =>
            obtain ⟨σ6, H6, S6, q6⟩ := hsp
            exact fin S6 fun s7 J7 => ⟨_, _, J7, q6⟩
          | brk =>
            obtain ⟨σ6, H6, S6, q6⟩ := hsp
            exact fin S6 fun s7 J7 => ⟨_, _, J7, q6⟩
          | cont =>
            obtain ⟨σ6, H6, S6, q6⟩ := hsp
            exact fin S6 fun s7 J7 => ⟨_, _, J7, q6⟩
          | ret u =>
            obtain ⟨v6, σ6, H6, S6, r6, q6⟩ := hsp
            exact fin S6 fun s7 J7 => ⟨_, _, _, J7, r6, q6⟩
        | false =>
          show wpAny _ X.A (handleBy (.ref a) X.env hds2) _ _ _
          exact ih (no rfl)
    exact go hh w
  · cases f with
    | next =>
      obtain ⟨σ', H', J', q⟩ := fin
      exact wpAny_execs_nil ⟨σ', H', J'.ofTry ok, q⟩
    | brk =>
      obtain ⟨σ', H', J', q⟩ := fin
      exact ⟨σ', H', J'.ofTry ok, q⟩
    | cont =>
      obtain ⟨σ', H', J', q⟩ := fin
      exact ⟨σ', H', J'.ofTry ok, q⟩
    | ret u =>
      obtain ⟨v, σ', H', J', r, q⟩ := fin
      exact ⟨v, σ', H', J'.ofTry ok, r, q⟩
end
end XR
set_option Elab.async false
set_option linter.all false
set_option maxRecDepth 100000
set_option maxHeartbeats 4000000
namespace XR
open PySem PySem.Spec PyProof.Rows L2 L2H
/-- a def that may run while an exception is handled, too -/
structure FnC (P : Program) (w : World) (K : PySem.W.Frag) (mg : Str → Option Value) (base : Heap) (k : Nat) (f : Addr) (fd : FuncData) (ps : List Str) (sp : Sp) : Prop where
  len : ∀ vs H Q E, sp vs H Q E → vs.length = ps.length
  run : ∀ (A : Around) (outer : List Env) (s : Shared) (H : Hp) (args : Args) (us : List Value) (vs : List V) (Q : VK) (E : XK), RoomH k A → Env0 P w K mg base A outer s H → BindsTo s fd args (ps.zip us) → Vals vs us → sp vs H Q E →
    codeAny (model P w) A (.call (.ref f) args) (CR CX0 outer P w H s Q E) s
theorem FnC.ok {P : Program} {w : World} {K : PySem.W.Frag} {mg : Str → Option Value} {base : Heap} {k : Nat} {f : Addr} {fd : FuncData} {ps : List Str} {sp : Sp} (F : FnC P w K mg base k f fd ps sp) : FnOk P w K mg base CX0 k f fd ps sp :=
  ⟨F.len, fun A outer s H args us vs Q E hr => F.run A outer s H args us vs Q E (roomH_of hr)⟩
/-- an object of the base that stands still through every call -/
theorem base_pin {P : Program} {w : World} {K : PySem.W.Frag} {mg : Str → Option Value} {base : Heap} {A : Around} {outer : List Env} {s : Shared} {H : Hp} (e0 : Env0 P w K mg base A outer s H) : ∃ p, PinOk outer H s p := by
  obtain ⟨o, es, ep, e, hd, _⟩ := e0.mod.glob
  obtain ⟨q, n⟩ := e0.bs _ o e
  refine ⟨(mainGlobals, o), q, n, fun hm => ?_, fun v z => ?_⟩
  · have z := (e0.funs.mem hm).1
    rw [e] at z
    cases z
  · have z2 : o.data = .cell v := z
    rw [hd] at z2
    cases z2
theorem fnc_of {P : Program} {w : World} {K : PySem.W.Frag} {mg : Str → Option Value} {base : Heap} {k : Nat} {f : Addr} {x qual : Str} {st : Stmt} {fd : FuncData} {N ps : List Str} {sp : Sp} (F : Fun K x qual st f fd) (S : FnScope N ps (defScope st))
    (len : ∀ vs H Q E, sp vs H Q E → vs.length = ps.length)
    (hbody : ∀ (cdv : Value) (A : Around) (outer : List Env) (s : Shared) (H : Hp) (vs : List V) (Q : VK) (E : XK) (p : Addr × Obj), RoomH k (A.deeper (envOfC qual (defScope st) s.heap.objs.size f cdv)) → sp vs H Q E →
      ∃ t, PSs (cxH CX0 P w K mg base N qual (defScope st) f cdv A outer s H E p) (defBody st) t ∧ t { nx := fun _ H' => Q .non H', rt := Q } (L2.start N vs) H) :
    FnC P w K mg base (k + 1) f fd ps sp := by
  obtain ⟨oc, od, kV, doc, pm, an, cdv, ct, osl, rfl, lk, hcd⟩ := F.ex
  refine ⟨len, fun A outer s H args us vs Q E hr e0 hb r hsp => ?_⟩
  obtain ⟨p, hp⟩ := base_pin e0
  have hl := len _ _ _ _ hsp
  have KX : K.In s.heap := e0.mod.kin.keeps fun b o e => (e0.bs b o e).1
  have lim : s.heap.NoLimit := e0.mod.nolimit.keeps fun b o e => (e0.bs b o e).1
  have kinds : ∀ y ∈ ps.zip us, (defScope st).names.lookup y.1 = some .local ∨
      ((defScope st).names.lookup y.1 = some .cell ∧ ((cellsFrom (s.heap.objs.size + 1) (defScope st).names []).lookup y.1).isSome = true) := fun ⟨n, v⟩ hy => by
    rcases S.par n (List.of_mem_zip hy).1 with q | q
    · exact .inl q
    · exact .inr ⟨q, PySem.W.cellsFrom_some _ _ _ (.inl q)⟩
  refine codeAny_call_function hr.depth (KX _ _ lk) rfl S.co S.gen rfl (PySem.W.codeRec_of KX hcd) (hb _ _ _ _ ?_)
  refine wpAny_newFunctionEnv_cells S.kind kinds fun env he s1 ic => ?_
  subst he
  refine ⟨lim.keeps ic.toInCall.keep, codeAny_func ?_⟩
  obtain ⟨t, ht, hq⟩ := hbody cdv A outer s H vs Q E p (hr.deeper _) hsp
  have I := inv_startH (CX := CX0) (E := E) S hp e0 hl r ic
  refine wpAny_mono (ht.run [] s1 (L2.start N vs) H _ I hq) (fun fl s' hs => ?_) fun e s' hs => hs
  have out : ∀ {σ' : L2.St} {H' : Hp} {v : V} {u : Value}, Inv (cxH CX0 P w K mg base N qual (defScope st) f cdv A outer s H E p) [] σ' H' s' → RelV v u → Q v H' → CE outer P w H s Q u s' :=
    fun {σ' H' v u} J rv q => ⟨v, H', J.os, J.bare, J.base, J.hok, rv, q⟩
  cases fl with
  | ret u =>
    obtain ⟨v, σ', H', J, rv, q⟩ := hs
    exact out J rv q
  | next =>
    obtain ⟨σ', H', J, q⟩ := hs
    exact out (v := V.non) (u := Value.none) J rfl q
  | brk =>
    obtain ⟨_, _, _, q⟩ := hs
    exact q.elim
  | cont =>
    obtain ⟨_, _, _, q⟩ := hs
    exact q.elim
/-- f(e), e the error that the suite holds: it is tracked through the call -/
def tHc (a : Addr) (cls : Value) (d : Option Addr) (sp : Sp) (t : TA) : TE := fun σ H Q => t σ H fun vs H1 => vs = [.ref a] ∧ H1 a = none ∧
  ∀ oe : Obj, oe.cls = cls → oe.dict = d → (∃ fv, oe.data = .fields fv) → sp [.ref a] (upd H1 a (exq a oe)) (fun v H2 => H2 a = some (exq a oe) ∧ Q v (delH H2 a)) E0
theorem exq_own {a x : Addr} {oe : Obj} : exq a oe ≠ .own x := fun z => by
  have z' : HO.ext _ = HO.own x := z
  cases z'
section
variable {X : Cx} {a : Addr} {oe : Obj} {cls : Value} {d : Option Addr} {pn : List (Addr × Obj)} {k : Nat} {f : Addr} {fd : FuncData} {ps : List Str} {sp : Sp} {x : Str} {p pos : Pos} {e : Expr} {t : TA}
theorem pe_hc (hz : Zc cls d oe) (hf : ∃ vs, oe.data = .fields vs) (nB : X.base.get? a = none) (F : FnC X.prog X.w X.K X.mg X.base k f fd ps sp) (hr : RoomH k (X.suite a ((a, oe) :: pn)).A) (hg : Gl (X.suite a ((a, oe) :: pn)) x) (hm : X.mg x = some (.ref f)) (hk : PySem.W.keepIn X.K (.ref f) = true) (hb : Binds X.K fd ps [])
    (ha : PA (X.suite a ((a, oe) :: pn)) [e] t) (hdb : (x == ("__debug__" : Str)) = false := by decide)
    (hst : starEach [e] X.env = (false, eval e X.env) :: starEach [] X.env := by rfl) :
    PE (X.suite a ((a, oe) :: pn)) (.Call (.Name x p) [e] [] pos) (tHc a cls d sp t) := by
  refine ⟨fun pins s σ H Q I h => ?_⟩
  refine wpAny_Call_Name_kw (ld_glob I hg hm ?_ hdb)
  refine PySem.W.callWith_K (h₀ := X.base) I.ok.mod.kin hk (thn (ha.run pos pins s σ H _ I h) fun us s1 ⟨vs, H1, I1, r, ev, _, hall⟩ => ⟨I1.kIn, ?_⟩) hst (by rfl)
  subst ev
  have hsp := hall oe hz.1 hz.2 hf
  cases r with
  | cons ry rn =>
  cases rn
  cases ry
  obtain ⟨pg, pf, pL, pF, pc⟩ := I1.pin (a, oe) (List.mem_append_left _ List.mem_cons_self)
  have nst : a ∉ frs (X.suite a ((a, oe) :: pn)).stack := fun hm => (List.mem_cons.mp (I1.stkSub a hm)).elim pL pF
  have e0 := I1.env0
  have e1 : Env0 X.prog X.w X.K X.mg X.base (X.suite a ((a, oe) :: pn)).A (X.suite a ((a, oe) :: pn)).stack s1 (upd H1 a (exq a oe)) := by
    refine ⟨e0.frames, e0.mod, fun b o q => ?_, e0.bsz, e0.funs, fun b hb => ?_, ?_, e0.bare⟩
    · have ne : b ≠ a := fun z => by
        rw [z, nB] at q
        cases q
      rw [upd_ne ne]
      exact e0.bs b o q
    · have ne : b ≠ a := fun z => nst (by rw [← z]; exact hb)
      rw [upd_ne ne]
      exact e0.frf b hb
    · exact I1.hok.laidN (fun _ _ q => q) pf (exq_ok pg)
  have b := hb s1 [.ref a] I1.kIn (by rw [List.append_nil]; exact (F.len _ _ _ _ hsp))
  rw [List.append_nil] at b
  refine wpAny_call (codeAny_mono (F.run _ _ s1 _ ⟨[.ref a], []⟩ [.ref a] [.ref a] _ E0 hr e1 b (.cons rfl .nil) hsp) fun r s' hq => ?_)
  cases r with
  | error z => exact False.elim hq
  | ok fl =>
    cases fl with
    | next => exact False.elim hq
    | brk => exact False.elim hq
    | cont => exact False.elim hq
    | ret u =>
      obtain ⟨v, H2, os2, bare2, un, hok2, rv, ea, q⟩ := hq
      have at2 := exq_get hok2 ea
      have U : Un (frs (X.suite a ((a, oe) :: pn)).stack) [] H1 (delH H2 a) s1.heap s'.heap := {
        keep := fun b o z n hb hx => by
          by_cases hba : b = a
          · rw [hba] at z ⊢
            rw [pg] at z
            cases z
            exact at2
          · exact un.keep b o z (by rw [upd_ne hba]; exact n) hb hx
        slot := fun b o z n hb hx => by
          have hba : b ≠ a := fun y => nst (by rw [← y]; exact hb)
          exact un.slot b o z (by rw [upd_ne hba]; exact n) hb hx
        free := fun b o z n hx => by
          by_cases hba : b = a
          · rw [hba, delH_same]
          · rw [delH_ne hba]
            exact un.free b o z (by rw [upd_ne hba]; exact n) hx
        there := fun b o z hx => un.there b o z hx
        tups := fun b xs z => by
          have hba : b ≠ a := ne_of_none z pf
          rw [delH_ne hba]
          exact un.tups b xs (by rw [upd_ne hba]; exact z)
        frzs := fun b o y z => by
          have hba : b ≠ a := ne_of_none z pf
          rw [delH_ne hba]
          exact un.frzs b o y (by rw [upd_ne hba]; exact z)
        tbls := fun b qs z => by
          have hba : b ≠ a := ne_of_none z pf
          rw [delH_ne hba]
          exact un.tbls b qs (by rw [upd_ne hba]; exact z) }
      have hok3 : HOk X.prog X.w (delH H2 a) s'.heap := fun b o z => by
        have hba : b ≠ a := fun y => by
          rw [y, delH_same] at z
          cases z
        rw [delH_ne hba] at z
        refine (hok2 b o z).stay (fun _ _ _ y => y) (fun c y => ?_) fun c xs y => ?_
        · rw [delH_ne (fun w => by rw [w, ea] at y; exact exq_own (Option.some.inj y))]
          exact y
        · rw [delH_ne (fun w => by
            rw [w, ea] at y
            have y2 : HO.ext _ = HO.tup xs := Option.some.inj y
            cases y2)]
          exact y
      exact ⟨v, delH H2 a, I1.call' (ch := []) os2 U hok3 bare2 (fun b z => absurd z (by simp)), rv, q⟩
end
end XR
set_option Elab.async false
set_option linter.all false
set_option maxRecDepth 100000
set_option maxHeartbeats 4000000
namespace PySem
theorem meets_enum1 {v : Value} {o : Obj} {H : Heap → Prop} (B : Begins v o H) :
    Meets (Builtin.«enumerate.__new__» ⟨[.type "enumerate", v], []⟩) (fun _ R s => H s.heap ∧
      R (.ok (.ret (.ref (s.heap.push o).objs.size)))
        { s with heap := (s.heap.push o).push { cls := .type "enumerate", data := .fields #[.none, .bool false, .ref s.heap.objs.size, rawInt 0, .none, .none] } }) :=
  .of_wp fun prog w A R s h => by
    obtain ⟨hp, g, d, tk, os⟩ := s
    obtain ⟨h1, h⟩ := h
    have sb := sub_enumerate
    have q1 : ∀ {A' : Around} {E : Value → Shared → Prop} {Q : Value → Shared → Prop}, Q (.ref hp.objs.size) ⟨hp.push o, g, d, tk, os⟩ → wpAny (model prog w) A' (pyIter v) Q E ⟨hp, g, d, tk, os⟩ :=
      fun q => B.iter prog w _ _ ⟨hp, g, d, tk, os⟩ _ h1 q
    wp_walk using q1
    refine wpAny_stack_any fun st => wpAny_pure ?_
    split
    · rename_i c _ _ _ _ _
      cases (c == Value.type "enumerate") <;> (wp_walk using q1) <;> exact ⟨_, rfl, h⟩
    · wp_walk using q1
      exact ⟨_, rfl, h⟩
section
variable {prog : Program} {w : World} {A : Around} {E : Value → Shared → Prop} {s : Shared}
/-- enumerate(v): its two new cells -/
theorem enum_begins1 {v : Value} {o : Obj} {H : Heap → Prop} {Q : Value → Shared → Prop} (B : Begins v o H) (h1 : H s.heap)
    (h : ∀ h', IsEnum h' (s.heap.objs.size + 1) s.heap.objs.size 0 .none → h'.get? s.heap.objs.size = some o → h'.objs.size = s.heap.objs.size + 2 →
      (∀ b o, s.heap.get? b = some o → h'.get? b = some o) → Q (.ref (s.heap.objs.size + 1)) { s with heap := h' }) :
    wpAny (model prog w) A (call (.type "enumerate") [v]) Q E s := by
  refine callType_new F.called_enumerate (by decide) (F.typeCall_enumerate_1 _) (F.newCall_enumerate_1 _) (fun obj => F.args_object_init_2 obj _) F.entry_enumerate_new
    (meets_enum1 B) ⟨h1, ?_⟩
  have hz : (s.heap.push o).objs.size = s.heap.objs.size + 1 := Heap.size_push ..
  show _ ∧ _
  rw [hz]
  have he : IsEnum ((s.heap.push o).push { cls := .type "enumerate", data := .fields #[.none, .bool false, .ref s.heap.objs.size, rawInt 0, .none, .none] }) (s.heap.objs.size + 1) s.heap.objs.size 0 .none := by
    have z := Heap.get?_push_size (s.heap.push o) (o := { cls := .type "enumerate", data := .fields #[.none, .bool false, .ref s.heap.objs.size, rawInt 0, .none, .none] }) rfl
    rw [hz] at z
    exact z
  refine ⟨⟨_, he, rfl⟩, h _ he (Heap.get?_push_of_some _ (Heap.get?_push_size _ B.free)) ?_ fun b o x => Heap.get?_push_of_some _ (Heap.get?_push_of_some _ x)⟩
  rw [Heap.size_push, hz]
end
end PySem
namespace XR
open PySem PySem.Spec PyProof.Rows L2
/-- a tuple's items with their places -/
def IteT (K : PySem.W.Frag) (a : Addr) : It :=
  ⟨fun i H => ∃ (xs : List V) (x : V), SqT K H a xs ∧ xs[i]? = some x,
   fun i H v H' => ∃ T x, v = .ref T ∧ H T = none ∧ H' = upd H T (.tup [.int (i : Nat), x]) ∧ ∀ xs, SqT K H a xs → xs[i]? = some x,
   fun i H => ∃ xs : List V, SqT K H a xs ∧ xs.length = i⟩
theorem turn_enumT {P : Program} {w : World} {K : PySem.W.Frag} {elts : List Expr} {kk : Nat} {tpos : Pos} (a e it : Addr) :
    Turn P w K (.Tuple elts kk tpos) (IteT K a) [e, it] e (fun i h => (∃ old, IsEnum h e it ((i : Nat) : Int) old) ∧ h.IsTupleIter it a i ∧ e ≠ it) where
  mem := by simp
  obj := fun i h st b hb => by
    obtain ⟨⟨old, he⟩, ⟨o, ho, hc, hd⟩, _⟩ := st
    have e' : b = e ∨ b = it := by simpa using hb
    rcases e' with z | z
    · rw [z]
      exact ⟨_, he, fun v q => nomatch q⟩
    · rw [z]
      exact ⟨o, ho, fun v q => by rw [hd] at q; cases q⟩
  keep := fun i h h' st k => by
    obtain ⟨⟨old, he⟩, hi, hne⟩ := st
    exact ⟨⟨old, k e (by simp) _ he⟩, hi.at fun o q => k it (by simp) o q, hne⟩
  item := by
    intro X hP hw hK hc i pins s σ H E I hf st hg
    subst hP hw hK
    obtain ⟨⟨old, he⟩, hit, hne⟩ := st
    obtain ⟨xs, x, hq, hx⟩ := hg
    obtain ⟨its, rv, p, hz⟩ := I.tuple hq
    obtain ⟨u, hu, ru⟩ := rv.get hx
    have p2 : s.heap.IsTuple a its.toArray := p
    have hel : e < s.heap.objs.size := Heap.lt_size he
    have hil : it < s.heap.objs.size := by
      obtain ⟨_, q, _⟩ := hit
      exact Heap.lt_size q
    have nai : a ≠ it := fun z => by
      obtain ⟨o1, e1, c1, _⟩ := hit
      obtain ⟨o2, e2, c2, _⟩ := p2
      rw [z, e1] at e2
      cases e2
      rw [c1] at c2
      exact absurd c2 (by decide)
    have nea : e ∉ [it, a] := fun z => by
      have z' : e = it ∨ e = a := by simpa using z
      rcases z' with z' | z'
      · exact hne z'
      · obtain ⟨o2, e2, c2, _⟩ := p2
        have he2 : s.heap.get? e = some _ := he
        rw [z', e2] at he2
        cases he2
        have c3 : Value.type "enumerate" = Value.type "tuple" := c2
        exact absurd c3 (by decide)
    have lt : i < its.toArray.size := by
      have q := (List.getElem?_eq_some_iff.mp hu).1
      simpa using q
    refine wpAny_pyNext_enum_itemD (Draws.tuple (A := X.A.in1) (I.ok.hd hc) it a nai its.toArray) he ⟨hit, p2⟩ lt hne nea fun y h' tk hy ho hst' hT hsz hk => ?_
    have ey : y = u := by
      have hy2 : its.toArray[i]? = some y := hy
      have hu2 : its.toArray[i]? = some u := by simpa using hu
      rw [hu2] at hy2
      exact (Option.some.inj hy2).symm
    subst ey
    refine ⟨_, rfl, wpAny_letOwnedTupleGo_enum (s := { s with heap := h', toks := tk + 1 }) ho fun h'' he' sb => ?_⟩
    have hT2 : h''.get? s.heap.objs.size = some { cls := .type "tuple", data := .seq #[.int i tk, y] } := (sb.2 _ (Nat.ne_of_gt hel)).trans hT
    have new : ObjOk X.prog X.w (upd H s.heap.objs.size (.tup [.int (i : Nat), x])) h'' s.heap.objs.size (.tup [.int (i : Nat), x]) :=
      ⟨by show 2 ≤ sizeLine; decide, [.int i tk, y], .cons ⟨_, rfl⟩ (.cons ru .nil), ⟨_, hT2, rfl, _, rfl⟩⟩
    have I1 : Inv X pins σ (upd H s.heap.objs.size (.tup [.int (i : Nat), x])) { s with heap := h'', toks := tk + 1 } :=
      I.turnedNew (ch := [e, it]) (fun b ob hb q => (sb.2 b (fun z => hb (by simp [z]))).trans (hk b ob (fun z => hb (by simp [z])) (fun z => hb (by simp [z])) q)) hf (Nat.le_refl _) new
    refine ⟨.ref s.heap.objs.size, _, I1, rfl, ⟨_, x, rfl, I.hok.fresh (Nat.le_refl _), rfl, fun ys hy => by rw [I.tuple_inj hy hq]; exact hx⟩, ⟨⟨y, ?_⟩, hst'.1.at fun o q => (sb.2 it (Ne.symm hne)).trans q, hne⟩, fun b hb => ?_⟩
    · have e1 : ((i + 1 : Nat) : Int) = (i : Int) + 1 := by omega
      rw [e1]
      exact he'
    · have hb' : b < s.heap.objs.size := by
        have e' : b = e ∨ b = it := by simpa using hb
        rcases e' with z | z
        · rw [z]
          exact hel
        · rw [z]
          exact hil
      rw [upd_ne (Nat.ne_of_lt hb')]
      exact (hf b hb).1
  done := by
    intro X hP hw hK hc i pins s σ H E I hf st hg
    subst hP hw hK
    obtain ⟨⟨old, he⟩, hit, hne⟩ := st
    obtain ⟨xs, hq, hx⟩ := hg
    obtain ⟨its, rv, p, hz⟩ := I.tuple hq
    have p2 : s.heap.IsTuple a its.toArray := p
    obtain ⟨f0, f1, f2, f3, f4, f5⟩ := hf it (by simp)
    have hl := rv.length
    have nai : a ≠ it := fun z => by
      obtain ⟨o1, e1, c1, _⟩ := hit
      obtain ⟨o2, e2, c2, _⟩ := p2
      rw [z, e1] at e2
      cases e2
      rw [c1] at c2
      exact absurd c2 (by decide)
    have sz : its.toArray.size = i := by
      rw [← hx, hl]
      simp
    refine wpAny_pyNext_enum_endD (Draws.tuple (A := X.A.in1) (I.ok.hd hc) it a nai its.toArray) he ⟨?_, p2⟩ fun h' eb => ⟨rfl, I.turned (t' := s.toks) (fun b o hb q => eb b o hb q) f0 f1 f3 f4 f5⟩
    rw [sz]
    exact hit
  self := fun A i s Q E st h => by
    obtain ⟨⟨_, he⟩, _⟩ := st
    exact wpAny_pyIter_enum he h
/-- enumerate(x), x a list or a tuple -/
def iEnumX (K : PySem.W.Frag) (ta : TA) : TI := fun σ H R => ta σ H fun vs H1 => ∃ a xs, vs = [.ref a] ∧ ((SqL K H1 a xs ∧ R (Ite K a) H1) ∨ (SqT K H1 a xs ∧ R (IteT K a) H1))
theorem pi_enumX {X : Cx} {e : Expr} {ta : TA} {p pos tpos : Pos} {elts : List Expr} {kk : Nat} (hg : Gl X "enumerate") (hm : X.mg "enumerate" = none) (ha : PA X [e] ta) (hs : starEach [e] X.env = [(false, eval e X.env)] := by rfl) :
    PI X (.Tuple elts kk tpos) (.Call (.Name "enumerate" p) [e] [] pos) (iEnumX X.K ta) := by
  refine ⟨fun pins s σ H R I h => ?_⟩
  refine Call_ (ld_blt I hg hm boot_enumerate (PyProof.Rows.callWith_type1 (thn (ha.run pos pins s σ H _ I h) fun us s1 ⟨vs, H1, I1, r1, a, xs, ex, hq⟩ => ?_) hs rfl))
  subst ex
  cases r1 with
  | cons r rr =>
    cases rr
    cases r
    have fin : ∀ b ∈ [s1.heap.objs.size + 1, s1.heap.objs.size], s1.heap.objs.size ≤ b := fun b hb => by
      have e' : b = s1.heap.objs.size + 1 ∨ b = s1.heap.objs.size := by simpa using hb
      rcases e' with z | z
      · rw [z]
        exact Nat.le_add_right _ _
      · rw [z]
        exact Nat.le_refl _
    rcases hq with ⟨hq, q⟩ | ⟨hq, q⟩
    · obtain ⟨its, rv, p', hz⟩ := I1.list hq
      refine enum_begins1 (begins_list a its.toArray) p'.isList fun h' he hit hsz hk => wpAny_pyIter_enum he ?_
      have I2 : Inv X pins σ H1 { s1 with heap := h' } := I1.kept (t' := s1.toks) hk
      exact ⟨s1.heap.objs.size + 1, [s1.heap.objs.size + 1, s1.heap.objs.size], _, _, H1, rfl, I2, turn_enum a (s1.heap.objs.size + 1) s1.heap.objs.size,
        ⟨⟨.none, he⟩, ⟨_, hit, rfl, rfl⟩, Nat.succ_ne_self _⟩, fun b hb => I1.fpOk (fin b hb) (I1.hok.fresh (fin b hb)), q⟩
    · obtain ⟨its, rv, p', hz⟩ := I1.tuple hq
      have p2 : s1.heap.IsTuple a its.toArray := p'
      refine enum_begins1 (begins_tuple a its.toArray) p2 fun h' he hit hsz hk => wpAny_pyIter_enum he ?_
      have I2 : Inv X pins σ H1 { s1 with heap := h' } := I1.kept (t' := s1.toks) hk
      exact ⟨s1.heap.objs.size + 1, [s1.heap.objs.size + 1, s1.heap.objs.size], _, _, H1, rfl, I2, turn_enumT a (s1.heap.objs.size + 1) s1.heap.objs.size,
        ⟨⟨.none, he⟩, ⟨_, hit, rfl, rfl⟩, Nat.succ_ne_self _⟩, fun b hb => I1.fpOk (fin b hb) (I1.hok.fresh (fin b hb)), q⟩
theorem walk_enumT {K : PySem.W.Frag} {a : Addr} {xs : List V} : Walk (IteT K a) xs.length (fun H => SqT K H a xs) (YPair (fun i => some (.int (i : Nat))) (fun i => xs[i]?)) :=
  ⟨fun i H hi h => ⟨xs, xs[i], h, by simp [hi]⟩, fun H h => ⟨xs, h, rfl⟩, fun i H x H' hi h ⟨T, y, e1, e2, e3, e4⟩ => ⟨T, _, y, e1, e2, e3, rfl, e4 xs h⟩⟩
end XR
set_option Elab.async false
set_option linter.all false
set_option maxRecDepth 100000
set_option maxHeartbeats 0
namespace DL
end DL
namespace T01
open PySem PySem.Spec PyProof.Rows L2 XR DL
open PySem.XK (ExF)
open PySem.W (excInitIn excOver findIn hasDictIn typeIn keepIn subIn mroIn specialIn takesIn kitOne exmOne)
def top (i : Nat) : Stmt := PySem.Challenge.pw_twicestep_k01_numbers_of_any_values.main.body.getD i (.Pass ⟨0, 0, 0, 0⟩)
abbrev s_is_fraction : Stmt := top 14
abbrev s_go_together : Stmt := top 15
abbrev s_common_root : Stmt := top 16
abbrev s_lowest : Stmt := top 13
abbrev sDeck : Stmt := top 29
abbrev sDraw : Stmt := top 30
abbrev s_product_of : Stmt := top 17
abbrev s_are_whole : Stmt := top 8
abbrev s_square_split : Stmt := top 9
abbrev s_is_square_free : Stmt := top 10
abbrev s_has_form : Stmt := top 22
abbrev s_are_together : Stmt := top 21
abbrev s_is_number : Stmt := top 20
abbrev s_check_number : Stmt := top 26
abbrev s_check_pair_0 : Stmt := top 25
abbrev s_times : Stmt := top 24
abbrev s__law_common : Stmt := top 34
abbrev s__law_made : Stmt := top 41
abbrev s__law_great : Stmt := top 31
abbrev s__law_pick : Stmt := top 32
abbrev s__law_is_integer : Stmt := top 35
abbrev s__law_is_lean : Stmt := top 36
abbrev s__law_any : Stmt := top 37
abbrev s__law_instead : Stmt := top 38
abbrev s__law_bent : Stmt := top 39
abbrev s__law_is_number : Stmt := top 43
abbrev s__law_near : Stmt := top 33
abbrev s__law_parted : Stmt := top 40
abbrev s_number_of : Stmt := top 23
abbrev s_root_of : Stmt := top 27
abbrev s__law_fraction : Stmt := top 42
abbrev s__law_asked : Stmt := top 44
abbrev s__law_due : Stmt := top 45
abbrev s__law_wide : Stmt := top 46
abbrev s__law_for_root : Stmt := top 48
abbrev s__law_are_squares_right : Stmt := top 47
abbrev s_law : Stmt := top 49
/-! ### the head: facts by names -/
def hA (K : PySem.W.Frag) (x : Str) : Addr := He.ga K x
def hI (K : PySem.W.Frag) (x : Str) : Addr := He.ma K (He.ga K x) "__init__"
/-- one class of errors, but for its __init__ -/
def hexB (K : PySem.W.Frag) (C fI : Addr) : Bool :=
  (excInitIn K C PySem.XK.bmE "Exception.__new__" && (excOver K C PySem.XK.bmE && (He.eqO (findIn K (.ref C) "__setattr__") (some (some (.builtin "object.__setattr__"))) &&
    (He.eqO (findIn K (.ref C) "__getattribute__") (some (some (.builtin "BaseException.__getattribute__"))) && (He.eqO (findIn K (.ref C) "__getattr__") (some none) &&
    (He.eqO (findIn K (.ref C) "thing") (some none) && (hasDictIn K C && (He.eqO (findIn K (.ref C) "__init__") (some (some (.ref fI))) && decide (typeIn K (.ref fI) = some (.type "function")))))))))) &&
  (keepIn K (.ref C) && (decide (subIn K (.ref C) (.type "BaseException") = some true) && (decide (typeIn K (.ref C) = some (.type "type")) && (He.eqO (findIn K (.ref C) "__class__") (some (some (.builtin "object.__class__"))) &&
    (decide (mroIn K C (.type "object") = some true) && (He.eqO (specialIn K (.builtin "object.__class__") "__get__") (some (some (.builtin "getset_descriptor.__get__"))) && decide (takesIn K (.builtin "object.__class__") = some true)))))))
def errN : List Str := (["BadNumber", "OtherRoot"] : List Str)
def rowB (K : PySem.W.Frag) (x : Str) : Bool := hexB K (hA K x) (hI K x) && (decide (kitOne K (.ref (hA K x)) (.ref (hA K "StepError")) = some true) &&
  (errN.all fun y => decide (kitOne K (.ref (hA K x)) (.ref (hA K y)) = some (decide (x = y))) && decide (exmOne K (.ref (hA K x)) (.ref (hA K y)) = some (decide (x = y)))))
def exB (K : PySem.W.Frag) : Bool := ((errN.all fun x => rowB K x) && (He.eqO (PySem.W.nsIn K mainGlobals "gcd") (some (some (.builtin "math.gcd"))) && (He.eqO (PySem.W.nsIn K mainGlobals "isqrt") (some (some (.builtin "math.isqrt"))) && He.tupB K "ZERO" [.int 0, .int 0, .int 1, .int 1])))
abbrev s_is_whole : Stmt := top 7
abbrev s_check_pair : Stmt := top 25
abbrev ini_BadNumber : Stmt := inClass (top 3) 0
abbrev ini_OtherRoot : Stmt := inClass (top 4) 0
def dI (x q : Str) (st : Stmt) : He.DefD := ⟨(x, some "__init__"), "__init__", q, defArgs st, defBody st, defScope st, [], []⟩
def dD (g x : Str) (st : Stmt) : He.DefD := ⟨(g, none), x, x, defArgs st, defBody st, defScope st, [], []⟩
def fn : List He.DefD := ([dI "BadNumber" "BadNumber.__init__" ini_BadNumber, dI "OtherRoot" "OtherRoot.__init__" ini_OtherRoot, dD "is_whole" "is_whole" s_is_whole, dD "are_whole" "are_whole" s_are_whole, dD "square_split" "square_split" s_square_split, dD "is_square_free" "is_square_free" s_is_square_free, dD "lowest" "lowest" s_lowest, dD "is_fraction" "is_fraction" s_is_fraction, dD "go_together" "go_together" s_go_together, dD "common_root" "common_root" s_common_root, dD "product_of" "product_of" s_product_of, dD "is_number" "is_number" s_is_number, dD "are_together" "are_together" s_are_together, dD "has_form" "has_form" s_has_form, dD "number_of" "number_of" s_number_of, dD "times" "times" s_times, dD "check_pair" "check_pair" s_check_pair, dD "check_number" "check_number" s_check_number, dD "root_of" "root_of" s_root_of, dD "_law_deck" "_law_deck" sDeck, dD "_law_draw" "_law_draw" sDraw, dD "_law_great" "_law_great" s__law_great, dD "_law_pick" "_law_pick" s__law_pick, dD "_law_near" "_law_near" s__law_near, dD "_law_common" "_law_common" s__law_common, dD "_law_is_integer" "_law_is_integer" s__law_is_integer, dD "_law_is_lean" "_law_is_lean" s__law_is_lean, dD "_law_any" "_law_any" s__law_any, dD "_law_instead" "_law_instead" s__law_instead, dD "_law_bent" "_law_bent" s__law_bent] : List He.DefD) ++ ([dD "_law_parted" "_law_parted" s__law_parted, dD "_law_made" "_law_made" s__law_made, dD "_law_fraction" "_law_fraction" s__law_fraction, dD "_law_is_number" "_law_is_number" s__law_is_number, dD "_law_asked" "_law_asked" s__law_asked, dD "_law_due" "_law_due" s__law_due, dD "_law_wide" "_law_wide" s__law_wide, dD "_law_are_squares_right" "_law_are_squares_right" s__law_are_squares_right, dD "_law_for_root" "_law_for_root" s__law_for_root, dD "law" "law" s_law] : List He.DefD)
def looseN : List Str := (["StepError", "BadNumber", "OtherRoot", "is_whole", "are_whole", "square_split", "is_square_free", "lowest", "is_fraction", "go_together", "common_root", "product_of", "is_number", "are_together", "has_form", "number_of", "times", "check_pair", "check_number", "root_of", "_law_deck", "_law_draw", "_law_great", "_law_pick", "_law_near", "_law_common", "_law_is_integer", "_law_is_lean", "_law_any", "_law_instead"] : List Str) ++ (["_law_bent", "_law_parted", "_law_made", "_law_fraction", "_law_is_number", "_law_asked", "_law_due", "_law_wide", "_law_are_squares_right", "_law_for_root", "LAST_TRIED", "ZERO", "LARGEST_ROOT"] : List Str)
def gloN : List Str := (["StepError", "BadNumber", "OtherRoot", "is_whole", "are_whole", "square_split", "is_square_free", "lowest", "is_fraction", "go_together", "common_root", "product_of", "is_number", "are_together", "has_form", "number_of", "times", "check_pair", "check_number", "root_of", "_law_deck", "_law_draw", "_law_great", "_law_pick", "_law_near", "_law_common", "_law_is_integer", "_law_is_lean", "_law_any", "_law_instead"] : List Str) ++ (["_law_bent", "_law_parted", "_law_made", "_law_fraction", "_law_is_number", "_law_asked", "_law_due", "_law_wide", "_law_are_squares_right", "_law_for_root", "law", "ZERO"] : List Str)
def freeN : List Str := (["Exception", "abs", "all", "bool", "int", "isinstance", "len", "list", "max", "range", "repr", "str", "tuple"] : List Str)
def fa : List He.Fa := (gloN.map He.Fa.glo ++ freeN.map He.Fa.free) ++ [He.Fa.int "LAST_TRIED" 100000, He.Fa.int "LARGEST_ROOT" 1000000000000]
def tf : List He.Defn := [("are_whole", none)]
abbrev R : PySem.W.OpenRow := PySem.W.OpenLaw.row PySem.Challenge.rw_twicestep_k01_numbers_of_any_values
abbrev qv : Program := PySem.W.view R.prog [0, 49]
abbrev hk : PySem.W.Hook := He.hookX 5 fa fn [] tf exB
def ob (s : PySem.W.SharedT) : He.AlX := He.obsX 5 fa fn [] tf exB (HandSHeadRun.getT s)
theorem ob_eq (s : PySem.W.SharedT) : ob s = hk.obs s.abs := He.obsX_eq (HandSHeadRun.getT_eq s)
theorem run (w : World) : HandSHeadRun.RunEqI R qv hk ob 6000 looseN w := by
  unfold HandSHeadRun.RunEqI
  kernel_rfl
end T01
set_option Elab.async false
set_option linter.all false
set_option maxRecDepth 100000
set_option maxHeartbeats 2000000
/-! the law's deck: a dict with a list of ints and two ints -/
namespace DL
open PySem PySem.Spec PyProof.Rows L2 XR
def kL : Key := Sum.inr ("left" : Str)
def kM : Key := Sum.inr ("mixed" : Str)
def kD : Key := Sum.inr ("draws" : Str)
def deckL (l : Addr) (m n : Int) : List (Key × V) := [(kL, .ref l), (kM, .int m), (kD, .int n)]
def DeckAt (H : Hp) (d l : Addr) : Prop := ∃ (m n : Int) (ns : List Int), H d = some (.dK (deckL l m n)) ∧ H l = some (.lst (ns.map V.int)) ∧ ns.length ≤ 63 ∧ 0 ≤ m ∧ m < 2147483648
/-- all but the deck is as it was -/
def Dk (d l : Addr) (H H' : Hp) : Prop := ∀ b o, H b = some o → b ≠ d → b ≠ l → H' b = some o
theorem Dk.refl (d l : Addr) (H : Hp) : Dk d l H H := fun _ _ h _ _ => h
theorem Dk.trans {d l : Addr} {H H1 H2 : Hp} (a : Dk d l H H1) (b : Dk d l H1 H2) : Dk d l H H2 := fun c o h h1 h2 => b c o (a c o h h1 h2) h1 h2
theorem Dk.of_same {d l : Addr} {H H' : Hp} (a : Same H H') : Dk d l H H' := fun c o h _ _ => a c o h
theorem same_new {H : Hp} {p : Addr} {o : HO} (h : H p = none) : Same H (upd H p o) := fun b u e => by
  rw [upd_ne (ne_of_none e h)]
  exact e
end DL
set_option Elab.async false
set_option linter.all false
set_option maxRecDepth 100000
set_option maxHeartbeats 4000000
/-! the data layer: what expressions do to data, the heap left out -/
namespace DL
open PySem PySem.Spec PyProof.Rows L2 XR
open PySem.XK (ExF)
inductive U where
  | non | bl (b : Bool) | int (i : Int) | str (x : Str) | tup (us : List U) | lst (us : List U) | raw (v : V) | dct (ks : List Key) (us : List U) | dpt (ks : List (List Key)) (us : List U)
abbrev Env := List (Option U)
/-- the deck and its list, where there is one; lists that are being made -/
structure Mo where
  deck : Option (Addr × Addr)
  ban : List Addr
  tabs : List Addr
def okD : Option (Addr × Addr) → Addr → Prop
  | none, _ => True
  | some p, a => a ≠ p.1 ∧ a ≠ p.2
def invD : Option (Addr × Addr) → Hp → Prop
  | none, _ => True
  | some p, H => DeckAt H p.1 p.2
def okS (m : Mo) (a : Addr) : Prop := okD m.deck a ∧ a ∉ m.tabs
def okA (m : Mo) (a : Addr) : Prop := okS m a ∧ a ∉ m.ban
/-- the deck stands, the lists in the making, the tables of code objects (they grow) -/
def invM (m : Mo) (H : Hp) : Prop := invD m.deck H ∧ (∀ b ∈ m.ban, H b ≠ none) ∧ ∀ b ∈ m.tabs, GxR.TabG H b
def stpM (m : Mo) (H H' : Hp) : Prop := ∀ b o, H b = some o → okS m b → H' b = some o
/-- a tuple that is tracked, or one of the module's -/
def TupR (K : PySem.W.Frag) (m : Mo) (H : Hp) (a : Addr) (vs : List V) : Prop := (okA m a ∧ Rd H a (.tup vs)) ∨
  ∃ (o : Obj) (its : Array Value) (n : Nat), K.lookup a = some o ∧ o.cls = .type "tuple" ∧ o.data = .seq its n ∧ its.size ≤ sizeLine ∧ Vals vs its.toList
mutual
inductive Rel (K : PySem.W.Frag) (m : Mo) (H : Hp) : V → U → Prop
  | non : Rel K m H .non .non
  | bl (b : Bool) : Rel K m H (.bl b) (.bl b)
  | int (i : Int) : Rel K m H (.int i) (.int i)
  | str (x : Str) : Rel K m H (.str x) (.str x)
  | tup {a : Addr} {vs : List V} {us : List U} : TupR K m H a vs → RelL K m H vs us → Rel K m H (.ref a) (.tup us)
  | lst {a : Addr} {vs : List V} {us : List U} : okA m a → H a = some (.lst vs) → RelL K m H vs us → Rel K m H (.ref a) (.lst us)
  | raw (v : V) : Rel K m H v (.raw v)
  | dct {a : Addr} {vs : List V} {us : List U} {ks : List Key} : okA m a → H a = some (.dK (ks.zip vs)) → vs.length = ks.length → RelL K m H vs us → Rel K m H (.ref a) (.dct ks us)
  | dpt {a : Addr} {vs : List V} {us : List U} {ks : List (List Key)} : okA m a → H a = some (.dT (ks.zip vs)) → vs.length = ks.length → RelL K m H vs us → Rel K m H (.ref a) (.dpt ks us)
inductive RelL (K : PySem.W.Frag) (m : Mo) (H : Hp) : List V → List U → Prop
  | nil : RelL K m H [] []
  | cons {v : V} {u : U} {vs : List V} {us : List U} : Rel K m H v u → RelL K m H vs us → RelL K m H (v :: vs) (u :: us)
end
section
variable {K : PySem.W.Frag} {m : Mo} {H H' H1 H2 : Hp}
theorem stp_refl : stpM m H H := fun _ _ h _ => h
theorem stp_trans (a : stpM m H H1) (b : stpM m H1 H2) : stpM m H H2 := fun c o h k => b c o (a c o h k) k
theorem stp_same (a : Same H H') : stpM m H H' := fun c o h _ => a c o h
theorem stp_new {p : Addr} {o : HO} (h : H p = none) : stpM m H (upd H p o) := stp_same (same_new h)
theorem invD_new {dk : Option (Addr × Addr)} {p : Addr} {o : HO} (i1 : invD dk H) (h : okD dk p) : invD dk (upd H p o) := by
  cases dk with
  | none => trivial
  | some d =>
    obtain ⟨a, b, ns, h1, h2, z⟩ := i1
    exact ⟨a, b, ns, by rw [upd_ne (Ne.symm h.1)]; exact h1, by rw [upd_ne (Ne.symm h.2)]; exact h2, z⟩
theorem okD_new {dk : Option (Addr × Addr)} {p : Addr} (i1 : invD dk H) (h : H p = none) : okD dk p := by
  cases dk with
  | none => trivial
  | some d =>
    obtain ⟨a, b, ns, h1, h2, z⟩ := i1
    exact ⟨(ne_of_none h1 h).symm, (ne_of_none h2 h).symm⟩
theorem tab_ne {p b : Addr} (t : GxR.TabG H b) (h : H p = none) : b ≠ p := by
  obtain ⟨ps, e, _⟩ := t
  exact ne_of_none e h
theorem tab_upd {p b : Addr} {o : HO} (t : GxR.TabG H b) (h : b ≠ p) : GxR.TabG (upd H p o) b := by
  obtain ⟨ps, e, z⟩ := t
  exact ⟨ps, by rw [upd_ne h]; exact e, z⟩
theorem ok_new {p : Addr} (i : invM m H) (h : H p = none) : okA m p := ⟨⟨okD_new i.1 h, fun z => tab_ne (i.2.2 p z) h rfl⟩, fun hb => i.2.1 p hb h⟩
/-- a write at a place that is neither the deck's nor a table -/
theorem inv_upd {p : Addr} {o : HO} (i : invM m H) (k : okS m p) : invM m (upd H p o) := by
  refine ⟨invD_new i.1 k.1, fun b hb => ?_, fun b hb => tab_upd (i.2.2 b hb) fun z => k.2 (z ▸ hb)⟩
  by_cases e : b = p
  · subst e
    rw [upd_same]
    exact fun z => nomatch z
  · rw [upd_ne e]
    exact i.2.1 b hb
theorem inv_new {p : Addr} {o : HO} (i : invM m H) (h : H p = none) : invM m (upd H p o) := inv_upd i (ok_new i h).1
theorem TupR.sq {a : Addr} {vs : List V} (t : TupR K m H a vs) : SqT K H a vs := by
  rcases t with ⟨_, h⟩ | h
  · exact .inl h
  · exact .inr h
theorem TupR.step {a : Addr} {xs : List V} (s : stpM m H H') (t : TupR K m H a xs) : TupR K m H' a xs := by
  rcases t with ⟨k, h | ⟨o, h⟩⟩ | h
  · exact .inl ⟨k, .inl (s _ _ h k.1)⟩
  · exact .inl ⟨k, .inr ⟨o, s _ _ h k.1⟩⟩
  · exact .inr h
mutual
theorem Rel.step (s : stpM m H H') : ∀ {v : V} {u : U}, Rel K m H v u → Rel K m H' v u
  | _, _, .non => .non
  | _, _, .bl b => .bl b
  | _, _, .int i => .int i
  | _, _, .str x => .str x
  | _, _, .tup h r => .tup (TupR.step s h) (RelL.step s r)
  | _, _, .lst k h r => .lst k (s _ _ h k.1) (RelL.step s r)
  | _, _, .dct k h l r => .dct k (s _ _ h k.1) l (RelL.step s r)
  | _, _, .dpt k h l r => .dpt k (s _ _ h k.1) l (RelL.step s r)
  | _, _, .raw v => .raw v
theorem RelL.step (s : stpM m H H') : ∀ {vs : List V} {us : List U}, RelL K m H vs us → RelL K m H' vs us
  | _, _, .nil => .nil
  | _, _, .cons h r => .cons (Rel.step s h) (RelL.step s r)
end
theorem RelL.len : ∀ {vs : List V} {us : List U}, RelL K m H vs us → vs.length = us.length
  | _, _, .nil => rfl
  | _, _, .cons _ r => congrArg (· + 1) (RelL.len r)
theorem RelL.get : ∀ {vs : List V} {us : List U} {i : Nat} {u : U}, RelL K m H vs us → us[i]? = some u → ∃ v, vs[i]? = some v ∧ Rel K m H v u
  | _, _, i, _, .nil, e => by simp at e
  | _, _, 0, _, .cons h _, e => by
    simp at e
    exact ⟨_, rfl, e ▸ h⟩
  | _, _, i + 1, u, .cons _ r, e => by
    obtain ⟨v, h1, h2⟩ := RelL.get (i := i) (u := u) r (by simpa using e)
    exact ⟨v, by simpa using h1, h2⟩
theorem RelL.getV : ∀ {vs : List V} {us : List U} {i : Nat} {v : V}, RelL K m H vs us → vs[i]? = some v → ∃ u, us[i]? = some u ∧ Rel K m H v u
  | _, _, i, _, .nil, e => by simp at e
  | _, _, 0, _, .cons h _, e => by
    simp at e
    exact ⟨_, rfl, e ▸ h⟩
  | _, _, i + 1, v, .cons _ r, e => by
    obtain ⟨u, h1, h2⟩ := RelL.getV (i := i) (v := v) r (by simpa using e)
    exact ⟨u, by simpa using h1, h2⟩
theorem RelL.append : ∀ {vs ws : List V} {us ts : List U}, RelL K m H vs us → RelL K m H ws ts → RelL K m H (vs ++ ws) (us ++ ts)
  | _, _, _, _, .nil, s => s
  | _, _, _, _, .cons h r, s => .cons h (RelL.append r s)
theorem RelL.take : ∀ {vs : List V} {us : List U} (n : Nat), RelL K m H vs us → RelL K m H (vs.take n) (us.take n)
  | _, _, 0, _ => .nil
  | _, _, _ + 1, .nil => .nil
  | _, _, n + 1, .cons h r => .cons h (RelL.take n r)
theorem RelL.drop : ∀ {vs : List V} {us : List U} (n : Nat), RelL K m H vs us → RelL K m H (vs.drop n) (us.drop n)
  | _, _, 0, r => r
  | _, _, _ + 1, .nil => .nil
  | _, _, n + 1, .cons _ r => RelL.drop n r
theorem RelL.rev : ∀ {vs : List V} {us : List U}, RelL K m H vs us → RelL K m H vs.reverse us.reverse
  | _, _, .nil => .nil
  | _, _, .cons h r => by
    rw [List.reverse_cons, List.reverse_cons]
    exact RelL.append (RelL.rev r) (.cons h .nil)
theorem RelL.ints {m : Mo} {H : Hp} : ∀ ns : List Int, RelL K m H (ns.map V.int) (ns.map U.int)
  | [] => .nil
  | n :: r => .cons (.int n) (RelL.ints r)
/-- the slots -/
def RelS (K : PySem.W.Frag) (m : Mo) (H : Hp) (σ : L2.St) (ρ : Env) : Prop := σ.length = ρ.length ∧ ∀ (i : Nat) (u : U), ρ[i]? = some (some u) → ∃ v, σ[i]? = some (some v) ∧ Rel K m H v u
theorem RelS.step {σ : L2.St} {ρ : Env} (s : stpM m H H') (r : RelS K m H σ ρ) : RelS K m H' σ ρ := ⟨r.1, fun i u e => by
  obtain ⟨v, h1, h2⟩ := r.2 i u e
  exact ⟨v, h1, Rel.step s h2⟩⟩
theorem RelS.set {σ : L2.St} {ρ : Env} {v : V} {u : U} (r : RelS K m H σ ρ) (i : Nat) (h : Rel K m H v u) : RelS K m H (σ.set i (some v)) (ρ.set i (some u)) := ⟨by rw [List.length_set, List.length_set]; exact r.1, fun j w e => by
  by_cases q : i = j
  · subst q
    by_cases l : i < ρ.length
    · rw [List.getElem?_set_self l] at e
      have l2 : i < σ.length := by rw [r.1]; exact l
      have e2 : u = w := Option.some.inj (Option.some.inj e)
      exact ⟨v, List.getElem?_set_self l2, e2 ▸ h⟩
    · have z : (ρ.set i (some u)).length ≤ i := by rw [List.length_set]; omega
      rw [List.getElem?_eq_none_iff.mpr z] at e
      cases e
  · rw [List.getElem?_set_ne q] at e ⊢
    exact r.2 j w e⟩
end
/-! ### judgements -/
/-- a wish about exceptions: the class, the thing -/
abbrev XQ := Addr → U → Prop
abbrev WE := Mo → Env → (U → Prop) → XQ → Prop
abbrev WT := Mo → Env → (Bool → Prop) → XQ → Prop
abbrev WA := Mo → Env → (List U → Prop) → XQ → Prop
def xdO (v : V) : HO := .xd [(("thing" : Str), v)]
def Cont (K : PySem.W.Frag) (m : Mo) (H : Hp) (Q : U → Prop) (Q' : VK) : Prop := ∀ (u : U) (v : V) (H' : Hp), Q u → stpM m H H' → invM m H' → Rel K m H' v u → Q' v H'
def ContT (m : Mo) (H : Hp) (Q : Bool → Prop) (Q' : Bool → Hp → Prop) : Prop := ∀ (b : Bool) (H' : Hp), Q b → stpM m H H' → invM m H' → Q' b H'
def ContA (K : PySem.W.Frag) (m : Mo) (H : Hp) (Q : List U → Prop) (Q' : List V → Hp → Prop) : Prop := ∀ (us : List U) (vs : List V) (H' : Hp), Q us → stpM m H H' → invM m H' → RelL K m H' vs us → Q' vs H'
/-- an exception's way: C its class, d its own dict -/
def ContE (K : PySem.W.Frag) (m : Mo) (H : Hp) (X : XQ) (E : XK) : Prop := ∀ (C : Addr) (u : U) (v : V) (d : Addr) (H' : Hp), X C u → stpM m H H' → invM m H' → Rel K m H' v u → okA m d → H' d = some (xdO v) → E (.ref C) (some d) H'
/-- what an expression stands in -/
structure GE (K : PySem.W.Frag) (m : Mo) (W : WX) (σ : L2.St) (H : Hp) (ρ : Env) (X : XQ) : Prop where
  iv : invM m H
  rs : RelS K m H σ ρ
  cx : ContE K m H X fun c d H' => W c d σ H'
def tE (K : PySem.W.Frag) (W : WX) (w : WE) : TE := fun σ H Q' => ∃ m ρ Q X, GE K m W σ H ρ X ∧ w m ρ Q X ∧ Cont K m H Q Q'
def tT (K : PySem.W.Frag) (W : WX) (w : WT) : TT := fun σ H Q' => ∃ m ρ Q X, GE K m W σ H ρ X ∧ w m ρ Q X ∧ ContT m H Q Q'
def tA (K : PySem.W.Frag) (W : WX) (w : WA) : TA := fun σ H Q' => ∃ m ρ Q X, GE K m W σ H ρ X ∧ w m ρ Q X ∧ ContA K m H Q Q'
abbrev DE (X : Cx) (W : WX) (e : Expr) (w : WE) : Prop := PE X e (tE X.K W w)
abbrev DT (X : Cx) (W : WX) (e : Expr) (w : WT) : Prop := PT X e (tT X.K W w)
abbrev DW (X : Cx) (W : WX) (e : Expr) (w : WT) : Prop := PW X e (tT X.K W w)
abbrev DA (X : Cx) (W : WX) (es : List Expr) (w : WA) : Prop := PA X es (tA X.K W w)
structure DEnds where
  nx : Env → Prop
  rt : U → Prop
  ex : Env → XQ
  bk : Env → Prop := fun _ => False
  ct : Env → Prop := fun _ => False
abbrev WS := Mo → DEnds → Env → Prop
structure ContS (K : PySem.W.Frag) (m : Mo) (W : WX) (H : Hp) (DD : DEnds) (D : Ends) : Prop where
  nx : ∀ ρ σ H', DD.nx ρ → stpM m H H' → invM m H' → RelS K m H' σ ρ → D.nx σ H'
  rt : Cont K m H DD.rt D.rt
  ex : ∀ ρ σ H', stpM m H H' → RelS K m H' σ ρ → ContE K m H' (DD.ex ρ) fun c d H2 => W c d σ H2
  bk : ∀ ρ σ H', DD.bk ρ → stpM m H H' → invM m H' → RelS K m H' σ ρ → D.bk σ H'
  ct : ∀ ρ σ H', DD.ct ρ → stpM m H H' → invM m H' → RelS K m H' σ ρ → D.ct σ H'
def tS (K : PySem.W.Frag) (W : WX) (w : WS) : TS := fun D σ H => ∃ m ρ DD, invM m H ∧ RelS K m H σ ρ ∧ w m DD ρ ∧ ContS K m W H DD D
abbrev DS (X : Cx) (W : WX) (st : Stmt) (w : WS) : Prop := PS X st (tS X.K W w)
abbrev DSs (X : Cx) (W : WX) (st : List Stmt) (w : WS) : Prop := PSs X st (tS X.K W w)
abbrev WG := U → Env → (Env → Prop) → Prop
abbrev WGs := List U → Env → (Env → Prop) → Prop
def tG (K : PySem.W.Frag) (w : WG) : TG := fun v σ H Q' => ∃ m u ρ Q, invM m H ∧ RelS K m H σ ρ ∧ Rel K m H v u ∧ w u ρ Q ∧ ∀ ρ' σ' H', Q ρ' → stpM m H H' → invM m H' → RelS K m H' σ' ρ' → Q' σ' H'
def tGs (K : PySem.W.Frag) (w : WGs) : TGs := fun vs σ H Q' => ∃ m us ρ Q, invM m H ∧ RelS K m H σ ρ ∧ RelL K m H vs us ∧ w us ρ Q ∧ ∀ ρ' σ' H', Q ρ' → stpM m H H' → invM m H' → RelS K m H' σ' ρ' → Q' σ' H'
abbrev DG (X : Cx) (e : Expr) (w : WG) : Prop := PG X e (tG X.K w)
abbrev DGs (X : Cx) (es : List Expr) (w : WGs) : Prop := PGs X es (tGs X.K w)
section
variable {K : PySem.W.Frag} {m : Mo} {H H' : Hp} {X : Cx} {W : WX}
theorem PE.weak {e : Expr} {t t' : TE} (h : PE X e t) (k : ∀ σ H Q, t' σ H Q → t σ H Q) : PE X e t' := ⟨fun pins s σ H Q I q => h.run pins s σ H Q I (k _ _ _ q)⟩
theorem PT.weak {e : Expr} {t t' : TT} (h : PT X e t) (k : ∀ σ H Q, t' σ H Q → t σ H Q) : PT X e t' := ⟨fun pins s σ H Q I q => h.run pins s σ H Q I (k _ _ _ q)⟩
theorem PW.weak {e : Expr} {t t' : TT} (h : PW X e t) (k : ∀ σ H Q, t' σ H Q → t σ H Q) : PW X e t' := ⟨fun wh pins s σ H Q I q => h.run wh pins s σ H Q I (k _ _ _ q)⟩
theorem PA.weak {e : List Expr} {t t' : TA} (h : PA X e t) (k : ∀ σ H Q, t' σ H Q → t σ H Q) : PA X e t' := ⟨fun pos pins s σ H Q I q => h.run pos pins s σ H Q I (k _ _ _ q)⟩
theorem PS.weak {e : Stmt} {t t' : TS} (h : PS X e t) (k : ∀ D σ H, t' D σ H → t D σ H) : PS X e t' := ⟨fun pins s σ H D I q => h.run pins s σ H D I (k _ _ _ q)⟩
theorem PSs.weak {e : List Stmt} {t t' : TS} (h : PSs X e t) (k : ∀ D σ H, t' D σ H → t D σ H) : PSs X e t' := ⟨fun pins s σ H D I q => h.run pins s σ H D I (k _ _ _ q)⟩
theorem PG.weak {e : Expr} {t t' : TG} (h : PG X e t) (k : ∀ v σ H Q, t' v σ H Q → t v σ H Q) : PG X e t' := ⟨fun pins s σ H v u Q I r q => h.run pins s σ H v u Q I r (k _ _ _ _ q)⟩
theorem PGs.weak {e : List Expr} {t t' : TGs} (h : PGs X e t) (k : ∀ v σ H Q, t' v σ H Q → t v σ H Q) : PGs X e t' := ⟨fun pins s σ H v u Q I r q => h.run pins s σ H v u Q I r (k _ _ _ _ q)⟩
theorem Cont.here {Q : U → Prop} {Q' : VK} {u : U} {v : V} (c : Cont K m H Q Q') (i : invM m H) (q : Q u) (r : Rel K m H v u) : Q' v H := c u v H q stp_refl i r
theorem Cont.step {Q : U → Prop} {Q' : VK} (c : Cont K m H Q Q') (s : stpM m H H') : Cont K m H' Q Q' := fun u v H2 q s2 i r => c u v H2 q (stp_trans s s2) i r
theorem ContT.step {Q : Bool → Prop} {Q' : Bool → Hp → Prop} (c : ContT m H Q Q') (s : stpM m H H') : ContT m H' Q Q' := fun u H2 q s2 i => c u H2 q (stp_trans s s2) i
theorem ContA.step {Q : List U → Prop} {Q' : List V → Hp → Prop} (c : ContA K m H Q Q') (s : stpM m H H') : ContA K m H' Q Q' := fun u v H2 q s2 i r => c u v H2 q (stp_trans s s2) i r
theorem ContE.step {Q : XQ} {E : XK} (c : ContE K m H Q E) (s : stpM m H H') : ContE K m H' Q E := fun C u v d H2 q s2 i r k e => c C u v d H2 q (stp_trans s s2) i r k e
theorem ContS.step {DD : DEnds} {D : Ends} (c : ContS K m W H DD D) (s : stpM m H H') : ContS K m W H' DD D :=
  ⟨fun ρ σ H2 q s2 i r => c.nx ρ σ H2 q (stp_trans s s2) i r, c.rt.step s, fun ρ σ H2 s2 r => c.ex ρ σ H2 (stp_trans s s2) r, fun ρ σ H2 q s2 i r => c.bk ρ σ H2 q (stp_trans s s2) i r, fun ρ σ H2 q s2 i r => c.ct ρ σ H2 q (stp_trans s s2) i r⟩
theorem GE.step {σ : L2.St} {ρ : Env} {Z : XQ} (g : GE K m W σ H ρ Z) (s : stpM m H H') (i : invM m H') : GE K m W σ H' ρ Z := ⟨i, RelS.step s g.rs, g.cx.step s⟩
theorem ContS.ge {DD : DEnds} {D : Ends} {σ : L2.St} {ρ : Env} (c : ContS K m W H DD D) (i : invM m H) (r : RelS K m H σ ρ) : GE K m W σ H ρ (DD.ex ρ) := ⟨i, r, c.ex ρ σ H stp_refl r⟩
/-! ### names, constants -/
def dVar (i : Nat) : WE := fun _ ρ Q _ => ∃ u, ρ[i]? = some (some u) ∧ Q u
def dC (u : U) : WE := fun _ _ Q _ => Q u
theorem de_var {i : Nat} {e : Expr} (h : PE X e (tVar i)) : DE X W e (dVar i) := PE.weak h fun σ H Q' ⟨m, ρ, Q, Z, g, ⟨u, e, q⟩, c⟩ => by
  obtain ⟨v, h1, h2⟩ := g.rs.2 i u e
  exact ⟨v, h1, c.here g.iv q h2⟩
theorem de_c {v : V} {u : U} {e : Expr} (h : PE X e (tC v)) (r : ∀ m H, invM m H → Rel X.K m H v u) : DE X W e (dC u) := PE.weak h fun σ H Q' ⟨m, ρ, Q, Z, g, q, c⟩ => c.here g.iv q (r m H g.iv)
theorem de_int {i : Int} {j pos} : DE X W (.Constant (.int i) j pos) (dC (.int i)) := de_c pe_int fun _ _ _ => .int i
theorem de_bl {i : Bool} {j pos} : DE X W (.Constant (.bool i) j pos) (dC (.bl i)) := de_c pe_bl fun _ _ _ => .bl i
theorem de_non {j pos} : DE X W (.Constant .none j pos) (dC .non) := de_c pe_non fun _ _ _ => .non
theorem de_str {i : Str} {j pos} : DE X W (.Constant (.str i) j pos) (dC (.str i)) := de_c pe_str fun _ _ _ => .str i
/-! ### operations -/
abbrev W2 := U → U → (U → Prop) → Prop
abbrev W1 := U → (U → Prop) → Prop
def OpD (K : PySem.W.Frag) (r : R2) (g : W2) : Prop := ∀ (m : Mo) (x y : V) (a b : U) (H : Hp) (Q : U → Prop) (Q' : VK), invM m H → Rel K m H x a → Rel K m H y b → g a b Q → Cont K m H Q Q' → r x y H Q'
def dOp (g : W2) (wa wb : WE) : WE := fun m ρ Q Z => wa m ρ (fun x => wb m ρ (fun y => g x y Q) Z) Z
theorem t_op {r : R2} {g : W2} {wa wb : WE} (hg : OpD K r g) (σ : L2.St) (H : Hp) (Q' : VK) (h : tE K W (dOp g wa wb) σ H Q') : tOp r (tE K W wa) (tE K W wb) σ H Q' := by
  obtain ⟨m, ρ, Q, Z, ge, q, c⟩ := h
  exact ⟨m, ρ, _, Z, ge, q, fun x v H1 q1 s1 i1 r1 => ⟨m, ρ, _, Z, ge.step s1 i1, q1, fun y v2 H2 q2 s2 i2 r2 => hg m v v2 x y H2 Q Q' i2 (Rel.step s2 r1) r2 q2 (c.step (stp_trans s1 s2))⟩⟩
theorem de_op {op : Operator} {r : R2} {g : W2} {a b : Expr} {wa wb : WE} {pos : Pos} (ho : OpR X (binaryOp op) r) (hg : OpD X.K r g) (ha : DE X W a wa) (hb : DE X W b wb) : DE X W (.BinOp a op b pos) (dOp g wa wb) := PE.weak (pe_op ho ha hb) (t_op hg)
theorem de_cmp {op : CmpOp} {r : R2} {g : W2} {a b : Expr} {wa wb : WE} {pos : Pos} (ho : OpR X (compareOp op) r) (hg : OpD X.K r g) (ha : DE X W a wa) (hb : DE X W b wb) (hm : behindInMarks op b = false) : DE X W (.Compare a [op] [b] pos) (dOp g wa wb) := PE.weak (pe_cmpR ho ha hb hm) (t_op hg)
def dTest (w : WE) : WT := fun m ρ Q Z => w m ρ (fun u => ∃ b, u = .bl b ∧ Q b) Z
theorem rel_bl {v : V} {b : Bool} (r : Rel K m H v (.bl b)) : v = .bl b := by cases r; rfl
theorem rel_int {v : V} {i : Int} (r : Rel K m H v (.int i)) : v = .int i := by cases r; rfl
theorem rel_str {v : V} {i : Str} (r : Rel K m H v (.str i)) : v = .str i := by cases r; rfl
theorem rel_non {v : V} (r : Rel K m H v .non) : v = .non := by cases r; rfl
theorem rel_tup {v : V} {us : List U} (r : Rel K m H v (.tup us)) : ∃ a vs, v = .ref a ∧ TupR K m H a vs ∧ SqT K H a vs ∧ RelL K m H vs us := by
  cases r with
  | tup h r => exact ⟨_, _, rfl, h, h.sq, r⟩
theorem rel_lst {v : V} {us : List U} (r : Rel K m H v (.lst us)) : ∃ a vs, v = .ref a ∧ okA m a ∧ H a = some (.lst vs) ∧ RelL K m H vs us := by
  cases r with
  | lst k h r => exact ⟨_, _, rfl, k, h, r⟩
theorem dt_cmp {op : CmpOp} {r : R2} {g : W2} {a b : Expr} {wa wb : WE} {pos : Pos} (ho : OpR X (compareOp op) r) (hg : OpD X.K r g) (ha : DE X W a wa) (hb : DE X W b wb) (hm : behindInMarks op b = false) : DT X W (.Compare a [op] [b] pos) (dTest (dOp g wa wb)) :=
  PT.weak (pt_cmpR ho ha hb hm) fun σ H Q' h => by
    obtain ⟨m, ρ, Q, Z, ge, q, c⟩ := h
    exact t_op hg σ H _ ⟨m, ρ, _, Z, ge, q, fun x v H1 ⟨b, e, q1⟩ s1 i1 r1 => ⟨b, rel_bl (e ▸ r1), c b H1 q1 s1 i1⟩⟩
theorem dt_val {e : Expr} {w : WE} (h : DE X W e w) (he : ∀ whole, isTrue e X.env whole = (do let v ← whole; standAt e.pos; holding [v] (truthy v)) := by intro _; rfl) : DT X W e (dTest w) :=
  PT.weak (pt_val h he) fun σ H Q' h => by
    obtain ⟨m, ρ, Q, Z, ge, q, c⟩ := h
    exact ⟨m, ρ, _, Z, ge, q, fun x v H1 ⟨b, e, q1⟩ s1 i1 r1 => ⟨b, rel_bl (e ▸ r1), c b H1 q1 s1 i1⟩⟩
def dNot (w : WT) : WT := fun m ρ Q Z => w m ρ (fun b => Q (!b)) Z
def dAnd (w u : WT) : WT := fun m ρ Q Z => w m ρ (fun b => if b = true then u m ρ Q Z else Q false) Z
def dOr (w u : WT) : WT := fun m ρ Q Z => w m ρ (fun b => if b = true then Q true else u m ρ Q Z) Z
theorem dt_not {a : Expr} {w : WT} {pos : Pos} (ha : DT X W a w) : DT X W (.UnaryOp .Not a pos) (dNot w) := PT.weak (pt_not ha) fun σ H Q' ⟨m, ρ, Q, Z, ge, q, c⟩ =>
  ⟨m, ρ, _, Z, ge, q, fun b H1 q1 s1 i1 => c _ H1 q1 s1 i1⟩
theorem dw_and1 {a : Expr} {w : WT} {pos : Pos} (ha : DT X W a w) : DW X W (.BoolOp .And [a] pos) w := pw_and1 ha
theorem dw_or1 {a : Expr} {w : WT} {pos : Pos} (ha : DT X W a w) : DW X W (.BoolOp .Or [a] pos) w := pw_or1 ha
theorem dw_and {a b : Expr} {rest : List Expr} {w u : WT} {pos : Pos} (ha : DT X W a w) (hb : DW X W (.BoolOp .And (b :: rest) pos) u) : DW X W (.BoolOp .And (a :: b :: rest) pos) (dAnd w u) := PW.weak (pw_and ha hb) fun σ H Q' ⟨m, ρ, Q, Z, ge, q, c⟩ =>
  ⟨m, ρ, _, Z, ge, q, fun b H1 q1 s1 i1 => by
    cases b with
    | true => exact ⟨m, ρ, Q, Z, ge.step s1 i1, q1, c.step s1⟩
    | false => exact c _ H1 q1 s1 i1⟩
theorem dw_or {a b : Expr} {rest : List Expr} {w u : WT} {pos : Pos} (ha : DT X W a w) (hb : DW X W (.BoolOp .Or (b :: rest) pos) u) : DW X W (.BoolOp .Or (a :: b :: rest) pos) (dOr w u) := PW.weak (pw_or ha hb) fun σ H Q' ⟨m, ρ, Q, Z, ge, q, c⟩ =>
  ⟨m, ρ, _, Z, ge, q, fun b H1 q1 s1 i1 => by
    cases b with
    | false => exact ⟨m, ρ, Q, Z, ge.step s1 i1, q1, c.step s1⟩
    | true => exact c _ H1 q1 s1 i1⟩
/-- bools as values -/
def dNotV (w : WE) : WE := fun m ρ Q Z => w m ρ (fun u => ∃ b, u = .bl b ∧ Q (.bl (!b))) Z
def dAndV (w u : WE) : WE := fun m ρ Q Z => w m ρ (fun x => ∃ b, x = .bl b ∧ if b = true then u m ρ Q Z else Q (.bl false)) Z
def dOrV (w u : WE) : WE := fun m ρ Q Z => w m ρ (fun x => ∃ b, x = .bl b ∧ if b = true then Q (.bl true) else u m ρ Q Z) Z
theorem de_not {a : Expr} {w : WE} {pos : Pos} (ha : DE X W a w) : DE X W (.UnaryOp .Not a pos) (dNotV w) := PE.weak (pe_not ha) fun σ H Q' ⟨m, ρ, Q, Z, ge, q, c⟩ =>
  ⟨m, ρ, _, Z, ge, q, fun x v H1 ⟨b, e, q1⟩ s1 i1 r1 => ⟨b, rel_bl (e ▸ r1), c _ _ H1 q1 s1 i1 (.bl _)⟩⟩
theorem de_and {a b : Expr} {rest : List Expr} {w u : WE} {pos : Pos} (ha : DE X W a w) (hb : DE X W (.BoolOp .And (b :: rest) pos) u) : DE X W (.BoolOp .And (a :: b :: rest) pos) (dAndV w u) := PE.weak (pe_and ha hb) fun σ H Q' ⟨m, ρ, Q, Z, ge, q, c⟩ =>
  ⟨m, ρ, _, Z, ge, q, fun x v H1 ⟨b, e, q1⟩ s1 i1 r1 => ⟨b, rel_bl (e ▸ r1), by
    cases b with
    | true => exact ⟨m, ρ, Q, Z, ge.step s1 i1, q1, c.step s1⟩
    | false => exact c _ _ H1 q1 s1 i1 (.bl _)⟩⟩
theorem de_or {a b : Expr} {rest : List Expr} {w u : WE} {pos : Pos} (ha : DE X W a w) (hb : DE X W (.BoolOp .Or (b :: rest) pos) u) : DE X W (.BoolOp .Or (a :: b :: rest) pos) (dOrV w u) := PE.weak (pe_or ha hb) fun σ H Q' ⟨m, ρ, Q, Z, ge, q, c⟩ =>
  ⟨m, ρ, _, Z, ge, q, fun x v H1 ⟨b, e, q1⟩ s1 i1 r1 => ⟨b, rel_bl (e ▸ r1), by
    cases b with
    | false => exact ⟨m, ρ, Q, Z, ge.step s1 i1, q1, c.step s1⟩
    | true => exact c _ _ H1 q1 s1 i1 (.bl _)⟩⟩
theorem de_bool1 {op} {a : Expr} {w : WE} {pos : Pos} (ha : DE X W a w) : DE X W (.BoolOp op [a] pos) w := pe_one ha
def dIf (t : WT) (a b : WE) : WE := fun m ρ Q Z => t m ρ (fun c => if c = true then a m ρ Q Z else b m ρ Q Z) Z
theorem de_if {c a b : Expr} {t : WT} {wa wb : WE} {pos : Pos} (hc : DT X W c t) (ha : DE X W a wa) (hb : DE X W b wb) : DE X W (.IfExp c a b pos) (dIf t wa wb) := PE.weak (pe_ifExp hc ha hb) fun σ H Q' ⟨m, ρ, Q, Z, ge, q, c⟩ =>
  ⟨m, ρ, _, Z, ge, q, fun b H1 q1 s1 i1 => by
    cases b with
    | true => exact ⟨m, ρ, Q, Z, ge.step s1 i1, q1, c.step s1⟩
    | false => exact ⟨m, ρ, Q, Z, ge.step s1 i1, q1, c.step s1⟩⟩
def UnD (K : PySem.W.Frag) (r : V → Hp → VK → Prop) (g : W1) : Prop := ∀ (m : Mo) (x : V) (a : U) (H : Hp) (Q : U → Prop) (Q' : VK), invM m H → Rel K m H x a → g a Q → Cont K m H Q Q' → r x H Q'
def dUn (g : W1) (w : WE) : WE := fun m ρ Q Z => w m ρ (fun x => g x Q) Z
theorem de_un {op : UnaryOp} {r : V → Hp → VK → Prop} {g : W1} {a : Expr} {w : WE} {pos : Pos} (ho : UnR X (unaryOp op) r) (hg : UnD X.K r g) (ha : DE X W a w) : DE X W (.UnaryOp op a pos) (dUn g w) := PE.weak (pe_un ho ha) fun σ H Q' ⟨m, ρ, Q, Z, ge, q, c⟩ =>
  ⟨m, ρ, _, Z, ge, q, fun x v H1 q1 s1 i1 r1 => hg m v x H1 Q Q' i1 r1 q1 (c.step s1)⟩
/-! ### lists of arguments, displays -/
def dNil : WA := fun _ _ Q _ => Q []
def dCons (w : WE) (r : WA) : WA := fun m ρ Q Z => w m ρ (fun x => r m ρ (fun xs => Q (x :: xs)) Z) Z
theorem da_nil : DA X W [] dNil := PA.weak pa_nil fun σ H Q' ⟨m, ρ, Q, Z, ge, q, c⟩ => c [] [] H q stp_refl ge.iv .nil
theorem da_cons {e : Expr} {es : List Expr} {w : WE} {r : WA} (ha : DE X W e w) (hr : DA X W es r) (hs : starEach (e :: es) X.env = (false, eval e X.env) :: starEach es X.env := by rfl) : DA X W (e :: es) (dCons w r) := PA.weak (pa_cons ha hr hs) fun σ H Q' ⟨m, ρ, Q, Z, ge, q, c⟩ =>
  ⟨m, ρ, _, Z, ge, q, fun x v H1 q1 s1 i1 r1 => ⟨m, ρ, _, Z, ge.step s1 i1, q1, fun xs vs H2 q2 s2 i2 r2 => c _ _ H2 q2 (stp_trans s1 s2) i2 (.cons (Rel.step s2 r1) r2)⟩⟩
def dTup (w : WA) : WE := fun m ρ Q Z => w m ρ (fun us => us.length ≤ sizeLine ∧ Q (.tup us)) Z
def dLst (w : WA) : WE := fun m ρ Q Z => w m ρ (fun us => us.length ≤ sizeLine ∧ Q (.lst us)) Z
theorem new_tup {vs : List V} {us : List U} {p : Addr} (iv : invM m H) (hp : H p = none) (r : RelL K m H vs us) : Rel K m (upd H p (.tup vs)) (.ref p) (.tup us) := .tup (.inl ⟨ok_new iv hp, .inl upd_same⟩) (RelL.step (stp_new hp) r)
theorem new_lst {vs : List V} {us : List U} {p : Addr} (iv : invM m H) (hp : H p = none) (r : RelL K m H vs us) : Rel K m (upd H p (.lst vs)) (.ref p) (.lst us) := .lst (ok_new iv hp) upd_same (RelL.step (stp_new hp) r)
theorem Cont.tup {Q : U → Prop} {Q' : VK} {vs : List V} {us : List U} {p : Addr} (c : Cont K m H Q Q') (iv : invM m H) (hp : H p = none) (r : RelL K m H vs us) (q : Q (.tup us)) : Q' (.ref p) (upd H p (.tup vs)) := c _ _ _ q (stp_new hp) (inv_new iv hp) (new_tup iv hp r)
theorem Cont.lst {Q : U → Prop} {Q' : VK} {vs : List V} {us : List U} {p : Addr} (c : Cont K m H Q Q') (iv : invM m H) (hp : H p = none) (r : RelL K m H vs us) (q : Q (.lst us)) : Q' (.ref p) (upd H p (.lst vs)) := c _ _ _ q (stp_new hp) (inv_new iv hp) (new_lst iv hp r)
theorem de_tup {es : List Expr} {w : WA} {x1} {pos : Pos} (h : DA X W es w) : DE X W (.Tuple es x1 pos) (dTup w) := PE.weak (pe_tup h) fun σ H Q' ⟨m, ρ, Q, Z, ge, q, c⟩ =>
  ⟨m, ρ, _, Z, ge, q, fun us vs H1 ⟨z, q1⟩ s1 i1 r1 => ⟨by rw [RelL.len r1]; exact z, fun p hp => (c.step s1).tup i1 hp r1 q1⟩⟩
theorem de_lst {es : List Expr} {w : WA} {pos : Pos} (h : DA X W es w) : DE X W (.List es pos) (dLst w) := PE.weak (pe_lst h) fun σ H Q' ⟨m, ρ, Q, Z, ge, q, c⟩ =>
  ⟨m, ρ, _, Z, ge, q, fun us vs H1 ⟨z, q1⟩ s1 i1 r1 => ⟨by rw [RelL.len r1]; exact z, fun p hp => (c.step s1).lst i1 hp r1 q1⟩⟩
/-! ### statements -/
def dNext : WS := fun m D ρ => D.nx ρ
def dSeq (w u : WS) : WS := fun m D ρ => w m { D with nx := u m D } ρ
theorem dss_nil : DSs X W [] dNext := PSs.weak pss_nil fun D σ H ⟨m, ρ, DD, iv, rs, q, c⟩ => c.nx ρ σ H q stp_refl iv rs
theorem dss_cons {st : Stmt} {rest : List Stmt} {w u : WS} (h1 : DS X W st w) (h2 : DSs X W rest u) : DSs X W (st :: rest) (dSeq w u) := PSs.weak (pss_cons h1 h2) fun D σ H ⟨m, ρ, DD, iv, rs, q, c⟩ =>
  ⟨m, ρ, { DD with nx := u m DD }, iv, rs, q, ⟨fun ρ' σ' H' q' s' i' r' => ⟨m, ρ', DD, i', r', q', c.step s'⟩, c.rt, c.ex, c.bk, c.ct⟩⟩
theorem dss_one {st : Stmt} {w : WS} (h1 : DS X W st w) : DSs X W [st] w := pss_one h1
def dRet (w : WE) : WS := fun m D ρ => w m ρ D.rt (D.ex ρ)
theorem ds_ret {e : Expr} {w : WE} {pos : Pos} (h : DE X W e w) : DS X W (.Return (some e) pos) (dRet w) := PS.weak (ps_ret h) fun D σ H ⟨m, ρ, DD, iv, rs, q, c⟩ => ⟨m, ρ, DD.rt, _, c.ge iv rs, q, c.rt⟩
def dRetN : WS := fun _ D _ => D.rt .non
theorem ds_retN {pos : Pos} : DS X W (.Return none pos) dRetN := PS.weak ps_retN fun D σ H ⟨m, ρ, DD, iv, rs, q, c⟩ => c.rt.here iv q .non
def dDrop (w : WE) : WS := fun m D ρ => w m ρ (fun _ => D.nx ρ) (D.ex ρ)
theorem ds_expr {e : Expr} {w : WE} {pos : Pos} (h : DE X W e w) (hs : swapsWith e none pos.line X.env = pure false := by rfl) : DS X W (.Expr e pos) (dDrop w) := PS.weak (ps_expr h hs) fun D σ H ⟨m, ρ, DD, iv, rs, q, c⟩ =>
  ⟨m, ρ, _, _, c.ge iv rs, q, fun u v H' q' s' i' r' => c.nx ρ σ H' q' s' i' (RelS.step s' rs)⟩
def dIfS (t : WT) (a b : WS) : WS := fun m D ρ => t m ρ (fun c => if c = true then a m D ρ else b m D ρ) (D.ex ρ)
theorem ds_if {e : Expr} {a b : List Stmt} {t : WT} {wa wb : WS} {pos : Pos} (hc : DT X W e t) (ha : DSs X W a wa) (hb : DSs X W b wb) : DS X W (.If e a b pos) (dIfS t wa wb) := PS.weak (ps_if hc ha hb) fun D σ H ⟨m, ρ, DD, iv, rs, q, c⟩ =>
  ⟨m, ρ, _, _, c.ge iv rs, q, fun b H' q' s' i' => by
    cases b with
    | true => exact ⟨m, ρ, DD, i', RelS.step s' rs, q', c.step s'⟩
    | false => exact ⟨m, ρ, DD, i', RelS.step s' rs, q', c.step s'⟩⟩
def dSet (i : Nat) (w : WE) : WS := fun m D ρ => w m ρ (fun u => D.nx (ρ.set i (some u))) (D.ex ρ)
theorem ds_of_set {st : Stmt} {i : Nat} {w : WE} (h : PS X st (tAsg (tE X.K W w) (gName i))) : DS X W st (dSet i w) := PS.weak h fun D σ H ⟨m, ρ, DD, iv, rs, q, c⟩ =>
  ⟨m, ρ, _, _, c.ge iv rs, q, fun u v H' q' s' i' r' => c.nx _ _ H' q' s' i' (RelS.set (RelS.step s' rs) i r')⟩
theorem ds_set {i : Nat} {x : Str} {e : Expr} {w : WE} {pos pos' : Pos} (hN : X.N.Nodup) (hi : X.N[i]? = some x) (hx : Loc X.env.scope x) (he : DE X W e w) (hs : swapsWith e (some (.Name x pos')) pos.line X.env = pure false := by rfl) (hf : X.fn x = true ∨ X.env.scope.names.lookup x = some .local := by first | exact .inl rfl | exact .inr rfl | assumption) :
    DS X W (.Assign [.Name x pos'] e pos) (dSet i w) := ds_of_set (ps_set hN hi hx he hs hf)
def dgName (i : Nat) : WG := fun u ρ Q => Q (ρ.set i (some u))
def dgNil : WGs := fun us ρ Q => us = [] ∧ Q ρ
def dgCons (w : WG) (r : WGs) : WGs := fun us ρ Q => ∃ u t, us = u :: t ∧ w u ρ fun ρ' => r t ρ' Q
def dgTup (n : Nat) (r : WGs) : WG := fun u ρ Q => ∃ us, u = .tup us ∧ us.length = n ∧ r us ρ Q
theorem dg_name {i : Nat} {e : Expr} (h : PG X e (gName i)) : DG X e (dgName i) := PG.weak h fun v σ H Q' ⟨m, u, ρ, Q, iv, rs, r, q, c⟩ => c _ _ H q stp_refl iv (RelS.set rs i r)
theorem dgs_nil : DGs X [] dgNil := PGs.weak pgs_nil fun v σ H Q' ⟨m, us, ρ, Q, iv, rs, r, ⟨e, q⟩, c⟩ => by
  subst e
  cases r
  exact ⟨rfl, c _ _ H q stp_refl iv rs⟩
theorem dgs_cons {e : Expr} {es : List Expr} {w : WG} {r : WGs} (h1 : DG X e w) (h2 : DGs X es r) (hs : (assignEach (e :: es) X.env).map (·.2) = assign e X.env :: (assignEach es X.env).map (·.2) := by rfl) : DGs X (e :: es) (dgCons w r) :=
  PGs.weak (pgs_cons h1 h2 hs) fun vs σ H Q' ⟨m, us, ρ, Q, iv, rs, rl, ⟨u, t, e, q⟩, c⟩ => by
    subst e
    cases rl with
    | cons a b => exact ⟨_, _, rfl, m, u, ρ, _, iv, rs, a, q, fun ρ' σ' H' q' s' i' r' => ⟨m, t, ρ', Q, i', r', RelL.step s' b, q', fun ρ2 σ2 H2 q2 s2 i2 r2 => c ρ2 σ2 H2 q2 (stp_trans s' s2) i2 r2⟩⟩
theorem dg_tup {es : List Expr} {k : Nat} {r : WGs} {n : Nat} (hc : X.calm = true) (h : DGs X es r) (hn : (assignEach es X.env).length = n := by rfl) (hst : (assignEach es X.env).findIdx? (·.1) = none := by rfl) {pos : Pos} : DG X (.Tuple es k pos) (dgTup n r) :=
  PG.weak (pg_tup hc h hn hst) fun v σ H Q' ⟨m, u, ρ, Q, iv, rs, rl, ⟨us, e, hl, q⟩, c⟩ => by
    subst e
    obtain ⟨a, vs, rfl, k, hs, r2⟩ := rel_tup rl
    exact ⟨a, vs, rfl, hs, by rw [RelL.len r2]; exact hl, m, us, ρ, Q, iv, rs, r2, q, c⟩
def dAsg (w : WE) (g : WG) : WS := fun m D ρ => w m ρ (fun u => g u ρ D.nx) (D.ex ρ)
theorem ds_asg {tg e : Expr} {w : WE} {g : WG} {pos : Pos} (he : DE X W e w) (hg : DG X tg g) (hs : swapsWithSole [tg] e pos.line X.env = pure false := by rfl) (hw : swappedStores [tg] e X.env = pure none := by rfl)
    (h1 : (assignEach [tg] X.env).map (·.2) = [assign tg X.env] := by rfl) : DS X W (.Assign [tg] e pos) (dAsg w g) := PS.weak (ps_asg he hg hs hw h1) fun D σ H ⟨m, ρ, DD, iv, rs, q, c⟩ =>
  ⟨m, ρ, _, _, c.ge iv rs, q, fun u v H' q' s' i' r' => ⟨m, u, ρ, _, i', RelS.step s' rs, r', q', fun ρ2 σ2 H2 q2 s2 i2 r2 => c.nx ρ2 σ2 H2 q2 (stp_trans s' s2) i2 r2⟩⟩
def dPar (i j : Nat) (w : WA) : WS := fun m D ρ => w m ρ (fun us => ∃ a b, us = [a, b] ∧ D.nx ((ρ.set i (some a)).set j (some b))) (D.ex ρ)
theorem ds_of_par {st : Stmt} {i j : Nat} {w : WA} (h : PS X st (tPar i j (tA X.K W w))) : DS X W st (dPar i j w) := PS.weak h fun D σ H ⟨m, ρ, DD, iv, rs, q, c⟩ =>
  ⟨m, ρ, _, _, c.ge iv rs, q, fun us vs H' ⟨a, b, e, q'⟩ s' i' r' => by
    subst e
    cases r' with
    | cons r1 t =>
      cases t with
      | cons r2 t =>
        cases t
        exact ⟨_, _, rfl, c.nx _ _ H' q' s' i' (RelS.set (RelS.set (RelS.step s' rs) i r1) j r2)⟩⟩
/-- while: I the invariant, by what falls -/
def dWhile (t : WT) (b : WS) : WS := fun m D ρ => ∃ I : Nat → Env → Prop, (∃ k, I k ρ) ∧ ∀ k ρ, I k ρ → t m ρ (fun c => if c = true then b m { D with nx := fun ρ' => ∃ k', k' < k ∧ I k' ρ', ct := fun ρ' => ∃ k', k' < k ∧ I k' ρ', bk := D.nx } ρ else D.nx ρ) (D.ex ρ)
theorem ds_while {e : Expr} {body : List Stmt} {t : WT} {b : WS} {pos : Pos} (hp : PassesOwn (model X.prog X.w) X.A X.env X.xe) (hc : DT X W e t) (hb : DSs X W body b) : DS X W (.While e body [] pos) (dWhile t b) :=
  PS.weak (ps_while hp hc hb) fun D σ H ⟨m, ρ, DD, iv, rs, ⟨I, ⟨k, hk⟩, turn⟩, c⟩ => by
    refine ⟨fun k σ' H' => ∃ ρ', I k ρ' ∧ stpM m H H' ∧ invM m H' ∧ RelS X.K m H' σ' ρ', ⟨k, ρ, hk, stp_refl, iv, rs⟩, ?_⟩
    rintro k σ1 H1 ⟨ρ1, h1, s1, i1, r1⟩
    refine ⟨m, ρ1, _, _, (c.step s1).ge i1 r1, turn k ρ1 h1, fun bb H2 q2 s2 i2 => ?_⟩
    cases bb with
    | false => exact c.nx ρ1 σ1 H2 q2 (stp_trans s1 s2) i2 (RelS.step s2 r1)
    | true =>
      refine ⟨fun σ' H' => ∃ k', k' < k ∧ ∃ ρ', I k' ρ' ∧ stpM m H H' ∧ invM m H' ∧ RelS X.K m H' σ' ρ', fun σ' H' h => h, m, ρ1, _, i2, RelS.step s2 r1, q2, ?_⟩
      have c2 := c.step (stp_trans s1 s2)
      have go : ∀ ρ' σ' H', (∃ k', k' < k ∧ I k' ρ') → stpM m H2 H' → invM m H' → RelS X.K m H' σ' ρ' → ∃ k', k' < k ∧ ∃ ρ', I k' ρ' ∧ stpM m H H' ∧ invM m H' ∧ RelS X.K m H' σ' ρ' :=
        fun ρ' σ' H' ⟨k', lt, h⟩ s' i' r' => ⟨k', lt, ρ', h, stp_trans (stp_trans s1 s2) s', i', r'⟩
      exact ⟨go, c2.rt, c2.ex, fun ρ' σ' H' q s' i' r' => c2.nx ρ' σ' H' q s' i' r', go⟩
end
end DL
set_option Elab.async false
set_option linter.all false
set_option maxRecDepth 100000
set_option maxHeartbeats 4000000
/-! the data layer: operations, built-in functions, places, parts -/
namespace DL
open PySem PySem.Spec PyProof.Rows L2 XR
section
variable {K : PySem.W.Frag} {m : Mo} {H H' : Hp} {X : Cx} {W : WX}
/-! ### ints -/
def gI (f : Int → Int → U) : W2 := fun a b Q => ∃ i j, a = .int i ∧ b = .int j ∧ Q (f i j)
def gIC (C : Int → Int → Prop) (f : Int → Int → U) : W2 := fun a b Q => ∃ i j, a = .int i ∧ b = .int j ∧ C i j ∧ Q (f i j)
theorem opd_I0 {g : Int → Int → V} {f : Int → Int → U} (h : ∀ m H i j, Rel K m H (g i j) (f i j)) : OpD K (rI0 g) (gI f) := fun m x y a b H Q Q' iv ra rb ⟨i, j, ea, eb, q⟩ c => by
  subst ea eb
  exact ⟨i, j, rel_int ra, rel_int rb, c.here iv q (h m H i j)⟩
theorem opd_IC {C : Int → Int → Prop} {g : Int → Int → V} {f : Int → Int → U} (h : ∀ m H i j, Rel K m H (g i j) (f i j)) : OpD K (rI C g) (gIC C f) := fun m x y a b H Q Q' iv ra rb ⟨i, j, ea, eb, hc, q⟩ c => by
  subst ea eb
  exact ⟨i, j, rel_int ra, rel_int rb, hc, c.here iv q (h m H i j)⟩
abbrev gAdd : W2 := gI fun i j => .int (i + j)
abbrev gSub : W2 := gI fun i j => .int (i - j)
abbrev gMul : W2 := gIC CMulW fun i j => .int (i * j)
def CFdv (_ j : Int) : Prop := j ≠ 0 ∧ j.natAbs.log2 < 9000
abbrev gFdv : W2 := gIC CFdv fun i j => .int (i.fdiv j)
abbrev gMod : W2 := gIC (fun _ j => 0 < j) fun i j => .int (i % j)
abbrev gPow : W2 := gIC CPow fun i j => .int (i ^ j.toNat)
abbrev gLt : W2 := gI fun i j => .bl (decide (i < j))
abbrev gLe : W2 := gI fun i j => .bl (decide (i ≤ j))
abbrev gGt : W2 := gI fun i j => .bl (decide (j < i))
abbrev gGe : W2 := gI fun i j => .bl (decide (j ≤ i))
theorem op_fdvA : OpR X (binaryOp .FloorDiv) (rI CFdv fun i j => .int (i.fdiv j)) := opI fun _ _ _ _ _ _ _ hc q => floordiv_int hc.1 q (.inl (PyProof.noPylong_of_log2 hc.2))
variable {a b : Expr} {wa wb : WE} {pos : Pos}
theorem de_add (ha : DE X W a wa) (hb : DE X W b wb) : DE X W (.BinOp a .Add b pos) (dOp gAdd wa wb) := de_op op_add (opd_I0 fun _ _ _ _ => .int _) ha hb
theorem de_sub (ha : DE X W a wa) (hb : DE X W b wb) : DE X W (.BinOp a .Sub b pos) (dOp gSub wa wb) := de_op op_sub (opd_I0 fun _ _ _ _ => .int _) ha hb
theorem de_mul (ha : DE X W a wa) (hb : DE X W b wb) : DE X W (.BinOp a .Mult b pos) (dOp gMul wa wb) := de_op op_mulW (opd_IC fun _ _ _ _ => .int _) ha hb
theorem de_fdv (ha : DE X W a wa) (hb : DE X W b wb) : DE X W (.BinOp a .FloorDiv b pos) (dOp gFdv wa wb) := de_op op_fdvA (opd_IC fun _ _ _ _ => .int _) ha hb
theorem de_mod (ha : DE X W a wa) (hb : DE X W b wb) : DE X W (.BinOp a .Mod b pos) (dOp gMod wa wb) := de_op op_mod (opd_IC fun _ _ _ _ => .int _) ha hb
theorem de_pow (ha : DE X W a wa) (hb : DE X W b wb) : DE X W (.BinOp a .Pow b pos) (dOp gPow wa wb) := de_op op_pow (opd_IC fun _ _ _ _ => .int _) ha hb
def gNeg : W1 := fun a Q => ∃ i, a = .int i ∧ Q (.int (-i))
theorem de_neg (ha : DE X W a wa) : DE X W (.UnaryOp .USub a pos) (dUn gNeg wa) := de_un un_neg (fun m x u H Q Q' iv r ⟨i, e, q⟩ c => by
  subst e
  exact ⟨i, rel_int r, c.here iv q (.int _)⟩) ha
theorem opr_lt : OpR X (compareOp .Lt) (rI0 fun i j => .bl (decide (i < j))) := op_lt
/-! ### == of data -/
def keyP : Key → PyData
  | .inl i => .int i
  | .inr x => .str x
mutual
def toP : U → PyData
  | .non => .none
  | .bl b => .bool b
  | .int i => .int i
  | .str x => .str x
  | .tup us => .tuple (toPs us)
  | .lst us => .list (toPs us)
  | .raw _ => .none
  | .dct ks us => .dict ((ks.map keyP).zip (toPs us))
  | .dpt _ _ => .none
def toPs : List U → List PyData
  | [] => []
  | u :: us => toP u :: toPs us
end
mutual
def isD : U → Bool
  | .raw _ => false
  | .dct _ _ => false
  | .dpt _ _ => false
  | .tup us => isDs us
  | .lst us => isDs us
  | _ => true
def isDs : List U → Bool
  | [] => true
  | u :: us => isD u && isDs us
end
mutual
theorem Rel.dp : ∀ {u : U} {v : V}, Rel K m H v u → isD u = true → Dp K H v (toP u)
  | _, _, .non, _ => .non
  | _, _, .bl b, _ => .bl b
  | _, _, .int i, _ => .int i
  | _, _, .str x, _ => .str x
  | _, _, .tup h r, d => .tup h.sq (RelL.dp r d)
  | _, _, .lst _ h r, d => .lst (.inl (.inl h)) (RelL.dp r d)
theorem RelL.dp : ∀ {us : List U} {vs : List V}, RelL K m H vs us → isDs us = true → DpAll K H vs (toPs us)
  | _, _, .nil, _ => .nil
  | _, _, .cons h r, d => .cons (Rel.dp h (Bool.and_eq_true_iff.mp d).1) (RelL.dp r (Bool.and_eq_true_iff.mp d).2)
end
/-- data that == looks through -/
def flat (u : U) : Bool := isD u && SeqAt.shaped (toP u)
def ueq (a b : U) : Bool := PyData.eqv (toP a) (toP b)
def gEq : W2 := fun a b Q => flat a = true ∧ flat b = true ∧ Q (.bl (ueq a b))
def gNe : W2 := fun a b Q => flat a = true ∧ flat b = true ∧ Q (.bl (!ueq a b))
theorem opd_eq : OpD K (rEqD K) gEq := fun m x y a b H Q Q' iv ra rb ⟨fa, fb, q⟩ c => by
  obtain ⟨a1, a2⟩ := Bool.and_eq_true_iff.mp fa
  obtain ⟨b1, b2⟩ := Bool.and_eq_true_iff.mp fb
  exact ⟨_, _, Rel.dp ra a1, Rel.dp rb b1, a2, b2, c.here iv q (.bl _)⟩
theorem opd_ne : OpD K (rNeD K) gNe := fun m x y a b H Q Q' iv ra rb ⟨fa, fb, q⟩ c => by
  obtain ⟨a1, a2⟩ := Bool.and_eq_true_iff.mp fa
  obtain ⟨b1, b2⟩ := Bool.and_eq_true_iff.mp fb
  exact ⟨_, _, Rel.dp ra a1, Rel.dp rb b1, a2, b2, c.here iv q (.bl _)⟩
/-! ### built-in functions -/
abbrev WF := List U → (U → Prop) → Prop
def CalD (K : PySem.W.Frag) (r : List V → Hp → VK → Prop) (g : WF) : Prop := ∀ (m : Mo) (vs : List V) (us : List U) (H : Hp) (Q : U → Prop) (Q' : VK), invM m H → RelL K m H vs us → g us Q → Cont K m H Q Q' → r vs H Q'
def dCB (g : WF) (w : WA) : WE := fun m ρ Q Z => w m ρ (fun us => g us Q) Z
theorem de_callB {r : List V → Hp → VK → Prop} {g : WF} {w : WA} {e : Expr} (hg : CalD X.K r g) (h : PE X e (tCB r (tA X.K W w))) : DE X W e (dCB g w) := PE.weak h fun σ H Q' ⟨m, ρ, Q, Z, ge, q, c⟩ =>
  ⟨m, ρ, _, Z, ge, q, fun us vs H1 q1 s1 i1 r1 => hg m vs us H1 Q Q' i1 r1 q1 (c.step s1)⟩
theorem rl1 {vs : List V} {u : U} (r : RelL K m H vs [u]) : ∃ v, vs = [v] ∧ Rel K m H v u := by
  cases r with
  | cons a t =>
    cases t
    exact ⟨_, rfl, a⟩
theorem rl2 {vs : List V} {u t : U} (r : RelL K m H vs [u, t]) : ∃ v x, vs = [v, x] ∧ Rel K m H v u ∧ Rel K m H x t := by
  cases r with
  | cons a r =>
    obtain ⟨v, rfl, b⟩ := rl1 r
    exact ⟨_, _, rfl, a, b⟩
theorem rl3 {vs : List V} {u t y : U} (r : RelL K m H vs [u, t, y]) : ∃ v x z, vs = [v, x, z] ∧ Rel K m H v u ∧ Rel K m H x t ∧ Rel K m H z y := by
  cases r with
  | cons a r =>
    obtain ⟨v, x, rfl, b, c⟩ := rl2 r
    exact ⟨_, _, _, rfl, a, b, c⟩
def fLen : WF := fun us Q => ∃ ts, (us = [.tup ts] ∨ us = [.lst ts]) ∧ Q (.int ts.length)
theorem cal_len : CalD K (fun xs H Q => ∃ p ys, xs = [.ref p] ∧ (SqL K H p ys ∨ SqT K H p ys) ∧ Q (.int ys.length) H) fLen := fun m vs us H Q Q' iv r ⟨ts, e, q⟩ c => by
  rcases e with rfl | rfl
  · obtain ⟨v, rfl, a⟩ := rl1 r
    obtain ⟨p, ys, rfl, _, h, l⟩ := rel_tup a
    exact ⟨p, ys, rfl, .inr h, by rw [RelL.len l]; exact c.here iv q (.int _)⟩
  · obtain ⟨v, rfl, a⟩ := rl1 r
    obtain ⟨p, ys, rfl, _, h, l⟩ := rel_lst a
    exact ⟨p, ys, rfl, .inl (.inl (.inl h)), by rw [RelL.len l]; exact c.here iv q (.int _)⟩
def fAbs : WF := fun us Q => ∃ i, us = [.int i] ∧ Q (.int (if i < 0 then -i else i))
theorem cal_abs : CalD K (fun xs H Q => ∃ i, xs = [.int i] ∧ Q (.int (if i < 0 then -i else i)) H) fAbs := fun m vs us H Q Q' iv r ⟨i, e, q⟩ c => by
  subst e
  obtain ⟨v, rfl, a⟩ := rl1 r
  exact ⟨i, by rw [rel_int a], c.here iv q (.int _)⟩
def fMax2 : WF := fun us Q => ∃ i j, us = [.int i, .int j] ∧ Q (.int (if j > i then j else i))
theorem cal_max2 : CalD K (fun xs H Q => ∃ i j, xs = [.int i, .int j] ∧ Q (.int (if j > i then j else i)) H) fMax2 := fun m vs us H Q Q' iv r ⟨i, j, e, q⟩ c => by
  subst e
  obtain ⟨v, x, rfl, a, b⟩ := rl2 r
  exact ⟨i, j, by rw [rel_int a, rel_int b], c.here iv q (.int _)⟩
def fInt : WF := fun us Q => (∃ i, us = [.int i] ∧ Q (.int i)) ∨ ∃ k, us = [.bl k] ∧ Q (.int (if k then 1 else 0))
theorem cal_int : CalD K (fun xs H Q => (∃ i, xs = [.int i] ∧ Q (.int i) H) ∨ ∃ k, xs = [.bl k] ∧ Q (.int (if k then 1 else 0)) H) fInt := fun m vs us H Q Q' iv r h c => by
  rcases h with ⟨i, e, q⟩ | ⟨i, e, q⟩
  · subst e
    obtain ⟨v, rfl, a⟩ := rl1 r
    exact .inl ⟨i, by rw [rel_int a], c.here iv q (.int _)⟩
  · subst e
    obtain ⟨v, rfl, a⟩ := rl1 r
    exact .inr ⟨i, by rw [rel_bl a], c.here iv q (.int _)⟩
def fGcd : WF := fun us Q => ∃ i j : Int, us = [.int i, .int j] ∧ Q (.int ((Nat.gcd i.natAbs j.natAbs : Nat) : Int))
theorem cal_gcd : CalD K rGcd fGcd := fun m vs us H Q Q' iv r ⟨i, j, e, q⟩ c => by
  subst e
  obtain ⟨v, x, rfl, a, b⟩ := rl2 r
  exact ⟨i, j, by rw [rel_int a, rel_int b], c.here iv q (.int _)⟩
def rIsq : List V → Hp → VK → Prop := fun vs H Q => ∃ a : Int, vs = [.int a] ∧ 0 ≤ a ∧ a < 2 ^ 64 ∧ Q (.int ((Float64.isqrt a.toNat : Nat) : Int)) H
theorem cr_isq : CallR X (.builtin "math.isqrt") rIsq := by
  intro pins s σ H vs us Q I r h
  obtain ⟨a, rfl, h0, h1, q⟩ := h
  obtain ⟨u, rfl, t, rfl⟩ := vals1 r
  exact PySem.W.mg_isqrt h0 h1 ⟨.int _, H, I.tok _, ⟨_, rfl⟩, q⟩
def fIsq : WF := fun us Q => ∃ i : Int, us = [.int i] ∧ 0 ≤ i ∧ i < 2 ^ 64 ∧ Q (.int ((Float64.isqrt i.toNat : Nat) : Int))
theorem cal_isq : CalD K rIsq fIsq := fun m vs us H Q Q' iv r ⟨i, e, h0, h1, q⟩ c => by
  subst e
  obtain ⟨v, rfl, a⟩ := rl1 r
  exact ⟨i, by rw [rel_int a], h0, h1, c.here iv q (.int _)⟩
def tyN : U → Option String
  | .non => some "NoneType"
  | .bl _ => some "bool"
  | .int _ => some "int"
  | .str _ => some "str"
  | .tup _ => some "tuple"
  | .lst _ => some "list"
  | .raw _ => none
  | .dct _ _ => some "dict"
  | .dpt _ _ => some "dict"
def fIsi : WF := fun us Q => ∃ u n t b, us = [u, .raw (.ty n)] ∧ tyN u = some t ∧ kitB t n = some b ∧ Q (.bl b)
theorem rel_ty {v : V} {u : U} {t : String} (r : Rel K m H v u) (h : tyN u = some t) : TyX K H v (.type t) := by
  cases r with
  | non => cases h; exact .base .non
  | bl b => cases h; exact .base (.bl b)
  | int i => cases h; exact .base (.int i)
  | str x => cases h; exact .base (.str x)
  | tup hs l =>
    cases h
    rcases hs with ⟨_, e | ⟨o, e⟩⟩ | ⟨o, its, n, e, hc, _⟩
    · exact .base (.tup e)
    · exact .fTuple e
    · exact .kTuple e hc
  | lst k hs l => cases h; exact .base (.lst hs)
  | raw v => cases h
  | dct k hs l r => cases h; exact .base (.dK hs)
  | dpt k hs l r => cases h; exact .base (.dT hs)
theorem cal_isi : CalD K (rIsi K) fIsi := fun m vs us H Q Q' iv r ⟨u, n, t, b, e, ht, hb, q⟩ c => by
  subst e
  obtain ⟨v, x, rfl, a, d⟩ := rl2 r
  cases d
  exact ⟨v, .ty n, .type t, .type n, b, rfl, .ty n, rel_ty a ht, kit_ty hb, c.here iv q (.bl _)⟩
/-- list(x), tuple(x) -/
def fList : WF := fun us Q => ∃ ts, (us = [.tup ts] ∨ us = [.lst ts]) ∧ Q (.lst ts)
theorem cal_list : CalD K (fun xs H Q => ∃ p ys, xs = [.ref p] ∧ (SqL K H p ys ∨ SqT K H p ys) ∧ ∀ l, H l = none → Q (.ref l) (upd H l (.lst ys))) fList := fun m vs us H Q Q' iv r ⟨ts, e, q⟩ c => by
  rcases e with rfl | rfl
  · obtain ⟨v, rfl, a⟩ := rl1 r
    obtain ⟨p, ys, rfl, _, h, l⟩ := rel_tup a
    exact ⟨p, ys, rfl, .inr h, fun d hd => c.lst iv hd l q⟩
  · obtain ⟨v, rfl, a⟩ := rl1 r
    obtain ⟨p, ys, rfl, _, h, l⟩ := rel_lst a
    exact ⟨p, ys, rfl, .inl (.inl (.inl h)), fun d hd => c.lst iv hd l q⟩
def fTuple : WF := fun us Q => ∃ ts, (us = [.tup ts] ∨ us = [.lst ts]) ∧ Q (.tup ts)
theorem cal_tuple : CalD K (fun xs H Q => ∃ p ys, xs = [.ref p] ∧ ((SqL K H p ys ∧ ∀ l, H l = none → Q (.ref l) (upd H l (.tup ys))) ∨ (SqT K H p ys ∧ Q (.ref p) H))) fTuple := fun m vs us H Q Q' iv r ⟨ts, e, q⟩ c => by
  rcases e with rfl | rfl
  · obtain ⟨v, rfl, a⟩ := rl1 r
    obtain ⟨p, ys, rfl, k, h, l⟩ := rel_tup a
    exact ⟨p, ys, rfl, .inr ⟨h, c.here iv q (.tup k l)⟩⟩
  · obtain ⟨v, rfl, a⟩ := rl1 r
    obtain ⟨p, ys, rfl, _, h, l⟩ := rel_lst a
    exact ⟨p, ys, rfl, .inl ⟨.inl (.inl h), fun d hd => c.tup iv hd l q⟩⟩
/-! ### places, parts -/
def gIx : W2 := fun a b Q => ∃ ts i u, (a = .tup ts ∨ a = .lst ts) ∧ b = .int i ∧ atI ts i = some u ∧ Q u
theorem atI_rel {vs : List V} {us : List U} {i : Int} {u : U} (r : RelL K m H vs us) (h : atI us i = some u) : ∃ v, atI vs i = some v ∧ Rel K m H v u := by
  unfold atI at h ⊢
  rw [RelL.len r]
  cases e : ixN us.length i with
  | none =>
    rw [e] at h
    cases h
  | some j =>
    rw [e] at h
    exact RelL.get r h
theorem opd_ix : OpD K (fun x y H Q => rIxT K x y H Q ∨ rIxL K x y H Q) gIx := fun m x y a b H Q Q' iv ra rb ⟨ts, i, u, ea, eb, hi, q⟩ c => by
  subst eb
  rcases ea with rfl | rfl
  · obtain ⟨p, ys, rfl, k, h, l⟩ := rel_tup ra
    obtain ⟨v, e, rv⟩ := atI_rel l hi
    exact .inl ⟨p, ys, i, v, rfl, rel_int rb, h, e, c.here iv q rv⟩
  · obtain ⟨p, ys, rfl, k, h, l⟩ := rel_lst ra
    obtain ⟨v, e, rv⟩ := atI_rel l hi
    exact .inr ⟨p, ys, i, v, rfl, rel_int rb, .inl (.inl h), e, c.here iv q rv⟩
theorem de_ix (ha : DE X W a wa) (hb : DE X W b wb) (hs : PlainIx b) : DE X W (.Subscript a b pos) (dOp gIx wa wb) := PE.weak (pe_ix (IxR.or ix_tup ix_list) ha hb hs) (t_op opd_ix)
def cutU (us : List U) (lo hi : Option Int) : List U := (us.drop (HT.sIx us.length 0 lo)).take (HT.sIx us.length us.length hi - HT.sIx us.length 0 lo)
theorem cut_rel {vs : List V} {us : List U} (r : RelL K m H vs us) (lo hi : Option Int) : RelL K m H (cutV vs lo hi) (cutU us lo hi) := by
  unfold cutV cutU
  rw [RelL.len r]
  exact RelL.take _ (RelL.drop _ r)
abbrev WO := Mo → Env → (Option Int → Prop) → XQ → Prop
def tO (K : PySem.W.Frag) (W : WX) (w : WO) : TO := fun σ H Q' => ∃ m ρ Q Z, GE K m W σ H ρ Z ∧ w m ρ Q Z ∧ ∀ o H', Q o → stpM m H H' → invM m H' → Q' o H'
abbrev DO (X : Cx) (W : WX) (e : Option Expr) (w : WO) : Prop := PO X e (tO X.K W w)
theorem PO.weak {e : Option Expr} {t t' : TO} (h : PO X e t) (k : ∀ σ H Q, t' σ H Q → t σ H Q) : PO X e t' := ⟨fun pins s σ H Q I q => h.run pins s σ H Q I (k _ _ _ q)⟩
def dNoPart : WO := fun _ _ Q _ => Q none
def dPart (w : WE) : WO := fun m ρ Q Z => w m ρ (fun u => ∃ i, u = .int i ∧ Q (some i)) Z
theorem do_none : DO X W none dNoPart := PO.weak po_none fun σ H Q' ⟨m, ρ, Q, Z, ge, q, c⟩ => c none H q stp_refl ge.iv
theorem do_some (ha : DE X W a wa) : DO X W (some a) (dPart wa) := PO.weak (po_some ha) fun σ H Q' ⟨m, ρ, Q, Z, ge, q, c⟩ =>
  ⟨m, ρ, _, Z, ge, q, fun u v H1 ⟨i, e, q1⟩ s1 i1 r1 => ⟨i, rel_int (e ▸ r1), c _ H1 q1 s1 i1⟩⟩
/-- a list's part; a tuple's, not the whole of it -/
def gSlL (u : U) (lo hi : Option Int) (Q : U → Prop) : Prop := ∃ ts, u = .lst ts ∧ Q (.lst (cutU ts lo hi))
def gSlT (u : U) (lo hi : Option Int) (Q : U → Prop) : Prop := ∃ ts, u = .tup ts ∧ ¬ (HT.sIx ts.length 0 lo = 0 ∧ HT.sIx ts.length ts.length hi = ts.length) ∧ Q (.tup (cutU ts lo hi))
def dSl (g : U → Option Int → Option Int → (U → Prop) → Prop) (w : WE) (l h : WO) : WE := fun m ρ Q Z => w m ρ (fun x => l m ρ (fun lo => h m ρ (fun hi => g x lo hi Q) Z) Z) Z
theorem de_slL {lo hi : Option Expr} {l h : WO} {p2 : Pos} (ha : DE X W a wa) (hl : DO X W lo l) (hh : DO X W hi h) : DE X W (.Subscript a (.Slice lo hi none p2) pos) (dSl gSlL wa l h) := PE.weak (pe_slice sl_list ha hl hh) fun σ H Q' ⟨m, ρ, Q, Z, ge, q, c⟩ =>
  ⟨m, ρ, _, Z, ge, q, fun u v H1 q1 s1 i1 r1 => ⟨m, ρ, _, Z, ge.step s1 i1, q1, fun o H2 q2 s2 i2 => ⟨m, ρ, _, Z, ge.step (stp_trans s1 s2) i2, q2, fun o2 H3 ⟨ts, e, q3⟩ s3 i3 => by
    subst e
    obtain ⟨p, ys, rfl, k, h, l⟩ := rel_lst (Rel.step (stp_trans s2 s3) r1)
    exact ⟨p, ys, rfl, .inl (.inl h), fun d hd => (c.step (stp_trans s1 (stp_trans s2 s3))).lst i3 hd (cut_rel l o o2) q3⟩⟩⟩⟩
theorem de_slT {lo hi : Option Expr} {l h : WO} {p2 : Pos} (ha : DE X W a wa) (hl : DO X W lo l) (hh : DO X W hi h) : DE X W (.Subscript a (.Slice lo hi none p2) pos) (dSl gSlT wa l h) := PE.weak (pe_slice sl_tup ha hl hh) fun σ H Q' ⟨m, ρ, Q, Z, ge, q, c⟩ =>
  ⟨m, ρ, _, Z, ge, q, fun u v H1 q1 s1 i1 r1 => ⟨m, ρ, _, Z, ge.step s1 i1, q1, fun o H2 q2 s2 i2 => ⟨m, ρ, _, Z, ge.step (stp_trans s1 s2) i2, q2, fun o2 H3 ⟨ts, e, nw, q3⟩ s3 i3 => by
    subst e
    obtain ⟨p, ys, rfl, k, h, l⟩ := rel_tup (Rel.step (stp_trans s2 s3) r1)
    exact ⟨p, ys, rfl, h, by rw [RelL.len l]; exact nw, fun d hd => (c.step (stp_trans s1 (stp_trans s2 s3))).tup i3 hd (cut_rel l o o2) q3⟩⟩⟩⟩
/-! ### lists put together -/
def gCat : W2 := fun a b Q => ∃ xs ys, a = .lst xs ∧ b = .lst ys ∧ xs.length + ys.length ≤ sizeLine ∧ Q (.lst (xs ++ ys))
theorem opd_cat : OpD K rCat gCat := fun m x y a b H Q Q' iv ra rb ⟨xs, ys, ea, eb, z, q⟩ c => by
  subst ea eb
  obtain ⟨p, vs, rfl, _, h, l⟩ := rel_lst ra
  obtain ⟨p2, vs2, rfl, _, h2, l2⟩ := rel_lst rb
  exact ⟨p, p2, vs, vs2, rfl, rfl, h, h2, by rw [RelL.len l, RelL.len l2]; exact z, fun d hd => c.lst iv hd (RelL.append l l2) q⟩
theorem de_cat (ha : DE X W a wa) (hb : DE X W b wb) : DE X W (.BinOp a .Add b pos) (dOp gCat wa wb) := de_op op_cat opd_cat ha hb
def gRep : W2 := fun a b Q => ∃ x k, a = .lst [x] ∧ b = .int k ∧ -(2 ^ 63) ≤ k ∧ k < 2 ^ 63 ∧ k.toNat ≤ sizeLine ∧ Q (.lst (List.replicate k.toNat x))
theorem rep_rel {v : V} {u : U} (r : Rel K m H v u) : ∀ n : Nat, RelL K m H (List.replicate n [v]).flatten (List.replicate n u)
  | 0 => .nil
  | n + 1 => by
    rw [List.replicate_succ, List.replicate_succ, List.flatten_cons]
    exact .cons r (rep_rel r n)
theorem opd_rep : OpD K rRep gRep := fun m x y a b H Q Q' iv ra rb ⟨u, k, ea, eb, k1, k2, z, q⟩ c => by
  subst ea eb
  obtain ⟨p, vs, rfl, _, h, l⟩ := rel_lst ra
  obtain ⟨v, rfl, rv⟩ := rl1 l
  exact ⟨p, k, _, rfl, rel_int rb, h, k1, k2, by rw [List.length_cons, List.length_nil]; omega, fun d hd => c.lst iv hd (rep_rel rv _) q⟩
theorem de_rep (ha : DE X W a wa) (hb : DE X W b wb) : DE X W (.BinOp a .Mult b pos) (dOp gRep wa wb) := de_op op_rep opd_rep ha hb
/-! ### x op= e -/
def gIp (f : Int → Int → Int) : W2 := fun a b Q => ∃ i j, a = .int i ∧ b = .int j ∧ Q (.int (f i j))
def dAug (i : Nat) (g : W2) (w : WE) : WS := fun m D ρ => ∃ x, ρ[i]? = some (some x) ∧ w m ρ (fun y => g x y fun z => D.nx (ρ.set i (some z))) (D.ex ρ)
theorem ds_of_aug {st : Stmt} {i : Nat} {f : Int → Int → Int} {w : WE} (h : PS X st (tAug i (tE X.K W w) (ipI f))) : DS X W st (dAug i (gIp f) w) := PS.weak h fun D σ H ⟨m, ρ, DD, iv, rs, ⟨x, ex, q⟩, c⟩ => by
  obtain ⟨v, h1, h2⟩ := rs.2 i x ex
  refine ⟨v, h1, m, ρ, _, _, c.ge iv rs, q, fun u v' H' ⟨a, b, ea, eb, q'⟩ s' i' r' => ?_⟩
  subst ea eb
  exact ⟨a, b, rel_int h2, rel_int r', c.nx _ _ H' q' s' i' (RelS.set (RelS.step s' rs) i (.int _))⟩
end
end DL
set_option Elab.async false
set_option linter.all false
set_option maxRecDepth 100000
set_option maxHeartbeats 4000000
/-! the data layer: defs and their calls, raise, repr, loops, comprehensions -/
namespace DL
open PySem PySem.Spec PyProof.Rows L2 XR
open PySem.XK (ExF)
/-- a def's promise over data: the deck, the arguments, what is wanted of the value, of an error -/
abbrev SpD := Mo → List U → (U → Prop) → XQ → Prop
structure Fd (P : Program) (w : World) (K : PySem.W.Frag) (mg : Str → Option Value) (base : Heap) (k : Nat) (f : Addr) (fd : FuncData) (ps : List Str) (sp : SpD) : Prop where
  len : ∀ m us Q Z, sp m us Q Z → us.length = ps.length
  run : ∀ (A : Around) (outer : List PySem.Env) (s : Shared) (H : Hp) (args : Args) (xs : List Value) (vs : List V) (m : Mo) (us : List U) (Qd : U → Prop) (Zd : XQ) (Q : VK) (E : XK), Room k A → A.guards = some [] → Env0 P w K mg base A outer s H →
    BindsTo s fd args (ps.zip xs) → Vals vs xs → invM m H → RelL K m H vs us → sp m us Qd Zd → Cont K m H Qd Q → ContE K m H Zd E → codeAny (model P w) A (.call (.ref f) args) (CR (L2.CX P w) outer P w H s Q E) s
/-- a def that is proved over the heap, lets nothing out -/
theorem Fd.of0 {P : Program} {w : World} {K : PySem.W.Frag} {mg : Str → Option Value} {base : Heap} {k : Nat} {f : Addr} {fd : FuncData} {ps : List Str} {sp0 : Sp} {sp : SpD} (F : FnOk P w K mg base CX0 k f fd ps sp0)
    (len : ∀ m us Q Z, sp m us Q Z → us.length = ps.length)
    (h : ∀ (H : Hp) (vs : List V) (m : Mo) (us : List U) (Qd : U → Prop) (Zd : XQ) (Q : VK) (E : XK), invM m H → RelL K m H vs us → sp m us Qd Zd → Cont K m H Qd Q → sp0 vs H Q E) : Fd P w K mg base k f fd ps sp :=
  ⟨len, fun A outer s H args xs vs m us Qd Zd Q E hr hg e0 hb r iv rl hsp c cx => codeAny_mono (F.run A outer s H args xs vs Q E hr e0 hb r (h H vs m us Qd Zd Q E iv rl hsp c)) fun rr s' q => by
    cases rr with
    | error e => exact False.elim q
    | ok fl =>
      cases fl with
      | ret u => exact q
      | next => exact q
      | brk => exact q
      | cont => exact q⟩
def startU (N : List Str) (us : List U) : Env := us.map some ++ List.replicate (N.length - us.length) none
theorem relS_start {K : PySem.W.Frag} {m : Mo} {H : Hp} {N : List Str} {vs : List V} {us : List U} (r : RelL K m H vs us) : RelS K m H (L2.start N vs) (startU N us) := by
  refine ⟨by unfold L2.start startU; simp [RelL.len r], fun i u e => ?_⟩
  unfold startU at e
  unfold L2.start
  by_cases lt : i < us.length
  · rw [List.getElem?_append_left (by simpa using lt)] at e
    rw [List.getElem?_append_left (by rw [List.length_map, RelL.len r]; exact lt)]
    rw [List.getElem?_map] at e ⊢
    cases q : us[i]? with
    | none =>
      rw [q] at e
      cases e
    | some t =>
      rw [q] at e
      have et : t = u := Option.some.inj (Option.some.inj e)
      subst et
      obtain ⟨v, h1, h2⟩ := RelL.get r q
      exact ⟨v, by rw [h1]; rfl, h2⟩
  · rw [List.getElem?_append_right (by simp; omega)] at e
    have z := List.getElem?_eq_some_iff.mp e
    obtain ⟨z1, z2⟩ := z
    rw [List.getElem_replicate] at z2
    cases z2
section
variable {P : Program} {w : World} {K : PySem.W.Frag} {mg : Str → Option Value} {base : Heap}
/-- a def by its body, its code object told -/
theorem fd_ofC {k : Nat} {f : Addr} {x qual : Str} {st : Stmt} {fd : FuncData} {N ps : List Str} {sp : SpD} (F : Fun K x qual st f fd) (S : FnScope N ps (defScope st)) (len : ∀ m us Q Z, sp m us Q Z → us.length = ps.length)
    (hbody : ∀ (cdv : Value) (A : Around) (outer : List PySem.Env) (s : Shared) (H : Hp) (E : XK) (m : Mo) (us : List U) (Qd : U → Prop) (Zd : XQ), Room k (A.deeper (envOfC qual (defScope st) s.heap.objs.size f cdv)) → (A.deeper (envOfC qual (defScope st) s.heap.objs.size f cdv)).guards = some [] →
      Takes (cxOf (L2.CX P w) P w K mg base N qual (defScope st) f cdv A outer s H E) (fun c d _ H' => E c d H') → fd.code = cdv → sp m us Qd Zd → ∃ wd, DSs (cxOf (L2.CX P w) P w K mg base N qual (defScope st) f cdv A outer s H E) (fun c d _ H' => E c d H') (defBody st) wd ∧ wd m { nx := fun _ => Qd .non, rt := Qd, ex := fun _ => Zd } (startU N us)) :
    Fd P w K mg base (k + 1) f fd ps sp := by
  obtain ⟨oc, od, kV, doc, pm, an, cdv, ct, osl, rfl, lk, hcd⟩ := F.ex
  refine ⟨len, fun A outer s H args xs vs m us Qd Zd Q E hr hg e0 hb r iv rl hsp c cx => ?_⟩
  have hl : vs.length = ps.length := by
    rw [RelL.len rl]
    exact len _ _ _ _ hsp
  have KX : K.In s.heap := e0.mod.kin.keeps fun b o e => (e0.bs b o e).1
  have lim : s.heap.NoLimit := e0.mod.nolimit.keeps fun b o e => (e0.bs b o e).1
  have kinds : ∀ y ∈ ps.zip xs, (defScope st).names.lookup y.1 = some .local ∨
      ((defScope st).names.lookup y.1 = some .cell ∧ ((cellsFrom (s.heap.objs.size + 1) (defScope st).names []).lookup y.1).isSome = true) := fun ⟨n, v⟩ hy => by
    rcases S.par n (List.of_mem_zip hy).1 with q | q
    · exact .inl q
    · exact .inr ⟨q, PySem.W.cellsFrom_some _ _ _ (.inl q)⟩
  refine codeAny_call_function hr.depth (KX _ _ lk) rfl S.co S.gen rfl (PySem.W.codeRec_of KX hcd) (hb _ _ _ _ ?_)
  refine wpAny_newFunctionEnv_cells S.kind kinds fun env he s1 ic => ?_
  subst he
  refine ⟨lim.keeps ic.toInCall.keep, codeAny_func ?_⟩
  obtain ⟨t, ht, hq⟩ := hbody cdv A outer s H E m us Qd Zd (hr.deeper _) hg (takes_of rfl rfl rfl rfl) rfl hsp
  have I : Inv (cxOf (L2.CX P w) P w K mg base N qual (defScope st) f cdv A outer s H E) [] (L2.start N vs) H s1 := inv_start S hr.hd e0 hl r ic
  have wish : tS K (fun c d _ H' => E c d H') t { nx := fun _ H' => Q .non H', rt := Q } (L2.start N vs) H := ⟨m, startU N us, _, iv, relS_start rl, hq,
    ⟨fun ρ σ H' q s' i' r' => c .non .non H' q s' i' .non, c, fun ρ σ H' s' r' => cx.step s', fun _ _ _ q => q.elim, fun _ _ _ q => q.elim⟩⟩
  refine wpAny_mono (ht.run [] s1 (L2.start N vs) H _ I wish) (fun fl s' hs => ?_) fun e s' hs => hs
  have out : ∀ {σ' : L2.St} {H' : Hp} {v : V} {u : Value}, Inv (cxOf (L2.CX P w) P w K mg base N qual (defScope st) f cdv A outer s H E) [] σ' H' s' → RelV v u → Q v H' → CE outer P w H s Q u s' :=
    fun {σ' H' v u} J rv q => ⟨v, H', J.os, J.bare, J.base, J.hok, rv, q⟩
  cases fl with
  | ret u =>
    obtain ⟨v, σ', H', J, rv, q⟩ := hs
    exact out J rv q
  | next =>
    obtain ⟨σ', H', J, q⟩ := hs
    exact out (v := V.non) (u := Value.none) J rfl q
  | brk =>
    obtain ⟨_, _, _, q⟩ := hs
    exact q.elim
  | cont =>
    obtain ⟨_, _, _, q⟩ := hs
    exact q.elim
/-- a def by its body -/
theorem fd_of {k : Nat} {f : Addr} {x qual : Str} {st : Stmt} {fd : FuncData} {N ps : List Str} {sp : SpD} (F : Fun K x qual st f fd) (S : FnScope N ps (defScope st)) (len : ∀ m us Q Z, sp m us Q Z → us.length = ps.length)
    (hbody : ∀ (cdv : Value) (A : Around) (outer : List PySem.Env) (s : Shared) (H : Hp) (E : XK) (m : Mo) (us : List U) (Qd : U → Prop) (Zd : XQ), Room k (A.deeper (envOfC qual (defScope st) s.heap.objs.size f cdv)) → (A.deeper (envOfC qual (defScope st) s.heap.objs.size f cdv)).guards = some [] →
      Takes (cxOf (L2.CX P w) P w K mg base N qual (defScope st) f cdv A outer s H E) (fun c d _ H' => E c d H') → sp m us Qd Zd → ∃ wd, DSs (cxOf (L2.CX P w) P w K mg base N qual (defScope st) f cdv A outer s H E) (fun c d _ H' => E c d H') (defBody st) wd ∧ wd m { nx := fun _ => Qd .non, rt := Qd, ex := fun _ => Zd } (startU N us)) :
    Fd P w K mg base (k + 1) f fd ps sp :=
  fd_ofC F S len fun cdv A outer s H E m us Qd Zd hr hG tk _ h => hbody cdv A outer s H E m us Qd Zd hr hG tk h
theorem Fd.mono {j k : Nat} {f : Addr} {fd : FuncData} {ps : List Str} {sp : SpD} (F : Fd P w K mg base j f fd ps sp) (h : j ≤ k) : Fd P w K mg base k f fd ps sp := ⟨F.len, fun A outer s H args xs vs m us Qd Zd Q E hr => F.run A outer s H args xs vs m us Qd Zd Q E (hr.mono h)⟩
theorem Fd.imp {k : Nat} {f : Addr} {fd : FuncData} {ps : List Str} {sp sp' : SpD} (F : Fd P w K mg base k f fd ps sp) (h : ∀ m us Q Z, sp' m us Q Z → sp m us Q Z) : Fd P w K mg base k f fd ps sp' :=
  ⟨fun m us Q Z q => F.len m us Q Z (h _ _ _ _ q), fun A outer s H args xs vs m us Qd Zd Q E hr hg e0 hb r iv rl hsp => F.run A outer s H args xs vs m us Qd Zd Q E hr hg e0 hb r iv rl (h _ _ _ _ hsp)⟩
end
section
variable {m : Mo} {X : Cx} {W : WX} {H : Hp}
/-! ### calls -/
theorem run_fd {pins : List (Addr × Obj)} {σ : L2.St} {s : Shared} {Q : VK} {k : Nat} {f : Addr} {fd : FuncData} {ps : List Str} {sp : SpD} {args : Args} {xs : List Value} {vs : List V} {us : List U} {Qd : U → Prop} {Zd : XQ}
    (F : Fd X.prog X.w X.K X.mg X.base k f fd ps sp) (hr : Room k X.A) (hg : X.A.guards = some []) (tk : Takes X W) (hb : BindsTo s fd args (ps.zip xs)) (I : Inv X pins σ H s) (r : Vals vs xs) (iv : invM m H) (rl : RelL X.K m H vs us) (h : sp m us Qd Zd)
    (c : Cont X.K m H Qd Q) (cx : ContE X.K m H Zd fun c d H' => W c d σ H') : wpAny (model X.prog X.w) X.A (call (.ref f) args.pos args.kw) (EP X pins σ Q) X.xe s := by
  refine wpAny_call (codeAny_mono (F.run X.A X.stack s H args xs vs m us Qd Zd Q (fun c d H' => W c d σ H') hr hg I.env0 hb r iv rl h c cx) fun rr s' hq => ?_)
  cases rr with
  | error e => exact tk e s' (XE.of_call I (fun _ _ _ z => z) hq)
  | ok fl =>
    cases fl with
    | ret u => exact I.after hq
    | next => exact False.elim hq
    | brk => exact False.elim hq
    | cont => exact False.elim hq
def dCall (sp : SpD) (w : WA) : WE := fun m ρ Q Z => w m ρ (fun us => sp m us Q Z) Z
theorem de_call {k : Nat} {f : Addr} {fd : FuncData} {ps : List Str} {sp : SpD} {x : Str} {p pos : Pos} {e : Expr} {es : List Expr} {w : WA} (F : Fd X.prog X.w X.K X.mg X.base k f fd ps sp) (hr : Room k X.A) (hG : X.A.guards = some []) (tk : Takes X W) (hg : Gl X x) (hm : X.mg x = some (.ref f))
    (hk : PySem.W.keepIn X.K (.ref f) = true) (hb : Binds X.K fd ps []) (ha : DA X W (e :: es) w) (hdb : (x == ("__debug__" : Str)) = false := by decide) (he : starEach (e :: es) X.env = (false, eval e X.env) :: starEach es X.env := by rfl)
    (hpl : (backTo pos (starEach es X.env)).any (·.1) = false := by rfl) : DE X W (.Call (.Name x p) (e :: es) [] pos) (dCall sp w) := by
  refine ⟨fun pins s σ H Q' I ⟨m, ρ, Q, Z, ge, q, c⟩ => ?_⟩
  refine wpAny_Call_Name_kw (ld_glob I hg hm ?_ hdb)
  refine PySem.W.callWith_K (h₀ := X.base) I.ok.mod.kin hk (thn (ha.run pos pins s σ H (fun vs H1 => ∃ us, sp m us Q Z ∧ stpM m H H1 ∧ invM m H1 ∧ RelL X.K m H1 vs us) I ⟨m, ρ, _, Z, ge, q, fun us vs H1 q1 s1 i1 r1 => ⟨us, q1, s1, i1, r1⟩⟩) fun xs s1 ⟨vs, H1, I1, r, us, hsp, st, iv, rl⟩ => ⟨I1.kIn, ?_⟩) he hpl
  have hl : (xs ++ []).length = ps.length := by
    rw [List.append_nil, ← r.length, RelL.len rl]
    exact F.len _ _ _ _ hsp
  have b := hb s1 xs I1.kIn hl
  rw [List.append_nil] at b
  exact run_fd (args := ⟨xs, []⟩) F hr hG tk b I1 r iv rl hsp (c.step st) (ge.cx.step st)

/-- f(k = v, ..), keywords alone: pm tells the parameters' places among them -/
structure KBd (K : PySem.W.Frag) (fd : FuncData) (ps ks : List Str) (n : Nat) (pm : {α : Type} → List α → List α) : Prop where
  to : ∀ (s : Shared) (ws : List Value), K.In s.heap → ws.length = n → BindsTo s fd ⟨[], ks.zip ws⟩ (ps.zip (pm ws))
  rel : ∀ {vs : List V} {ws : List Value}, vs.length = n → Vals vs ws → Vals (pm vs) (pm ws)
  relL : ∀ {m : Mo} {H : Hp} {vs : List V} {us : List U}, vs.length = n → RelL K m H vs us → RelL K m H (pm vs) (pm us)
abbrev DK (X : Cx) (W : WX) (ks : List Keyword) (w : WA) : Prop := PK X ks (tA X.K W w)
theorem PK.weak {e : List Keyword} {t t' : TA} (h : PK X e t) (k : ∀ σ H Q, t' σ H Q → t σ H Q) : PK X e t' := ⟨fun pos pins s σ H Q I q => h.run pos pins s σ H Q I (k _ _ _ q)⟩
theorem dk_nil : DK X W [] dNil := PK.weak pk_nil fun σ H Q' ⟨m, ρ, Q, Z, ge, q, c⟩ => c [] [] H q stp_refl ge.iv .nil
theorem dk_cons {nm : Option Str} {e : Expr} {kp : Pos} {kws : List Keyword} {w : WE} {r : WA} (ha : DE X W e w) (hr : DK X W kws r) : DK X W (⟨nm, e, kp⟩ :: kws) (dCons w r) := PK.weak (pk_cons ha hr) fun σ H Q' ⟨m, ρ, Q, Z, ge, q, c⟩ =>
  ⟨m, ρ, _, Z, ge, q, fun x v H1 q1 s1 i1 r1 => ⟨m, ρ, _, Z, ge.step s1 i1, q1, fun xs vs H2 q2 s2 i2 r2 => c _ _ H2 q2 (stp_trans s1 s2) i2 (.cons (Rel.step s2 r1) r2)⟩⟩
def dCallK (n : Nat) (pm : List U → List U) (sp : SpD) (w : WA) : WE := fun m ρ Q Z => w m ρ (fun us => us.length = n ∧ sp m (pm us) Q Z) Z
theorem de_callK {k n : Nat} {f : Addr} {fd : FuncData} {ps ks : List Str} {pm : {α : Type} → List α → List α} {sp : SpD} {x : Str} {p pos : Pos} {kws : List Keyword} {w : WA} (F : Fd X.prog X.w X.K X.mg X.base k f fd ps sp) (hr : Room k X.A) (hG : X.A.guards = some []) (tk : Takes X W) (hg : Gl X x) (hm : X.mg x = some (.ref f))
    (hk : PySem.W.keepIn X.K (.ref f) = true) (hb : KBd X.K fd ps ks n pm) (ha : DK X W kws w) (hall : (backToKw pos (keywordEach kws X.env)).all (·.1.isSome) = true := by rfl) (hks : (backToKw pos (keywordEach kws X.env)).filterMap (·.1) = ks := by rfl)
    (hdb : (x == ("__debug__" : Str)) = false := by decide) (hpl : ((backTo pos (starEach [] X.env)).any (·.1) || (backToKw pos (keywordEach kws X.env)).any (·.1.isNone)) = false := by rfl) :
    DE X W (.Call (.Name x p) [] kws pos) (dCallK n pm sp w) := by
  refine ⟨fun pins s σ H Q' I ⟨m, ρ, Q, Z, ge, q, c⟩ => ?_⟩
  refine wpAny_Call_Name_kw (ld_glob I hg hm ?_ hdb)
  refine PySem.W.callWith_KW0 (h₀ := X.base) I.ok.mod.kin hk hall (thn (ha.run pos pins s σ H (fun vs H1 => ∃ us, (us.length = n ∧ sp m (pm us) Q Z) ∧ stpM m H H1 ∧ invM m H1 ∧ RelL X.K m H1 vs us) I ⟨m, ρ, _, Z, ge, q, fun us vs H1 q1 s1 i1 r1 => ⟨us, q1, s1, i1, r1⟩⟩) fun xs s1 ⟨vs, H1, I1, r, us, ⟨hn, hsp⟩, st, iv, rl⟩ => ⟨I1.kIn, ?_⟩) hpl
  rw [hks]
  have nv : vs.length = n := (RelL.len rl).trans hn
  have nx : xs.length = n := r.length.symm.trans nv
  exact run_fd (args := ⟨[], ks.zip xs⟩) F hr hG tk (hb.to s1 xs I1.kIn nx) I1 (hb.rel nv r) iv (hb.relL nv rl) hsp (c.step st) (ge.cx.step st)
/-! ### raise -/
def dRaise (C : Addr) (w : WE) : WS := fun m D ρ => w m ρ (fun u => D.ex ρ C u) (D.ex ρ)
theorem ds_raise {C fI : Addr} {k : Nat} {x : Str} {p pos pos' : Pos} {e : Expr} {w : WE} (T : ExF X.K C fI) (hc : X.calm = true) (tk : Takes X W) (hr : Room k X.A) (hg : Gl X x) (hm : X.mg x = some (.ref C)) (ha : DE X W e w)
    (hdb : (x == ("__debug__" : Str)) = false := by decide) (he : starEach (e :: []) X.env = (false, eval e X.env) :: starEach [] X.env := by rfl)
    (hpl : (backTo pos (starEach [] X.env)).any (·.1) = false := by rfl) : DS X W (.Raise (some (.Call (.Name x p) [e] [] pos)) none pos') (dRaise C w) :=
  PS.weak (ps_raise hc tk (pmk_exv T hr hg hm (pa_cons ha pa_nil he) hdb he hpl)) fun D σ H ⟨m, ρ, DD, iv, rs, q, c⟩ =>
    ⟨m, ρ, _, _, c.ge iv rs, q, fun u v H' q' s' i' r' => ⟨v, rfl, fun d hd => (c.ge iv rs).cx C u v d _ q' (stp_trans s' (stp_new hd)) (inv_new i' hd) (Rel.step (stp_new hd) r') (ok_new i' hd) upd_same⟩⟩
/-! ### repr -/
mutual
theorem no_dict : ∀ u : U, isD u = true → (toP u).hasDict = false
  | .non, _ => rfl
  | .bl _, _ => rfl
  | .int _, _ => rfl
  | .str _, _ => rfl
  | .raw _, _ => rfl
  | .dct _ _, h => nomatch h
  | .dpt _ _, h => nomatch h
  | .tup us, h => no_dicts us h
  | .lst us, h => no_dicts us h
theorem no_dicts : ∀ us : List U, isDs us = true → PyData.hasDictAll (toPs us) = false
  | [], _ => rfl
  | u :: us, h => by
    obtain ⟨h1, h2⟩ := Bool.and_eq_true_iff.mp (show (isD u && isDs us) = true from h)
    show (PyData.hasDict (toP u) || PyData.hasDictAll (toPs us)) = false
    rw [no_dict u h1, no_dicts us h2]
    rfl
end
def rRp (K : PySem.W.Frag) : List V → Hp → VK → Prop := fun xs H Q => ∃ a d, xs = [.ref a] ∧ Dp K H (.ref a) d ∧ d.showable = true ∧ d.hasDict = false ∧ d.depth ≤ 60 ∧ d.shown.length ≤ sizeLine ∧ Q (.str d.shown) H
theorem call_rp (hG : X.A.guards = some []) (hu : X.A.units + 64 < cLine) : CallR X (.builtin "repr") (rRp X.K) := by
  intro pins s σ H xs us Q I r h
  obtain ⟨a, d, rfl, hd, sh, nd, dp, hz, q⟩ := h
  obtain ⟨u, rfl, ru⟩ := vals1 r
  obtain ⟨as, rr⟩ := Dp.reads I d (.ref a) u hd ru
  obtain rfl : u = Value.ref a := ru
  refine repr_of_reads' (h₀ := s.heap) rr sh (fun z => by rw [nd] at z; cases z) hG (by omega) (fun _ _ e => e) (fun h' t tk hk => ?_) hz
  exact ⟨.str _, H, I.kept hk, ⟨_, rfl⟩, q⟩
/-- what repr can tell -/
def rpOk (u : U) : Prop := isD u = true ∧ (toP u).showable = true ∧ (toP u).depth ≤ 60 ∧ (toP u).shown.length ≤ sizeLine
def fRp : WF := fun us Q => ∃ u, us = [u] ∧ ((∃ ts, u = .tup ts) ∨ ∃ ts, u = .lst ts) ∧ rpOk u ∧ Q (.str (toP u).shown)
theorem cal_rp {K : PySem.W.Frag} : CalD K (rRp K) fRp := fun m vs us H Q Q' iv r ⟨u, e, hu, ⟨h1, h2, h3, h4⟩, q⟩ c => by
  subst e
  obtain ⟨v, rfl, a⟩ := rl1 r
  have hd := Rel.dp a h1
  rcases hu with ⟨ts, rfl⟩ | ⟨ts, rfl⟩
  · obtain ⟨p, ys, rfl, _⟩ := rel_tup a
    exact ⟨p, _, rfl, hd, h2, no_dict _ h1, h3, h4, c.here iv q (.str _)⟩
  · obtain ⟨p, ys, rfl, _⟩ := rel_lst a
    exact ⟨p, _, rfl, hd, h2, no_dict _ h1, h3, h4, c.here iv q (.str _)⟩
end
end DL
set_option Elab.async false
set_option linter.all false
set_option maxRecDepth 100000
set_option maxHeartbeats 4000000
/-! the data layer: loops, comprehensions -/
namespace DL
open PySem PySem.Spec PyProof.Rows L2 XR RZ RT
section
variable {K : PySem.W.Frag} {m : Mo} {H H' : Hp} {X : Cx} {W : WX}
/-- the iterator hands out these, one by one -/
structure Walks (K : PySem.W.Frag) (m : Mo) (J : It) (us : List U) (H1 : Hp) : Prop where
  go : ∀ i H, i < us.length → stpM m H1 H → invM m H → J.go i H
  stop : ∀ H, stpM m H1 H → invM m H → J.stop us.length H
  yld : ∀ i H x H', i < us.length → stpM m H1 H → invM m H → J.yld i H x H' → ∃ u, us[i]? = some u ∧ stpM m H H' ∧ invM m H' ∧ Rel K m H' x u
def addB (m : Mo) (B : List Addr) : Mo := { m with ban := B ++ m.ban }
theorem ok_addB {B : List Addr} {a : Addr} {o : HO} (k : okA m a) (h : H a = some o) (hB : ∀ b ∈ B, H b = none) : okA (addB m B) a := ⟨k.1, fun z => by
  rcases List.mem_append.mp z with z | z
  · rw [hB a z] at h
    cases h
  · exact k.2 z⟩
theorem TupR.addB {B : List Addr} {a : Addr} {vs : List V} (t : TupR K m H a vs) (hB : ∀ b ∈ B, H b = none) : TupR K (addB m B) H a vs := by
  rcases t with ⟨k, h | ⟨o, h⟩⟩ | h
  · exact .inl ⟨ok_addB k h hB, .inl h⟩
  · exact .inl ⟨ok_addB k h hB, .inr ⟨o, h⟩⟩
  · exact .inr h
mutual
theorem Rel.addB {B : List Addr} (hB : ∀ b ∈ B, H b = none) : ∀ {v : V} {u : U}, Rel K m H v u → Rel K (addB m B) H v u
  | _, _, .non => .non
  | _, _, .bl b => .bl b
  | _, _, .int i => .int i
  | _, _, .str x => .str x
  | _, _, .tup h r => .tup (h.addB hB) (RelL.addB hB r)
  | _, _, .lst k h r => .lst (ok_addB k h hB) h (RelL.addB hB r)
  | _, _, .dct k h l r => .dct (ok_addB k h hB) h l (RelL.addB hB r)
  | _, _, .dpt k h l r => .dpt (ok_addB k h hB) h l (RelL.addB hB r)
  | _, _, .raw v => .raw v
theorem RelL.addB {B : List Addr} (hB : ∀ b ∈ B, H b = none) : ∀ {vs : List V} {us : List U}, RelL K m H vs us → RelL K (addB m B) H vs us
  | _, _, .nil => .nil
  | _, _, .cons h r => .cons (Rel.addB hB h) (RelL.addB hB r)
end
theorem ok_cut {B : List Addr} {a : Addr} (k : okA (addB m B) a) : okA m a := ⟨k.1, fun z => k.2 (List.mem_append_right _ z)⟩
theorem TupR.cut {B : List Addr} {a : Addr} {vs : List V} (t : TupR K (DL.addB m B) H a vs) : TupR K m H a vs := by
  rcases t with ⟨k, h⟩ | h
  · exact .inl ⟨ok_cut k, h⟩
  · exact .inr h
mutual
theorem Rel.cut {B : List Addr} : ∀ {v : V} {u : U}, Rel K (DL.addB m B) H v u → Rel K m H v u
  | _, _, .non => .non
  | _, _, .bl b => .bl b
  | _, _, .int i => .int i
  | _, _, .str x => .str x
  | _, _, .tup h r => .tup h.cut (RelL.cut r)
  | _, _, .lst k h r => .lst (ok_cut k) h (RelL.cut r)
  | _, _, .dct k h l r => .dct (ok_cut k) h l (RelL.cut r)
  | _, _, .dpt k h l r => .dpt (ok_cut k) h l (RelL.cut r)
  | _, _, .raw v => .raw v
theorem RelL.cut {B : List Addr} : ∀ {vs : List V} {us : List U}, RelL K (DL.addB m B) H vs us → RelL K m H vs us
  | _, _, .nil => .nil
  | _, _, .cons h r => .cons (Rel.cut h) (RelL.cut r)
end
abbrev WI := Mo → Env → (List U → Prop) → XQ → Prop
def tI (K : PySem.W.Frag) (W : WX) (w : WI) : TI := fun σ H R => ∃ m ρ Q Z, GE K m W σ H ρ Z ∧ w m ρ Q Z ∧ ∀ us J H1, Q us → stpM m H H1 → invM m H1 → (∀ B, (∀ b ∈ B, H1 b = none) → Walks K (addB m B) J us H1) → R J H1
abbrev DI (X : Cx) (W : WX) (tg e : Expr) (w : WI) : Prop := PI X tg e (tI X.K W w)
theorem PI.weak {tg e : Expr} {t t' : TI} (h : PI X tg e t) (k : ∀ σ H R, t' σ H R → t σ H R) : PI X tg e t' := ⟨fun pins s σ H R I q => h.run pins s σ H R I (k _ _ _ q)⟩
theorem walks_list {a : Addr} {vs : List V} {us : List U} (k : okA m a) (h : H a = some (.lst vs)) (r : RelL K m H vs us) : Walks K m (Itl K a) us H := by
  have hl := RelL.len r
  have at_ : ∀ H2, stpM m H H2 → SqL K H2 a vs := fun H2 s => .inl (.inl (s _ _ h k.1))
  refine ⟨fun i H2 lt s _ => ⟨vs, vs[i]'(by omega), at_ H2 s, by simp⟩, fun H2 s _ => ⟨vs, at_ H2 s, by omega⟩, fun i H2 x H3 lt s iv y => ?_⟩
  obtain ⟨rfl, y⟩ := y
  obtain ⟨u, e, ru⟩ := RelL.getV (RelL.step s r) (y vs (at_ _ s))
  exact ⟨u, e, stp_refl, iv, ru⟩
theorem walks_tup {a : Addr} {vs : List V} {us : List U} (k : TupR K m H a vs) (r : RelL K m H vs us) : Walks K m (Itt K a) us H := by
  have hl := RelL.len r
  have at_ : ∀ H2, stpM m H H2 → SqT K H2 a vs := fun H2 s => (TupR.step s k).sq
  refine ⟨fun i H2 lt s _ => ⟨vs, vs[i]'(by omega), at_ H2 s, by simp⟩, fun H2 s _ => ⟨vs, at_ H2 s, by omega⟩, fun i H2 x H3 lt s iv y => ?_⟩
  obtain ⟨rfl, y⟩ := y
  obtain ⟨u, e, ru⟩ := RelL.getV (RelL.step s r) (y vs (at_ _ s))
  exact ⟨u, e, stp_refl, iv, ru⟩
def rngU (lo : Int) (n : Nat) : List U := (List.range n).map fun (i : Nat) => U.int (lo + (i : Int))
theorem walks_range {lo : Int} {n : Nat} : Walks K m (Itr lo n) (rngU lo n) H := by
  have hl : (rngU lo n).length = n := by simp [rngU]
  refine ⟨fun i H2 lt s _ => by rw [hl] at lt; exact lt, fun H2 s _ => by rw [hl]; exact Nat.le_refl _, fun i H2 x H3 lt s iv y => ?_⟩
  obtain ⟨rfl, rfl⟩ := y
  rw [hl] at lt
  exact ⟨.int (lo + i), by simp [rngU, lt], stp_refl, iv, .int _⟩
def dItL (w : WE) : WI := fun m ρ Q Z => w m ρ (fun u => ∃ us, u = .lst us ∧ Q us) Z
def dItT (w : WE) : WI := fun m ρ Q Z => w m ρ (fun u => ∃ us, u = .tup us ∧ Q us) Z
variable {tg e : Expr} {w : WE}
theorem di_lst (h : DE X W e w) : DI X W tg e (dItL w) := PI.weak (pi_list h) fun σ H R ⟨m, ρ, Q, Z, ge, q, c⟩ => ⟨m, ρ, _, Z, ge, q, fun u v H1 ⟨us, eu, q1⟩ s1 i1 r1 => by
  subst eu
  obtain ⟨a, vs, rfl, k, h, l⟩ := rel_lst r1
  exact ⟨a, rfl, ⟨vs, .inl (.inl h)⟩, c us _ H1 q1 s1 i1 (fun B hB => walks_list (ok_addB k h hB) h (RelL.addB hB l))⟩⟩
theorem di_tup (h : DE X W e w) : DI X W tg e (dItT w) := PI.weak (pi_tup h) fun σ H R ⟨m, ρ, Q, Z, ge, q, c⟩ => ⟨m, ρ, _, Z, ge, q, fun u v H1 ⟨us, eu, q1⟩ s1 i1 r1 => by
  subst eu
  obtain ⟨a, vs, rfl, k, h, l⟩ := rel_tup r1
  exact ⟨a, rfl, ⟨vs, h⟩, c us _ H1 q1 s1 i1 (fun B hB => walks_tup (k.addB hB) (RelL.addB hB l))⟩⟩
def dItR1 (w : WA) : WI := fun m ρ Q Z => w m ρ (fun us => ∃ j : Int, us = [.int j] ∧ -(2 ^ 62) ≤ j ∧ j < 2 ^ 62 ∧ Q (rngU 0 j.toNat)) Z
def dItR2 (w : WA) : WI := fun m ρ Q Z => w m ρ (fun us => ∃ i j : Int, us = [.int i, .int j] ∧ (-(2 ^ 62) ≤ i ∧ i < 2 ^ 62 ∧ -(2 ^ 62) ≤ j ∧ j < 2 ^ 62) ∧ Q (rngU i (j - i).toNat)) Z
theorem di_range1 {a : Expr} {wa : WA} (h : PI X tg e (iRng1 (tA X.K W wa))) : DI X W tg e (dItR1 wa) := PI.weak h fun σ H R ⟨m, ρ, Q, Z, ge, q, c⟩ => ⟨m, ρ, _, Z, ge, q, fun us vs H1 ⟨j, ej, b1, b2, q1⟩ s1 i1 r1 => by
  subst ej
  obtain ⟨v, rfl, a⟩ := rl1 r1
  exact ⟨j, by rw [rel_int a], b1, b2, c _ _ H1 q1 s1 i1 (fun B hB => walks_range)⟩⟩
theorem di_range2 {a : Expr} {wa : WA} (h : PI X tg e (iRng2 (tA X.K W wa))) : DI X W tg e (dItR2 wa) := PI.weak h fun σ H R ⟨m, ρ, Q, Z, ge, q, c⟩ => ⟨m, ρ, _, Z, ge, q, fun us vs H1 ⟨i, j, ej, b, q1⟩ s1 i1 r1 => by
  subst ej
  obtain ⟨v, x, rfl, ra, rb⟩ := rl2 r1
  exact ⟨i, j, by rw [rel_int ra, rel_int rb], b, c _ _ H1 q1 s1 i1 (fun B hB => walks_range)⟩⟩
/-- enumerate -/
def enU : Nat → List U → List U
  | _, [] => []
  | i, u :: us => .tup [.int (i : Int), u] :: enU (i + 1) us
theorem enU_len : ∀ (us : List U) (i : Nat), (enU i us).length = us.length
  | [], _ => rfl
  | _ :: us, i => congrArg (· + 1) (enU_len us (i + 1))
theorem enU_get : ∀ (us : List U) (i j : Nat) (u : U), us[j]? = some u → (enU i us)[j]? = some (.tup [.int ((i + j : Nat) : Int), u])
  | [], _, j, _, h => by simp at h
  | x :: us, i, 0, u, h => by
    simp at h
    subst h
    rfl
  | x :: us, i, j + 1, u, h => by
    have z := enU_get us (i + 1) j u (by simpa using h)
    show (enU (i + 1) us)[j]? = _
    rw [z, show i + 1 + j = i + (j + 1) from by omega]
theorem new_pair {p : Addr} {x y : V} {a b : U} (iv : invM m H) (hp : H p = none) (ra : Rel K m H x a) (rb : Rel K m H y b) : Rel K m (upd H p (.tup [x, y])) (.ref p) (.tup [a, b]) := new_tup iv hp (.cons ra (.cons rb .nil))
theorem walks_enT {a : Addr} {vs : List V} {us : List U} (k : TupR K m H a vs) (r : RelL K m H vs us) : Walks K m (IteT K a) (enU 0 us) H := by
  have hl := RelL.len r
  have at_ : ∀ H2, stpM m H H2 → SqT K H2 a vs := fun H2 s => (TupR.step s k).sq
  refine ⟨fun i H2 lt s _ => by rw [enU_len] at lt; exact ⟨vs, vs[i]'(by omega), at_ H2 s, by simp⟩, fun H2 s _ => by rw [enU_len]; exact ⟨vs, at_ H2 s, by omega⟩, fun i H2 x H3 lt s iv y => ?_⟩
  obtain ⟨T, y1, rfl, hT, rfl, y⟩ := y
  obtain ⟨u, e, ru⟩ := RelL.getV (RelL.step s r) (y vs (at_ _ s))
  exact ⟨_, by rw [enU_get us 0 i u e, Nat.zero_add], stp_new hT, inv_new iv hT, new_pair iv hT (.int _) ru⟩
theorem walks_enL {a : Addr} {vs : List V} {us : List U} (k : okA m a) (h : H a = some (.lst vs)) (r : RelL K m H vs us) : Walks K m (Ite K a) (enU 0 us) H := by
  have hl := RelL.len r
  have at_ : ∀ H2, stpM m H H2 → SqL K H2 a vs := fun H2 s => .inl (.inl (s _ _ h k.1))
  refine ⟨fun i H2 lt s _ => by rw [enU_len] at lt; exact ⟨vs, vs[i]'(by omega), at_ H2 s, by simp⟩, fun H2 s _ => by rw [enU_len]; exact ⟨vs, at_ H2 s, by omega⟩, fun i H2 x H3 lt s iv y => ?_⟩
  obtain ⟨T, y1, rfl, hT, rfl, y⟩ := y
  obtain ⟨u, e, ru⟩ := RelL.getV (RelL.step s r) (y vs (at_ _ s))
  exact ⟨_, by rw [enU_get us 0 i u e, Nat.zero_add], stp_new hT, inv_new iv hT, new_pair iv hT (.int _) ru⟩
def dItE (w : WA) : WI := fun m ρ Q Z => w m ρ (fun us => ∃ ts, (us = [.tup ts] ∨ us = [.lst ts]) ∧ Q (enU 0 ts)) Z
theorem di_enum {wa : WA} (h : PI X tg e (iEnumX X.K (tA X.K W wa))) : DI X W tg e (dItE wa) := PI.weak h fun σ H R ⟨m, ρ, Q, Z, ge, q, c⟩ => ⟨m, ρ, _, Z, ge, q, fun us vs H1 ⟨ts, ej, q1⟩ s1 i1 r1 => by
  rcases ej with rfl | rfl
  · obtain ⟨v, rfl, a⟩ := rl1 r1
    obtain ⟨p, ys, rfl, k, h, l⟩ := rel_tup a
    exact ⟨p, ys, rfl, .inr ⟨h, c _ _ H1 q1 s1 i1 (fun B hB => walks_enT (k.addB hB) (RelL.addB hB l))⟩⟩
  · obtain ⟨v, rfl, a⟩ := rl1 r1
    obtain ⟨p, ys, rfl, k, h, l⟩ := rel_lst a
    exact ⟨p, ys, rfl, .inl ⟨.inl (.inl h), c _ _ H1 q1 s1 i1 (fun B hB => walks_enL (ok_addB k h hB) h (RelL.addB hB l))⟩⟩⟩
/-- zip of two -/
def zpU : List U → List U → List U
  | x :: xs, y :: ys => .tup [x, y] :: zpU xs ys
  | _, _ => []
theorem zpU_len : ∀ (xs ys : List U), (zpU xs ys).length = min xs.length ys.length
  | [], ys => by simp [zpU]
  | _ :: _, [] => by simp [zpU]
  | _ :: xs, _ :: ys => by simp [zpU, zpU_len xs ys]
theorem zpU_get : ∀ (xs ys : List U) (j : Nat) (x y : U), xs[j]? = some x → ys[j]? = some y → (zpU xs ys)[j]? = some (.tup [x, y])
  | [], _, j, _, _, h, _ => by simp at h
  | _ :: _, [], j, _, _, _, h => by simp at h
  | a :: xs, b :: ys, 0, x, y, h, g => by
    simp at h g
    subst h g
    rfl
  | a :: xs, b :: ys, j + 1, x, y, h, g => zpU_get xs ys j x y (by simpa using h) (by simpa using g)
theorem walks_zpT {a b : Addr} {vs ws : List V} {us ts : List U} (k : TupR K m H a vs) (r : RelL K m H vs us) (k2 : TupR K m H b ws) (r2 : RelL K m H ws ts) : Walks K m (ItzT K a b) (zpU us ts) H := by
  have hl := RelL.len r
  have hl2 := RelL.len r2
  have at_ : ∀ H2, stpM m H H2 → SqT K H2 a vs := fun H2 s => (TupR.step s k).sq
  have at2 : ∀ H2, stpM m H H2 → SqT K H2 b ws := fun H2 s => (TupR.step s k2).sq
  refine ⟨fun i H2 lt s _ => by rw [zpU_len] at lt; exact ⟨vs, ws, vs[i]'(by omega), ws[i]'(by omega), at_ H2 s, at2 H2 s, by simp, by simp⟩, fun H2 s _ => by rw [zpU_len]; exact ⟨vs, ws, at_ H2 s, at2 H2 s, by omega⟩, fun i H2 x H3 lt s iv y => ?_⟩
  obtain ⟨T, y1, y2, rfl, hT, rfl, y, z⟩ := y
  obtain ⟨u, e, ru⟩ := RelL.getV (RelL.step s r) (y vs (at_ _ s))
  obtain ⟨t, e2, rt⟩ := RelL.getV (RelL.step s r2) (z ws (at2 _ s))
  exact ⟨_, zpU_get us ts i u t e e2, stp_new hT, inv_new iv hT, new_pair iv hT ru rt⟩
theorem walks_zpL {a b : Addr} {vs ws : List V} {us ts : List U} (k : okA m a) (h : H a = some (.lst vs)) (r : RelL K m H vs us) (k2 : okA m b) (h2 : H b = some (.lst ws)) (r2 : RelL K m H ws ts) : Walks K m (Itz K a b) (zpU us ts) H := by
  have hl := RelL.len r
  have hl2 := RelL.len r2
  have at_ : ∀ H2, stpM m H H2 → SqL K H2 a vs := fun H2 s => .inl (.inl (s _ _ h k.1))
  have at2 : ∀ H2, stpM m H H2 → SqL K H2 b ws := fun H2 s => .inl (.inl (s _ _ h2 k2.1))
  refine ⟨fun i H2 lt s _ => by rw [zpU_len] at lt; exact ⟨vs, ws, vs[i]'(by omega), ws[i]'(by omega), at_ H2 s, at2 H2 s, by simp, by simp⟩, fun H2 s _ => by rw [zpU_len]; exact ⟨vs, ws, at_ H2 s, at2 H2 s, by omega⟩, fun i H2 x H3 lt s iv y => ?_⟩
  obtain ⟨T, y1, y2, rfl, hT, rfl, y, z⟩ := y
  obtain ⟨u, e, ru⟩ := RelL.getV (RelL.step s r) (y vs (at_ _ s))
  obtain ⟨t, e2, rt⟩ := RelL.getV (RelL.step s r2) (z ws (at2 _ s))
  exact ⟨_, zpU_get us ts i u t e e2, stp_new hT, inv_new iv hT, new_pair iv hT ru rt⟩
def dItZ (w : WA) : WI := fun m ρ Q Z => w m ρ (fun us => ∃ ts ys, (us = [.tup ts, .tup ys] ∨ us = [.lst ts, .lst ys]) ∧ Q (zpU ts ys)) Z
theorem di_zip {wa : WA} (h : PI X tg e (iZipA X.K (tA X.K W wa))) : DI X W tg e (dItZ wa) := PI.weak h fun σ H R ⟨m, ρ, Q, Z, ge, q, c⟩ => ⟨m, ρ, _, Z, ge, q, fun us vs H1 ⟨ts, ys, ej, q1⟩ s1 i1 r1 => by
  rcases ej with rfl | rfl
  · obtain ⟨v, x, rfl, a, b⟩ := rl2 r1
    obtain ⟨p, ps, rfl, k, h, l⟩ := rel_tup a
    obtain ⟨p2, ps2, rfl, k2, h2, l2⟩ := rel_tup b
    exact ⟨p, p2, ps, ps2, rfl, .inr ⟨h, h2, c _ _ H1 q1 s1 i1 (fun B hB => walks_zpT (k.addB hB) (RelL.addB hB l) (k2.addB hB) (RelL.addB hB l2))⟩⟩
  · obtain ⟨v, x, rfl, a, b⟩ := rl2 r1
    obtain ⟨p, ps, rfl, k, h, l⟩ := rel_lst a
    obtain ⟨p2, ps2, rfl, k2, h2, l2⟩ := rel_lst b
    exact ⟨p, p2, ps, ps2, rfl, .inl ⟨.inl (.inl h), .inl (.inl h2), c _ _ H1 q1 s1 i1 (fun B hB => walks_zpL (ok_addB k h hB) h (RelL.addB hB l) (ok_addB k2 h2 hB) h2 (RelL.addB hB l2))⟩⟩⟩
/-- reversed -/
theorem walks_rvT {a : Addr} {vs : List V} {us : List U} (k : TupR K m H a vs) (r : RelL K m H vs us) : Walks K m (ItvT K a vs.length) us.reverse H := by
  have hl := RelL.len r
  have at_ : ∀ H2, stpM m H H2 → SqT K H2 a vs := fun H2 s => (TupR.step s k).sq
  refine ⟨fun i H2 lt s _ => by rw [List.length_reverse] at lt; exact ⟨by omega, vs, vs[vs.length - 1 - i]'(by omega), at_ H2 s, by simp [show vs.length - 1 - i < vs.length by omega]⟩, fun H2 s _ => by rw [List.length_reverse, hl]; exact Nat.le_refl _, fun i H2 x H3 lt s iv y => ?_⟩
  obtain ⟨rfl, y⟩ := y
  rw [List.length_reverse] at lt
  obtain ⟨u, e, ru⟩ := RelL.getV (RelL.step s r) (y vs (at_ _ s))
  exact ⟨u, by rw [List.getElem?_reverse lt, ← hl]; exact e, stp_refl, iv, ru⟩
theorem walks_rvL {a : Addr} {vs : List V} {us : List U} (k : okA m a) (h : H a = some (.lst vs)) (r : RelL K m H vs us) : Walks K m (Itv K a vs.length) us.reverse H := by
  have hl := RelL.len r
  have at_ : ∀ H2, stpM m H H2 → SqL K H2 a vs := fun H2 s => .inl (.inl (s _ _ h k.1))
  refine ⟨fun i H2 lt s _ => by rw [List.length_reverse] at lt; exact ⟨by omega, vs, vs[vs.length - 1 - i]'(by omega), at_ H2 s, by simp [show vs.length - 1 - i < vs.length by omega]⟩, fun H2 s _ => by rw [List.length_reverse, hl]; exact Nat.le_refl _, fun i H2 x H3 lt s iv y => ?_⟩
  obtain ⟨rfl, y⟩ := y
  rw [List.length_reverse] at lt
  obtain ⟨u, e, ru⟩ := RelL.getV (RelL.step s r) (y vs (at_ _ s))
  exact ⟨u, by rw [List.getElem?_reverse lt, ← hl]; exact e, stp_refl, iv, ru⟩
def dItV (w : WE) : WI := fun m ρ Q Z => w m ρ (fun u => ∃ us, (u = .tup us ∨ u = .lst us) ∧ Q us.reverse) Z
theorem di_rev (h : PI X tg e (iRevA X.K (tE X.K W w))) : DI X W tg e (dItV w) := PI.weak h fun σ H R ⟨m, ρ, Q, Z, ge, q, c⟩ => ⟨m, ρ, _, Z, ge, q, fun u v H1 ⟨us, eu, q1⟩ s1 i1 r1 => by
  rcases eu with rfl | rfl
  · obtain ⟨a, vs, rfl, k, h, l⟩ := rel_tup r1
    exact ⟨a, vs, rfl, .inr ⟨h, c _ _ H1 q1 s1 i1 (fun B hB => walks_rvT (k.addB hB) (RelL.addB hB l))⟩⟩
  · obtain ⟨a, vs, rfl, k, h, l⟩ := rel_lst r1
    exact ⟨a, vs, rfl, .inl ⟨.inl (.inl h), c _ _ H1 q1 s1 i1 (fun B hB => walks_rvL (ok_addB k h hB) h (RelL.addB hB l))⟩⟩⟩
/-! ### for -/
def dFor (wi : WI) (g : WG) (b : WS) : WS := fun m D ρ => wi m ρ (fun us => ∃ I : Nat → Env → Prop, I 0 ρ ∧ (∀ i u ρ', us[i]? = some u → I i ρ' → g u ρ' fun ρ2 => b m { D with nx := I (i + 1), ct := I (i + 1), bk := D.nx } ρ2) ∧ ∀ ρ', I us.length ρ' → D.nx ρ') (D.ex ρ)
theorem ds_for {iter : Expr} {body : List Stmt} {wi : WI} {g : WG} {b : WS} {pos : Pos} (h : PS X (.For tg iter body [] pos) (tFor (tI X.K W wi) (tG X.K g) (tS X.K W b))) : DS X W (.For tg iter body [] pos) (dFor wi g b) := PS.weak h fun D σ H ⟨m, ρ, DD, iv, rs, q, c⟩ => by
  refine ⟨m, ρ, _, _, c.ge iv rs, q, fun us J H1 ⟨I, h0, turn, fin⟩ s1 i1 wkB => ?_⟩
  have wk : Walks X.K m J us H1 := wkB [] (fun b hb => nomatch hb)
  refine ⟨fun i k σ' H' => k = us.length - i ∧ i ≤ us.length ∧ ∃ ρ', I i ρ' ∧ stpM m H1 H' ∧ invM m H' ∧ RelS X.K m H' σ' ρ', ⟨us.length, by simp, Nat.zero_le _, ρ, h0, stp_refl, i1, RelS.step s1 rs⟩, ?_⟩
  rintro i k σ1 H2 ⟨rfl, hi, ρ1, h1, s2, i2, r2⟩
  by_cases lt : i < us.length
  · refine .inr ⟨wk.go i H2 lt s2 i2, fun σ' H' => ∃ ρ', I (i + 1) ρ' ∧ stpM m H1 H' ∧ invM m H' ∧ RelS X.K m H' σ' ρ', fun σ' H' ⟨ρ', a1, a2, a3, a4⟩ => ⟨us.length - (i + 1), by omega, rfl, lt, ρ', a1, a2, a3, a4⟩, fun x H3 y => ?_⟩
    obtain ⟨u, eu, s3, i3, ru⟩ := wk.yld i H2 x H3 lt s2 i2 y
    refine ⟨m, u, ρ1, _, i3, RelS.step s3 r2, ru, turn i u ρ1 eu h1, fun ρ4 σ4 H4 q4 s4 i4 r4 => ?_⟩
    have st := stp_trans s2 (stp_trans s3 s4)
    have c2 := c.step (stp_trans s1 st)
    have go : ∀ ρ' σ' H', I (i + 1) ρ' → stpM m H4 H' → invM m H' → RelS X.K m H' σ' ρ' → ∃ ρ', I (i + 1) ρ' ∧ stpM m H1 H' ∧ invM m H' ∧ RelS X.K m H' σ' ρ' := fun ρ' σ' H' a s' i' r' => ⟨ρ', a, stp_trans st s', i', r'⟩
    exact ⟨m, ρ4, _, i4, r4, q4, go, c2.rt, c2.ex, fun ρ' σ' H' q s' i' r' => c2.nx ρ' σ' H' q s' i' r', go⟩
  · have e : i = us.length := by omega
    subst e
    exact .inl ⟨wk.stop H2 s2 i2, c.nx ρ1 σ1 H2 (fin ρ1 h1) (stp_trans s1 s2) i2 r2⟩
end
end DL
set_option Elab.async false
set_option linter.all false
set_option maxRecDepth 100000
set_option maxHeartbeats 4000000
/-! the data layer: list comprehensions -/
namespace DL
open PySem PySem.Spec PyProof.Rows L2 XR
section
variable {K : PySem.W.Frag} {m : Mo} {H H' : Hp} {X : Cx} {W : WX}
def wipeU (ρ : Env) : List Nat → Env
  | [] => ρ
  | v :: vs => (wipeU ρ vs).set v none
theorem RelS.none {σ : L2.St} {ρ : Env} (r : RelS K m H σ ρ) (i : Nat) : RelS K m H (σ.set i none) (ρ.set i none) := ⟨by rw [List.length_set, List.length_set]; exact r.1, fun j w e => by
  by_cases q : i = j
  · subst q
    by_cases l : i < ρ.length
    · rw [List.getElem?_set_self l] at e
      cases e
    · have z : (ρ.set i Option.none).length ≤ i := by rw [List.length_set]; omega
      rw [List.getElem?_eq_none_iff.mpr z] at e
      cases e
  · rw [List.getElem?_set_ne q] at e ⊢
    exact r.2 j w e⟩
theorem RelS.wipe {σ : L2.St} {ρ : Env} (r : RelS K m H σ ρ) : ∀ ws : List Nat, RelS K m H (L2.wipe σ ws) (wipeU ρ ws)
  | [] => r
  | v :: vs => RelS.none (RelS.wipe r vs) v
theorem RelS.addB {B : List Addr} {σ : L2.St} {ρ : Env} (r : RelS K m H σ ρ) (hB : ∀ b ∈ B, H b = Option.none) : RelS K (DL.addB m B) H σ ρ := ⟨r.1, fun i u e => by
  obtain ⟨v, h1, h2⟩ := r.2 i u e
  exact ⟨v, h1, Rel.addB hB h2⟩⟩
theorem TupR.updB {D a : Addr} {o : HO} {vs : List V} (hD : D ∈ m.ban) (t : TupR K m H a vs) : TupR K m (upd H D o) a vs := by
  rcases t with ⟨k, h⟩ | h
  · have ne : a ≠ D := fun z => k.2 (z ▸ hD)
    refine .inl ⟨k, ?_⟩
    rcases h with h | ⟨o2, h⟩
    · exact .inl (by rw [upd_ne ne]; exact h)
    · exact .inr ⟨o2, by rw [upd_ne ne]; exact h⟩
  · exact .inr h
mutual
theorem Rel.updB {D : Addr} {o : HO} (hD : D ∈ m.ban) : ∀ {v : V} {u : U}, Rel K m H v u → Rel K m (upd H D o) v u
  | _, _, .non => .non
  | _, _, .bl b => .bl b
  | _, _, .int i => .int i
  | _, _, .str x => .str x
  | _, _, .tup h r => .tup (h.updB hD) (RelL.updB hD r)
  | _, _, .lst (a := a) k h r => .lst k (by rw [upd_ne (fun z : a = D => k.2 (z ▸ hD))]; exact h) (RelL.updB hD r)
  | _, _, .dct (a := a) k h l r => .dct k (by rw [upd_ne (fun z : a = D => k.2 (z ▸ hD))]; exact h) l (RelL.updB hD r)
  | _, _, .dpt (a := a) k h l r => .dpt k (by rw [upd_ne (fun z : a = D => k.2 (z ▸ hD))]; exact h) l (RelL.updB hD r)
  | _, _, .raw v => .raw v
theorem RelL.updB {D : Addr} {o : HO} (hD : D ∈ m.ban) : ∀ {vs : List V} {us : List U}, RelL K m H vs us → RelL K m (upd H D o) vs us
  | _, _, .nil => .nil
  | _, _, .cons h r => .cons (Rel.updB hD h) (RelL.updB hD r)
end
/-- nothing is raised -/
def noX : XQ := fun _ _ => False
def noW : WX := fun _ _ _ _ => False
theorem noW_takes {X : Cx} : Takes X noW := fun _ _ ⟨_, _, _, _, _, _, _, _, _, _, _, _, _, _, _, _, z⟩ => z.elim
theorem noX_cont {E : XK} : ContE K m H noX E := fun _ _ _ _ _ z => z.elim
/-- a target as a function of the slots -/
abbrev CG := U → Env → Option Env
def TgOk (K : PySem.W.Frag) (g : TG) (cg : CG) (ws : List Nat) : Prop := ∀ (m : Mo) (H : Hp) (x : V) (u : U) (σ : L2.St) (ρ ρ2 : Env) (Q : L2.St → Hp → Prop), Rel K m H x u → RelS K m H (L2.wipe σ ws) ρ → cg u ρ = some ρ2 →
  (∀ σ2, RelS K m H σ2 ρ2 → L2.wipe σ2 ws = L2.wipe σ ws → Q σ2 H) → g x (L2.wipe σ ws) H Q
def cgName (i : Nat) : CG := fun u ρ => some (ρ.set i (some u))
theorem tg_name (i : Nat) : TgOk K (gName i) (cgName i) [i] := fun m H x u σ ρ ρ2 Q r rs e q => by
  have e2 : ρ.set i (some u) = ρ2 := Option.some.inj e
  subst e2
  exact q _ (RelS.set rs i r) (by
    show ((L2.wipe σ [i]).set i (some x)).set i Option.none = L2.wipe σ [i]
    show ((σ.set i Option.none).set i (some x)).set i Option.none = σ.set i Option.none
    rw [List.set_set, List.set_set])
def setAll : L2.St → List Nat → List V → L2.St
  | σ, i :: is, v :: vs => setAll (σ.set i (some v)) is vs
  | σ, _, _ => σ
def setAllU : Env → List Nat → List U → Env
  | ρ, i :: is, v :: vs => setAllU (ρ.set i (some v)) is vs
  | ρ, _, _ => ρ
def gNs : List Nat → TGs
  | [] => gNil
  | i :: is => gCons (gName i) (gNs is)
theorem gNs_run : ∀ (is : List Nat) (vs : List V) (σ : L2.St) (Q : L2.St → Hp → Prop), vs.length = is.length → Q (setAll σ is vs) H → gNs is vs σ H Q
  | [], [], σ, Q, _, q => ⟨rfl, q⟩
  | i :: is, v :: vs, σ, Q, hl, q => ⟨v, vs, rfl, gNs_run is vs (σ.set i (some v)) Q (by simpa using hl) q⟩
  | [], _ :: _, _, _, hl, _ => by simp at hl
  | _ :: _, [], _, _, hl, _ => by simp at hl
theorem setAll_rel : ∀ (is : List Nat) {vs : List V} {us : List U} {σ : L2.St} {ρ : Env}, RelL K m H vs us → RelS K m H σ ρ → RelS K m H (setAll σ is vs) (setAllU ρ is us)
  | [], _, _, _, _, _, r => by
    unfold setAll setAllU
    exact r
  | _ :: _, _, _, _, _, .nil, r => by
    unfold setAll setAllU
    exact r
  | i :: is, _, _, _, _, .cons h t, r => setAll_rel is t (RelS.set r i h)
theorem wipe_in {i : Nat} : ∀ {σ : L2.St} {ws : List Nat}, i ∈ ws → (L2.wipe σ ws)[i]? = if i < σ.length then some Option.none else Option.none
  | σ, [], h => by cases h
  | σ, v :: vs, h => by
    show ((L2.wipe σ vs).set v Option.none)[i]? = _
    have hl : (L2.wipe σ vs).length = σ.length := wipe_length σ vs
    by_cases e : v = i
    · subst e
      by_cases l : v < σ.length
      · rw [List.getElem?_set_self (by rw [hl]; exact l), if_pos l]
      · rw [if_neg l]
        exact List.getElem?_eq_none_iff.mpr (by rw [List.length_set, hl]; omega)
    · rw [List.getElem?_set_ne e]
      rcases List.mem_cons.mp h with z | z
      · exact absurd z.symm e
      · exact wipe_in z
theorem wipe_off {i : Nat} : ∀ {σ : L2.St} {ws : List Nat}, i ∉ ws → (L2.wipe σ ws)[i]? = σ[i]?
  | σ, [], h => rfl
  | σ, v :: vs, h => by
    show ((L2.wipe σ vs).set v Option.none)[i]? = _
    rw [List.getElem?_set_ne (fun z : v = i => h (by rw [z]; exact List.mem_cons_self))]
    exact wipe_off fun z => h (List.mem_cons_of_mem _ z)
theorem setAll_len : ∀ (is : List Nat) (vs : List V) (σ : L2.St), (setAll σ is vs).length = σ.length
  | [], _, _ => by unfold setAll; rfl
  | _ :: _, [], _ => by unfold setAll; rfl
  | i :: is, v :: vs, σ => by
    unfold setAll
    rw [setAll_len is vs, List.length_set]
theorem setAll_off {j : Nat} : ∀ (is : List Nat) (vs : List V) (σ : L2.St), j ∉ is → (setAll σ is vs)[j]? = σ[j]?
  | [], _, _, _ => by unfold setAll; rfl
  | _ :: _, [], _, _ => by unfold setAll; rfl
  | i :: is, v :: vs, σ, h => by
    unfold setAll
    rw [setAll_off is vs _ fun z => h (List.mem_cons_of_mem _ z), List.getElem?_set_ne (fun z : i = j => h (by rw [z]; exact List.mem_cons_self))]
theorem wipe_setAll (is ws : List Nat) (vs : List V) (σ : L2.St) (h : ∀ i ∈ is, i ∈ ws) : L2.wipe (setAll (L2.wipe σ ws) is vs) ws = L2.wipe σ ws := by
  apply List.ext_getElem?
  intro j
  by_cases e : j ∈ ws
  · rw [wipe_in e, wipe_in e, setAll_len, wipe_length]
  · rw [wipe_off e, setAll_off is vs _ fun z => e (h j z)]
def cgTup (is : List Nat) : CG := fun u ρ => match u with
  | .tup us => if us.length = is.length then some (setAllU ρ is us) else Option.none
  | _ => Option.none
theorem tg_tup {is ws : List Nat} {n : Nat} (hn : is.length = n) (hw : ∀ i ∈ is, i ∈ ws) : TgOk K (gTup K n (gNs is)) (cgTup is) ws := fun m H x u σ ρ ρ2 Q r rs e q => by
  cases u with
  | tup us =>
    have e1 : (if us.length = is.length then some (setAllU ρ is us) else Option.none) = some ρ2 := e
    by_cases hl : us.length = is.length
    · rw [if_pos hl] at e1
      have e2 := Option.some.inj e1
      subst e2
      obtain ⟨a, vs, rfl, _, hs, l⟩ := rel_tup r
      exact ⟨a, vs, rfl, hs, by rw [RelL.len l, hl, hn], gNs_run is vs _ Q (by rw [RelL.len l, hl]) (q _ (setAll_rel is l rs) (wipe_setAll is ws vs σ hw))⟩
    · rw [if_neg hl] at e1
      cases e1
  | _ => cases e
def dYes : WT := fun _ _ Q _ => Q true
def dLc (wi : WI) (cg : CG) (tt : WT) (te : WE) (ws : List Nat) : WE := fun m ρ Q Z => wi m ρ (fun us => us.length ≤ sizeLine ∧ ∃ I : Nat → List U → Prop, I 0 [] ∧
  (∀ (D : Addr) (i : Nat) (u : U) (acc : List U), us[i]? = some u → I i acc → ∃ ρ2, cg u (wipeU ρ ws) = some ρ2 ∧ tt (addB m [D]) ρ2 (fun b => if b = true then te (addB m [D]) ρ2 (fun y => I (i + 1) (acc ++ [y])) noX else I (i + 1) acc) noX) ∧
  ∀ acc, I us.length acc → Q (.lst acc)) Z
theorem pts_yes {X : Cx} : PTs X [] (tT X.K noW dYes) := ⟨fun pins s σ H Q I ⟨m, ρ, Qd, Z, ge, q, c⟩ => pts_nil.run pins s σ H Q I (c true H q stp_refl ge.iv)⟩
/-- the reading of a comprehension -/
theorem t_lc {wi : WI} {g : TG} {cg : CG} {tt : WT} {te : WE} {ws : List Nat} (hT : TgOk K g cg ws) (σ : L2.St) (H : Hp) (Q' : VK) (h : tE K W (dLc wi cg tt te ws) σ H Q') : tLc (tI K W wi) g (tT K noW tt) (tE K noW te) ws σ H Q' := by
  obtain ⟨m, ρ, Q, Z, ge, q, c⟩ := h
  refine ⟨m, ρ, _, Z, ge, q, fun us J H1 ⟨hz, I, h0, turn, fin⟩ s1 i1 wkB D hD => ?_⟩
  have hB : ∀ b ∈ [D], H1 b = Option.none := fun b hb => by
    rw [List.mem_singleton.mp hb]
    exact hD
  have wk := wkB [D] hB
  have kD : okS m D := (ok_new i1 hD).1
  have inD : D ∈ (addB m [D]).ban := List.mem_cons_self
  have iN : invM (addB m [D]) (upd H1 D (.lst [])) := ⟨(inv_new i1 hD).1, fun b hb => by
    rcases List.mem_cons.mp hb with e | e
    · rw [e, upd_same]
      exact fun z => nomatch z
    · exact (inv_new i1 hD).2.1 b e, (inv_new i1 hD).2.2⟩
  have keepD : ∀ {H2 H3 : Hp} {vs : List V}, H2 D = some (.lst vs) → stpM m H2 H3 → H3 D = some (.lst vs) := fun e s => s _ _ e kD
  have cutI : ∀ {H2 : Hp}, invM (addB m [D]) H2 → invM m H2 := fun i => ⟨i.1, fun b hb => i.2.1 b (List.mem_cons_of_mem _ hb), i.2.2⟩
  have upI : ∀ {H2 : Hp} {o : HO}, invM (addB m [D]) H2 → invM (addB m [D]) (upd H2 D o) := fun i => inv_upd i kD
  refine ⟨fun i k H' => k = us.length - i ∧ i ≤ us.length ∧ ∃ acc vs, I i acc ∧ acc.length ≤ i ∧ H' D = some (.lst vs) ∧ stpM m H1 H' ∧ invM (addB m [D]) H' ∧ RelL K (addB m [D]) H' vs acc, ⟨us.length, by simp, Nat.zero_le _, [], [], h0, Nat.le_refl _, upd_same, stp_new hD, iN, .nil⟩, ?_⟩
  rintro i k H2 ⟨rfl, hi, acc, vs, hI, hacc, hDl, t2, i2, rl⟩
  by_cases lt : i < us.length
  · refine .inr ⟨wk.go i H2 lt t2 i2, fun H' => ∃ acc vs, I (i + 1) acc ∧ acc.length ≤ i + 1 ∧ H' D = some (.lst vs) ∧ stpM m H1 H' ∧ invM (addB m [D]) H' ∧ RelL K (addB m [D]) H' vs acc, fun H' h => ⟨us.length - (i + 1), by omega, rfl, lt, h⟩, fun x H3 y => ?_⟩
    obtain ⟨u, eu, s3, i3, ru⟩ := wk.yld i H2 x H3 lt t2 i2 y
    obtain ⟨ρ2, ec, tw⟩ := turn D i u acc eu hI
    have st3 : stpM (addB m [D]) H1 H3 := fun b o h k => stp_trans (m := m) t2 s3 b o h k
    have rs3 : RelS K (addB m [D]) H3 (L2.wipe σ ws) (wipeU ρ ws) := RelS.wipe (RelS.step st3 (RelS.addB (RelS.step s1 ge.rs) hB)) ws
    refine hT (addB m [D]) H3 x u σ _ ρ2 _ ru rs3 ec fun σ2 r2 w2 => ⟨w2, addB m [D], ρ2, _, noX, ⟨i3, r2, noX_cont⟩, tw, fun b H4 q4 s4 i4 => ?_⟩
    have e4 := keepD (keepD hDl s3) s4
    have t4 : stpM m H1 H4 := stp_trans t2 (stp_trans s3 s4)
    have rl4 : RelL K (addB m [D]) H4 vs acc := RelL.step (stp_trans s3 s4) rl
    cases b with
    | false => exact ⟨acc, vs, q4, by omega, e4, t4, i4, rl4⟩
    | true =>
      refine ⟨addB m [D], ρ2, _, noX, ⟨i4, RelS.step s4 r2, noX_cont⟩, q4, fun y v H5 q5 s5 i5 r5 => ?_⟩
      have e5 := keepD e4 s5
      refine ⟨vs, e5, by rw [RelL.len rl4]; omega, acc ++ [y], vs ++ [v], q5, by rw [List.length_append, List.length_singleton]; omega, upd_same, ?_, upI i5, RelL.updB inD (RelL.append (RelL.step s5 rl4) (.cons r5 .nil))⟩
      · intro b o hb kb
        rw [upd_ne (ne_of_none hb hD)]
        exact stp_trans t4 s5 b o hb kb
  · have e : i = us.length := by omega
    subst e
    exact .inl ⟨wk.stop H2 t2 i2, c (.lst acc) (.ref D) H2 (fin acc hI) (stp_trans s1 t2) (cutI i2) (.lst (ok_new i1 hD) hDl (RelL.cut rl))⟩
end
end DL
set_option Elab.async false
set_option linter.all false
set_option maxRecDepth 100000
set_option maxHeartbeats 4000000
/-! the data layer: smaller things -/
namespace DL
open PySem PySem.Spec PyProof.Rows L2 XR
section
variable {K : PySem.W.Frag} {m : Mo} {H H' : Hp} {X : Cx} {W : WX}
/-! ### keywords alone -/
def sw2 {α : Type} : List α → List α
  | [a, b] => [b, a]
  | l => l
def same {α : Type} (l : List α) : List α := l
def rv4 {α : Type} : List α → List α
  | [a, b, c, d] => [d, c, b, a]
  | l => l
theorem kbd_of {x qual : Str} {st : Stmt} {f : Addr} {fd : FuncData} {ps ks : List Str} {n : Nat} {pm : {α : Type} → List α → List α} (F : Fun K x qual st f fd)
    (h : ∀ (kV doc pq : Value) (an : Option Addr) (cdv ct : Value) (ws : List Value), ws.length = n → bindArgs (PySem.W.fnOf x qual (defArgs st) (defBody st) (defScope st) .none kV doc pq an cdv ct) ⟨[], ks.zip ws⟩ = pure (ps.zip (pm ws)))
    (rel : ∀ {vs : List V} {ws : List Value}, vs.length = n → Vals vs ws → Vals (pm vs) (pm ws)) (relL : ∀ {m : Mo} {H : Hp} {vs : List V} {us : List U}, vs.length = n → RelL K m H vs us → RelL K m H (pm vs) (pm us)) : KBd K fd ps ks n pm := by
  obtain ⟨oc, od, kV, doc, pq, an, cdv, ct, osl, rfl, lk, hcd⟩ := F.ex
  exact ⟨fun s ws _ hl => .of_eq (h kV doc pq an cdv ct ws hl), rel, relL⟩
theorem sw2_vals {vs : List V} {ws : List Value} (_ : vs.length = 2) (r : Vals vs ws) : Vals (sw2 vs) (sw2 ws) := by
  match vs, ws, r with
  | [], _, .nil => exact .nil
  | [_], _, .cons a .nil => exact .cons a .nil
  | [_, _], _, .cons a (.cons b .nil) => exact .cons b (.cons a .nil)
  | _ :: _ :: _ :: _, _, .cons a (.cons b (.cons c d)) => exact .cons a (.cons b (.cons c d))
theorem sw2_rel {m : Mo} {H : Hp} {vs : List V} {us : List U} (_ : vs.length = 2) (r : RelL K m H vs us) : RelL K m H (sw2 vs) (sw2 us) := by
  match vs, us, r with
  | [], _, .nil => exact .nil
  | [_], _, .cons a .nil => exact .cons a .nil
  | [_, _], _, .cons a (.cons b .nil) => exact .cons b (.cons a .nil)
  | _ :: _ :: _ :: _, _, .cons a (.cons b (.cons c d)) => exact .cons a (.cons b (.cons c d))
theorem same_vals {n : Nat} {vs : List V} {ws : List Value} (_ : vs.length = n) (r : Vals vs ws) : Vals (same vs) (same ws) := r
theorem same_rel {n : Nat} {m : Mo} {H : Hp} {vs : List V} {us : List U} (_ : vs.length = n) (r : RelL K m H vs us) : RelL K m H (same vs) (same us) := r
theorem rv4_vals {vs : List V} {ws : List Value} (h : vs.length = 4) (r : Vals vs ws) : Vals (rv4 vs) (rv4 ws) := by
  match vs, ws, h, r with
  | [_, _, _, _], _, _, .cons a (.cons b (.cons c (.cons d .nil))) => exact .cons d (.cons c (.cons b (.cons a .nil)))
theorem rv4_rel {m : Mo} {H : Hp} {vs : List V} {us : List U} (h : vs.length = 4) (r : RelL K m H vs us) : RelL K m H (rv4 vs) (rv4 us) := by
  match vs, us, h, r with
  | [_, _, _, _], _, _, .cons a (.cons b (.cons c (.cons d .nil))) => exact .cons d (.cons c (.cons b (.cons a .nil)))
/-! ### is, is not -/
def uIsN : U → Bool
  | .non => true
  | _ => false
def notRaw : U → Bool
  | .raw _ => false
  | _ => true
theorem rel_isN {v : V} {u : U} (r : Rel K m H v u) (h : notRaw u = true) : decide (v = .non) = uIsN u := by
  cases r with
  | non => rfl
  | raw v => cases h
  | _ => rfl
def gIsN : W1 := fun a Q => notRaw a = true ∧ Q (.bl (uIsN a))
def gNotN : W1 := fun a Q => notRaw a = true ∧ Q (.bl (!uIsN a))
variable {a b : Expr} {wa wb : WE} {pos : Pos}
theorem de_isN {j pos'} (ha : DE X W a wa) : DE X W (.Compare a [.Is] [.Constant .none j pos'] pos) (dUn gIsN wa) := PE.weak (pe_cmp (pc_isN ha)) fun σ H Q' ⟨m, ρ, Q, Z, ge, q, c⟩ =>
  ⟨m, ρ, _, Z, ge, q, fun u v H1 ⟨h, q1⟩ s1 i1 r1 => by
    show Q' (V.bl (decide (v = V.non))) H1
    rw [rel_isN r1 h]
    exact c _ _ H1 q1 s1 i1 (.bl _)⟩
theorem de_notN {j pos'} (ha : DE X W a wa) : DE X W (.Compare a [.IsNot] [.Constant .none j pos'] pos) (dUn gNotN wa) := PE.weak (pe_cmp (pc_notN ha)) fun σ H Q' ⟨m, ρ, Q, Z, ge, q, c⟩ =>
  ⟨m, ρ, _, Z, ge, q, fun u v H1 ⟨h, q1⟩ s1 i1 r1 => by
    show Q' (V.bl (!decide (v = V.non))) H1
    rw [rel_isN r1 h]
    exact c _ _ H1 q1 s1 i1 (.bl _)⟩
def gIsB : W2 := fun a b Q => ∃ x y, a = .bl x ∧ b = .bl y ∧ Q (.bl (decide (x = y)))
def gNotB : W2 := fun a b Q => ∃ x y, a = .bl x ∧ b = .bl y ∧ Q (.bl (!decide (x = y)))
theorem opd_isB : OpD K rIsB gIsB := fun m x y a b H Q Q' iv ra rb ⟨i, j, ea, eb, q⟩ c => by
  subst ea eb
  exact ⟨i, j, rel_bl ra, rel_bl rb, c.here iv q (.bl _)⟩
theorem opd_notB : OpD K rNotB gNotB := fun m x y a b H Q Q' iv ra rb ⟨i, j, ea, eb, q⟩ c => by
  subst ea eb
  exact ⟨i, j, rel_bl ra, rel_bl rb, c.here iv q (.bl _)⟩
/-! ### constants of the module -/
theorem de_gint {x : Str} {i : Int} {t : Tok} (hg : Gl X x) (hm : X.mg x = some (.int i t)) (hd : (x == ("__debug__" : Str)) = false := by decide) : DE X W (.Name x pos) (dC (.int i)) := de_c (pe_glob hg hm (v := .int i) ⟨t, rfl⟩ hd) fun _ _ _ => .int i
/-- a tuple of flat values that the module holds -/
structure KTup (K : PySem.W.Frag) (z : Addr) (us : List U) : Prop where
  ex : ∃ vs : List V, (∃ (o : Obj) (its : Array Value) (n : Nat), K.lookup z = some o ∧ o.cls = .type "tuple" ∧ o.data = .seq its n ∧ its.size ≤ sizeLine ∧ Vals vs its.toList) ∧ ∀ m H, RelL K m H vs us
theorem de_gtup {x : Str} {z : Addr} {us : List U} (hg : Gl X x) (hm : X.mg x = some (.ref z)) (k : KTup X.K z us) (hd : (x == ("__debug__" : Str)) = false := by decide) : DE X W (.Name x pos) (dC (.tup us)) := de_c (pe_glob hg hm (v := .ref z) rfl hd) fun m H _ => by
  obtain ⟨vs, h, r⟩ := k.ex
  exact .tup (.inr h) (r m H)
/-! ### max of three -/
def rMax3 : List V → Hp → VK → Prop := fun xs H Q => ∃ i j k : Int, xs = [.int i, .int j, .int k] ∧ Q (.int (if j > i then (if k > j then k else j) else (if k > i then k else i))) H
theorem cr_max3 (hc : X.calm = true) : CallR X (.builtin "max") rMax3 := by
  intro pins s σ H xs us Q I r h
  obtain ⟨i, j, k, rfl, q⟩ := h
  cases r with
  | cons r1 r =>
    cases r with
    | cons r2 r =>
      cases r with
      | cons r3 r =>
        cases r
        obtain ⟨t1, rfl⟩ := r1
        obtain ⟨t2, rfl⟩ := r2
        obtain ⟨t3, rfl⟩ := r3
        refine max_three_ints (I.ok.hd hc) fun h' tk hk => ⟨.int _, H, I.kept hk, ?_, q⟩
        by_cases h1 : j > i
        · by_cases h2 : k > j
          · rw [if_pos h1, if_pos h2, if_pos h1, if_pos h2]
            exact ⟨_, rfl⟩
          · rw [if_pos h1, if_neg h2, if_pos h1, if_neg h2]
            exact ⟨_, rfl⟩
        · by_cases h2 : k > i
          · rw [if_neg h1, if_pos h2, if_neg h1, if_pos h2]
            exact ⟨_, rfl⟩
          · rw [if_neg h1, if_neg h2, if_neg h1, if_neg h2]
            exact ⟨_, rfl⟩
def fMax3 : WF := fun us Q => ∃ i j k : Int, us = [.int i, .int j, .int k] ∧ Q (.int (if j > i then (if k > j then k else j) else (if k > i then k else i)))
theorem cal_max3 : CalD K rMax3 fMax3 := fun m vs us H Q Q' iv r ⟨i, j, k, e, q⟩ c => by
  subst e
  obtain ⟨v, x, z, rfl, a, b, d⟩ := rl3 r
  exact ⟨i, j, k, by rw [rel_int a, rel_int b, rel_int d], c.here iv q (.int _)⟩
/-! ### classes as values: int, tuple, .. in isinstance -/
theorem de_ty {x : Str} {n : String} (hg : Gl X x) (hm : X.mg x = none) (hv : bootBuiltins x = some (.type n)) (hn : x ≠ "__name__" := by decide) (hd : (x == ("__debug__" : Str)) = false := by decide) : DE X W (.Name x pos) (dC (.raw (.ty n))) :=
  de_c (pe_bltn hg hm hv (v := .ty n) rfl hn hd) fun _ _ _ => .raw _
end
end DL
set_option Elab.async false
set_option linter.all false
set_option maxRecDepth 100000
set_option maxHeartbeats 4000000
/-! a def that asks isinstance alone, on the machine: every object is kept -/
namespace DL
open PySem PySem.Spec PyProof.Rows L2 XR
/-- what is asked of the module and the built-in names -/
structure Tops (h : Heap) (mg : Str → Option Value) : Prop where
  g : h.Ns mainGlobals mg
  b : ∃ mb, h.Ns builtinsNs mb ∧ ∀ x : Str, x ≠ "__name__" → mb x = bootBuiltins x
theorem Tops.keeps {h h' : Heap} {mg : Str → Option Value} (T : Tops h mg) (k : ∀ b o, h.get? b = some o → h'.get? b = some o) : Tops h' mg := by
  obtain ⟨mb, h1, h2⟩ := T.b
  exact ⟨T.g.keeps k, mb, h1.keeps k, h2⟩
section
variable {prog : Program} {w : World} {A : Around} {E : Value → Shared → Prop} {s : Shared} {K : PySem.W.Frag} {mg : Str → Option Value} {env : PySem.Env} {m : Str → Option Value}
theorem low_blt {M : Model} {x : Str} {u : Value} {pos : Pos} {Q : Value → Shared → Prop} (hk : env.scope.kind = .function) (eg : env.globals = mainGlobals) (eb : env.builtins = builtinsNs) (T : Tops s.heap mg) (hg : env.kindOf x = some .globalImplicit) (hm : mg x = none)
    (hv : bootBuiltins x = some u) (h : Q u s) (hn : x ≠ "__name__" := by decide) (hd : (x == ("__debug__" : Str)) = false := by decide) : wpAny M A (eval (.Name x pos) env) Q E s := by
  obtain ⟨mb, h1, h2⟩ := T.b
  exact Calls.Name_function_global hk hg (Calls.loadGlobal_builtin (by rw [eg]; exact T.g) hm (by rw [eb]; exact h1) ((h2 x hn).trans hv) h) hd
/-- isinstance(x, T) -/
theorem low_isi {x n : Str} {ty : String} {v t : Value} {Pk : Heap → Prop} {bb : Bool} {p1 p2 p3 p4 : Pos} {Q : Value → Shared → Prop} (hk : env.scope.kind = .function) (eg : env.globals = mainGlobals) (eb : env.builtins = builtinsNs) (T : Tops s.heap mg)
    (g1 : env.kindOf "isinstance" = some .globalImplicit) (m1 : mg "isinstance" = none) (g2 : env.kindOf n = some .globalImplicit) (m2 : mg n = none) (hv : bootBuiltins n = some (.type ty)) (nn : n ≠ "__name__") (nd : (n == ("__debug__" : Str)) = false)
    (gx : env.kindOf x = some .local) (hn : s.heap.Ns env.locals m) (hx : m x = some v) (xd : (x == ("__debug__" : Str)) = false) (X : K.In s.heap) (Z : PySem.W.KitX K v t Pk) (hp : Pk s.heap) (no : v ≠ .builtin "__main__.__loader__#opaque") (e : PySem.W.kitOne K t (.type ty) = some bb)
    (h : ∀ tk, Q (.bool bb) { s with toks := tk })
    (he : starEach [.Name x p2, .Name n p3] env = (false, eval (.Name x p2) env) :: starEach [.Name n p3] env := by rfl) (he2 : starEach [.Name n p3] env = (false, eval (.Name n p3) env) :: starEach [] env := by rfl) (hpl : (backTo p4 (starEach [.Name n p3] env)).any (·.1) = false := by rfl) :
    wpAny (model prog w) A (eval (.Call (.Name "isinstance" p1) [.Name x p2, .Name n p3] [] p4) env) Q E s := by
  refine wpAny_Call_Name_kw (low_blt hk eg eb T g1 m1 boot_isinstance ?_)
  refine PyProof.Rows.callWith_builtin1 ?_ he hpl
  rw [he, he2]
  show wpAny _ _ (spliced ((false, eval (.Name x p2) env) :: (false, _) :: backTo p4 (starEach [] env))) _ _ s
  refine Calls.spliced_cons (wpAny_Name (wpAny_loadName_local hk gx hn hx ?_) xd)
  refine Calls.spliced_cons ?_
  rw [if_neg (fun z => Bool.noConfusion z)]
  refine low_blt hk eg eb T g2 m2 hv (Calls.spliced_nil ?_) nn nd
  exact PySem.W.kia_one Z X hp e no h
/-- the def is_whole, wherever its rows stand -/
def wArgs (p1 : Pos) : Arguments := { posonlyargs := [], args := [{ arg := "thing", annotation := none, pos := p1 }], vararg := none, kwonlyargs := [], kw_defaults := [], kwarg := none, defaults := [] }
def wBody (a1 a2 a3 a4 b1 b2 b3 b4 c d e : Pos) : List Stmt := [.Return (some (.BoolOp .And [.Call (.Name "isinstance" a1) [.Name "thing" a2, .Name "int" a3] [] a4, .UnaryOp .Not (.Call (.Name "isinstance" b1) [.Name "thing" b2, .Name "bool" b3] [] b4) c] d)) e]
def wScope : Scope := { kind := .function, names := [(PySem.Str.ofString "thing", .local), (PySem.Str.ofString "isinstance", .globalImplicit), (PySem.Str.ofString "int", .globalImplicit), (PySem.Str.ofString "bool", .globalImplicit)], isGenerator := false, isCoroutine := false, more := [] }
theorem whole_call {f : Addr} {oc : Value} {od : Option Addr} {osl : Array (Option Value)} {qual : Str} {kV doc pm cdv ct v t : Value} {an : Option Addr} {p1 a1 a2 a3 a4 b1 b2 b3 b4 c d e : Pos} {Pk : Heap → Prop} {bi bb : Bool}
    (lk : K.lookup f = some ⟨oc, od, .func (PySem.W.fnOf "is_whole" qual (wArgs p1) (wBody a1 a2 a3 a4 b1 b2 b3 b4 c d e) wScope .none kV doc pm an cdv ct), osl⟩) (hcd : PySem.W.codeIn K cdv qual = true)
    (X : K.In s.heap) (T : Tops s.heap mg) (lim : s.heap.NoLimit) (m1 : mg "isinstance" = none) (m2 : mg "int" = none) (m3 : mg "bool" = none) (Z : PySem.W.KitX K v t Pk) (hp : Pk s.heap) (hk : ∀ h h' : Heap, (∀ b o, h.get? b = some o → h'.get? b = some o) → Pk h → Pk h')
    (no : v ≠ .builtin "__main__.__loader__#opaque") (ei : PySem.W.kitOne K t (.type "int") = some bi) (eb : PySem.W.kitOne K t (.type "bool") = some bb) (dp : A.depth + 5 < recursionLimit) :
    wpAny (model prog w) A (call (.ref f) [v]) (fun y s' => y = .bool (bi && !bb) ∧ Keeps s s') E s := by
  refine wpAny_call (codeAny_call_function (by omega) (X _ _ lk) rfl rfl rfl rfl (PySem.W.codeRec_of X hcd) ?_)
  refine (BindsTo.of_eq rfl : BindsTo s (PySem.W.fnOf "is_whole" qual (wArgs p1) (wBody a1 a2 a3 a4 b1 b2 b3 b4 c d e) wScope .none kV doc pm an cdv ct) ⟨[v], []⟩ [("thing", v)]) _ _ _ _ ?_
  refine wpAny_newFunctionEnv_cells rfl (fun y hy => by
    rw [List.mem_singleton.mp hy]
    exact .inl rfl) fun env he s1 ic => ?_
  subst he
  have kp := ic.toInCall.keep
  have T1 := T.keeps kp
  have X1 : K.In s1.heap := X.keeps kp
  have hn := ic.toInCall.ns
  refine ⟨lim.keeps kp, codeAny_func ?_⟩
  have fin : ∀ tk : Nat, Keeps s { s1 with toks := tk } := fun tk => by
    obtain ⟨h', t', rfl, k⟩ := ic.toInCall.done
    exact ⟨h', tk, rfl, k⟩
  refine wpAny_execs_cons (wpAny_Return_some (BoolOp_and ?_))
  refine low_isi (mg := mg) (K := K) (v := v) (t := t) (Pk := Pk) (bb := bi) rfl rfl rfl T1 rfl m1 rfl m2 (by decide +kernel) (by decide) (by decide) rfl hn rfl (by decide) X1 Z (hk _ _ kp hp) no ei fun tk => ?_
  refine wpAny_truthy_bool ?_
  cases bi with
  | false => exact ⟨rfl, fin tk⟩
  | true =>
    refine BoolOp_one (UnaryOp_ ?_)
    refine low_isi (mg := mg) (K := K) (v := v) (t := t) (Pk := Pk) (bb := bb) rfl rfl rfl (T1.keeps fun _ _ z => z) rfl m1 rfl m3 (by decide +kernel) (by decide) (by decide) rfl (hn.keeps fun _ _ z => z) rfl (by decide) (X1.keeps fun _ _ z => z) Z (hk _ _ kp hp) no eb fun tk2 => ?_
    exact not_of (wpAny_truthy_bool ⟨by cases bb <;> rfl, fin tk2⟩)
end
end DL
set_option Elab.async false
set_option linter.all false
set_option maxRecDepth 100000
set_option maxHeartbeats 4000000
/-! the data layer: all(is_whole(x) for x in t), t a tuple of data -/
namespace DL
open PySem PySem.Spec PyProof.Rows L2 XR
open GxR (TabB TabG Tabbed GenS)
section
variable {X : Cx} {m : Mo} {W : WX} {pins : List (Addr × Obj)} {σ : L2.St} {H H1 : Hp} {s s1 : Shared} {P c : Addr}
/-- what is tracked is not of the base -/
theorem base_free (I : Inv X pins σ H s) {b : Addr} {o : HO} (h : H b = some o) : X.base.get? b = none := by
  cases q : X.base.get? b with
  | none => rfl
  | some u =>
    obtain ⟨e1, n⟩ := I.ok.bs b u q
    have z := I.base.free b u e1 n (I.ok.noex b u q)
    rw [z] at h
    cases h
/-- kept, but for P -/
def KeptBut (P : Addr) (h h' : Heap) : Prop := ∀ b o, b ≠ P → h.get? b = some o → h'.get? b = some o
theorem base_kept (I : Inv X pins σ H s) {o : HO} (hP : H P = some o) {h' : Heap} (k : KeptBut P s.heap h') : ∀ b o, X.base.get? b = some o → h'.get? b = some o := fun b u e => k b u (fun z => by
  rw [z, base_free I hP] at e
  cases e) (I.bk b u e)
theorem tops_base (I : Inv X pins σ H s) : Tops X.base X.mg := ⟨I.ok.mod.glob, I.ok.mod.blt⟩
theorem kitAt_kept {a : Addr} {T : String} {h h' : Heap} (k : ∀ o, h.get? a = some o → h'.get? a = some o) (p : PySem.W.KitAt a T h) : PySem.W.KitAt a T h' := by
  obtain ⟨o, e, z⟩ := p
  exact ⟨o, k o e, z⟩
/-- isinstance's answers for data, wherever the rest goes -/
theorem kit_rel {v : V} {u : U} {x : Value} {ps : Array Value} (I : Inv X pins σ H s) (hP : H P = some (.tbl ps)) (r : Rel X.K m H v u) (nr : notRaw u = true) (rx : RelV v x) :
    ∃ (Pk : Heap → Prop) (t : String), tyN u = some t ∧ PySem.W.KitX X.K x (.type t) Pk ∧ x ≠ .builtin "__main__.__loader__#opaque" ∧ (∀ h', KeptBut P s.heap h' → Pk h') ∧ ∀ h h' : Heap, (∀ b o, h.get? b = some o → h'.get? b = some o) → Pk h → Pk h' := by
  cases r with
  | non =>
    obtain rfl : x = Value.none := rx
    exact ⟨_, _, rfl, PySem.W.kitx_none, (fun z => nomatch z), fun _ _ => trivial, fun _ _ _ _ => trivial⟩
  | bl b =>
    obtain rfl : x = Value.bool b := rx
    exact ⟨_, _, rfl, PySem.W.kitx_bool, (fun z => nomatch z), fun _ _ => trivial, fun _ _ _ _ => trivial⟩
  | int i =>
    obtain ⟨t, rfl⟩ := (show ∃ t, x = Value.int i t from rx)
    exact ⟨_, _, rfl, PySem.W.kitx_int, (fun z => nomatch z), fun _ _ => trivial, fun _ _ _ _ => trivial⟩
  | str y =>
    obtain ⟨t, rfl⟩ := (show ∃ t, x = Value.str y t from rx)
    exact ⟨_, _, rfl, PySem.W.kitx_str, (fun z => nomatch z), fun _ _ => trivial, fun _ _ _ _ => trivial⟩
  | @tup a vs us h l =>
    obtain rfl : x = Value.ref a := rx
    obtain ⟨its, rv, ⟨o, e, ec, _⟩, _⟩ := I.tuple h.sq
    have ne : a ≠ P := by
      rcases h with ⟨_, h | ⟨o2, h⟩⟩ | ⟨o2, i2, n2, h, _⟩
      · exact ne_of h hP (fun z => nomatch z)
      · exact ne_of h hP (fun z => nomatch z)
      · intro z
        have e2 := base_free I hP
        rw [← z, I.ok.mod.kin a o2 h] at e2
        cases e2
    exact ⟨_, _, rfl, PySem.W.kitx_tuple, (fun z => nomatch z), fun h' k => ⟨o, k a o ne e, ec⟩, fun _ _ k p => kitAt_kept (k a) p⟩
  | @lst a vs us k h l =>
    obtain rfl : x = Value.ref a := rx
    obtain ⟨_, its, n, _, e⟩ := (show ObjOk X.prog X.w H s.heap a (.lst vs) from I.hok a _ h)
    have ne : a ≠ P := ne_of h hP (fun z => nomatch z)
    exact ⟨_, _, rfl, PySem.W.kitx_list, (fun z => nomatch z), fun h' k => ⟨_, k a _ ne e, rfl⟩, fun _ _ k p => kitAt_kept (k a) p⟩
  | raw v => cases nr
  | @dct a v u j k h l r =>
    obtain rfl : x = Value.ref a := rx
    obtain ⟨_, _, vs, _, dd⟩ := (show ObjOk X.prog X.w H s.heap a (.dK _) from I.hok a _ h)
    have ne : a ≠ P := ne_of h hP (fun z => nomatch z)
    obtain ⟨o, e, ec⟩ := dd.typeIs
    exact ⟨_, _, rfl, PySem.W.kitx_dict, (fun z => nomatch z), fun h' k => ⟨o, k a o ne e, ec⟩, fun _ _ k p => kitAt_kept (k a) p⟩
  | @dpt a v u j k h l r =>
    obtain rfl : x = Value.ref a := rx
    obtain ⟨_, _, xs, _, o, es, ep, e, ⟨ec, _⟩, _⟩ := (show ObjOk X.prog X.w H s.heap a (.dT _) from I.hok a _ h)
    have ne : a ≠ P := ne_of h hP (fun z => nomatch z)
    exact ⟨_, _, rfl, PySem.W.kitx_dict, (fun z => nomatch z), fun h' k => ⟨o, k a o ne e, ec⟩, fun _ _ k p => kitAt_kept (k a) p⟩
def isIntU : U → Bool
  | .int _ => true
  | _ => false
theorem kit_int {u : U} {t : String} (h : tyN u = some t) : ∃ bi bb, kitB t "int" = some bi ∧ kitB t "bool" = some bb ∧ (bi && !bb) = isIntU u := by
  cases u with
  | non => cases h; exact ⟨false, false, by decide +kernel, by decide +kernel, rfl⟩
  | bl b => cases h; exact ⟨true, true, by decide +kernel, by decide +kernel, rfl⟩
  | int i => cases h; exact ⟨true, false, by decide +kernel, by decide +kernel, rfl⟩
  | str x => cases h; exact ⟨false, false, by decide +kernel, by decide +kernel, rfl⟩
  | tup us => cases h; exact ⟨false, false, by decide +kernel, by decide +kernel, rfl⟩
  | lst us => cases h; exact ⟨false, false, by decide +kernel, by decide +kernel, rfl⟩
  | raw v => cases h
  | dct u k => cases h; exact ⟨false, false, by decide +kernel, by decide +kernel, rfl⟩
  | dpt u k => cases h; exact ⟨false, false, by decide +kernel, by decide +kernel, rfl⟩
/-- a generator of bools, ready to be walked -/
def GReady (X : Cx) (pins : List (Addr × Obj)) (σ : L2.St) (H1 : Hp) (P : Addr) (n : Nat) (pb : Nat → Bool) (g : Addr) (s5 : Shared) : Prop :=
  ∃ (fp wr : List Addr) (G : Array GenState → Array GenState → Prop) (F : Nat → Value → Prop) (St : Nat → Shared → Prop), WalksS X.prog X.w X.A.in1 g fp wr G n F St ∧ St 0 s5 ∧ TruthOf X.prog X.w X.A.in1 F pb ∧
    ∀ s', Moved wr G s5 s' → ∃ H2, Tabbed P H1 H2 ∧ Inv X pins σ H2 s'
/-- the element: a bool for each item -/
def EltT (X : Cx) (P : Addr) (scope : Scope) (x : Str) (elt : Expr) (s1 : Shared) (its : List Value) (pb : Nat → Bool) : Prop :=
  ∀ (i : Nat) (u code : Value) (C bi : Addr) (cl : List (Str × Addr)) (A' : Around) (E' : Value → Shared → Prop) (s2 : Shared) (m2 : Str → Option Value), its[i]? = some u → A'.handled = none → A'.depth ≤ X.A.depth + 1 → KeptBut P s1.heap s2.heap →
    s2.heap.Ns C m2 → m2 x = some u → wpAny (model X.prog X.w) A' (eval elt (genEnv scope cl C code bi X.env)) (fun y s3 => y = .bool (pb i) ∧ Keeps s2 s3) E' s2
theorem gen_tup {elt iter : Expr} {x : Str} {px gpos : Pos} {scope : Scope} {te : TE} {k : Nat} {Q' : Value → Shared → Prop} {R : Addr → List V → Hp → Prop}
    (hr : Room k X.A) (TB : TabB X.base X.mg c P) (hcode : X.env.code = .ref c) (S : GenS X.env scope x) (hi : PE X iter te) (hs : ∀ v, genFold iter X.env v = pure v) (I : Inv X pins σ H s)
    (h : te σ H fun v H1 => ∃ a vs, v = .ref a ∧ SqT X.K H1 a vs ∧ TabG H1 P ∧ R a vs H1)
    (hel : ∀ a vs H1 s1 its, R a vs H1 → Inv X pins σ H1 s1 → (∃ ps, H1 P = some (.tbl ps)) → Vals vs its → ∃ pb : Nat → Bool, EltT X P scope x elt s1 its pb ∧ ∀ g s5, GReady X pins σ H1 P its.length pb g s5 → Q' (.ref g) s5) :
    wpAny (model X.prog X.w) X.A (eval (.GeneratorExp elt [⟨.Name x px, iter, [], 0⟩] scope gpos) X.env) Q' X.xe s := by
  refine wpAny_GeneratorExp_walksQD hr.hd S.co (closure_ok S.free) S.cell S.dot S.loc S.kind (by have := hr.dp; omega) ?_ hs
  refine thn (hi.run pins s σ H _ I h) fun xv s1 hh => ?_
  obtain ⟨v, H1, I1, r1, a, vs, ev, hq, ⟨ps, hP, ht⟩, hR⟩ := hh
  subst ev
  obtain rfl : xv = Value.ref a := r1
  obtain ⟨its, rv, ⟨ob, eb, ec, nb, ed⟩, hz⟩ := I1.tuple hq
  obtain ⟨pb, hE, hfin⟩ := hel a vs H1 s1 its hR I1 ⟨ps, hP⟩ rv
  have hT : s1.heap.IsTuple a its.toArray := ⟨ob, eb, ec, nb, ed⟩
  have alt : a < s1.heap.objs.size := Heap.lt_size eb
  have hPs : s1.heap.get? P = some { cls := .none, data := .fields ps } := I1.hok P _ hP
  have Plt : P < s1.heap.objs.size := Heap.lt_size hPs
  have aP : a ≠ P := fun z => by
    rw [z, hPs] at eb
    cases eb
    cases ec
  refine wpAny_pyIter_tuple hT ?_
  generalize hL : s1.heap.objs.size = L
  have altL : a < L := by
    rw [← hL]
    exact alt
  have below : ∀ b o, s1.heap.get? b = some o → b < L := fun b o e => by
    rw [← hL]
    exact Heap.lt_size e
  generalize ho : s1.heap.push { cls := .type "tuple_iterator", data := .fields #[.ref a, .int 0 0] } = hp
  have up : ∀ b o, s1.heap.get? b = some o → hp.get? b = some o := fun b o e => by
    rw [← ho]
    exact Heap.get?_push_of_some _ e
  have at_ : hp.get? L = some { cls := .type "tuple_iterator", data := .fields #[.ref a, .int 0 0] } := by
    rw [← ho, ← hL]
    exact Heap.get?_push_size _ rfl
  have szp : hp.objs.size = L + 1 := by rw [← ho, Heap.size_push, hL]
  have limp : hp.NoLimit := by
    rw [← ho]
    exact I1.nolimit.push _
  have Wk : ∀ A' : Around, A'.handled = none → PySem.Walks X.prog X.w A' L [L, a] [L] its.toArray.size (fun i v => its.toArray[i]? = some v) (fun i h => h.IsTupleIter L a i ∧ h.IsTuple a its.toArray) :=
    fun A' hA => PySem.Walks.tuple hA L a (Nat.ne_of_lt altL) its.toArray
  have PL : P ≠ L := Nat.ne_of_lt (below P _ hPs)
  obtain ⟨bm, obm, e1, e2, e3, e4, e5, e6, e7, e8⟩ := TB.bm
  have hP2 := up _ _ hPs
  have cd : PySem.W.CodeHd hp c P := TB.code.keeps fun b u e => up b u (I1.bk b u e)
  have csP : cStatics ≠ P := fun z => by
    obtain ⟨_, hns, _⟩ := I1.nolimit
    obtain ⟨o', es, ep, hoo, hd, _⟩ := hns
    rw [z, hPs] at hoo
    cases hoo
    cases hd
  have csL : cStatics < L := by
    obtain ⟨_, hns, _⟩ := I1.nolimit
    rw [← hL]
    exact hns.lt
  refine ⟨limp, ?_⟩
  have cont : ∀ (code : Value) (h3 : Heap) (tk : Nat) (ps' : Array Value), Heap.ExtBut P hp h3 → hp.objs.size ≤ h3.objs.size → h3.get? P = some { cls := .none, data := .fields ps' } → (∃ more, ps' = ps ++ more) → TriplesOk ps'.toList →
      wpAny (model X.prog X.w) X.A (builtinsFor X.env.globals X.env.builtins) (fun bi s₄ =>
        ∃ Ia fp wr n₀ Pf St₀ pz F, Value.ref L = .ref Ia ∧ (∀ A' : Around, A'.handled = none → PySem.Walks X.prog X.w A' Ia fp wr n₀ Pf St₀) ∧ St₀ 0 s₄.heap ∧ (∀ b ∈ fp, b < s₄.heap.objs.size) ∧ s₄.heap.NoLimit ∧ cStatics ∉ wr ∧
          (∀ href : Heap, (∀ b o, s₄.heap.get? b = some o → href.get? b = some o) →
            QuietGenD X.prog X.w (genEnv scope (cloFrom X.env.cells scope.names []) s₄.heap.objs.size code bi X.env) x [] elt (List.range s₄.heap.objs.size) wr Pf pz F href (X.A.depth + 1) (X.A.units + 8)) ∧
          (∀ a h₅ tk gs, gs.bare = true → s₄.heap.objs.size < a → h₅.objs.size = a + 1 → (∀ b o, s₄.heap.get? b = some o → h₅.get? b = some o) →
            WalksS X.prog X.w X.A.in4 a (a :: s₄.heap.objs.size :: List.range s₄.heap.objs.size) (s₄.heap.objs.size :: wr) (GenOnlyQ s₄.gens.size) (passing pz n₀ 0).length
              (fun j y => ∃ i, (passing pz n₀ 0)[j]? = some i ∧ F i y) (GenAt X.prog X.w X.A.in4 a s₄.gens.size s₄.heap.objs.size (List.range s₄.heap.objs.size) wr pz n₀ F) →
            GenAt X.prog X.w X.A.in4 a s₄.gens.size s₄.heap.objs.size (List.range s₄.heap.objs.size) wr pz n₀ F 0 { s₄ with gens := s₄.gens.push gs, toks := tk, heap := h₅ } →
            Q' (.ref a) { s₄ with gens := s₄.gens.push gs, toks := tk, heap := h₅ })) X.xe { s1 with heap := h3, toks := tk } := by
    intro code h3 tk ps' hx hsz hP3 hmore ht3
    have k3 : KeptBut P s1.heap h3 := fun b u nb e => hx b u nb (up b u e)
    refine wpAny_builtinsFor (m := X.mg) (by rw [I1.ok.glob]; exact ((I1.mod.glob.keeps I1.bk).keeps up).extBut hx TB.gP) e1 e2 (k3 _ _ e4 (I1.bk _ _ e5)) e6 e7 e8 ?_
    refine ⟨L, [L, a], [L], its.toArray.size, fun i v => its.toArray[i]? = some v, fun i h => h.IsTupleIter L a i ∧ h.IsTuple a its.toArray, fun _ => true, fun i y => y = .bool (pb i), rfl, Wk, ⟨?_, ?_⟩, ?_, limp.extBut hx csP, ?_, ?_, ?_⟩
    · exact ⟨_, hx L _ (Ne.symm PL) at_, rfl, rfl⟩
    · exact ⟨ob, k3 a ob aP eb, ec, nb, ed⟩
    · intro b hb
      have hl3 : L + 1 ≤ h3.objs.size := by rw [← szp]; exact hsz
      show b < h3.objs.size
      rcases List.mem_cons.mp hb with z | z
      · rw [z]
        exact hl3
      · rw [List.mem_singleton.mp z]
        exact Nat.lt_of_lt_of_le (Nat.lt_succ_of_lt altL) hl3
    · intro z
      exact absurd (List.mem_singleton.mp z) (Nat.ne_of_lt csL)
    · intro href hhref
      refine ⟨fun A' E' i v s₂ m₂ hA _ _ hPv hn hm hk => ?_, fun A' E' i v s₂ m₂ hA hdp _ hPv _ hn hm hk => ?_⟩
      · simp only [List.forIn_nil]
        exact wpAny_pure ⟨rfl, GxR.keeps_refl _⟩
      · have hv : its[i]? = some v := by simpa using hPv
        refine hE i v code h3.objs.size builtinsNs _ A' E' s₂ m₂ hv hA hdp (fun b o nb e => ?_) hn hm
        have lt := below b o e
        refine hk b (List.mem_range.mpr ?_) (fun z => ?_) o (hhref b o (k3 b o nb e))
        · show b < h3.objs.size
          have hl3 : L + 1 ≤ h3.objs.size := by rw [← szp]; exact hsz
          exact Nat.lt_of_lt_of_le (Nat.lt_succ_of_lt lt) hl3
        · exact absurd (List.mem_singleton.mp z) (Nat.ne_of_lt lt)
    · intro g h5 tk5 gs hgb hag hsz5 hk5 W5 hat
      simp only [GxR.passing_true, List.length_range] at W5
      have hn : its.toArray.size = its.length := by simp
      refine hfin g _ ⟨_, _, _, _, _, by rw [← hn]; exact W5.in4_1, hat, fun j y sj Qj Ej hy hQj => ?_, fun s' hm => ?_⟩
      · obtain ⟨i, hij, hF⟩ := hy
        obtain ⟨_, ej⟩ := List.getElem?_eq_some_iff.mp hij
        rw [List.getElem_range] at ej
        have hF2 : y = .bool (pb i) := hF
        rw [hF2, ← ej]
        exact wpAny_truthy_bool hQj
      · obtain ⟨more, em⟩ := hmore
        have nwr : ∀ b u, s1.heap.get? b = some u → b ∉ h3.objs.size :: [L] := fun b u e hb => by
          have lt := below b u e
          have hl3 : L + 1 ≤ h3.objs.size := by rw [← szp]; exact hsz
          rcases List.mem_cons.mp hb with z | z
          · exact absurd z (Nat.ne_of_lt (Nat.lt_of_lt_of_le (Nat.lt_succ_of_lt lt) hl3))
          · exact absurd (List.mem_singleton.mp z) (Nat.ne_of_lt lt)
        have J := GxR.inv_tab (more := more) (h' := s'.heap) (g' := s'.gens) (d' := s'.drawn) (t' := s'.toks) I1 hP (fun b u hb e => hm.heap b u (nwr b u e) (hk5 b u (k3 b u hb e)))
          (by rw [← em]; exact hm.heap P _ (nwr P _ hPs) (hk5 P _ hP3)) (AllBare.movedS (I1.bare.push hgb) hm)
        rw [GxR.sh_eta s1 s' hm.os] at J
        exact ⟨upd H1 P (.tbl (ps ++ more)), ⟨⟨ps ++ more, upd_same, by rw [← em]; exact ht3⟩, fun b hb => upd_ne hb⟩, J⟩
  cases hf : codeAmong gpos ps.toList with
  | none =>
    refine wpAny_genexprCodeX hcode (cd.code hP2 ht) (cd.tab hP2) hf fun c' h' tk hx hge hlt hco' _ htab' _ => ?_
    obtain ⟨o1, vs1, f1, tf, fl, tg, inF, tx, tt, op, _, _, _, _, _, _, _, _, _, htr, _⟩ := hco'
    exact cont _ h' tk _ hx (Nat.le_trans hge (Nat.le_of_lt hlt)) htab'.2 ⟨_, rfl⟩ htr
  | some cv =>
    refine wpAny_genexprCode_hit hcode (cd.code hP2 ht) hf ?_
    exact cont cv hp s1.toks ps (Heap.ExtBut.refl _ _) (Nat.le_refl _) hP2 ⟨#[], by simp⟩ ht
end
end DL
set_option Elab.async false
set_option linter.all false
set_option maxRecDepth 100000
set_option maxHeartbeats 4000000
/-! the data layer: all(is_whole(x) for x in t), the rule -/
namespace DL
open PySem PySem.Spec PyProof.Rows L2 XR
open GxR (TabB TabG Tabbed GenS)
/-- where is_whole stands -/
structure WholeAt (K : PySem.W.Frag) (mg : Str → Option Value) (f : Addr) : Prop where
  g : mg "is_whole" = some (.ref f)
  kp : PySem.W.keepIn K (.ref f) = true
  isi : mg "isinstance" = none
  int : mg "int" = none
  bool : mg "bool" = none
  lk : ∃ (oc : Value) (od : Option Addr) (osl : Array (Option Value)) (qual : Str) (kV doc pm cdv ct : Value) (an : Option Addr) (p1 a1 a2 a3 a4 b1 b2 b3 b4 c d e : Pos),
    K.lookup f = some ⟨oc, od, .func (PySem.W.fnOf "is_whole" qual (wArgs p1) (wBody a1 a2 a3 a4 b1 b2 b3 b4 c d e) wScope .none kV doc pm an cdv ct), osl⟩ ∧ PySem.W.codeIn K cdv qual = true
section
variable {X : Cx} {m : Mo} {W : WX} {P c f : Addr}
theorem Vals.at_ : ∀ {vs : List V} {us : List Value} {i : Nat} {u : Value}, Vals vs us → us[i]? = some u → ∃ v, vs[i]? = some v ∧ RelV v u
  | _, _, i, _, .nil, e => by simp at e
  | _, _, 0, _, .cons h _, e => by
    simp at e
    exact ⟨_, rfl, e ▸ h⟩
  | _, _, i + 1, u, .cons _ r, e => by
    obtain ⟨v, h1, h2⟩ := Vals.at_ (i := i) (u := u) r (by simpa using e)
    exact ⟨v, by simpa using h1, h2⟩
theorem elt_whole {pins : List (Addr × Obj)} {σ : L2.St} {H1 : Hp} {s1 : Shared} {scope : Scope} {x : Str} {q1 q2 q3 : Pos} {its : List Value} {vs : List V} {us : List U} {k : Nat} (hr : Room (k + 1) X.A) (Wh : WholeAt X.K X.mg f) (I1 : Inv X pins σ H1 s1)
    (sk : scope.kind = .function) (sw : scope.names.lookup ("is_whole" : Str) = some .globalImplicit) (sx : scope.names.lookup x = some .local) (xd : (x == ("__debug__" : Str)) = false) (hP : ∃ ps, H1 P = some (.tbl ps)) (rv : Vals vs its) (rl : RelL X.K m H1 vs us) (nr : us.all notRaw = true) :
    EltT X P scope x (.Call (.Name "is_whole" q1) [.Name x q2] [] q3) s1 its (fun i => isIntU (us.getD i .non)) := by
  intro i u code C bi cl A' E' s2 m2 hi hA hdp kb hn hx
  obtain ⟨ps, hP⟩ := hP
  obtain ⟨y, hy, ry⟩ := Vals.at_ rv hi
  obtain ⟨t, ht, rt⟩ := RelL.getV rl hy
  have nt : notRaw t = true := List.all_eq_true.mp nr t (List.mem_of_getElem? ht)
  obtain ⟨Pk, ty, h1, Z, no, hpk, mono⟩ := kit_rel (P := P) I1 hP rt nt ry
  obtain ⟨bi', bb, k1, k2, k3⟩ := kit_int h1
  obtain ⟨oc, od, osl, qual, kV, doc, pm, cdv, ct, an, p1, a1, a2, a3, a4, b1, b2, b3, b4, cc, d, e, lk, hcd⟩ := Wh.lk
  have bk := base_kept I1 hP kb
  have TB := (tops_base I1).keeps bk
  have KX : X.K.In s2.heap := I1.ok.mod.kin.keeps bk
  have lim : s2.heap.NoLimit := I1.ok.mod.nolimit.keeps bk
  have eg : us.getD i .non = t := by
    rw [List.getD_eq_getElem?_getD, ht]
    rfl
  show wpAny _ _ _ (fun (y : Value) s3 => y = Value.bool (isIntU (us.getD i .non)) ∧ Keeps s2 s3) _ _
  rw [eg]
  refine wpAny_Call_Name_kw (Calls.Name_function_global sk sw (Calls.loadGlobal_global (by show s2.heap.Ns X.env.globals X.mg; rw [I1.ok.glob]; exact TB.g) Wh.g ?_) (by decide))
  refine PySem.W.callWith_K (h₀ := s2.heap) KX Wh.kp ?_
  show wpAny _ _ (spliced ((false, eval (.Name x q2) (genEnv scope cl C code bi X.env)) :: backTo q3 (starEach [] _))) _ _ s2
  refine Calls.spliced_cons (wpAny_Name (wpAny_loadName_local sk sx hn hx ?_) xd)
  refine Calls.spliced_nil ⟨KX, ?_⟩
  refine wpAny_mono (whole_call (mg := X.mg) lk hcd KX TB lim Wh.isi Wh.int Wh.bool Z (hpk _ kb) mono no (kit_ty k1) (kit_ty k2) (by have := hr.dp; omega)) (fun y' s3 h => ?_) fun _ _ z => z
  obtain ⟨ey, kk⟩ := h
  exact ⟨by rw [ey, k3], kk⟩
def dAllW (P : Addr) (w : WE) : WE := fun m ρ Q Z => w m ρ (fun u => ∃ us, u = .tup us ∧ us.all notRaw = true ∧ P ∈ m.tabs ∧ Q (.bl (us.all isIntU))) Z
theorem all_range {us : List U} {n : Nat} (h : n = us.length) : (List.range n).all (fun i => isIntU (us.getD i .non)) = us.all isIntU := by
  subst h
  apply Bool.eq_iff_iff.mpr
  rw [List.all_eq_true, List.all_eq_true]
  constructor
  · intro q x hx
    obtain ⟨i, hi, e⟩ := List.mem_iff_getElem.mp hx
    have z := q i (List.mem_range.mpr hi)
    rw [List.getD_eq_getElem?_getD, List.getElem?_eq_getElem hi] at z
    rw [← e]
    exact z
  · intro q i hi
    have hi2 := List.mem_range.mp hi
    rw [List.getD_eq_getElem?_getD, List.getElem?_eq_getElem hi2]
    exact q _ (List.getElem_mem hi2)
theorem tabbed_stp {H1 H2 : Hp} (hP : P ∈ m.tabs) (t : Tabbed P H1 H2) : stpM m H1 H2 := fun b o h k => by
  rw [t.2 b fun z => k.2 (z ▸ hP)]
  exact h
theorem tabbed_inv {H1 H2 : Hp} (i : invM m H1) (hP : P ∈ m.tabs) (t : Tabbed P H1 H2) : invM m H2 := by
  obtain ⟨ps, eP, _⟩ := i.2.2 P hP
  obtain ⟨ps2, eP2, z2⟩ := t.1
  refine ⟨?_, fun b hb => ?_, fun b hb => ?_⟩
  · have i1 := i.1
    cases e : m.deck with
    | none => trivial
    | some d =>
      rw [e] at i1
      obtain ⟨a, b, ns, h1, h2, z⟩ := i1
      exact ⟨a, b, ns, by rw [t.2 _ (ne_of h1 eP (fun z => nomatch z))]; exact h1, by rw [t.2 _ (ne_of h2 eP (fun z => nomatch z))]; exact h2, z⟩
  · by_cases e : b = P
    · rw [e, eP2]
      exact fun z => nomatch z
    · rw [t.2 b e]
      exact i.2.1 b hb
  · by_cases e : b = P
    · rw [e]
      exact t.1
    · obtain ⟨p3, e3, z3⟩ := i.2.2 b hb
      exact ⟨p3, by rw [t.2 b e]; exact e3, z3⟩
theorem de_allW {iter : Expr} {x : Str} {px p pos gpos q1 q2 q3 : Pos} {scope : Scope} {w : WE} {k : Nat} (hr : Room (k + 1) X.A) (hg : Gl X "all") (hm : X.mg "all" = none) (TB : TabB X.base X.mg c P) (hcode : X.env.code = .ref c) (S : GenS X.env scope x) (Wh : WholeAt X.K X.mg f)
    (sw : scope.names.lookup ("is_whole" : Str) = some .globalImplicit) (xd : (x == ("__debug__" : Str)) = false) (hi : DE X W iter w) (hs : ∀ v, genFold iter X.env v = pure v)
    (he : starEach [.GeneratorExp (.Call (.Name "is_whole" q1) [.Name x q2] [] q3) [⟨.Name x px, iter, [], 0⟩] scope gpos] X.env = (false, eval (.GeneratorExp (.Call (.Name "is_whole" q1) [.Name x q2] [] q3) [⟨.Name x px, iter, [], 0⟩] scope gpos) X.env) :: starEach [] X.env := by rfl) :
    DE X W (.Call (.Name "all" p) [.GeneratorExp (.Call (.Name "is_whole" q1) [.Name x q2] [] q3) [⟨.Name x px, iter, [], 0⟩] scope gpos] [] pos) (dAllW P w) := by
  refine ⟨fun pins s σ H Q' I ⟨m, ρ, Q, Z, ge, q, cc⟩ => ?_⟩
  refine wpAny_Call_Name_kw (ld_blt I hg hm boot_all ?_)
  refine PyProof.Rows.callWith_builtin1 ?_ he (by rfl)
  rw [he]
  show wpAny _ _ (spliced ((false, eval (.GeneratorExp (.Call (.Name "is_whole" q1) [.Name x q2] [] q3) [⟨.Name x px, iter, [], 0⟩] scope gpos) X.env) :: backTo pos (starEach [] X.env))) _ _ s
  refine Calls.spliced_cons (gen_tup (P := P) (c := c) (R := fun a vs H1 => ∃ us, RelL X.K m H1 vs us ∧ us.all notRaw = true ∧ P ∈ m.tabs ∧ Q (.bl (us.all isIntU)) ∧ stpM m H H1 ∧ invM m H1) hr TB hcode S hi hs I
    ⟨m, ρ, _, Z, ge, q, fun u v H1 hh s1 i1 r1 => ?_⟩ fun a vs H1 s1 its hR I1 hP rv => ?_)
  · obtain ⟨us, eu, hn, hP, q1⟩ := hh
    subst eu
    obtain ⟨a, vs, rfl, _, hq, l⟩ := rel_tup r1
    exact ⟨a, vs, rfl, hq, i1.2.2 P hP, us, l, hn, hP, q1, s1, i1⟩
  · obtain ⟨us, rl, nr, hPm, qq, st, iv⟩ := hR
    refine ⟨_, elt_whole hr Wh I1 S.kind sw S.loc xd hP rv rl nr, fun g s5 hG => ?_⟩
    obtain ⟨fp, wr, G, F, St, Wk, hst, htr, hI⟩ := hG
    refine Calls.spliced_nil ?_
    refine call_all_walkS (Wk.self 0 _ _ _ hst ⟨g, fp, wr, G, _, F, St, _, rfl, Wk, hst, htr, fun s' hmv => ?_⟩)
    obtain ⟨H2, hT2, J⟩ := hI s' hmv
    refine ⟨.bl _, H2, J, rfl, ?_⟩
    rw [all_range (us := us) (by rw [← rv.length, RelL.len rl])]
    exact cc _ _ H2 qq (stp_trans st (tabbed_stp hPm hT2)) (tabbed_inv iv hPm hT2) (.bl _)
end
end DL
set_option Elab.async false
set_option linter.all false
set_option maxRecDepth 100000
set_option maxHeartbeats 4000000
/-! the data layer: one rule for several kinds -/
namespace DL
open PySem PySem.Spec PyProof.Rows L2 XR
section
variable {X : Cx} {m : Mo} {W : WX} {K : PySem.W.Frag} {a b e tg : Expr} {wa wb w : WE} {pos : Pos}
theorem opr_or {f : Value → Value → Sem Value} {r r' : R2} (h : OpR X f r) (h' : OpR X f r') : OpR X f (fun x y H Q => r x y H Q ∨ r' x y H Q) := by
  intro pins s σ H x y v u Q I rx ry q
  rcases q with q | q
  · exact h pins s σ H x y v u Q I rx ry q
  · exact h' pins s σ H x y v u Q I rx ry q
theorem opd_or {r r' : R2} {g g' : W2} (h : OpD K r g) (h' : OpD K r' g') : OpD K (fun x y H Q => r x y H Q ∨ r' x y H Q) (fun x y Q => g x y Q ∨ g' x y Q) := fun m x y a b H Q Q' iv ra rb q c => by
  rcases q with q | q
  · exact .inl (h m x y a b H Q Q' iv ra rb q c)
  · exact .inr (h' m x y a b H Q Q' iv ra rb q c)
/-- t + u of tuples: the one itself where the other is empty -/
def gCatT : W2 := fun a b Q => ∃ xs ys, a = .tup xs ∧ b = .tup ys ∧ xs.length + ys.length ≤ sizeLine ∧ Q (.tup (xs ++ ys))
theorem opd_catT : OpD K (rCatA K) gCatT := fun m x y a b H Q Q' iv ra rb ⟨xs, ys, ea, eb, z, q⟩ c => by
  subst ea eb
  obtain ⟨p, vs, rfl, t1, h, l⟩ := rel_tup ra
  obtain ⟨p2, vs2, rfl, t2, h2, l2⟩ := rel_tup rb
  refine ⟨p, p2, vs, vs2, rfl, rfl, h, h2, by rw [RelL.len l, RelL.len l2]; exact z, fun e => ?_, fun _ e => ?_, fun _ _ d hd => c.tup iv hd (RelL.append l l2) q⟩
  · subst e
    cases l
    exact c.here iv q (.tup t2 l2)
  · subst e
    cases l2
    rw [List.append_nil] at q
    exact c.here iv q (.tup t1 l)
/-- + of ints, of lists, of tuples -/
def gPlus : W2 := fun x y Q => gAdd x y Q ∨ gCat x y Q ∨ gCatT x y Q
theorem de_plus (ha : DE X W a wa) (hb : DE X W b wb) : DE X W (.BinOp a .Add b pos) (dOp gPlus wa wb) := de_op (opr_or op_add (opr_or op_cat op_catA)) (opd_or (opd_I0 fun _ _ _ _ => .int _) (opd_or opd_cat opd_catT)) ha hb
/-- * of ints, of a list of one item and an int -/
def gStar : W2 := fun x y Q => gMul x y Q ∨ gRep x y Q
theorem de_star (ha : DE X W a wa) (hb : DE X W b wb) : DE X W (.BinOp a .Mult b pos) (dOp gStar wa wb) := de_op (opr_or op_mulW op_rep) (opd_or (opd_IC fun _ _ _ _ => .int _) opd_rep) ha hb
theorem de_eq (hu : X.A.units + 64 < cLine) (ha : DE X W a wa) (hb : DE X W b wb) : DE X W (.Compare a [.Eq] [b] pos) (dOp gEq wa wb) := de_cmp (op_eqD hu) opd_eq ha hb (nomark _)
theorem de_ne (hu : X.A.units + 64 < cLine) (ha : DE X W a wa) (hb : DE X W b wb) : DE X W (.Compare a [.NotEq] [b] pos) (dOp gNe wa wb) := de_cmp (op_neD hu) opd_ne ha hb (nomark _)
theorem dt_eq (hu : X.A.units + 64 < cLine) (ha : DE X W a wa) (hb : DE X W b wb) : DT X W (.Compare a [.Eq] [b] pos) (dTest (dOp gEq wa wb)) := dt_cmp (op_eqD hu) opd_eq ha hb (nomark _)
theorem dt_ne (hu : X.A.units + 64 < cLine) (ha : DE X W a wa) (hb : DE X W b wb) : DT X W (.Compare a [.NotEq] [b] pos) (dTest (dOp gNe wa wb)) := dt_cmp (op_neD hu) opd_ne ha hb (nomark _)
theorem opd_b0 {g : Int → Int → Bool} : OpD K (rI0 fun i j => .bl (g i j)) (gI fun i j => .bl (g i j)) := opd_I0 fun _ _ _ _ => .bl _
theorem de_lt (ha : DE X W a wa) (hb : DE X W b wb) : DE X W (.Compare a [.Lt] [b] pos) (dOp gLt wa wb) := de_cmp op_lt opd_b0 ha hb (nomark _)
theorem de_le (ha : DE X W a wa) (hb : DE X W b wb) : DE X W (.Compare a [.LtE] [b] pos) (dOp gLe wa wb) := de_cmp op_le opd_b0 ha hb (nomark _)
theorem de_gt (ha : DE X W a wa) (hb : DE X W b wb) : DE X W (.Compare a [.Gt] [b] pos) (dOp gGt wa wb) := de_cmp op_gt opd_b0 ha hb (nomark _)
theorem de_ge (ha : DE X W a wa) (hb : DE X W b wb) : DE X W (.Compare a [.GtE] [b] pos) (dOp gGe wa wb) := de_cmp op_ge opd_b0 ha hb (nomark _)
theorem dt_lt (ha : DE X W a wa) (hb : DE X W b wb) : DT X W (.Compare a [.Lt] [b] pos) (dTest (dOp gLt wa wb)) := dt_cmp op_lt opd_b0 ha hb (nomark _)
theorem dt_le (ha : DE X W a wa) (hb : DE X W b wb) : DT X W (.Compare a [.LtE] [b] pos) (dTest (dOp gLe wa wb)) := dt_cmp op_le opd_b0 ha hb (nomark _)
theorem dt_gt (ha : DE X W a wa) (hb : DE X W b wb) : DT X W (.Compare a [.Gt] [b] pos) (dTest (dOp gGt wa wb)) := dt_cmp op_gt opd_b0 ha hb (nomark _)
theorem dt_ge (ha : DE X W a wa) (hb : DE X W b wb) : DT X W (.Compare a [.GtE] [b] pos) (dTest (dOp gGe wa wb)) := dt_cmp op_ge opd_b0 ha hb (nomark _)
theorem de_isT {x : Bool} {j pos'} (ha : DE X W a wa) : DE X W (.Compare a [.Is] [.Constant (.bool x) j pos'] pos) (dOp gIsB wa (dC (.bl x))) := de_cmp op_isBl opd_isB ha de_bl (nomark _)
theorem de_notT {x : Bool} {j pos'} (ha : DE X W a wa) : DE X W (.Compare a [.IsNot] [.Constant (.bool x) j pos'] pos) (dOp gNotB wa (dC (.bl x))) := de_cmp op_notBl opd_notB ha de_bl (nomark _)
/-- a part of a list, of a tuple -/
def gSlU (u : U) (lo hi : Option Int) (Q : U → Prop) : Prop := ∃ ts, u = .tup ts ∧ Q (.tup (cutU ts lo hi))
def gSlA (u : U) (lo hi : Option Int) (Q : U → Prop) : Prop := gSlL u lo hi Q ∨ gSlU u lo hi Q
theorem cut_whole {us : List U} {lo hi : Option Int} (h : HT.sIx us.length 0 lo = 0 ∧ HT.sIx us.length us.length hi = us.length) : cutU us lo hi = us := by
  unfold cutU
  rw [h.1, h.2, List.drop_zero, Nat.sub_zero, List.take_length]
theorem de_sl {lo hi : Option Expr} {l h : WO} {p2 : Pos} (ha : DE X W a wa) (hl : DO X W lo l) (hh : DO X W hi h) : DE X W (.Subscript a (.Slice lo hi none p2) pos) (dSl gSlA wa l h) := PE.weak (pe_slice (SlR.or sl_list sl_tupA) ha hl hh) fun σ H Q' ⟨m, ρ, Q, Z, ge, q, c⟩ =>
  ⟨m, ρ, _, Z, ge, q, fun u v H1 q1 s1 i1 r1 => ⟨m, ρ, _, Z, ge.step s1 i1, q1, fun o H2 q2 s2 i2 => ⟨m, ρ, _, Z, ge.step (stp_trans s1 s2) i2, q2, fun o2 H3 q3 s3 i3 => by
    rcases q3 with ⟨ts, e, q3⟩ | ⟨ts, e, q3⟩
    · subst e
      obtain ⟨p, ys, rfl, k, h, l⟩ := rel_lst (Rel.step (stp_trans s2 s3) r1)
      exact .inl ⟨p, ys, rfl, .inl (.inl h), fun d hd => (c.step (stp_trans s1 (stp_trans s2 s3))).lst i3 hd (cut_rel l o o2) q3⟩
    · subst e
      obtain ⟨p, ys, rfl, k, h, l⟩ := rel_tup (Rel.step (stp_trans s2 s3) r1)
      refine .inr ⟨p, ys, rfl, h, fun z => ?_, fun _ d hd => (c.step (stp_trans s1 (stp_trans s2 s3))).tup i3 hd (cut_rel l o o2) q3⟩
      rw [RelL.len l] at z
      rw [cut_whole z] at q3
      exact (c.step (stp_trans s1 (stp_trans s2 s3))).here i3 q3 (.tup k l)⟩⟩⟩
/-- for x in a list, a tuple -/
def dItA (w : WE) : WI := fun m ρ Q Z => w m ρ (fun u => ∃ us, (u = .lst us ∨ u = .tup us) ∧ Q us) Z
theorem pi_or {wi wj : TI} (h : PI X tg e wi) (h' : PI X tg e wj) : PI X tg e (fun σ H R => wi σ H R ∨ wj σ H R) := ⟨fun pins s σ H R I q => by
  rcases q with q | q
  · exact h.run pins s σ H R I q
  · exact h'.run pins s σ H R I q⟩
/-- name = [..], the comprehension on the name's own line -/
theorem ds_of_lc {st : Stmt} {i : Nat} {wi : WI} {g : TG} {cg : CG} {tt : WT} {te : WE} {ws : List Nat} (hT : TgOk X.K g cg ws) (h : PS X st (tAsg (tLc (tI X.K W wi) g (tT X.K noW tt) (tE X.K noW te) ws) (gName i))) : DS X W st (dSet i (dLc wi cg tt te ws)) :=
  ds_of_set (PS.weak h fun D σ H q => t_lc hT σ H _ q)
end
end DL
set_option Elab.async false
set_option linter.all false
set_option maxRecDepth 100000
set_option maxHeartbeats 4000000
/-! the data layer: what the readings are made of -/
namespace DL
open PySem PySem.Spec PyProof.Rows L2 XR
structure Def (K : PySem.W.Frag) (mg : Str → Option Value) (x : Str) (st : Stmt) (f : Addr) (fd : FuncData) : Prop where
  F : Fun K x x st f fd
  g : mg x = some (.ref f)
abbrev n4 (p q s d : Int) : U := .tup [.int p, .int q, .int s, .int d]
theorem ueq_int (i j : Int) : ueq (.int i) (.int j) = decide (i = j) := by
  show (i == j) = decide (i = j)
  by_cases e : i = j
  · subst e
    simp
  · rw [decide_eq_false e]
    exact beq_eq_false_iff_ne.mpr e
theorem flat_int (i : Int) : flat (.int i) = true := rfl
theorem flat_n4 (p q s d : Int) : flat (n4 p q s d) = true := rfl
theorem ueq_n4 (p q s d p' q' s' d' : Int) : ueq (n4 p q s d) (n4 p' q' s' d') = (decide (p = p') && (decide (q = q') && (decide (s = s') && decide (d = d')))) := by
  show (PyData.eqv (.int p) (.int p') && (PyData.eqv (.int q) (.int q') && (PyData.eqv (.int s) (.int s') && (PyData.eqv (.int d) (.int d') && true)))) = _
  rw [Bool.and_true]
  rw [show PyData.eqv (.int p) (.int p') = decide (p = p') from ueq_int p p', show PyData.eqv (.int q) (.int q') = decide (q = q') from ueq_int q q', show PyData.eqv (.int s) (.int s') = decide (s = s') from ueq_int s s', show PyData.eqv (.int d) (.int d') = decide (d = d') from ueq_int d d']
/-- + and * by what they meet -/
theorem plus_int (i j : Int) (Q : U → Prop) : gPlus (.int i) (.int j) Q ↔ Q (.int (i + j)) := by
  simp [gPlus, gAdd, gI, gCat, gCatT]
theorem star_int (i j : Int) (Q : U → Prop) : gStar (.int i) (.int j) Q ↔ (CMulW i j ∧ Q (.int (i * j))) := by
  simp [gStar, gMul, gIC, gRep]
theorem plus_lst (xs ys : List U) (Q : U → Prop) : gPlus (.lst xs) (.lst ys) Q ↔ (xs.length + ys.length ≤ sizeLine ∧ Q (.lst (xs ++ ys))) := by
  simp [gPlus, gAdd, gI, gCat, gCatT]
theorem ix_tup_at (us : List U) (i : Int) (Q : U → Prop) (u : U) (h : atI us i = some u) : gIx (.tup us) (.int i) Q ↔ Q u := by
  simp [gIx, h]
theorem ix_lst_at (us : List U) (i : Int) (Q : U → Prop) (u : U) (h : atI us i = some u) : gIx (.lst us) (.int i) Q ↔ Q u := by
  simp [gIx, h]
theorem ix0 (p q s d : Int) (Q : U → Prop) : gIx (n4 p q s d) (.int 0) Q ↔ Q (.int p) := ix_tup_at _ _ _ _ rfl
theorem ix1 (p q s d : Int) (Q : U → Prop) : gIx (n4 p q s d) (.int 1) Q ↔ Q (.int q) := ix_tup_at _ _ _ _ rfl
theorem ix2 (p q s d : Int) (Q : U → Prop) : gIx (n4 p q s d) (.int 2) Q ↔ Q (.int s) := ix_tup_at _ _ _ _ rfl
theorem ix3 (p q s d : Int) (Q : U → Prop) : gIx (n4 p q s d) (.int 3) Q ↔ Q (.int d) := ix_tup_at _ _ _ _ rfl
theorem gI_int (f : Int → Int → U) (i j : Int) (Q : U → Prop) : gI f (.int i) (.int j) Q ↔ Q (f i j) := by simp [gI]
theorem gIC_int (C : Int → Int → Prop) (f : Int → Int → U) (i j : Int) (Q : U → Prop) : gIC C f (.int i) (.int j) Q ↔ (C i j ∧ Q (f i j)) := by simp [gIC]
theorem gEq_int (i j : Int) (Q : U → Prop) : gEq (.int i) (.int j) Q ↔ Q (.bl (decide (i = j))) := by
  unfold gEq
  rw [flat_int, flat_int, ueq_int]
  simp
theorem gNe_int (i j : Int) (Q : U → Prop) : gNe (.int i) (.int j) Q ↔ Q (.bl (!decide (i = j))) := by
  unfold gNe
  rw [flat_int, flat_int, ueq_int]
  simp
theorem le_line {n : Nat} (h : n ≤ 1000) : n ≤ sizeLine := Nat.le_of_lt (small1000 h)
theorem startU_eq (N : List Str) (us : List U) : startU N us = us.map some ++ List.replicate (N.length - us.length) none := rfl
theorem ex_uu {a : U} {Q : U → Prop} : (∃ u, some (some a) = some (some u) ∧ Q u) ↔ Q a := by simp
theorem fGcd_int (i j : Int) (Q : U → Prop) : fGcd [.int i, .int j] Q ↔ Q (.int ((Nat.gcd i.natAbs j.natAbs : Nat) : Int)) := by
  constructor
  · rintro ⟨a, b, e, q⟩
    injection e with e1 e2
    injection e2 with e2 e3
    injection e1 with e1
    injection e2 with e2
    subst e1 e2
    exact q
  · exact fun q => ⟨_, _, rfl, q⟩
theorem fIsq_int (i : Int) (Q : U → Prop) : fIsq [.int i] Q ↔ (0 ≤ i ∧ i < 2 ^ 64 ∧ Q (.int ((Float64.isqrt i.toNat : Nat) : Int))) := by simp [fIsq]
theorem fAbs_int (i : Int) (Q : U → Prop) : fAbs [.int i] Q ↔ Q (.int (if i < 0 then -i else i)) := by simp [fAbs]
theorem fInt_int (i : Int) (Q : U → Prop) : fInt [.int i] Q ↔ Q (.int i) := by simp [fInt]
theorem fLen_tup (us : List U) (Q : U → Prop) : fLen [.tup us] Q ↔ Q (.int us.length) := by simp [fLen]
theorem fLen_lst (us : List U) (Q : U → Prop) : fLen [.lst us] Q ↔ Q (.int us.length) := by simp [fLen]
theorem fMax2_int (i j : Int) (Q : U → Prop) : fMax2 [.int i, .int j] Q ↔ Q (.int (if j > i then j else i)) := by
  constructor
  · rintro ⟨a, b, e, q⟩
    injection e with e1 e2
    injection e2 with e2 e3
    injection e1 with e1
    injection e2 with e2
    subst e1 e2
    exact q
  · exact fun q => ⟨_, _, rfl, q⟩
theorem gNeg_int (i : Int) (Q : U → Prop) : gNeg (.int i) Q ↔ Q (.int (-i)) := by simp [gNeg]
theorem ex_bl {b : Bool} {Q : Bool → Prop} : (∃ c, U.bl b = .bl c ∧ Q c) ↔ Q b := by simp
theorem ex_tup {us : List U} {Q : List U → Prop} : (∃ ts, U.tup us = .tup ts ∧ Q ts) ↔ Q us := by simp
theorem ex_lst {us : List U} {Q : List U → Prop} : (∃ ts, U.lst us = .lst ts ∧ Q ts) ↔ Q us := by simp
theorem ex_int {i : Int} {Q : Int → Prop} : (∃ j, U.int i = .int j ∧ Q j) ↔ Q i := by simp
theorem ex_cons {u : U} {us : List U} {Q : U → List U → Prop} : (∃ x t, u :: us = x :: t ∧ Q x t) ↔ Q u us := by
  constructor
  · rintro ⟨x, t, e, q⟩
    injection e with e1 e2
    subst e1 e2
    exact q
  · exact fun q => ⟨_, _, rfl, q⟩
theorem ex_two {u v : U} {Q : U → U → Prop} : (∃ a b, [u, v] = [a, b] ∧ Q a b) ↔ Q u v := by
  constructor
  · rintro ⟨x, t, e, q⟩
    injection e with e1 e2
    injection e2 with e2 e3
    subst e1 e2
    exact q
  · exact fun q => ⟨_, _, rfl, q⟩
/-! pairs of ints, texts -/
abbrev p2 (a b : Int) : U := .tup [.int a, .int b]
theorem flat_p2 (a b : Int) : flat (p2 a b) = true := rfl
theorem ueq_p2 (a b c d : Int) : ueq (p2 a b) (p2 c d) = (decide (a = c) && decide (b = d)) := by
  show (PyData.eqv (.int a) (.int c) && (PyData.eqv (.int b) (.int d) && true)) = _
  rw [Bool.and_true, show PyData.eqv (.int a) (.int c) = decide (a = c) from ueq_int a c, show PyData.eqv (.int b) (.int d) = decide (b = d) from ueq_int b d]
theorem ueq_str (x y : Str) : ueq (.str x) (.str y) = decide (x = y) := by
  show (x == y) = decide (x = y)
  by_cases e : x = y
  · subst e
    simp
  · rw [decide_eq_false e]
    exact beq_eq_false_iff_ne.mpr e
theorem gEq_p2 (a b c d : Int) (Q : U → Prop) : gEq (p2 a b) (p2 c d) Q ↔ Q (.bl (decide (a = c) && decide (b = d))) := by
  unfold gEq
  rw [flat_p2, flat_p2, ueq_p2]
  simp
theorem gNe_p2 (a b c d : Int) (Q : U → Prop) : gNe (p2 a b) (p2 c d) Q ↔ Q (.bl (!(decide (a = c) && decide (b = d)))) := by
  unfold gNe
  rw [flat_p2, flat_p2, ueq_p2]
  simp
theorem gEq_str (x y : Str) (Q : U → Prop) : gEq (.str x) (.str y) Q ↔ (flat (.str x) = true ∧ flat (.str y) = true ∧ Q (.bl (decide (x = y)))) := by
  unfold gEq
  rw [ueq_str]
theorem ixp0 (a b : Int) (Q : U → Prop) : gIx (p2 a b) (.int 0) Q ↔ Q (.int a) := ix_tup_at _ _ _ _ rfl
theorem ixp1 (a b : Int) (Q : U → Prop) : gIx (p2 a b) (.int 1) Q ↔ Q (.int b) := ix_tup_at _ _ _ _ rfl

end DL
set_option Elab.async false
set_option linter.all false
set_option maxRecDepth 100000
set_option maxHeartbeats 4000000
/-! the data layer: x in (a, b) of ints; ways back to the heap -/
namespace DL
open PySem PySem.Spec PyProof.Rows L2 XR
section
variable {X : Cx} {m : Mo} {W : WX} {K : PySem.W.Frag} {a b : Expr} {wa wb w : WE} {pos : Pos} {H : Hp}
theorem relL_ints : ∀ {js : List Int} {vs : List V}, RelL K m H vs (js.map .int) → vs = js.map .int
  | [], _, h => by
    cases h
    rfl
  | j :: js, _, h => by
    cases h with
    | cons h1 h2 =>
      rw [rel_int h1, relL_ints h2]
      rfl
theorem inV_ints (i : Int) : ∀ js : List Int, inV (.int i) (js.map V.int) = js.contains i
  | [] => rfl
  | j :: js => by
    have h := inV_ints i js
    unfold inV at h ⊢
    rw [List.map_cons, List.any_cons, h, List.contains_cons]
    show ((j == i) || _) = ((i == j) || _)
    rw [Bool.beq_comm]
theorem flat_ints : ∀ js : List Int, (js.map V.int).all flatV = true
  | [] => rfl
  | _ :: js => by
    rw [List.map_cons, List.all_cons, flat_ints js]
    rfl
def gInI (neg : Bool) : W2 := fun x y Q => ∃ (i : Int) (js : List Int), x = .int i ∧ y = .tup (js.map .int) ∧ Q (.bl (if neg then !js.contains i else js.contains i))
theorem opd_inI {neg : Bool} : OpD K (rIn K neg) (gInI neg) := fun m x y a b H Q Q' iv ra rb ⟨i, js, ea, eb, q⟩ c => by
  subst ea eb
  obtain ⟨p, vs, rfl, h, sq, l⟩ := rel_tup rb
  have e1 := rel_int ra
  have e2 := relL_ints l
  subst e1 e2
  refine ⟨p, _, rfl, .inr sq, rfl, flat_ints js, ?_⟩
  rw [inV_ints]
  exact c.here iv q (.bl _)
theorem dt_in (ha : DE X W a wa) (hb : DE X W b wb) (hm : behindInMarks .In b = false) : DT X W (.Compare a [.In] [b] pos) (dTest (dOp (gInI false) wa wb)) := dt_cmp op_in_seq opd_inI ha hb hm
theorem dt_notIn (ha : DE X W a wa) (hb : DE X W b wb) (hm : behindInMarks .NotIn b = false) : DT X W (.Compare a [.NotIn] [b] pos) (dTest (dOp (gInI true) wa wb)) := dt_cmp op_notIn_seq opd_inI ha hb hm
theorem gInI_of {neg c : Bool} {i : Int} {us : List U} (js : List Int) {Q : U → Prop} (e : us = js.map .int) (h : (if neg then !js.contains i else js.contains i) = c) (q : Q (.bl c)) : gInI neg (.int i) (.tup us) Q := ⟨i, js, rfl, by rw [e], h ▸ q⟩
/-! ### ways back to the heap -/
/-- a call of a def over data whose arguments are read over the heap -/
def tCallD (K : PySem.W.Frag) (W : WX) (sp : SpD) (ta : TA) : TE := fun σ H Q' => ta σ H (fun vs H1 => ∃ m us Qd Zd, invM m H1 ∧ RelL K m H1 vs us ∧ sp m us Qd Zd ∧ Cont K m H1 Qd Q' ∧ ContE K m H1 Zd fun c d H2 => W c d σ H2)
theorem pe_callD {k : Nat} {f : Addr} {fd : FuncData} {ps : List Str} {sp : SpD} {x : Str} {p pos : Pos} {e : Expr} {es : List Expr} {ta : TA} (F : Fd X.prog X.w X.K X.mg X.base k f fd ps sp) (hr : Room k X.A) (hG : X.A.guards = some []) (tk : Takes X W) (hg : Gl X x) (hm : X.mg x = some (.ref f))
    (hk : PySem.W.keepIn X.K (.ref f) = true) (hb : Binds X.K fd ps []) (ha : PA X (e :: es) ta) (hdb : (x == ("__debug__" : Str)) = false := by decide) (he : starEach (e :: es) X.env = (false, eval e X.env) :: starEach es X.env := by rfl)
    (hpl : (backTo pos (starEach es X.env)).any (·.1) = false := by rfl) : PE X (.Call (.Name x p) (e :: es) [] pos) (tCallD X.K W sp ta) := by
  refine ⟨fun pins s σ H Q' I h => ?_⟩
  refine wpAny_Call_Name_kw (ld_glob I hg hm ?_ hdb)
  refine PySem.W.callWith_K (h₀ := X.base) I.ok.mod.kin hk (thn (ha.run pos pins s σ H _ I h) fun xs s1 ⟨vs, H1, I1, r, m, us, Qd, Zd, iv, rl, hsp, c, cx⟩ => ⟨I1.kIn, ?_⟩) he hpl
  have hl : (xs ++ []).length = ps.length := by
    rw [List.append_nil, ← r.length, RelL.len rl]
    exact F.len _ _ _ _ hsp
  have b := hb s1 xs I1.kIn hl
  rw [List.append_nil] at b
  exact run_fd (args := ⟨xs, []⟩) F hr hG tk b I1 r iv rl hsp c cx
/-- statements that are read over the heap, among statements over data -/
def wAny (K : PySem.W.Frag) (W : WX) (ts : TS) : WS := fun m DD ρ => ∀ D σ H, invM m H → RelS K m H σ ρ → ContS K m W H DD D → ts D σ H
theorem dss_any {st : List Stmt} {ts : TS} (h : PSs X st ts) : DSs X W st (wAny X.K W ts) := PSs.weak h fun D σ H ⟨m, ρ, DD, iv, rs, q, c⟩ => q D σ H iv rs c
theorem RelL.set : ∀ {vs : List V} {us : List U} (i : Nat) {v : V} {u : U}, RelL K m H vs us → Rel K m H v u → RelL K m H (vs.set i v) (us.set i u)
  | _, _, _, _, _, .nil, _ => .nil
  | _, _, 0, _, _, .cons _ r, h => .cons h r
  | _, _, i + 1, _, _, .cons h r, h2 => .cons h (RelL.set i r h2)
theorem RelL.rep {v : V} {u : U} (h : Rel K m H v u) : ∀ n : Nat, RelL K m H (List.replicate n v) (List.replicate n u)
  | 0 => .nil
  | n + 1 => .cons h (RelL.rep h n)
end
end DL
set_option Elab.async false
set_option linter.all false
set_option maxRecDepth 100000
set_option maxHeartbeats 4000000
/-! the data layer: a list of one's own that is changed by place. Its slot holds .raw (its address); what it holds goes along with the statements. -/
namespace DL
open PySem PySem.Spec PyProof.Rows L2 XR
section
variable {X : Cx} {m : Mo} {W : WX} {K : PySem.W.Frag} {H H' H1 H2 : Hp} {D : Addr} {pos : Pos} {tg : Expr}
/-- the list in the making at D, and what it holds -/
def Own (K : PySem.W.Frag) (m : Mo) (D : Addr) (H : Hp) (us : List U) : Prop := D ∈ m.ban ∧ okS m D ∧ ∃ vs, H D = some (.lst vs) ∧ RelL K m H vs us
/-- what stands, D left out -/
def stpX (m : Mo) (D : Addr) (H H' : Hp) : Prop := ∀ b o, b ≠ D → H b = some o → okS m b → H' b = some o
theorem stpX_of (s : stpM m H H') : stpX m D H H' := fun b o _ h k => s b o h k
theorem stpX_trans (a : stpX m D H H1) (b : stpX m D H1 H2) : stpX m D H H2 := fun c o n h k => b c o n (a c o n h k) k
theorem ne_ban {a : Addr} (hD : D ∈ m.ban) (k : okA m a) : a ≠ D := fun z => k.2 (z ▸ hD)
theorem TupR.stepX {a : Addr} {xs : List V} (hD : D ∈ m.ban) (s : stpX m D H H') (t : TupR K m H a xs) : TupR K m H' a xs := by
  rcases t with ⟨k, h | ⟨o, h⟩⟩ | h
  · exact .inl ⟨k, .inl (s _ _ (ne_ban hD k) h k.1)⟩
  · exact .inl ⟨k, .inr ⟨o, s _ _ (ne_ban hD k) h k.1⟩⟩
  · exact .inr h
mutual
theorem Rel.stepX (hD : D ∈ m.ban) (s : stpX m D H H') : ∀ {v : V} {u : U}, Rel K m H v u → Rel K m H' v u
  | _, _, .non => .non
  | _, _, .bl b => .bl b
  | _, _, .int i => .int i
  | _, _, .str x => .str x
  | _, _, .tup h r => .tup (TupR.stepX hD s h) (RelL.stepX hD s r)
  | _, _, .lst k h r => .lst k (s _ _ (ne_ban hD k) h k.1) (RelL.stepX hD s r)
  | _, _, .dct k h l r => .dct k (s _ _ (ne_ban hD k) h k.1) l (RelL.stepX hD s r)
  | _, _, .dpt k h l r => .dpt k (s _ _ (ne_ban hD k) h k.1) l (RelL.stepX hD s r)
  | _, _, .raw v => .raw v
theorem RelL.stepX (hD : D ∈ m.ban) (s : stpX m D H H') : ∀ {vs : List V} {us : List U}, RelL K m H vs us → RelL K m H' vs us
  | _, _, .nil => .nil
  | _, _, .cons h r => .cons (Rel.stepX hD s h) (RelL.stepX hD s r)
end
theorem RelS.stepX {σ : L2.St} {ρ : Env} (hD : D ∈ m.ban) (s : stpX m D H H') (r : RelS K m H σ ρ) : RelS K m H' σ ρ := ⟨r.1, fun i u e => by
  obtain ⟨v, h1, h2⟩ := r.2 i u e
  exact ⟨v, h1, Rel.stepX hD s h2⟩⟩
theorem Own.step {us : List U} (o : Own K m D H us) (s : stpM m H H') : Own K m D H' us := by
  obtain ⟨a, b, vs, h, r⟩ := o
  exact ⟨a, b, vs, s _ _ h b, RelL.step s r⟩
theorem stpX_set {o : HO} : stpX m D H (upd H D o) := fun b x n h _ => by
  rw [upd_ne n]
  exact h
theorem Own.set {us : List U} (o : Own K m D H us) (i : Nat) {v : V} {u : U} (r : Rel K m H v u) : ∃ vs, H D = some (.lst vs) ∧ RelL K m H vs us ∧ Own K m D (upd H D (.lst (vs.set i v))) (us.set i u) := by
  obtain ⟨a, b, vs, h, l⟩ := o
  exact ⟨vs, h, l, a, b, _, upd_same, RelL.set i (RelL.updB a l) (Rel.updB a r)⟩
abbrev WOwn := Mo → Addr → List U → (List U → Env → Prop) → Env → Prop
def tOwn (K : PySem.W.Frag) (w : WOwn) : TS := fun Dn σ H => ∃ m D us N ρ, invM m H ∧ RelS K m H σ ρ ∧ Own K m D H us ∧ w m D us N ρ ∧
  ∀ us' ρ' σ' H', N us' ρ' → stpX m D H H' → invM m H' → RelS K m H' σ' ρ' → Own K m D H' us' → Dn.nx σ' H'
def xNo : XQ := fun _ _ => False
theorem ge_no {σ : L2.St} {ρ : Env} (iv : invM m H) (rs : RelS K m H σ ρ) : GE K m W σ H ρ xNo := ⟨iv, rs, fun _ _ _ _ _ q => q.elim⟩
/-- for i, x in enumerate(slot k): .. -/
def oFor (k : Nat) (g : WG) (b : WOwn) : WOwn := fun m D us N ρ => ∃ ts, ρ[k]? = some (some (.tup ts)) ∧ ∃ I : Nat → List U → Env → Prop, I 0 us ρ ∧
  (∀ (i : Nat) u us' ρ', ts[i]? = some u → I i us' ρ' → g (.tup [.int (i : Int), u]) ρ' fun ρ2 => b m D us' (I (i + 1)) ρ2) ∧ ∀ us' ρ', I ts.length us' ρ' → N us' ρ'
theorem os_for {k : Nat} {g : WG} {b : WOwn} {iter : Expr} {body : List Stmt} (h : PS X (.For tg iter body [] pos) (tFor (iEnumX X.K (tA X.K W (dCons (dVar k) dNil))) (tG X.K g) (tOwn X.K b))) : PS X (.For tg iter body [] pos) (tOwn X.K (oFor k g b)) :=
  PS.weak h fun Dn σ H ⟨m, D, us, N, ρ, iv, rs, ow, ⟨ts, ek, I, h0, turn, fin⟩, c⟩ => by
    refine ⟨m, ρ, fun us => us = [.tup ts], xNo, ge_no iv rs, ⟨_, ek, rfl⟩, ?_⟩
    rintro us1 vs H1 rfl s1 i1 r1
    obtain ⟨v, rfl, a⟩ := rl1 r1
    obtain ⟨p, ys, rfl, kk, sq, l⟩ := rel_tup a
    refine ⟨p, ys, rfl, .inr ⟨sq, ?_⟩⟩
    refine ⟨fun i k σ' H' => k = ts.length - i ∧ i ≤ ts.length ∧ ∃ ρ' us', I i us' ρ' ∧ stpX m D H1 H' ∧ invM m H' ∧ RelS X.K m H' σ' ρ' ∧ Own X.K m D H' us',
      ⟨ts.length, by simp, Nat.zero_le _, ρ, us, h0, stpX_of stp_refl, i1, RelS.step s1 rs, ow.step s1⟩, ?_⟩
    rintro i k σ1 H2 ⟨rfl, hi, ρ1, us1, h1, s2, i2, r2, o2⟩
    have hl := RelL.len l
    have at2 : SqT X.K H2 p ys := (TupR.stepX ow.1 s2 kk).sq
    have l2 : RelL X.K m H2 ys ts := RelL.stepX ow.1 s2 l
    by_cases lt : i < ts.length
    · refine .inr ⟨⟨ys, ys[i]'(by omega), at2, by simp⟩, fun σ' H' => ∃ ρ' us', I (i + 1) us' ρ' ∧ stpX m D H1 H' ∧ invM m H' ∧ RelS X.K m H' σ' ρ' ∧ Own X.K m D H' us',
        fun σ' H' ⟨ρ', us', a1, a2, a3, a4, a5⟩ => ⟨ts.length - (i + 1), by omega, rfl, lt, ρ', us', a1, a2, a3, a4, a5⟩, fun x H3 ⟨T, y1, ex, hT, eH, y⟩ => ?_⟩
      subst ex eH
      obtain ⟨u, eu, ru⟩ := RelL.getV l2 (y ys at2)
      have s3 : stpM m H2 (upd H2 T (.tup [.int (i : Nat), y1])) := stp_new hT
      refine ⟨m, .tup [.int i, u], ρ1, _, inv_new i2 hT, RelS.step s3 r2, new_pair i2 hT (.int _) ru, turn i u us1 ρ1 eu h1, fun ρ4 σ4 H4 q4 s4 i4 r4 => ?_⟩
      have st := stp_trans s3 s4
      exact ⟨m, D, us1, I (i + 1), ρ4, i4, r4, o2.step st, q4, fun us' ρ' σ' H' q s' i' r' o' => ⟨ρ', us', q, stpX_trans s2 (stpX_trans (stpX_of st) s'), i', r', o'⟩⟩
    · have e : i = ts.length := by omega
      subst e
      exact .inl ⟨⟨ys, at2, by omega⟩, c us1 ρ1 σ1 H2 (fin us1 ρ1 h1) (stpX_trans (stpX_of s1) s2) i2 r2 o2⟩
theorem ixN_own {n j : Nat} (hj : j < n) : ixN n (j : Int) = some j := by
  unfold ixN
  rw [if_pos (by omega), if_pos (by omega)]
  rfl
/-- xs[i + j] = f(xs[i + j], e): xs, i, j in the slots n, a, b -/
def oSet (n a b : Nat) (sp : SpD) (w : WE) : WOwn := fun m D us N ρ => ∃ (i j : Nat) (u : U), ρ[n]? = some (some (.raw (.ref D))) ∧ ρ[a]? = some (some (.int (i : Int))) ∧ ρ[b]? = some (some (.int (j : Int))) ∧ us[i + j]? = some u ∧
  w m ρ (fun y => sp m [u, y] (fun z => N (us.set (i + j) z) ρ) xNo) xNo
theorem os_set {st : Stmt} {n a b : Nat} {sp : SpD} {w : WE} (h : PS X st (tAsg (tCallD X.K W sp (tCons (tOp (rIx X.K) (tVar n) (tOp (rI0 fun i j => .int (i + j)) (tVar a) (tVar b))) (tCons (tE X.K W w) tNil))) (L2.gSub (tVar n) (tOp (rI0 fun i j => .int (i + j)) (tVar a) (tVar b)) rSetL))) : PS X st (tOwn X.K (oSet n a b sp w)) :=
  PS.weak h fun Dn σ H ⟨m, D, us, N, ρ, iv, rs, ow, ⟨i, j, u, en, ea, eb, ha, q⟩, c⟩ => by
    obtain ⟨vn, sn, rn⟩ := rs.2 n _ en
    obtain ⟨va, sa, ra⟩ := rs.2 a _ ea
    obtain ⟨vb, sb, rb⟩ := rs.2 b _ eb
    cases rn
    cases ra
    cases rb
    obtain ⟨vs, hD, l⟩ := ow.2.2
    obtain ⟨v, hv, ru⟩ := RelL.get l ha
    have lt : i + j < vs.length := (List.getElem?_eq_some_iff.mp hv).1
    have ec : (i : Int) + (j : Int) = ((i + j : Nat) : Int) := by omega
    refine ⟨_, sn, _, sa, _, sb, _, _, rfl, rfl, .inl ⟨D, vs, _, v, rfl, rfl, .inl (.inl hD), by rw [ec]; exact atI_nat hv, ?_⟩⟩
    refine ⟨m, ρ, _, xNo, ge_no iv rs, q, fun y v2 H1 q1 s1 i1 r1 => ⟨m, [u, y], _, xNo, i1, .cons (Rel.step s1 ru) (.cons r1 .nil), q1, fun z v3 H2 q2 s2 i2 r2 => ?_, fun _ _ _ _ _ q => q.elim⟩⟩
    have st := stp_trans s1 s2
    obtain ⟨vs2, hD2, l2, o2⟩ := (ow.step st).set (i + j) r2
    have e2 : vs2 = vs := by
      have := st _ _ hD ow.2.1
      rw [hD2] at this
      cases this
      rfl
    subst e2
    refine ⟨_, sn, _, sa, _, sb, _, _, rfl, rfl, D, vs2, _, i + j, rfl, rfl, hD2, by rw [ec]; exact ixN_own lt, ?_⟩
    exact c _ ρ σ _ q2 (stpX_trans (stpX_of st) stpX_set) (inv_upd i2 ow.2.1) (RelS.stepX ow.1 (stpX_trans (stpX_of st) stpX_set) rs) o2
/-- xs = [e] * n, a statement over the list, return tuple(xs) -/
def dOwn (n : Nat) (wl wn : WE) (b : WOwn) : WS := fun m DD ρ => wl m ρ (fun x => wn m ρ (fun y => ∃ u k, x = .lst [u] ∧ y = .int k ∧ -(2 ^ 63) ≤ k ∧ k < 2 ^ 63 ∧ k.toNat ≤ sizeLine ∧ n < ρ.length ∧
  ∀ D, b (addB m [D]) D (List.replicate k.toNat u) (fun us' ρ' => ρ'[n]? = some (some (.raw (.ref D))) ∧ DD.rt (.tup us')) (ρ.set n (some (.raw (.ref D))))) (DD.ex ρ)) (DD.ex ρ)
theorem dss_own {n : Nat} {wl wn : WE} {b : WOwn} {s0 s1 s2 : Stmt} (h0 : PS X s0 (tAsg (tOp rRep (tE X.K W wl) (tE X.K W wn)) (L2.gName n))) (h1 : PS X s1 (tOwn X.K b))
    (h2 : PS X s2 (tRet (tCB (fun xs H Q => ∃ p ys, xs = [.ref p] ∧ ((SqL X.K H p ys ∧ ∀ l, H l = none → Q (.ref l) (upd H l (.tup ys))) ∨ (SqT X.K H p ys ∧ Q (.ref p) H))) (tCons (tVar n) tNil)))) : DSs X W [s0, s1, s2] (dOwn n wl wn b) :=
  PSs.weak (pss_cons h0 (pss_cons h1 (pss_one h2))) fun Dn σ H ⟨m, ρ, DD, iv, rs, q, c⟩ => by
    refine ⟨m, ρ, _, DD.ex ρ, c.ge iv rs, q, fun x v1 H1 q1 s1 i1 r1 => ?_⟩
    refine ⟨m, ρ, _, DD.ex ρ, (c.ge iv rs).step s1 i1, q1, fun y v2 H2 ⟨u, k, ex, ey, k1, k2, kz, ln, q2⟩ s2 i2 r2 => ?_⟩
    subst ex ey
    obtain ⟨p, vs, rfl, _, hp, lv⟩ := rel_lst (Rel.step s2 r1)
    obtain ⟨v0, rfl, r0⟩ := rl1 lv
    have e2 := rel_int r2
    subst e2
    refine ⟨p, k, [v0], rfl, rfl, hp, k1, k2, by simpa using kz, fun D hD => ?_⟩
    have st := stp_trans s1 s2
    have hB : ∀ b ∈ [D], H2 b = none := fun b hb => by
      rw [List.mem_singleton.mp hb]
      exact hD
    have kD := ok_new i2 hD
    have er : (List.replicate k.toNat [v0]).flatten = List.replicate k.toNat v0 := by simp
    rw [er]
    have i3 : invM (addB m [D]) (upd H2 D (.lst (List.replicate k.toNat v0))) := by
      have z := inv_new (o := .lst (List.replicate k.toNat v0)) i2 hD
      refine ⟨z.1, fun b hb => ?_, z.2.2⟩
      rcases List.mem_append.mp hb with hb | hb
      · rw [List.mem_singleton.mp hb, upd_same]
        exact fun z => nomatch z
      · exact z.2.1 b hb
    have inD : D ∈ (addB m [D]).ban := List.mem_cons_self
    have r3 : RelS X.K (addB m [D]) (upd H2 D (.lst (List.replicate k.toNat v0))) (σ.set n (some (.ref D))) (ρ.set n (some (.raw (.ref D)))) := by
      refine RelS.set ⟨rs.1, fun i u e => ?_⟩ n (.raw _)
      obtain ⟨v, g1, g2⟩ := (RelS.step st rs).2 i u e
      exact ⟨v, g1, Rel.updB inD (Rel.addB hB g2)⟩
    refine ⟨addB m [D], D, _, _, _, i3, r3, ⟨inD, kD.1, _, upd_same, RelL.rep (Rel.updB inD (Rel.addB hB r0)) _⟩, q2 D, fun us' ρ' σ' H4 ⟨en, q4⟩ s4 i4 r4 o4 => ?_⟩
    obtain ⟨vn, sn, rn⟩ := r4.2 n _ en
    cases rn
    obtain ⟨_, _, ys, hy, ly⟩ := o4
    refine ⟨_, sn, D, ys, rfl, .inl ⟨.inl (.inl hy), fun l hl => ?_⟩⟩
    have s5 : stpM m H H4 := fun b o h k => by
      have h2 := st b o h k
      have ne : b ≠ D := fun z => by
        rw [z, hD] at h2
        cases h2
      exact s4 b o ne (by rw [upd_ne ne]; exact h2) k
    exact (c.rt.step s5).tup ⟨i4.1, fun b hb => i4.2.1 b (List.mem_append_right _ hb), i4.2.2⟩ hl (RelL.cut ly) q4
end
end DL
set_option Elab.async false
set_option linter.all false
set_option maxRecDepth 100000
set_option maxHeartbeats 4000000
/-! the data layer: what repr tells, how long it is -/
namespace DL
open PySem PySem.Spec PyProof.Rows L2 XR
structure Rp (dep n : Nat) (u : U) : Prop where
  d : isD u = true
  s : (toP u).showable = true
  p : (toP u).depth ≤ dep
  l : (toP u).shown.length ≤ n
theorem Rp.ok {dep n : Nat} {u : U} (h : Rp dep n u) (hd : dep ≤ 60 := by decide) (hn : n ≤ sizeLine := by decide) : rpOk u := ⟨h.d, h.s, Nat.le_trans h.p hd, Nat.le_trans h.l hn⟩
theorem Rp.up {dep n dep' n' : Nat} {u : U} (h : Rp dep n u) (hd : dep ≤ dep') (hn : n ≤ n') : Rp dep' n' u := ⟨h.d, h.s, Nat.le_trans h.p hd, Nat.le_trans h.l hn⟩
theorem rps {dep n : Nat} : ∀ {us : List U}, (∀ u ∈ us, Rp dep n u) → isDs us = true ∧ PyData.showableAll (toPs us) = true ∧ PyData.depthAll (toPs us) ≤ dep ∧ piled (PyData.shownAll (toPs us)) ≤ us.length * (n + 2)
  | [], _ => ⟨rfl, rfl, Nat.zero_le _, Nat.zero_le _⟩
  | u :: us, h => by
    obtain ⟨h1, h2, h3, h4⟩ := rps (us := us) fun v hv => h v (List.mem_cons_of_mem _ hv)
    have a := h u List.mem_cons_self
    refine ⟨?_, ?_, ?_, ?_⟩
    · show (isD u && isDs us) = true
      rw [a.d, h1]
      rfl
    · show ((toP u).showable && PyData.showableAll (toPs us)) = true
      rw [a.s, h2]
      rfl
    · show max (PyData.depth (toP u)) (PyData.depthAll (toPs us)) ≤ dep
      exact Nat.max_le.mpr ⟨a.p, h3⟩
    · show piled ((toP u).shown :: PyData.shownAll (toPs us)) ≤ (us.length + 1) * (n + 2)
      rw [piled_cons, Nat.succ_mul]
      have := a.l
      omega
theorem sep_le (k : Nat) : (((if k > 0 then ", " else "") : String) : Str).length ≤ 2 := by
  by_cases c : k > 0
  · rw [if_pos c]
    decide
  · rw [if_neg c]
    decide
theorem from_le : ∀ (ts : List Str) (k : Nat) (acc : Str), (textFrom k acc ts).length ≤ acc.length + piled ts
  | [], _, _ => Nat.le_refl _
  | t :: r, k, acc => by
    have ih := from_le r (k + 1) (acc ++ (((if k > 0 then ", " else "") : String) : Str) ++ t)
    have s := sep_le k
    rw [strLen_append, strLen_append] at ih
    rw [piled_cons]
    exact Nat.le_trans ih (by omega)
theorem listText_le (ts : List Str) : (listText ts).length ≤ 3 + piled ts := by
  have a := from_le ts 0 "["
  have b : (Str.ofString "[").length = 1 := by decide
  have c : (Str.ofString "]").length = 1 := by decide
  unfold listText
  rw [strLen_append]
  omega
theorem close_le (b : Bool) : (((if b = true then ",)" else ")") : String) : Str).length ≤ 2 := by cases b <;> decide
theorem tupleText_le (ts : List Str) : (tupleText ts).length ≤ 3 + piled ts := by
  have a : (Str.ofString "(").length = 1 := by decide
  have b := close_le (ts.length == 1)
  have c : (Str.join ", " ts).length ≤ piled ts := by
    cases ts with
    | nil => exact Nat.le_refl _
    | cons t r =>
      have := join_length_add (t :: r) (fun z => nomatch z)
      omega
  unfold tupleText
  rw [strLen_append, strLen_append]
  omega
theorem rp_tup {dep n L : Nat} {us : List U} (h : ∀ u ∈ us, Rp dep n u) (hl : us.length ≤ L) : Rp (dep + 1) (3 + L * (n + 2)) (.tup us) := by
  obtain ⟨h1, h2, h3, h4⟩ := rps h
  refine ⟨h1, h2, Nat.succ_le_succ h3, ?_⟩
  have a := tupleText_le (PyData.shownAll (toPs us))
  have b : us.length * (n + 2) ≤ L * (n + 2) := Nat.mul_le_mul_right _ hl
  show (tupleText (PyData.shownAll (toPs us))).length ≤ _
  omega
theorem rp_lst {dep n L : Nat} {us : List U} (h : ∀ u ∈ us, Rp dep n u) (hl : us.length ≤ L) : Rp (dep + 1) (3 + L * (n + 2)) (.lst us) := by
  obtain ⟨h1, h2, h3, h4⟩ := rps h
  refine ⟨h1, h2, Nat.succ_le_succ h3, ?_⟩
  have a := listText_le (PyData.shownAll (toPs us))
  have b : us.length * (n + 2) ≤ L * (n + 2) := Nat.mul_le_mul_right _ hl
  show (listText (PyData.shownAll (toPs us))).length ≤ _
  omega
theorem rp_int {i : Int} {k : Nat} (h : i.natAbs < 2 ^ k) (hk : 0 < k) (hk2 : k ≤ 1920) : Rp 0 (k + 1) (.int i) := by
  refine ⟨rfl, ?_, Nat.le_refl 0, ?_⟩
  · show decide (i.natAbs.log2 < 1920) = true
    exact decide_eq_true (Nat.lt_of_lt_of_le (PySem.Flt.log2_lt_of hk h) hk2)
  · show (Str.ofString (toString i)).length ≤ k + 1
    rw [PySem.ofString_length]
    exact int_text_length_le hk (PySem.Flt.log2_lt_of hk h)
theorem rp_bl (b : Bool) : Rp 0 5 (.bl b) := by
  refine ⟨rfl, rfl, Nat.le_refl 0, ?_⟩
  cases b <;> decide
theorem rp_non : Rp 0 5 .non := by
  refine ⟨rfl, rfl, Nat.le_refl 0, ?_⟩
  decide
/-! ### is None, is True as tests -/
section
variable {X : Cx} {W : WX} {a : Expr} {wa : WE} {pos : Pos}
theorem dt_isN {j pos'} (ha : DE X W a wa) : DT X W (.Compare a [.Is] [.Constant .none j pos'] pos) (dTest (dUn gIsN wa)) := PT.weak (pt_cmp (pc_isN ha)) fun σ H Q' ⟨m, ρ, Q, Z, ge, q, c⟩ =>
  ⟨m, ρ, _, Z, ge, q, fun u v H1 ⟨h, b, e, q1⟩ s1 i1 r1 => ⟨decide (v = V.non), rfl, by
    have eb : uIsN u = b := by injection e
    rw [rel_isN r1 h, eb]
    exact c _ H1 q1 s1 i1⟩⟩
theorem dt_notN {j pos'} (ha : DE X W a wa) : DT X W (.Compare a [.IsNot] [.Constant .none j pos'] pos) (dTest (dUn gNotN wa)) := PT.weak (pt_cmp (pc_notN ha)) fun σ H Q' ⟨m, ρ, Q, Z, ge, q, c⟩ =>
  ⟨m, ρ, _, Z, ge, q, fun u v H1 ⟨h, b, e, q1⟩ s1 i1 r1 => ⟨!decide (v = V.non), rfl, by
    have eb : (!uIsN u) = b := by injection e
    rw [rel_isN r1 h, eb]
    exact c _ H1 q1 s1 i1⟩⟩
theorem dt_isT {x : Bool} {j pos'} (ha : DE X W a wa) : DT X W (.Compare a [.Is] [.Constant (.bool x) j pos'] pos) (dTest (dOp gIsB wa (dC (.bl x)))) := dt_cmp op_isBl opd_isB ha de_bl (nomark _)
theorem dt_notT {x : Bool} {j pos'} (ha : DE X W a wa) : DT X W (.Compare a [.IsNot] [.Constant (.bool x) j pos'] pos) (dTest (dOp gNotB wa (dC (.bl x)))) := dt_cmp op_notBl opd_notB ha de_bl (nomark _)
end
/-! ### a, b, c = x, y, z -/
def dPar3 (i j l : Nat) (w : WA) : WS := fun m D ρ => w m ρ (fun us => ∃ a b c, us = [a, b, c] ∧ D.nx (((ρ.set i (some a)).set j (some b)).set l (some c))) (D.ex ρ)
theorem ds_of_par3 {X : Cx} {W : WX} {st : Stmt} {i j l : Nat} {w : WA} (h : PS X st (tPar3 i j l (tA X.K W w))) : DS X W st (dPar3 i j l w) := PS.weak h fun D σ H ⟨m, ρ, DD, iv, rs, q, c⟩ =>
  ⟨m, ρ, _, _, c.ge iv rs, q, fun us vs H' ⟨a, b, d, e, q'⟩ s' i' r' => by
    subst e
    obtain ⟨x, y, z, rfl, r1, r2, r3⟩ := rl3 r'
    exact ⟨_, _, _, rfl, c.nx _ _ H' q' s' i' (RelS.set (RelS.set (RelS.set (RelS.step s' rs) i r1) j r2) l r3)⟩⟩
theorem ex_three {u v w : U} {Q : U → U → U → Prop} : (∃ a b c, [u, v, w] = [a, b, c] ∧ Q a b c) ↔ Q u v w := by
  constructor
  · rintro ⟨x, t, s, e, q⟩
    injection e with e1 e2
    injection e2 with e2 e3
    injection e3 with e3 e4
    subst e1 e2 e3
    exact q
  · exact fun q => ⟨_, _, _, rfl, q⟩
/-! ### == of texts -/
def gEqS : W2 := fun a b Q => ∃ x y, a = .str x ∧ b = .str y ∧ Q (.bl (decide (x = y)))
def gNeS : W2 := fun a b Q => ∃ x y, a = .str x ∧ b = .str y ∧ Q (.bl (!decide (x = y)))
theorem dec_strs (x y : Str) : decide (V.str x = V.str y) = decide (x = y) := by
  rw [Bool.eq_iff_iff]
  simp
section
variable {K : PySem.W.Frag} {X : Cx} {W : WX} {a b : Expr} {wa wb : WE} {pos : Pos}
theorem opd_eqS : OpD K rEq gEqS := fun m x y a b H Q Q' iv ra rb ⟨i, j, ea, eb, q⟩ c => by
  subst ea eb
  rw [rel_str ra, rel_str rb]
  refine ⟨rfl, ?_⟩
  rw [dec_strs]
  exact c.here iv q (.bl _)
theorem opd_neS : OpD K rNe gNeS := fun m x y a b H Q Q' iv ra rb ⟨i, j, ea, eb, q⟩ c => by
  subst ea eb
  rw [rel_str ra, rel_str rb]
  refine ⟨rfl, ?_⟩
  rw [dec_strs]
  exact c.here iv q (.bl _)
theorem de_eqS (ha : DE X W a wa) (hb : DE X W b wb) : DE X W (.Compare a [.Eq] [b] pos) (dOp gEqS wa wb) := de_cmp op_eq opd_eqS ha hb (nomark _)
theorem de_neS (ha : DE X W a wa) (hb : DE X W b wb) : DE X W (.Compare a [.NotEq] [b] pos) (dOp gNeS wa wb) := de_cmp op_ne opd_neS ha hb (nomark _)
theorem dt_eqS (ha : DE X W a wa) (hb : DE X W b wb) : DT X W (.Compare a [.Eq] [b] pos) (dTest (dOp gEqS wa wb)) := dt_cmp op_eq opd_eqS ha hb (nomark _)
theorem dt_neS (ha : DE X W a wa) (hb : DE X W b wb) : DT X W (.Compare a [.NotEq] [b] pos) (dTest (dOp gNeS wa wb)) := dt_cmp op_ne opd_neS ha hb (nomark _)
end
theorem eqS_same (x : Str) (Q : U → Prop) : gEqS (.str x) (.str x) Q ↔ Q (.bl true) := by
  constructor
  · rintro ⟨a, b, e1, e2, q⟩
    cases e1
    cases e2
    rw [decide_eq_true rfl] at q
    exact q
  · intro q
    exact ⟨x, x, rfl, rfl, by rw [decide_eq_true rfl]; exact q⟩
theorem neS_same (x : Str) (Q : U → Prop) : gNeS (.str x) (.str x) Q ↔ Q (.bl false) := by
  constructor
  · rintro ⟨a, b, e1, e2, q⟩
    cases e1
    cases e2
    rw [decide_eq_true rfl] at q
    exact q
  · intro q
    exact ⟨x, x, rfl, rfl, by rw [decide_eq_true rfl]; exact q⟩
theorem fRp_tup (us : List U) (Q : U → Prop) (h : rpOk (.tup us)) (q : Q (.str (toP (.tup us)).shown)) : fRp [.tup us] Q := ⟨_, rfl, .inl ⟨_, rfl⟩, h, q⟩
theorem fRp_lst (us : List U) (Q : U → Prop) (h : rpOk (.lst us)) (q : Q (.str (toP (.lst us)).shown)) : fRp [.lst us] Q := ⟨_, rfl, .inr ⟨_, rfl⟩, h, q⟩
end DL
set_option Elab.async false
set_option linter.all false
set_option maxRecDepth 100000
set_option maxHeartbeats 4000000
/-! the data layer: try, with clauses that return -/
namespace DL
open PySem PySem.Spec PyProof.Rows L2 XR
open PySem.XK (ExF)
abbrev HT0 := Addr → Value → Option Addr → TS
/-- what a clause returns, from the error's thing -/
abbrev WH := U → (U → Prop) → Prop
structure HRd (K : PySem.W.Frag) (i : Nat) (ts : HT0) (C : Addr) (wh : WH) : Prop where
  run : ∀ (m : Mo) (H : Hp) (D : Ends) (σ : L2.St) (ρ : Env) (a d : Addr) (v : V) (u : U) (Q : U → Prop), invM m H → RelS K m H σ ρ → okA m d → H d = some (xdO v) → Rel K m H v u → i < σ.length → wh u Q → Cont K m H Q D.rt →
    ts a (.ref C) (some d) (goE i D) (σ.set i (some (.ref a))) H
inductive HdD (K : PySem.W.Frag) (i : Nat) : List (Value × HT0) → List (Addr × WH) → Prop
  | nil : HdD K i [] []
  | cons {C : Addr} {ts : HT0} {wh : WH} {l : List (Value × HT0)} {r : List (Addr × WH)} (h : HRd K i ts C wh) (t : HdD K i l r) : HdD K i ((.ref C, ts) :: l) ((C, wh) :: r)
def dHd (K : PySem.W.Frag) (i : Nat) (D : DEnds) (ρ : Env) : List (Addr × WH) → XQ
  | [] => fun C u => D.ex ρ C u
  | (C', wh) :: r => fun C u => ∃ b, PySem.W.exmOne K (.ref C) (.ref C') = some b ∧ (b = true → C = C' ∧ wh u D.rt) ∧ (b = false → dHd K i D ρ r C u)
def dTry (K : PySem.W.Frag) (i : Nat) (wb : WS) (r : List (Addr × WH)) : WS := fun m D ρ => wb m { D with ex := fun ρ' C u => i < ρ'.length ∧ dHd K i D ρ' r C u } ρ
section
variable {X : Cx} {m : Mo} {W : WX} {K : PySem.W.Frag} {H : Hp}
theorem hd_ends {i : Nat} {D : Ends} {DD : DEnds} {l : List (Value × HT0)} {r : List (Addr × WH)} (h : HdD K i l r) (c : ContS K m W H DD D) : ∀ (ρ : Env) (σ : L2.St) (H' : Hp), i < σ.length → stpM m H H' → RelS K m H' σ ρ → ContE K m H' (dHd K i DD ρ r) fun c d H2 => wMa K W i D l c d σ H2 := by
  induction h with
  | nil => exact fun ρ σ H' _ s rs => c.ex ρ σ H' s rs
  | @cons C' ts wh l r h t ih =>
    intro ρ σ H' hi s rs C u v d H2 q s2 i2 ru kd ed
    obtain ⟨b, hb, yes, no⟩ := q
    refine ⟨b, hb, fun e a ha => ?_, fun e => ?_⟩
    · obtain ⟨rfl, q⟩ := yes e
      exact h.run m H2 D σ ρ a d v u DD.rt i2 (RelS.step s2 rs) kd ed ru hi q (c.rt.step (stp_trans s s2))
    · exact ih ρ σ H' hi s rs C u v d H2 (no e) s2 i2 ru kd ed
theorem ds_try {n : Str} {i : Nat} {body : List Stmt} {h₀ : ExceptHandler} {hds : List ExceptHandler} {l : List (Value × HT0)} {r : List (Addr × WH)} {pos : Pos} {wb : WS} (hs : X.stack = X.env :: X.outer) (hf : X.env.frame = some X.env.locals) (hN : X.N.Nodup) (hi : X.N[i]? = some n)
    (hln : X.env.kindOf n = some .local) (tk : Takes X W) (hb : ∀ (W' : WX) (pn : List (Addr × Obj)) (xe : Value → Shared → Prop), Takes (X.tr pn xe) W' → PassesOwn (model X.prog X.w) X.A X.env xe → PSs (X.tr pn xe) body (tS X.K W' wb))
    (hh : HdA X n (h₀ :: hds) l) (hd : HdD X.K i l r) : DS X W (.Try body (h₀ :: hds) [] [] pos) (dTry X.K i wb r) :=
  PS.weak (ps_try_ma (i := i) (l := l) (Wout := W) (tb := fun W' => tS X.K W' wb) hs hf hN hi hln tk hb hh) fun D σ H ⟨m, ρ, DD, iv, rs, q, c⟩ =>
    ⟨m, ρ, { DD with ex := fun ρ' C u => i < ρ'.length ∧ dHd X.K i DD ρ' r C u }, iv, rs, q, ⟨c.nx, c.rt, fun ρ' σ' H' s r2 C u v d H2 ⟨hi2, z⟩ s2 i2 ru kd ed => hd_ends hd c ρ' σ' H' (by rw [r2.1]; exact hi2) s r2 C u v d H2 z s2 i2 ru kd ed, c.bk, c.ct⟩⟩
/-! ### clauses that return a tuple of a text, the thing, what it is -/
theorem var_set {σ : L2.St} {i : Nat} {v : V} (h : i < σ.length) : (σ.set i (some v))[i]? = some (some v) := List.getElem?_set_self h
/-- isinstance(e, C), one by one -/
def tIs (K : PySem.W.Frag) (i : Nat) (a : Addr) (cls : Value) (d : Option Addr) (S : Addr) : TE := tCB (rIsS K a cls d) (tCons (tVar i) (tCons (tC (.ref S)) tNil))
theorem tIs_run {i : Nat} {a C d S fI : Addr} {b : Bool} {v : V} {σ : L2.St} {Q : VK} (T : ExF K C fI) (e : PySem.W.kitOne K (.ref C) (.ref S) = some b) (hi : i < σ.length) (ed : H d = some (xdO v)) (q : Q (.bl b) H) : tIs K i a (.ref C) (some d) S (σ.set i (some (.ref a))) H Q :=
  ⟨_, var_set hi, C, fI, d, v, .ref S, .ref S, b, rfl, rfl, rfl, T, ed, .own S, e, q⟩
def tsIs1 (K : PySem.W.Frag) (i : Nat) (x : Str) (S : Addr) : HT0 := fun a cls d => tRet (tTup (tCons (tC (.str x)) (tCons (tSf K a cls d (tVar i)) (tCons (tIs K i a cls d S) tNil))))
theorem hrd_is1 {i : Nat} {x : Str} {C S fI : Addr} {b : Bool} (T : ExF K C fI) (e : PySem.W.kitOne K (.ref C) (.ref S) = some b) : HRd K i (tsIs1 K i x S) C fun u Q => Q (.tup [.str x, u, .bl b]) :=
  ⟨fun m H D σ ρ a d v u Q iv rs kd ed ru hi q c => by
    refine ⟨_, var_set hi, rfl, C, fI, d, v, rfl, rfl, T, ed, tIs_run T e hi ed ⟨(by show 3 ≤ sizeLine; decide), fun p hp => ?_⟩⟩
    exact c.tup iv hp (.cons (.str x) (.cons ru (.cons (.bl b) .nil))) q⟩
/-- .. in a list of three -/
def tsIs3 (K : PySem.W.Frag) (i : Nat) (x : Str) (S1 S2 S3 : Addr) : HT0 := fun a cls d => tRet (tTup (tCons (tC (.str x)) (tCons (tSf K a cls d (tVar i)) (tCons (tLst (tCons (tIs K i a cls d S1) (tCons (tIs K i a cls d S2) (tCons (tIs K i a cls d S3) tNil)))) tNil))))
theorem hrd_is3 {i : Nat} {x : Str} {C S1 S2 S3 fI : Addr} {b1 b2 b3 : Bool} (T : ExF K C fI) (e1 : PySem.W.kitOne K (.ref C) (.ref S1) = some b1) (e2 : PySem.W.kitOne K (.ref C) (.ref S2) = some b2) (e3 : PySem.W.kitOne K (.ref C) (.ref S3) = some b3) :
    HRd K i (tsIs3 K i x S1 S2 S3) C fun u Q => Q (.tup [.str x, u, .lst [.bl b1, .bl b2, .bl b3]]) :=
  ⟨fun m H D σ ρ a d v u Q iv rs kd ed ru hi q c => by
    refine ⟨_, var_set hi, rfl, C, fI, d, v, rfl, rfl, T, ed, tIs_run T e1 hi ed (tIs_run T e2 hi ed (tIs_run T e3 hi ed ⟨(by show 3 ≤ sizeLine; decide), fun l hl => ⟨(by show 3 ≤ sizeLine; decide), fun p hp => ?_⟩⟩))⟩
    have s1 : stpM m H (upd H l (.lst [.bl b1, .bl b2, .bl b3])) := stp_new hl
    have r3 : Rel K m (upd H l (.lst [.bl b1, .bl b2, .bl b3])) (.ref l) (.lst [.bl b1, .bl b2, .bl b3]) := new_lst iv hl (.cons (.bl b1) (.cons (.bl b2) (.cons (.bl b3) .nil)))
    exact (c.step s1).tup (inv_new iv hl) hp (.cons (.str x) (.cons (Rel.step s1 ru) (.cons r3 .nil))) q⟩
end
end DL
set_option Elab.async false
set_option linter.all false
set_option maxRecDepth 100000
set_option maxHeartbeats 4000000
/-! the data layer: a law's def; its first statement makes the deck -/
namespace DL
open PySem PySem.Spec PyProof.Rows L2 XR
/-- a law: of every list of at most n ints it tells True -/
structure LawFn (P : Program) (w : World) (K : PySem.W.Frag) (mg : Str → Option Value) (base : Heap) (k n : Nat) (f : Addr) (fd : FuncData) (x : Str) (tabs : List Addr) : Prop where
  run : ∀ (A : Around) (outer : List PySem.Env) (s : Shared) (H : Hp) (args : Args) (u : Value) (a : Addr) (ns : List Int), Room k A → A.guards = some [] → Env0 P w K mg base A outer s H → BindsTo s fd args [(x, u)] → RelV (.ref a) u →
    ns.length ≤ n → SqL K H a (ns.map V.int) → (∀ b ∈ tabs, GxR.TabG H b) → codeAny (model P w) A (.call (.ref f) args) (CR (L2.CX P w) outer P w H s (fun v _ => v = .bl true) fun _ _ _ => False) s
abbrev lawD : Ends := { nx := fun _ _ => False, rt := fun v _ => v = .bl true }
abbrev lawDD : DEnds := { nx := fun _ => False, rt := fun u => u = .bl true, ex := fun _ _ _ => False }
section
variable {P : Program} {w : World} {K : PySem.W.Frag} {mg : Str → Option Value} {base : Heap}
theorem law_of {k n : Nat} {f : Addr} {x y qual : Str} {st : Stmt} {fd : FuncData} {N : List Str} {tabs : List Addr} (F : Fun K x qual st f fd) (S : FnScope N [y] (defScope st))
    (hbody : ∀ (cdv : Value) (A : Around) (outer : List PySem.Env) (s : Shared) (H : Hp) (a : Addr) (ns : List Int), Room k (A.deeper (envOfC qual (defScope st) s.heap.objs.size f cdv)) → (A.deeper (envOfC qual (defScope st) s.heap.objs.size f cdv)).guards = some [] →
      Takes (cxOf (L2.CX P w) P w K mg base N qual (defScope st) f cdv A outer s H fun _ _ _ => False) (fun _ _ _ _ => False) → ns.length ≤ n → SqL K H a (ns.map V.int) → (∀ b ∈ tabs, GxR.TabG H b) →
      ∃ t, PSs (cxOf (L2.CX P w) P w K mg base N qual (defScope st) f cdv A outer s H fun _ _ _ => False) (defBody st) t ∧ t lawD (L2.start N [.ref a]) H) :
    LawFn P w K mg base (k + 1) n f fd y tabs := by
  obtain ⟨oc, od, kV, doc, pm, an, cdv, ct, osl, rfl, lk, hcd⟩ := F.ex
  refine ⟨fun A outer s H args u a ns hr hg e0 hb ru hn hS hT => ?_⟩
  have KX : K.In s.heap := e0.mod.kin.keeps fun b o e => (e0.bs b o e).1
  have lim : s.heap.NoLimit := e0.mod.nolimit.keeps fun b o e => (e0.bs b o e).1
  have kinds : ∀ y' ∈ [(y, u)], (defScope st).names.lookup y'.1 = some .local ∨ ((defScope st).names.lookup y'.1 = some .cell ∧ ((cellsFrom (s.heap.objs.size + 1) (defScope st).names []).lookup y'.1).isSome = true) := fun p hp => by
    rw [List.mem_singleton.mp hp]
    rcases S.par y (List.mem_singleton.mpr rfl) with q | q
    · exact .inl q
    · exact .inr ⟨q, PySem.W.cellsFrom_some _ _ _ (.inl q)⟩
  refine codeAny_call_function hr.depth (KX _ _ lk) rfl S.co S.gen rfl (PySem.W.codeRec_of KX hcd) (hb _ _ _ _ ?_)
  refine wpAny_newFunctionEnv_cells S.kind kinds fun env he s1 ic => ?_
  subst he
  refine ⟨lim.keeps ic.toInCall.keep, codeAny_func ?_⟩
  obtain ⟨t, ht, hq⟩ := hbody cdv A outer s H a ns (hr.deeper _) hg (takes_of rfl rfl rfl rfl) hn hS hT
  have I : Inv (cxOf (L2.CX P w) P w K mg base N qual (defScope st) f cdv A outer s H fun _ _ _ => False) [] (L2.start N [.ref a]) H s1 := inv_start S hr.hd e0 rfl (.cons ru .nil) ic
  refine wpAny_mono (ht.run [] s1 (L2.start N [.ref a]) H _ I hq) (fun fl s' hs => ?_) fun e s' hs => hs
  cases fl with
  | ret u' =>
    obtain ⟨v, σ', H', J, rv, q⟩ := hs
    exact ⟨v, H', J.os, J.bare, J.base, J.hok, rv, q⟩
  | next =>
    obtain ⟨_, _, _, q⟩ := hs
    exact q.elim
  | brk =>
    obtain ⟨_, _, _, q⟩ := hs
    exact q.elim
  | cont =>
    obtain ⟨_, _, _, q⟩ := hs
    exact q.elim
/-- behind the deck's making: data alone -/
theorem law_go {W : WX} {tabs : List Addr} {d l : Addr} {H : Hp} {σ : L2.St} {wd : WS} (ρ : Env) (A : DeckAt H d l) (T : ∀ b ∈ tabs, GxR.TabG H b) (e : σ.map (Option.map U.raw) = ρ) (h : wd ⟨some (d, l), [], tabs⟩ lawDD ρ) : tS K W wd lawD σ H := by
  subst e
  refine ⟨⟨some (d, l), [], tabs⟩, _, lawDD, ⟨A, (fun b hb => nomatch hb), T⟩, ⟨by rw [List.length_map], fun i u e => ?_⟩, h, ⟨fun _ _ _ q => q.elim, fun u v H' q _ _ r => ?_, fun _ _ _ _ _ => fun _ _ _ _ _ z => z.elim, fun _ _ _ q => q.elim, fun _ _ _ q => q.elim⟩⟩
  · rw [List.getElem?_map] at e
    cases q : σ[i]? with
    | none =>
      rw [q] at e
      cases e
    | some o =>
      rw [q] at e
      cases o with
      | none =>
        have e2 := Option.some.inj e
        cases e2
      | some v =>
        have e2 : U.raw v = u := Option.some.inj (Option.some.inj e)
        subst e2
        exact ⟨v, rfl, .raw v⟩
  · have e : u = .bl true := q
    subst e
    exact rel_bl r
end
end DL
set_option Elab.async false
set_option linter.all false
set_option maxRecDepth 100000
set_option maxHeartbeats 4000000
/-! the data layer: the end of a law's row -/
namespace DL
open PySem PySem.Spec PyProof.Rows L2 XR
section
variable {P : Program} {w : World} {K : PySem.W.Frag}
/-- a table of code objects that is empty still -/
abbrev noTab : Obj := { cls := .none, data := .fields #[] }
abbrev listO (vs : List Value) : Obj := { cls := .type "list", data := .seq vs.toArray }
/-- what is tracked when a law begins: the tables; the script, if the module does not hold it -/
def hp0 (K : PySem.W.Frag) (tabs : List Addr) (a : Addr) (vs : List Value) (ns : List Int) : Hp := fun b =>
  if b ∈ tabs then some (.tbl #[]) else if b = a then (if K.lookup a = none then some (.frz (listO vs) (.lst (ns.map V.int))) else none) else none
structure Start (h : Heap) (K : PySem.W.Frag) (tabs : List Addr) (a : Addr) (vs : List Value) (ns : List Int) : Prop where
  kin : K.In h
  tab : ∀ b ∈ tabs, h.get? b = some noTab
  tno : ∀ b ∈ tabs, K.lookup b = none
  obj : h.get? a = some (listO vs)
  isI : IntsAre vs ns
  lenI : ns.length ≤ sizeLine
variable {h : Heap} {tabs : List Addr} {a : Addr} {vs : List Value} {ns : List Int}
theorem Start.aT (S : Start h K tabs a vs ns) : a ∉ tabs := fun z => by
  have e := S.tab a z
  rw [S.obj] at e
  have e2 : (listO vs).data = noTab.data := congrArg Obj.data (Option.some.inj e)
  cases e2
theorem hp0_tab (hb : b ∈ tabs) : hp0 K tabs a vs ns b = some (.tbl #[]) := if_pos hb
theorem hp0_at (S : Start h K tabs a vs ns) : hp0 K tabs a vs ns a = if K.lookup a = none then some (.frz (listO vs) (.lst (ns.map V.int))) else none := by
  unfold hp0
  rw [if_neg S.aT, if_pos rfl]
theorem hp0_off {b : Addr} (h1 : b ∉ tabs) (h2 : b ≠ a) : hp0 K tabs a vs ns b = none := by
  unfold hp0
  rw [if_neg h1, if_neg h2]
/-- what is neither a list nor an empty table is not tracked -/
theorem Start.off (S : Start h K tabs a vs ns) {b : Addr} {o : Obj} (e : h.get? b = some o) (h1 : o ≠ listO vs) (h2 : o ≠ noTab) : hp0 K tabs a vs ns b = none := by
  refine hp0_off (fun z => h2 ?_) fun z => h1 ?_
  · exact Option.some.inj (e.symm.trans (S.tab b z))
  · rw [z] at e
    exact Option.some.inj (e.symm.trans S.obj)
theorem Start.okH (S : Start h K tabs a vs ns) : HOk P w (hp0 K tabs a vs ns) h := fun b u z => by
  by_cases c1 : b ∈ tabs
  · rw [hp0_tab c1] at z
    cases z
    exact S.tab b c1
  · by_cases c2 : b = a
    · subst c2
      rw [hp0_at S] at z
      by_cases c3 : K.lookup b = none
      · rw [if_pos c3] at z
        cases z
        exact ⟨S.obj, by rw [List.length_map]; exact S.lenI, vs, _, vals_ints S.isI, S.obj⟩
      · rw [if_neg c3] at z
        cases z
    · rw [hp0_off c1 c2] at z
      cases z
theorem Start.sq (S : Start h K tabs a vs ns) : SqL K (hp0 K tabs a vs ns) a (ns.map V.int) := by
  cases e : K.lookup a with
  | none => exact .inl (.inr ⟨listO vs, by rw [hp0_at S, if_pos e]⟩)
  | some o =>
    have e2 := (S.kin a o e).symm.trans S.obj
    have e3 := Option.some.inj e2
    subst e3
    have hl := S.isI.length
    have hz := S.lenI
    exact .inr ⟨listO vs, vs.toArray, _, e, rfl, rfl, rfl, by rw [List.size_toArray, hl]; exact hz, by simpa using vals_ints S.isI⟩
/-- the base heap: all that is not tracked -/
abbrev base0 (h : Heap) (K : PySem.W.Frag) (tabs : List Addr) (a : Addr) (vs : List Value) (ns : List Int) : Heap := hidT h (hp0 K tabs a vs ns)
theorem Start.kinB (S : Start h K tabs a vs ns) : K.In (base0 h K tabs a vs ns) := fun b o e => by
  refine hidT_get (S.kin b o e) ?_
  by_cases c1 : b ∈ tabs
  · rw [S.tno b c1] at e
    cases e
  · by_cases c2 : b = a
    · subst c2
      rw [hp0_at S, if_neg (by rw [e]; exact fun z => nomatch z)]
    · exact hp0_off c1 c2
theorem Start.nsB (S : Start h K tabs a vs ns) {b : Addr} {m : Str → Option Value} (n : h.Ns b m) : (base0 h K tabs a vs ns).Ns b m := by
  obtain ⟨o, es, ep, e, d, r⟩ := n
  refine ⟨o, es, ep, hidT_get e (S.off e (fun z => ?_) fun z => ?_), d, r⟩
  · rw [z] at d
    cases d
  · rw [z] at d
    cases d
theorem Start.modB (S : Start h K tabs a vs ns) {mg mb : Str → Option Value} (g : h.Ns mainGlobals mg) (b : h.Ns builtinsNs mb) (bb : ∀ x : Str, x ≠ "__name__" → mb x = bootBuiltins x) (l : h.NoLimit) : L2.Mod K mg (base0 h K tabs a vs ns) := by
  obtain ⟨mc, l1, l2⟩ := l
  exact ⟨S.kinB, S.nsB g, ⟨mb, S.nsB b, bb⟩, mc, S.nsB l1, l2⟩
/-- the way back: old objects are as they were, but for the tables -/
theorem Start.back (S : Start h K tabs a vs ns) {h' : Heap} {H' : Hp} (ct : ∀ b ∈ tabs, isCodeTable h b) (un : Un (frs []) [] (hp0 K tabs a vs ns) H' h h') (ok' : HOk P w H' h') : OldK h h' := by
  have grow : ∀ b ∈ tabs, ∃ more : Array Value, h'.get? b = some { cls := .none, data := .fields more } := fun b hb => by
    obtain ⟨more, z⟩ := un.tbls b #[] (hp0_tab hb)
    exact ⟨_, ok' b _ z⟩
  have stay : ∀ b o, b ∉ tabs → h.get? b = some o → h'.get? b = some o := fun b o nb e => by
    have plain : hp0 K tabs a vs ns b = none → h'.get? b = some o := fun z => un.keep b o e z (fun y => nomatch y) (fun y => nomatch y)
    by_cases c2 : b = a
    · subst c2
      by_cases c3 : K.lookup b = none
      · have z : hp0 K tabs b vs ns b = some (.frz (listO vs) (.lst (ns.map V.int))) := by rw [hp0_at S, if_pos c3]
        obtain ⟨e2, _⟩ := ok' b _ (un.frzs b _ _ z)
        rw [Option.some.inj (e.symm.trans S.obj)]
        exact e2
      · exact plain (by rw [hp0_at S, if_neg c3])
    · exact plain (hp0_off nb c2)
  refine ⟨fun b o e => ?_, fun b o e => ?_⟩
  · by_cases hb : b ∈ tabs
    · obtain ⟨more, hm⟩ := grow b hb
      rw [Option.some.inj (e.symm.trans (S.tab b hb))]
      exact .inr (.inl ⟨ct b hb, rfl, #[], more, rfl, by rw [Array.empty_append]; exact hm⟩)
    · exact .inl (stay b o hb e)
  · by_cases hb : b ∈ tabs
    · obtain ⟨more, hm⟩ := grow b hb
      exact ⟨_, hm⟩
    · exact ⟨o, stay b o hb e⟩
/-- what is known of a law behind the top -/
structure LawAt (l : PySem.W.OpenLaw) (w : World) (k n : Nat) (x : Str) (mg : Str → Option Value) (fa : Addr) (h : Heap) : Prop where
  ex : ∃ (K : PySem.W.Frag) (fd : FuncData) (cs : List (Addr × Addr)), K.In h ∧ (∀ p ∈ cs, h.get? p.2 = some noTab) ∧ (∀ p ∈ cs, K.lookup p.2 = none) ∧ (∀ p ∈ cs, PySem.W.CodeHd h p.1 p.2) ∧ (∀ (s : Shared) (u : Value), BindsTo s fd ⟨[u], []⟩ [(x, u)]) ∧
    ∀ base : Heap, K.In base → base.Ns mainGlobals mg → (∀ p ∈ cs, GxR.TabB base mg p.1 p.2) → (base.get? sysModules).isSome = true → LawFn l.prog w K mg base k n fa fd x (cs.map (·.2))
theorem law_walk {l : PySem.W.OpenLaw} {n k : Nat} {q : Program} {loose : List Str} {XP : (Str → Option Value) → Heap → Prop} {YP : World → Heap → Prop} {d : DefRec} {x : Str}
    (hn : l.most = some n) (hn2 : n ≤ sizeLine) (hdf : d.params.defaults = []) (hr : Room k callerA) (hi : PyProof.Rows.importsNone q = true)
    (F : ∀ (w : World) (mg : Str → Option Value) (fa : Addr) (h : Heap), YP w h → h.Ns mainGlobals mg → mg d.name = some (.ref fa) → LawAt l w k n x mg fa h) : PySem.W.WalkO q loose XP YP l.row.toRowW d [] (fun f vs => PySem.call f vs) := by
  refine Att.attach_callB hn hdf fun w s₀ s₁ mg mb fa o pm cd doc a vs ns G Y ho hd hcd hmg hobj hints hlen hbits hg => ?_
  obtain ⟨K, fd, cs, KX, hT, nT, C, hb, hF⟩ := (F w mg fa _ Y G.T.g hmg).ex
  have mem : ∀ b ∈ cs.map (·.2), ∃ p ∈ cs, p.2 = b := fun b z => List.mem_map.mp z
  have S : Start s₁.heap K (cs.map (·.2)) a vs ns := by
    refine ⟨KX, fun b z => ?_, fun b z => ?_, hobj, hints, Nat.le_trans hlen hn2⟩
    · obtain ⟨p, hp, e⟩ := mem b z
      exact e ▸ hT p hp
    · obtain ⟨p, hp, e⟩ := mem b z
      exact e ▸ nT p hp
  have ct : ∀ b ∈ cs.map (·.2), isCodeTable s₁.heap b := fun b z => by
    obtain ⟨p, hp, e⟩ := mem b z
    exact e ▸ ((C p hp).tab (hT p hp)).isCodeTable
  have TB : ∀ p ∈ cs, GxR.TabB (base0 s₁.heap K (cs.map (·.2)) a vs ns) mg p.1 p.2 := fun p hp => by
    refine ⟨?_, ?_, fun z => ?_⟩
    · obtain ⟨o, us, file, tf, flags, tg, inF, text, tt, e1, r1, r2, r⟩ := C p hp
      refine ⟨o, us, file, tf, flags, tg, inF, text, tt, hidT_get e1 (S.off e1 (fun z => ?_) fun z => ?_), r1, r2, r⟩
      · rw [z] at r2
        cases r2
      · rw [z] at r2
        cases r2
        simp at r
    · obtain ⟨bm, ob, b1, b2, b3, b4, b5, b6⟩ := G.T.bmain
      have off : hp0 K (cs.map (·.2)) a vs ns bm = none := S.off b3 (fun z => by rw [z] at b6; cases b6) fun z => by rw [z] at b6; cases b6
      refine ⟨bm, ob, b1, b2, fun e => ?_, fun e => ?_, hidT_get b3 off, b4, b5, b6⟩
      · obtain ⟨o, es, ep, q1, q2, _⟩ := G.T.g
        rw [← e, b3] at q1
        cases q1
        rw [b6] at q2
        cases q2
      · rw [e, hT p hp] at b3
        cases b3
        cases b6
    · obtain ⟨o, es, ep, e, q2, _⟩ := G.T.g
      rw [z, hT p hp] at e
      cases e
      cases q2
  have e0 : Env0 l.prog w K mg (base0 s₁.heap K (cs.map (·.2)) a vs ns) callerA [] s₁ (hp0 K (cs.map (·.2)) a vs ns) :=
    { frames := rfl, mod := S.modB G.T.g G.T.b G.T.builtins G.T.nolimit, bs := fun b o e => of_hidT e, bsz := Nat.le_of_eq (hidT_size _ _), funs := trivial, frf := (fun b hb => nomatch hb), hok := S.okH, bare := .of_eq hg }
  have sysB : ((base0 s₁.heap K (cs.map (·.2)) a vs ns).get? sysModules).isSome = true := by
    obtain ⟨mm, hm, _⟩ := (G.T.seer hi).mods
    obtain ⟨o, _, _, e, _⟩ := S.nsB hm
    rw [e]
    rfl
  have L := hF _ S.kinB (S.nsB G.T.g) TB sysB
  have tabs0 : ∀ b ∈ cs.map (·.2), GxR.TabG (hp0 K (cs.map (·.2)) a vs ns) b := fun b z => ⟨#[], hp0_tab z, trivial⟩
  refine codeAny_mono (L.run callerA [] s₁ _ ⟨[.ref a], []⟩ (.ref a) a ns hr rfl e0 (hb s₁ (.ref a)) rfl hlen S.sq tabs0) fun r s' z => ?_
  cases r with
  | error e =>
    obtain ⟨_, _, _, _, _, _, _, _, _, _, _, _, z⟩ := z
    exact z.elim
  | ok fl =>
    cases fl with
    | ret u =>
      obtain ⟨v, H', os, bare, un, hok', r', q⟩ := z
      have q' : v = .bl true := q
      subst q'
      obtain rfl : u = Value.bool true := r'
      exact ⟨rfl, S.back ct un hok', os, bare⟩
    | next => exact False.elim z
    | brk => exact False.elim z
    | cont => exact False.elim z
end
end DL
set_option Elab.async false
set_option linter.all false
set_option maxRecDepth 100000
set_option maxHeartbeats 4000000
/-! the data layer: a list of a def's own, changed by place -/
namespace DL
open PySem PySem.Spec PyProof.Rows L2 XR
mutual
/-- no list inside -/
def noLst : U → Bool
  | .lst _ => false
  | .raw _ => false
  | .dct _ _ => false
  | .dpt _ _ => false
  | .tup us => noLsts us
  | _ => true
def noLsts : List U → Bool
  | [] => true
  | u :: us => noLst u && noLsts us
end
section
variable {X : Cx} {m : Mo} {W : WX} {K : PySem.W.Frag} {H H' H1 H2 : Hp} {D : Addr} {pos : Pos} {tg : Expr} {n : Nat}
mutual
theorem Rel.ban (hD : H D = some (.lst vs)) : ∀ {v : V} {u : U}, noLst u = true → Rel K m H v u → Rel K (addB m [D]) H v u
  | _, _, _, .non => .non
  | _, _, _, .bl b => .bl b
  | _, _, _, .int i => .int i
  | _, _, _, .str x => .str x
  | _, _, z, .tup h r => .tup (by
    rcases h with ⟨k, h⟩ | h
    · refine .inl ⟨⟨k.1, fun y => ?_⟩, h⟩
      rcases List.mem_append.mp y with y | y
      · rw [List.mem_singleton.mp y] at h
        rcases h with h | ⟨o, h⟩
        · rw [hD] at h
          cases h
        · rw [hD] at h
          cases h
      · exact k.2 y
    · exact .inr h) (RelL.ban hD z r)
  | _, _, z, .lst _ _ _ => nomatch z
  | _, _, z, .raw _ => nomatch z
  | _, _, z, .dct _ _ _ _ => nomatch z
  | _, _, z, .dpt _ _ _ _ => nomatch z
theorem RelL.ban (hD : H D = some (.lst vs)) : ∀ {ws : List V} {us : List U}, noLsts us = true → RelL K m H ws us → RelL K (addB m [D]) H ws us
  | _, _, _, .nil => .nil
  | _, _, z, .cons h r => .cons (Rel.ban hD (Bool.and_eq_true_iff.mp z).1 h) (RelL.ban hD (Bool.and_eq_true_iff.mp z).2 r)
end
/-- the list stands at D, its name in slot n; all other names know nothing of it -/
structure OwSt (K : PySem.W.Frag) (m : Mo) (D : Addr) (n : Nat) (H : Hp) (σ : L2.St) (ρ : Env) (us : List U) : Prop where
  iv : invM (addB m [D]) H
  ok : okA m D
  rs : RelS K (addB m [D]) H σ ρ
  no : ρ[n]? = some (some (.raw (.ref D)))
  ow : ∃ vs, H D = some (.lst vs) ∧ RelL K (addB m [D]) H vs us
theorem inv_cutB (i : invM (addB m [D]) H) : invM m H := ⟨i.1, fun b hb => i.2.1 b (List.mem_cons_of_mem _ hb), i.2.2⟩
theorem inv_addB {o : HO} (i : invM m H) (h : H D = some o) : invM (addB m [D]) H := ⟨i.1, fun b hb => by
  rcases List.mem_append.mp hb with hb | hb
  · rw [List.mem_singleton.mp hb, h]
    exact fun z => nomatch z
  · exact i.2.1 b hb, i.2.2⟩
theorem OwSt.sl {σ : L2.St} {ρ : Env} {us : List U} (o : OwSt K m D n H σ ρ us) : σ[n]? = some (some (.ref D)) := by
  obtain ⟨v, h1, h2⟩ := o.rs.2 n _ o.no
  cases h2
  exact h1
theorem set_own_get {ρ : Env} {u x : U} (h : ρ[n]? = some (some x)) {i : Nat} {w : U} (e : (ρ.set n (some u))[i]? = some (some w)) : (i = n ∧ w = u) ∨ (i ≠ n ∧ ρ[i]? = some (some w)) := by
  by_cases c : n = i
  · subst c
    have l : n < ρ.length := (List.getElem?_eq_some_iff.mp h).1
    rw [List.getElem?_set_self l] at e
    exact .inl ⟨rfl, (Option.some.inj (Option.some.inj e)).symm⟩
  · rw [List.getElem?_set_ne c] at e
    exact .inr ⟨fun z => c z.symm, e⟩
/-- seen as any other list, while nothing is changed -/
theorem OwSt.view {σ : L2.St} {ρ : Env} {us : List U} (o : OwSt K m D n H σ ρ us) : invM m H ∧ RelS K m H σ (ρ.set n (some (.lst us))) := by
  obtain ⟨vs, hD, l⟩ := o.ow
  refine ⟨inv_cutB o.iv, by rw [List.length_set]; exact o.rs.1, fun i u e => ?_⟩
  rcases set_own_get o.no e with ⟨rfl, rfl⟩ | ⟨_, e⟩
  · exact ⟨_, o.sl, .lst o.ok hD (RelL.cut l)⟩
  · obtain ⟨v, h1, h2⟩ := o.rs.2 i u e
    exact ⟨v, h1, Rel.cut h2⟩
theorem OwSt.step {σ : L2.St} {ρ : Env} {us : List U} (o : OwSt K m D n H σ ρ us) (s : stpM m H H') (i : invM m H') : OwSt K m D n H' σ ρ us := by
  obtain ⟨vs, hD, l⟩ := o.ow
  have hD' := s _ _ hD o.ok.1
  exact ⟨inv_addB i hD', o.ok, RelS.step (m := addB m [D]) s o.rs, o.no, vs, hD', RelL.step (m := addB m [D]) s l⟩
theorem OwSt.setE {σ : L2.St} {ρ : Env} {us : List U} (o : OwSt K m D n H σ ρ us) {i : Nat} {v : V} {u : U} (hi : i ≠ n) (r : Rel K m H v u) (z : noLst u = true) : OwSt K m D n H (σ.set i (some v)) (ρ.set i (some u)) us := by
  obtain ⟨vs, hD, l⟩ := o.ow
  exact ⟨o.iv, o.ok, RelS.set o.rs i (Rel.ban hD z r), by rw [List.getElem?_set_ne hi]; exact o.no, vs, hD, l⟩
abbrev WO2 := Mo → List U → Env → (List U → Env → Prop) → Prop
def tOw (K : PySem.W.Frag) (n : Nat) (w : WO2) : TS := fun Dn σ H => ∃ m D us ρ N, OwSt K m D n H σ ρ us ∧ w m us ρ N ∧ ∀ us' ρ' σ' H', N us' ρ' → stpX m D H H' → OwSt K m D n H' σ' ρ' us' → Dn.nx σ' H'
def oNext : WO2 := fun _ us ρ N => N us ρ
def oSeq (a b : WO2) : WO2 := fun m us ρ N => a m us ρ fun us' ρ' => b m us' ρ' N
theorem oss_nil : PSs X [] (tOw X.K n oNext) := PSs.weak pss_nil fun Dn σ H ⟨m, D, us, ρ, N, o, w, c⟩ => c _ _ _ _ w (stpX_of stp_refl) o
theorem oss_one {st : Stmt} {w : WO2} (h : PS X st (tOw X.K n w)) : PSs X [st] (tOw X.K n w) := pss_one h
theorem oss_cons {st : Stmt} {rest : List Stmt} {a b : WO2} (h1 : PS X st (tOw X.K n a)) (h2 : PSs X rest (tOw X.K n b)) : PSs X (st :: rest) (tOw X.K n (oSeq a b)) := PSs.weak (pss_cons h1 h2) fun Dn σ H ⟨m, D, us, ρ, N, o, w, c⟩ =>
  ⟨m, D, us, ρ, _, o, w, fun us' ρ' σ' H' q s o' => ⟨m, D, us', ρ', N, o', q, fun us2 ρ2 σ2 H2 q2 s2 o2 => c us2 ρ2 σ2 H2 q2 (stpX_trans s s2) o2⟩⟩
/-- name = e -/
def oSetV (n i : Nat) (w : WE) : WO2 := fun m us ρ N => i ≠ n ∧ w m (ρ.set n (some (.lst us))) (fun u => noLst u = true ∧ N us (ρ.set i (some u))) xNo
theorem os_setV {st : Stmt} {i : Nat} {w : WE} (h : PS X st (tAsg (tE X.K W w) (L2.gName i))) : PS X st (tOw X.K n (oSetV n i w)) := PS.weak h fun Dn σ H ⟨m, D, us, ρ, N, o, ⟨hi, w⟩, c⟩ => by
  obtain ⟨iv, rs⟩ := o.view
  exact ⟨m, _, _, xNo, ge_no iv rs, w, fun u v H1 ⟨z, q⟩ s1 i1 r1 => c _ _ _ _ q (stpX_of s1) ((o.step s1 i1).setE hi r1 z)⟩
/-- xs[i] = e -/
def oPut (n : Nat) (wv wi : WE) : WO2 := fun m us ρ N => wv m (ρ.set n (some (.lst us))) (fun y => noLst y = true ∧ wi m (ρ.set n (some (.lst us))) (fun i => ∃ k j, i = .int k ∧ ixN us.length k = some j ∧ N (us.set j y) ρ) xNo) xNo
theorem os_put {st : Stmt} {wv wi : WE} (h : PS X st (tAsg (tE X.K W wv) (L2.gSub (tVar n) (tE X.K W wi) rSetL))) : PS X st (tOw X.K n (oPut n wv wi)) := PS.weak h fun Dn σ H ⟨m, D, us, ρ, N, o, w, c⟩ => by
  obtain ⟨iv, rs⟩ := o.view
  refine ⟨m, _, _, xNo, ge_no iv rs, w, fun y v H1 ⟨z, q⟩ s1 i1 r1 => ?_⟩
  have o1 := o.step s1 i1
  obtain ⟨iv1, rs1⟩ := o1.view
  refine ⟨_, o1.sl, m, _, _, xNo, ge_no iv1 rs1, q, fun i v2 H2 ⟨k, j, ei, ej, q2⟩ s2 i2 r2 => ?_⟩
  subst ei
  rw [rel_int r2]
  have o2 := o1.step s2 i2
  obtain ⟨vs, hD, l⟩ := o2.ow
  refine ⟨D, vs, k, j, rfl, rfl, hD, by rw [RelL.len l]; exact ej, ?_⟩
  have inD : D ∈ (addB m [D]).ban := List.mem_cons_self
  have ry : Rel X.K m H2 v y := Rel.step s2 r1
  refine c _ ρ σ _ q2 (stpX_trans (stpX_of (stp_trans s1 s2)) stpX_set) ⟨inv_upd o2.iv o.ok.1, o.ok, ⟨o2.rs.1, fun i' u' e' => ?_⟩, o.no, _, upd_same, RelL.set j (RelL.updB inD l) (Rel.updB inD (Rel.ban hD z ry))⟩
  obtain ⟨v', h1, h2⟩ := o2.rs.2 i' u' e'
  exact ⟨v', h1, Rel.updB inD h2⟩
/-- if -/
def oIf (n : Nat) (t : WT) (a b : WO2) : WO2 := fun m us ρ N => t m (ρ.set n (some (.lst us))) (fun c => if c = true then a m us ρ N else b m us ρ N) xNo
theorem os_if {e : Expr} {a b : List Stmt} {t : WT} {wa wb : WO2} (hc : DT X W e t) (ha : PSs X a (tOw X.K n wa)) (hb : PSs X b (tOw X.K n wb)) : PS X (.If e a b pos) (tOw X.K n (oIf n t wa wb)) := PS.weak (ps_if hc ha hb) fun Dn σ H ⟨m, D, us, ρ, N, o, w, c⟩ => by
  obtain ⟨iv, rs⟩ := o.view
  refine ⟨m, _, _, xNo, ge_no iv rs, w, fun bb H1 q s1 i1 => ?_⟩
  have o1 := o.step s1 i1
  cases bb with
  | true => exact ⟨m, D, us, ρ, N, o1, q, fun us' ρ' σ' H' q' s' o' => c us' ρ' σ' H' q' (stpX_trans (stpX_of s1) s') o'⟩
  | false => exact ⟨m, D, us, ρ, N, o1, q, fun us' ρ' σ' H' q' s' o' => c us' ρ' σ' H' q' (stpX_trans (stpX_of s1) s') o'⟩
/-! ### for -/
/-- the iterator hands out these, one by one, whatever becomes of the list at D -/
structure WalksX (K : PySem.W.Frag) (m : Mo) (D : Addr) (J : It) (us : List U) (H1 : Hp) : Prop where
  go : ∀ i H, i < us.length → stpX m D H1 H → invM m H → J.go i H
  stop : ∀ H, stpX m D H1 H → invM m H → J.stop us.length H
  yld : ∀ i H x H', i < us.length → stpX m D H1 H → invM m H → J.yld i H x H' → ∃ u, us[i]? = some u ∧ stpM m H H' ∧ invM m H' ∧ Rel K m H' x u ∧ noLst u = true
def tIo (K : PySem.W.Frag) (n : Nat) (wi : WI) : TI := fun σ H R => ∃ m D us ρ Q, OwSt K m D n H σ ρ us ∧ wi m (ρ.set n (some (.lst us))) Q xNo ∧ ∀ its J H1, Q its → stpM m H H1 → invM m H1 → WalksX K m D J its H1 → R J H1
def rngC (lo c : Int) (n : Nat) : List U := (List.range n).map fun (i : Nat) => U.int (lo + (i : Int) * c)
theorem rngC_len (lo c : Int) (n : Nat) : (rngC lo c n).length = n := by
  unfold rngC
  rw [List.length_map, List.length_range]
theorem rngC_get {lo c : Int} {n i : Nat} {u : U} (h : (rngC lo c n)[i]? = some u) : i < n ∧ u = .int (lo + (i : Int) * c) := by
  have l := (List.getElem?_eq_some_iff.mp h).1
  rw [rngC_len] at l
  unfold rngC at h
  rw [List.getElem?_map, List.getElem?_range l] at h
  exact ⟨l, (Option.some.inj h).symm⟩
theorem rngU_get {lo : Int} {n i : Nat} {u : U} (h : (rngU lo n)[i]? = some u) : i < n ∧ u = .int (lo + (i : Int)) := by
  have l := (List.getElem?_eq_some_iff.mp h).1
  have ln : (rngU lo n).length = n := by simp [rngU]
  rw [ln] at l
  unfold rngU at h
  rw [List.getElem?_map, List.getElem?_range l] at h
  exact ⟨l, (Option.some.inj h).symm⟩
theorem walksX_range {lo : Int} {k : Nat} : WalksX K m D (Itr lo k) (rngU lo k) H := by
  have hl : (rngU lo k).length = k := by simp [rngU]
  refine ⟨fun i H2 lt s _ => by rw [hl] at lt; exact lt, fun H2 s _ => by rw [hl]; exact Nat.le_refl _, fun i H2 x H3 lt s iv y => ?_⟩
  obtain ⟨rfl, rfl⟩ := y
  rw [hl] at lt
  exact ⟨.int (lo + i), by simp [rngU, lt], stp_refl, iv, .int _, rfl⟩
theorem walksX_rangeC {lo c : Int} {k : Nat} : WalksX K m D (Itc lo c k) (rngC lo c k) H := by
  have hl := rngC_len lo c k
  refine ⟨fun i H2 lt s _ => by rw [hl] at lt; exact lt, fun H2 s _ => by rw [hl]; exact Nat.le_refl _, fun i H2 x H3 lt s iv y => ?_⟩
  obtain ⟨rfl, rfl⟩ := y
  rw [hl] at lt
  exact ⟨.int (lo + i * c), by simp [rngC, lt], stp_refl, iv, .int _, rfl⟩
variable {e : Expr}
theorem oi_range1 {wa : WA} (h : PI X tg e (iRng1 (tA X.K W wa))) : PI X tg e (tIo X.K n (dItR1 wa)) := PI.weak h fun σ H R ⟨m, D, us, ρ, Q, o, q, c⟩ => by
  obtain ⟨iv, rs⟩ := o.view
  refine ⟨m, _, _, xNo, ge_no iv rs, q, fun us vs H1 ⟨j, ej, b1, b2, q1⟩ s1 i1 r1 => ?_⟩
  subst ej
  obtain ⟨v, rfl, a⟩ := rl1 r1
  exact ⟨j, by rw [rel_int a], b1, b2, c _ _ H1 q1 s1 i1 walksX_range⟩
theorem oi_range2 {wa : WA} (h : PI X tg e (iRng2 (tA X.K W wa))) : PI X tg e (tIo X.K n (dItR2 wa)) := PI.weak h fun σ H R ⟨m, D, us, ρ, Q, o, q, c⟩ => by
  obtain ⟨iv, rs⟩ := o.view
  refine ⟨m, _, _, xNo, ge_no iv rs, q, fun us vs H1 ⟨i, j, ej, b, q1⟩ s1 i1 r1 => ?_⟩
  subst ej
  obtain ⟨v, x, rfl, ra, rb⟩ := rl2 r1
  exact ⟨i, j, by rw [rel_int ra, rel_int rb], b, c _ _ H1 q1 s1 i1 walksX_range⟩
def dItR3 (w : WA) : WI := fun m ρ Q Z => w m ρ (fun us => ∃ (i j c : Int) (n : Nat), us = [.int i, .int j, .int c] ∧ RgC i j c n ∧ Q (rngC i c n)) Z
theorem oi_range3 {wa : WA} (h : PI X tg e (iRng3 (tA X.K W wa))) : PI X tg e (tIo X.K n (dItR3 wa)) := PI.weak h fun σ H R ⟨m, D, us, ρ, Q, o, q, c⟩ => by
  obtain ⟨iv, rs⟩ := o.view
  refine ⟨m, _, _, xNo, ge_no iv rs, q, fun us vs H1 ⟨i, j, k, n', ej, b, q1⟩ s1 i1 r1 => ?_⟩
  subst ej
  obtain ⟨v, x, y, rfl, ra, rb, rc⟩ := rl3 r1
  exact ⟨i, j, k, n', by rw [rel_int ra, rel_int rb, rel_int rc], b, c _ _ H1 q1 s1 i1 walksX_rangeC⟩
/-- a tuple, enumerate of a tuple: of things without lists -/
def dItTn (w : WE) : WI := fun m ρ Q Z => w m ρ (fun u => ∃ us, u = .tup us ∧ noLsts us = true ∧ Q us) Z
def dItEn (w : WA) : WI := fun m ρ Q Z => w m ρ (fun us => ∃ ts, us = [.tup ts] ∧ noLsts ts = true ∧ Q (enU 0 ts)) Z
theorem noLsts_get : ∀ {ts : List U} {i : Nat} {u : U}, noLsts ts = true → ts[i]? = some u → noLst u = true
  | [], _, _, _, h => by simp at h
  | t :: ts, 0, u, z, h => by
    have e : t = u := by simpa using h
    exact e ▸ (Bool.and_eq_true_iff.mp z).1
  | t :: ts, i + 1, u, z, h => noLsts_get (ts := ts) (i := i) (Bool.and_eq_true_iff.mp z).2 (by simpa using h)
theorem tup_neD {a : Addr} {vs ws : List V} (hD : H D = some (.lst ws)) (t : TupR K m H a vs) : (a ≠ D ∧ okA m a ∧ Rd H a (.tup vs)) ∨ ∃ (o : Obj) (its : Array Value) (n : Nat), K.lookup a = some o ∧ o.cls = .type "tuple" ∧ o.data = .seq its n ∧ its.size ≤ sizeLine ∧ Vals vs its.toList := by
  rcases t with ⟨k, h⟩ | h
  · refine .inl ⟨fun z => ?_, k, h⟩
    subst z
    rcases h with h | ⟨o, h⟩
    · rw [hD] at h
      cases h
    · rw [hD] at h
      cases h
  · exact .inr h
theorem tup_stepX {a : Addr} {vs ws : List V} (hD : H D = some (.lst ws)) (t : TupR K m H a vs) (s : stpX m D H H') : TupR K m H' a vs := by
  rcases tup_neD hD t with ⟨ne, k, h | ⟨o, h⟩⟩ | h
  · exact .inl ⟨k, .inl (s _ _ ne h k.1)⟩
  · exact .inl ⟨k, .inr ⟨o, s _ _ ne h k.1⟩⟩
  · exact .inr h
mutual
theorem Rel.flatX (hD : H D = some (.lst ws)) (s : stpX m D H H') : ∀ {v : V} {u : U}, noLst u = true → Rel K m H v u → Rel K m H' v u
  | _, _, _, .non => .non
  | _, _, _, .bl b => .bl b
  | _, _, _, .int i => .int i
  | _, _, _, .str x => .str x
  | _, _, z, .tup h r => .tup (tup_stepX hD h s) (RelL.flatX hD s z r)
  | _, _, z, .lst _ _ _ => nomatch z
  | _, _, z, .raw _ => nomatch z
  | _, _, z, .dct _ _ _ _ => nomatch z
  | _, _, z, .dpt _ _ _ _ => nomatch z
theorem RelL.flatX (hD : H D = some (.lst ws)) (s : stpX m D H H') : ∀ {vs : List V} {us : List U}, noLsts us = true → RelL K m H vs us → RelL K m H' vs us
  | _, _, _, .nil => .nil
  | _, _, z, .cons h r => .cons (Rel.flatX hD s (Bool.and_eq_true_iff.mp z).1 h) (RelL.flatX hD s (Bool.and_eq_true_iff.mp z).2 r)
end
theorem walksX_enT {a : Addr} {vs ws : List V} {us : List U} (hD : H D = some (.lst ws)) (k : TupR K m H a vs) (r : RelL K m H vs us) (z : noLsts us = true) : WalksX K m D (IteT K a) (enU 0 us) H := by
  have hl := RelL.len r
  have at_ : ∀ H2, stpX m D H H2 → SqT K H2 a vs := fun H2 s => (tup_stepX hD k s).sq
  refine ⟨fun i H2 lt s _ => by rw [enU_len] at lt; exact ⟨vs, vs[i]'(by omega), at_ H2 s, by simp⟩, fun H2 s _ => by rw [enU_len]; exact ⟨vs, at_ H2 s, by omega⟩, fun i H2 x H3 lt s iv y => ?_⟩
  obtain ⟨T, y1, rfl, hT, rfl, y⟩ := y
  obtain ⟨u, e, ru⟩ := RelL.getV (RelL.flatX hD s z r) (y vs (at_ _ s))
  have nu := noLsts_get z e
  refine ⟨_, by rw [enU_get us 0 i u e, Nat.zero_add], stp_new hT, inv_new iv hT, new_pair iv hT (.int _) ru, ?_⟩
  show (true && (noLst u && true)) = true
  rw [nu]
  rfl
theorem oi_enumT {wa : WA} (h : PI X tg e (iEnumX X.K (tA X.K W wa))) : PI X tg e (tIo X.K n (dItEn wa)) := PI.weak h fun σ H R ⟨m, D, us, ρ, Q, o, q, c⟩ => by
  obtain ⟨iv, rs⟩ := o.view
  refine ⟨m, _, _, xNo, ge_no iv rs, q, fun us' vs H1 ⟨ts, ej, z, q1⟩ s1 i1 r1 => ?_⟩
  subst ej
  obtain ⟨v, rfl, a⟩ := rl1 r1
  obtain ⟨p, ys, rfl, k, hq, l⟩ := rel_tup a
  obtain ⟨ws, hD, _⟩ := (o.step s1 i1).ow
  exact ⟨p, ys, rfl, .inr ⟨hq, c _ _ H1 q1 s1 i1 (walksX_enT hD k l z)⟩⟩
/-- for target in iterator: statements -/
def oForI (n : Nat) (wi : WI) (g : WG) (b : WO2) : WO2 := fun m us ρ N => wi m (ρ.set n (some (.lst us))) (fun its => ∃ I : Nat → List U → Env → Prop, I 0 us ρ ∧
  (∀ (i : Nat) u us' ρ', its[i]? = some u → I i us' ρ' → ρ'[n]? = ρ[n]? → g u ρ' fun ρ2 => ρ2[n]? = ρ[n]? ∧ b m us' ρ2 (I (i + 1))) ∧ ∀ us' ρ', I its.length us' ρ' → N us' ρ') xNo
theorem os_forI {wi : WI} {g : WG} {b : WO2} {iter : Expr} {body : List Stmt} (h : PS X (.For tg iter body [] pos) (tFor (tIo X.K n wi) (tG X.K g) (tOw X.K n b))) : PS X (.For tg iter body [] pos) (tOw X.K n (oForI n wi g b)) :=
  PS.weak h fun Dn σ H ⟨m, D, us, ρ, N, o, w, c⟩ => by
    refine ⟨m, D, us, ρ, _, o, w, fun its J H1 ⟨I, h0, turn, fin⟩ s1 i1 wk => ?_⟩
    refine ⟨fun i k σ' H' => k = its.length - i ∧ i ≤ its.length ∧ ∃ us' ρ', I i us' ρ' ∧ stpX m D H1 H' ∧ OwSt X.K m D n H' σ' ρ' us', ⟨its.length, by simp, Nat.zero_le _, us, ρ, h0, stpX_of stp_refl, o.step s1 i1⟩, ?_⟩
    rintro i k σ1 H2 ⟨rfl, hi, us1, ρ1, h1, s2, o2⟩
    have i2 := inv_cutB o2.iv
    by_cases lt : i < its.length
    · refine .inr ⟨wk.go i H2 lt s2 i2, fun σ' H' => ∃ us' ρ', I (i + 1) us' ρ' ∧ stpX m D H1 H' ∧ OwSt X.K m D n H' σ' ρ' us', fun σ' H' ⟨us', ρ', a1, a2, a3⟩ => ⟨its.length - (i + 1), by omega, rfl, lt, us', ρ', a1, a2, a3⟩, fun x H3 y => ?_⟩
      obtain ⟨u, eu, s3, i3, ru, nu⟩ := wk.yld i H2 x H3 lt s2 i2 y
      have o3 := o2.step s3 i3
      obtain ⟨vs3, hD3, l3⟩ := o3.ow
      refine ⟨addB m [D], u, ρ1, _, o3.iv, o3.rs, Rel.ban hD3 nu ru, turn i u us1 ρ1 eu h1 (o2.no.trans o.no.symm), fun ρ4 σ4 H4 ⟨e4, q4⟩ s4 i4 r4 => ?_⟩
      have s4' : stpM m H3 H4 := s4
      have o4 : OwSt X.K m D n H4 σ4 ρ4 us1 := ⟨i4, o.ok, r4, e4.trans o.no, vs3, s4' _ _ hD3 o.ok.1, RelL.step s4 l3⟩
      exact ⟨m, D, us1, ρ4, _, o4, q4, fun us' ρ' σ' H' q s o' => ⟨us', ρ', q, stpX_trans (stpX_trans (stpX_trans s2 (stpX_of s3)) (stpX_of s4')) s, o'⟩⟩
    · have e : i = its.length := by omega
      subst e
      exact .inl ⟨wk.stop H2 s2 i2, c us1 ρ1 σ1 H2 (fin us1 ρ1 h1) (stpX_trans (stpX_of s1) s2) o2⟩
/-! ### the list is made, statements over it, and then it is a list as any other -/
/-- an expression that makes a new list -/
abbrev WF1 := Mo → Env → (List U → Prop) → XQ → Prop
def tFr (K : PySem.W.Frag) (W : WX) (w : WF1) : TE := fun σ H Q' => ∃ m ρ Q Z, GE K m W σ H ρ Z ∧ w m ρ Q Z ∧ ∀ us vs H1 p, Q us → stpM m H H1 → invM m H1 → RelL K m H1 vs us → H1 p = none → Q' (.ref p) (upd H1 p (.lst vs))
def fRep (wl wn : WE) : WF1 := fun m ρ Q Z => wl m ρ (fun x => wn m ρ (fun y => ∃ u k, x = .lst [u] ∧ y = .int k ∧ -(2 ^ 63) ≤ k ∧ k < 2 ^ 63 ∧ k.toNat ≤ sizeLine ∧ Q (List.replicate k.toNat u)) Z) Z
theorem fr_rep {a b : Expr} {wl wn : WE} (ha : DE X W a wl) (hb : DE X W b wn) : PE X (.BinOp a .Mult b pos) (tFr X.K W (fRep wl wn)) := PE.weak (pe_op op_rep ha hb) fun σ H Q' ⟨m, ρ, Q, Z, ge, q, c⟩ => by
  refine ⟨m, ρ, _, Z, ge, q, fun x v1 H1 q1 s1 i1 r1 => ⟨m, ρ, _, Z, ge.step s1 i1, q1, fun y v2 H2 ⟨u, k, ex, ey, k1, k2, kz, q2⟩ s2 i2 r2 => ?_⟩⟩
  subst ex ey
  obtain ⟨p, vs, rfl, _, hp, lv⟩ := rel_lst (Rel.step s2 r1)
  obtain ⟨v0, rfl, r0⟩ := rl1 lv
  have e2 := rel_int r2
  subst e2
  exact ⟨p, k, [v0], rfl, rfl, hp, k1, k2, by simpa using kz, fun d hd => c _ _ H2 d q2 (stp_trans s1 s2) i2 (rep_rel r0 _) hd⟩
def fLst (w : WA) : WF1 := fun m ρ Q Z => w m ρ (fun us => ∃ ts, (us = [.tup ts] ∨ us = [.lst ts]) ∧ Q ts) Z
theorem fr_list {w : WA} (h : PE X e (tCB (fun xs H Q => ∃ p ys, xs = [.ref p] ∧ (SqL X.K H p ys ∨ SqT X.K H p ys) ∧ ∀ l, H l = none → Q (.ref l) (upd H l (.lst ys))) (tA X.K W w))) : PE X e (tFr X.K W (fLst w)) := PE.weak h fun σ H Q' ⟨m, ρ, Q, Z, ge, q, c⟩ => by
  refine ⟨m, ρ, _, Z, ge, q, fun us vs H1 ⟨ts, eu, q1⟩ s1 i1 r1 => ?_⟩
  rcases eu with rfl | rfl
  · obtain ⟨v, rfl, a⟩ := rl1 r1
    obtain ⟨p, ys, rfl, _, h, l⟩ := rel_tup a
    exact ⟨p, ys, rfl, .inr h, fun d hd => c _ _ H1 d q1 s1 i1 l hd⟩
  · obtain ⟨v, rfl, a⟩ := rl1 r1
    obtain ⟨p, ys, rfl, _, h, l⟩ := rel_lst a
    exact ⟨p, ys, rfl, .inl (.inl (.inl h)), fun d hd => c _ _ H1 d q1 s1 i1 l hd⟩
def fDisp (w : WA) : WF1 := fun m ρ Q Z => w m ρ (fun us => us.length ≤ sizeLine ∧ Q us) Z
theorem fr_disp {es : List Expr} {w : WA} (h : DA X W es w) : PE X (.List es pos) (tFr X.K W (fDisp w)) := PE.weak (pe_lst h) fun σ H Q' ⟨m, ρ, Q, Z, ge, q, c⟩ =>
  ⟨m, ρ, _, Z, ge, q, fun us vs H1 ⟨z, q1⟩ s1 i1 r1 => ⟨by rw [RelL.len r1]; exact z, fun p hp => c us vs H1 p q1 s1 i1 r1 hp⟩⟩
def dOwnS (n : Nat) (w : WF1) (b : WO2) (r : WS) : WS := fun m DD ρ => w m ρ (fun us => n < ρ.length ∧ ∀ D, b m us (ρ.set n (some (.raw (.ref D)))) fun us' ρ' => r m DD (ρ'.set n (some (.lst us')))) (DD.ex ρ)
theorem dss_ownS {w : WF1} {b : WO2} {r : WS} {s0 s1 : Stmt} {rest : List Stmt} (h0 : PS X s0 (tAsg (tFr X.K W w) (L2.gName n))) (h1 : PS X s1 (tOw X.K n b)) (h2 : DSs X W rest r) : DSs X W (s0 :: s1 :: rest) (dOwnS n w b r) :=
  PSs.weak (pss_cons h0 (pss_cons h1 h2)) fun Dn σ H ⟨m, ρ, DD, iv, rs, q, c⟩ => by
    refine ⟨m, ρ, _, DD.ex ρ, c.ge iv rs, q, fun us vs H1 D ⟨ln, q1⟩ s1 i1 rl hD => ?_⟩
    have kD := ok_new i1 hD
    have hB : ∀ b ∈ [D], H1 b = none := fun b hb => by
      rw [List.mem_singleton.mp hb]
      exact hD
    have st : stpM m H (upd H1 D (.lst vs)) := stp_trans s1 (stp_new hD)
    have inD : D ∈ (addB m [D]).ban := List.mem_cons_self
    have o : OwSt X.K m D n (upd H1 D (.lst vs)) (σ.set n (some (.ref D))) (ρ.set n (some (.raw (.ref D)))) us := by
      refine ⟨inv_addB (inv_new i1 hD) upd_same, kD, ?_, List.getElem?_set_self ln, vs, upd_same, RelL.updB inD (RelL.addB hB rl)⟩
      exact RelS.set (⟨rs.1, fun i u e => by
        obtain ⟨v, e1, e2⟩ := rs.2 i u e
        exact ⟨v, e1, Rel.updB inD (Rel.addB hB (Rel.step s1 e2))⟩⟩) n (.raw _)
    refine ⟨m, D, us, _, _, o, q1 D, fun us' ρ' σ' H' q' sX o' => ?_⟩
    obtain ⟨iv', rs'⟩ := o'.view
    -- what stood before the list was made stands still
    have sH : stpM m H H' := fun b x hb kb => by
      have e1 := s1 b x hb kb
      have ne : b ≠ D := fun z => by
        rw [z, hD] at e1
        cases e1
      exact sX b x ne (by rw [upd_ne ne]; exact e1) kb
    exact ⟨m, _, DD, iv', rs', q', c.step sH⟩
end
end DL
set_option Elab.async false
set_option linter.all false
set_option maxRecDepth 100000
set_option maxHeartbeats 4000000
/-! the data layer: a tuple read backwards, ts[::-1] -/
namespace DL
open PySem PySem.Spec PyProof.Rows L2 XR
theorem adjust_rev (n : Nat) : Builtin.Slice.sliceAdjust none none (-1) (n : Int) = ((n : Int) - 1, -1) := by
  unfold Builtin.Slice.sliceAdjust
  simp
theorem places_rev (n : Nat) : Builtin.Slice.slicePlaces ((n : Int) - 1) (-1) (-1) = n := by
  unfold Builtin.Slice.slicePlaces
  simp
  omega
theorem filterMap_same {α β : Type} {f g : α → Option β} : ∀ {l : List α}, (∀ x ∈ l, f x = g x) → l.filterMap f = l.filterMap g
  | [], _ => rfl
  | a :: l, h => by
    rw [List.filterMap_cons, List.filterMap_cons, h a List.mem_cons_self, filterMap_same (l := l) fun x hx => h x (List.mem_cons_of_mem _ hx)]
theorem pick_rev (xs : Array Value) : ((List.range xs.size).filterMap fun (k : Nat) => xs[((xs.size : Int) - 1 + (k : Int) * -1).toNat]?) = xs.toList.reverse := by
  have e : ((List.range xs.size).filterMap fun (k : Nat) => xs[((xs.size : Int) - 1 + (k : Int) * -1).toNat]?) = ((List.range xs.size).map fun k => xs.size - 1 - k).filterMap (xs[·]?) := by
    rw [List.filterMap_map]
    refine filterMap_same fun k hk => ?_
    have := List.mem_range.mp hk
    show _ = xs[xs.size - 1 - k]?
    rw [show ((xs.size : Int) - 1 + (k : Int) * -1).toNat = xs.size - 1 - k from by omega]
  rw [e, PySem.W.krv_range, List.filterMap_reverse, PySem.W.krv_all]
section
variable {prog : Program} {w : World} {A : Around} {E : Value → Shared → Prop} {s : Shared}
theorem sliceApplied_rev {sl : Addr} {vs : Value} {n : Nat} {Q : Int × Int × Nat → Shared → Prop} (hs : s.heap.IsSliceOf sl vl vu vs) (pl : IsPart vl none) (pu : IsPart vu none) (ps : IsPart vs (some (-1)))
    (h : Q ((n : Int) - 1, -1, n) s) : wpAny (model prog w) A (Builtin.Slice.sliceApplied (.ref sl) (pure (n : Int))) Q E s := by
  obtain ⟨os, hos, hcs, hds⟩ := id hs
  unfold Builtin.Slice.sliceApplied Builtin.Slice.sliceFields
  refine wpAny_bind (wpAny_bind (wpAny_field hos hds (x := vl) rfl (wpAny_bind (wpAny_field hos hds (x := vu) rfl (wpAny_bind (wpAny_field hos hds (x := vs) rfl (wpAny_pure ?_)))))))
  refine wpAny_bind (HT.slicePart_ ps ?_)
  show wpAny _ _ (if ((-1 : Int) == 0) = true then _ else _) _ _ s
  rw [if_neg (by decide)]
  refine wpAny_bind (HT.slicePart_ pl (wpAny_bind (HT.slicePart_ pu (wpAny_bind (wpAny_pure ?_)))))
  show wpAny _ _ (match Builtin.Slice.sliceAdjust none none (-1) (n : Int) with | (lo, hi) => pure (lo, (-1 : Int), Builtin.Slice.slicePlaces lo hi (-1))) _ _ s
  rw [adjust_rev n]
  show wpAny _ _ (pure ((n : Int) - 1, (-1 : Int), Builtin.Slice.slicePlaces ((n : Int) - 1) (-1) (-1))) _ _ s
  rw [places_rev]
  exact wpAny_pure h
theorem getItem_tuple_rev {t sl : Addr} {items : Array Value} {vl vu vs : Value} {Q : Value → Shared → Prop} (ht : IsTup s.heap t items) (hs : s.heap.IsSliceOf sl vl vu vs) (pl : IsPart vl none) (pu : IsPart vu none) (ps : IsPart vs (some (-1)))
    (h : Q (.ref s.heap.objs.size) { s with heap := s.heap.push { cls := .type "tuple", data := .seq (items.toList.reverse).toArray } })
    (hsz : items.size ≤ sizeLine) : wpAny (model prog w) A (getItem (.ref t) (.ref sl)) Q E s := by
  have htake : sizeOk (.seq (items.toList.reverse).toArray) := by
    show (items.toList.reverse).toArray.size ≤ sizeLine
    rw [List.size_toArray, List.length_reverse, Array.length_toList]
    omega
  obtain ⟨os, hos, hcs, hds⟩ := id hs
  have hTs : s.TypeIs (.ref sl) "slice" := ⟨os, hos, hcs⟩
  unfold getItem
  try with_reducible refine wpAny_holding ?_
  first | refine wpAny_bind (wpAny_pure ?_) | skip
  refine wpAny_bind (wpAny_sequenceKey ht.typeIs (by decide) ?_)
  refine wpAny_bind (wpAny_callSpecial?_slot (name := Str.ofString "__getitem__") ht.typeIs PyProof.Rows.slot_tuple_getitem
    (wpAny_call_entry PyProof.Rows.slot_tuple_getitem ht.typeIs entry_tuple_getitem ?_ (args_tuple_getitem _ _)))
  show wpAny _ _ (Builtin.Tuple.tupleItemsOf (.ref t) >>= _) _ _ s
  refine wpAny_bind (tupleItemsOf_ ht ?_)
  refine wpAny_bind (wpAny_typeOf hTs ?_)
  rw [if_pos (by decide)]
  refine wpAny_bind (sliceApplied_rev hs pl pu ps ?_)
  show wpAny _ _ (if (((items.size : Int) - 1 == 0 && (-1 : Int) == 1 && items.size == items.size) = true) then _ else _) _ _ s
  rw [if_neg (by simp), pick_rev]
  first
    | exact wpAny_bind (m := Builtin.Tuple.tupleExact _) (wpAny_newObj_type (wpAny_pure ⟨_, rfl, wpAny_pure h⟩) htake)
    | exact wpAny_bind (m := Builtin.Tuple.tupleExact _) (wpAny_newObj_type (wpAny_bind (wpAny_pure (wpAny_pure ⟨_, rfl, wpAny_pure h⟩))) htake)
    | exact wpAny_bind (wpAny_bind (m := Builtin.Tuple.tupleExact _) (wpAny_newObj_type (wpAny_pure (wpAny_pure ⟨_, rfl, wpAny_pure h⟩)) htake))
    | exact wpAny_bind (wpAny_bind (m := Builtin.Tuple.tupleExact _) (wpAny_newObj_type (wpAny_pure ⟨_, rfl, wpAny_pure h⟩) htake))
end
section
variable {X : Cx} {W : WX} {e : Expr}
def tRevT (K : PySem.W.Frag) (te : TE) : TE := fun σ H Q => te σ H fun x H1 => ∃ a xs, x = .ref a ∧ SqT K H1 a xs ∧ ∀ p, H1 p = none → Q (.ref p) (upd H1 p (.tup xs.reverse))
theorem pe_revT {e : Expr} {te : TE} {k : Nat} {p1 p2 p3 pos : Pos} (he : PE X e te) : PE X (.Subscript e (.Slice none none (some (.UnaryOp .USub (.Constant (.int 1) k p1) p2)) p3) pos) (tRevT X.K te) := by
  refine ⟨fun pins s σ H Q I h => ?_⟩
  refine Subscript_ (thn (he.run pins s σ H _ I h) fun v s1 ⟨x, H1, I1, r1, q1⟩ => ?_)
  obtain ⟨a, xs, ex, hx, q⟩ := q1
  subst ex
  cases r1
  have hst : PO X (some (.UnaryOp .USub (.Constant (.int 1) k p1) p2)) (tPart (tUn (rU fun i => .int (-i)) (tC (.int 1)))) := po_some (pe_un un_neg pe_int)
  refine wpAny_Slice (thn (po_none.run pins s1 σ H1 (fun o H2 => o = none ∧ H2 = H1) I1 ⟨rfl, rfl⟩) fun vl s2 ⟨l, H2, I2, pl, el, e2⟩ => ?_)
  subst el e2
  refine thn (po_none.run pins s2 σ H2 (fun o H3 => o = none ∧ H3 = H2) I2 ⟨rfl, rfl⟩) fun vu s3 ⟨u, H3, I3, pu, eu, e3⟩ => ?_
  subst eu e3
  refine thn (hst.run pins s3 σ H3 (fun o H4 => o = some (-1) ∧ H4 = H3) I3 ⟨1, rfl, -1, rfl, rfl, rfl⟩) fun vs s4 ⟨o, H4, I4, ps, eo, e4⟩ => ?_
  subst eo e4
  have I5 : Inv X pins σ H4 { s4 with heap := s4.heap.push { cls := .type "slice", data := .fields #[vl, vu, vs] } } := I4.kept (t' := s4.toks) fun b ob q => Heap.get?_push_of_some _ q
  obtain ⟨its, r, ht, hz⟩ := I5.tuple hx
  have hlen := r.length
  show wpAny (model X.prog X.w) X.A (subscriptTail e (.Slice none none (some (.UnaryOp .USub (.Constant (.int 1) k p1) p2)) p3) (.ref a) (.ref s4.heap.objs.size)) (EP X pins σ Q) X.xe { s4 with heap := s4.heap.push { cls := .type "slice", data := .fields #[vl, vu, vs] } }
  refine tail_any (ops := [.ref a, .ref s4.heap.objs.size]) ht.typeIs (PyProof.Rows.slot_tuple_getitem.lookup) ?_ (by with_unfolding_all rfl)
  refine getItem_tuple_rev ht (Heap.IsSliceOf.new _ vl vu vs) pl pu ps ?_ (by rw [List.size_toArray]; omega)
  refine ⟨.ref _, _, I5.laid (t' := s4.toks) (o := .tup xs.reverse) (fun b ob q => Heap.get?_push_of_some _ q) (Nat.le_refl _) ?_, rfl, q _ (I5.hok.fresh (Nat.le_refl _))⟩
  exact ⟨by rw [List.length_reverse]; exact hz, _, r.reverse, IsTup.new _ _⟩
def dRevT (w : WE) : WE := fun m ρ Q Z => w m ρ (fun u => ∃ ts, u = .tup ts ∧ Q (.tup ts.reverse)) Z
theorem de_revT {w : WE} {k : Nat} {p1 p2 p3 pos : Pos} (h : DE X W e w) : DE X W (.Subscript e (.Slice none none (some (.UnaryOp .USub (.Constant (.int 1) k p1) p2)) p3) pos) (dRevT w) := PE.weak (pe_revT h) fun σ H Q' ⟨m, ρ, Q, Z, ge, q, c⟩ =>
  ⟨m, ρ, _, Z, ge, q, fun u v H1 ⟨ts, e, q1⟩ s1 i1 r1 => by
    subst e
    obtain ⟨p, ys, rfl, k, h, l⟩ := rel_tup r1
    exact ⟨p, ys, rfl, h, fun d hd => (c.step s1).tup i1 hd (RelL.rev l) q1⟩⟩
end
end DL
set_option Elab.async false
set_option linter.all false
set_option maxRecDepth 100000
set_option maxHeartbeats 4000000
/-! the data layer: a, b, c = a list of that length -/
namespace DL
open PySem PySem.Spec PyProof.Rows L2 XR
section
variable {X : Cx} {W : WX}
def dgUnl (n : Nat) (r : WGs) : WG := fun u ρ Q => ∃ us, u = .lst us ∧ us.length = n ∧ r us ρ Q
theorem dg_unl {es : List Expr} {k : Nat} {r : WGs} {n : Nat} (hc : X.calm = true) (h : DGs X es r) (hn : (assignEach es X.env).length = n := by rfl) (hst : (assignEach es X.env).findIdx? (·.1) = none := by rfl) {pos : Pos} : DG X (.Tuple es k pos) (dgUnl n r) :=
  PG.weak (pg_unl hc h hn hst) fun v σ H Q' ⟨m, u, ρ, Q, iv, rs, rl, ⟨us, e, hl, q⟩, c⟩ => by
    subst e
    obtain ⟨a, vs, rfl, k, hs, r2⟩ := rel_lst rl
    exact ⟨a, vs, rfl, .inl (.inl hs), by rw [RelL.len r2]; exact hl, m, us, ρ, Q, iv, rs, r2, q, c⟩
end
end DL
set_option Elab.async false
set_option linter.all false
set_option maxRecDepth 100000
set_option maxHeartbeats 4000000
/-! the data layer: a suite read statement by statement -/
namespace DL
open PySem PySem.Spec PyProof.Rows L2 XR
/-- one statement, then what is left, for all that the statement may leave -/
theorem seq_gen {ι : Type} {w u : WS} {m : Mo} {D : DEnds} {ρ : Env} (ρf : ι → Env) (Pf : ι → Prop) (h : ∀ D' : DEnds, (∀ i, Pf i → D'.nx (ρf i)) → D'.rt = D.rt → w m D' ρ) (hr : ∀ i, Pf i → u m D (ρf i)) : dSeq w u m D ρ :=
  h { D with nx := u m D } hr rfl
/-- one statement that leaves all as it was -/
theorem seq_stop {w u : WS} {m : Mo} {D : DEnds} {ρ : Env} (ρ' : Env) (h : ∀ D' : DEnds, D'.nx ρ' → D'.rt = D.rt → w m D' ρ) (hr : u m D ρ') : dSeq w u m D ρ :=
  h { D with nx := u m D } hr rfl
end DL
set_option Elab.async false
set_option linter.all false
set_option maxRecDepth 100000
set_option maxHeartbeats 4000000
/-! the data layer: defs with one star parameter, called by position -/
namespace DL
open PySem PySem.Spec PyProof.Rows L2 XR
/-- a promise over data by position -/
structure FdR (P : Program) (w : World) (K : PySem.W.Frag) (mg : Str → Option Value) (base : Heap) (k : Nat) (f : Addr) (sp : SpD) : Prop where
  run : ∀ (A : Around) (outer : List PySem.Env) (s : Shared) (H : Hp) (xs : List Value) (vs : List V) (m : Mo) (us : List U) (Qd : U → Prop) (Zd : XQ) (Q : VK) (E : XK), Room k A → A.guards = some [] → Env0 P w K mg base A outer s H →
    Vals vs xs → invM m H → RelL K m H vs us → sp m us Qd Zd → Cont K m H Qd Q → ContE K m H Zd E → codeAny (model P w) A (.call (.ref f) ⟨xs, []⟩) (CR (L2.CX P w) outer P w H s Q E) s
theorem fdR_star {P : Program} {w : World} {K : PySem.W.Frag} {mg : Str → Option Value} {base : Heap} {k : Nat} {f : Addr} {x qual pv : Str} {st : Stmt} {fd : FuncData} {N : List Str} {sp : SpD} (F : Fun K x qual st f fd) (S : FnScope N [pv] (defScope st))
    (hb : ∀ rest : List Value, bindArgs fd ⟨rest, []⟩ = (newTuple rest >>= fun t => pure [(pv, t)]))
    (hbody : ∀ (cdv : Value) (A : Around) (outer : List PySem.Env) (s : Shared) (H : Hp) (E : XK) (m : Mo) (us : List U) (Qd : U → Prop) (Zd : XQ), Room k (A.deeper (envOfC qual (defScope st) s.heap.objs.size f cdv)) → (A.deeper (envOfC qual (defScope st) s.heap.objs.size f cdv)).guards = some [] →
      Takes (cxOf (L2.CX P w) P w K mg base N qual (defScope st) f cdv A outer s H E) (fun c d _ H' => E c d H') → sp m us Qd Zd → ∃ wd, DSs (cxOf (L2.CX P w) P w K mg base N qual (defScope st) f cdv A outer s H E) (fun c d _ H' => E c d H') (defBody st) wd ∧ wd m { nx := fun _ => Qd .non, rt := Qd, ex := fun _ => Zd } (startU N [.tup us])) :
    FdR P w K mg base (k + 1) f (fun m us Q Z => us.length ≤ sizeLine ∧ sp m us Q Z) := by
  obtain ⟨oc, od, kV, doc, pm, an, cdv, ct, osl, rfl, lk, hcd⟩ := F.ex
  refine ⟨fun A outer s H xs vs m us Qd Zd Q E hr hg e0 r iv rl ⟨hz, hsp⟩ c cx => ?_⟩
  have lv : vs.length ≤ sizeLine := by
    rw [RelL.len rl]
    exact hz
  have lx : xs.length ≤ sizeLine := by
    rw [← r.length]
    exact lv
  refine StX.run_bnd lk hcd (ps := [pv]) S hr e0 (G := fun ys H2 => ∃ p, H p = none ∧ ys = [V.ref p] ∧ H2 = upd H p (.tup vs)) (fun A' Ex Q' h => ?_) fun s2 H2 ys hG hr' => ?_
  · rw [hb xs]
    have free : H s.heap.objs.size = none := e0.hok.fresh (Nat.le_refl _)
    have laid : ObjOk P w (upd H s.heap.objs.size (.tup vs)) (s.heap.push ⟨.type "tuple", none, .seq xs.toArray, #[]⟩) s.heap.objs.size (.tup vs) :=
      ⟨lv, xs, r, _, Heap.get?_push_size _ rfl, rfl, _, rfl⟩
    have grown := StX.un_laid (fs := frs outer) (o := ⟨.type "tuple", none, .seq xs.toArray, #[]⟩) (u := .tup vs) free
    exact wpAny_bind (wpAny_newTuple (wpAny_pure (h _ _ [V.ref s.heap.objs.size] [Value.ref s.heap.objs.size] (StX.env0_laid e0 laid) grown rfl
      (fun e s' => StX.cxUp outer s H _ _ E e s' grown (fun b o q => Heap.get?_push_of_some _ q) rfl) (.cons rfl .nil) rfl ⟨_, free, rfl, rfl⟩)) lx)
  · obtain ⟨p, hp, rfl, rfl⟩ := hG
    obtain ⟨wd, ht, hq⟩ := hbody cdv A outer s2 (upd H p (.tup vs)) E m us Qd Zd hr' hg (takes_of rfl rfl rfl rfl) hsp
    refine ⟨_, ht, m, startU N [.tup us], _, inv_new iv hp, relS_start (.cons (new_tup iv hp rl) .nil), hq, ?_⟩
    have c2 := c.step (stp_new (o := .tup vs) hp)
    have cx2 := cx.step (stp_new (o := .tup vs) hp)
    exact ⟨fun ρ σ H' q s' i' r' => c2 .non .non H' q s' i' .non, c2, fun ρ σ H' s' r' => cx2.step s', fun _ _ _ q => q.elim, fun _ _ _ q => q.elim⟩
section
variable {X : Cx} {W : WX}
theorem de_callR {k : Nat} {f : Addr} {sp : SpD} {x : Str} {p pos : Pos} {e : Expr} {es : List Expr} {w : WA} (F : FdR X.prog X.w X.K X.mg X.base k f sp) (hr : Room k X.A) (hG : X.A.guards = some []) (tk : Takes X W) (hg : Gl X x) (hm : X.mg x = some (.ref f))
    (hk : PySem.W.keepIn X.K (.ref f) = true) (ha : DA X W (e :: es) w) (hdb : (x == ("__debug__" : Str)) = false := by decide) (he : starEach (e :: es) X.env = (false, eval e X.env) :: starEach es X.env := by rfl)
    (hpl : (backTo pos (starEach es X.env)).any (·.1) = false := by rfl) : DE X W (.Call (.Name x p) (e :: es) [] pos) (dCall sp w) := by
  refine ⟨fun pins s σ H Q' I ⟨m, ρ, Q, Z, ge, q, c⟩ => ?_⟩
  refine wpAny_Call_Name_kw (ld_glob I hg hm ?_ hdb)
  have args := ha.run pos pins s σ H (fun vs H1 => ∃ us, sp m us Q Z ∧ stpM m H H1 ∧ invM m H1 ∧ RelL X.K m H1 vs us) I ⟨m, ρ, _, Z, ge, q, fun us vs H1 q1 s1 i1 r1 => ⟨us, q1, s1, i1, r1⟩⟩
  refine PySem.W.callWith_K (h₀ := X.base) I.ok.mod.kin hk (thn args fun xs s1 got => ?_) he hpl
  obtain ⟨vs, H1, I1, r, us, hsp, st, iv, rl⟩ := got
  refine ⟨I1.kIn, wpAny_call (codeAny_mono (F.run X.A X.stack s1 H1 xs vs m us Q Z Q' (fun c d H' => W c d σ H') hr hG I1.env0 r iv rl hsp (c.step st) (ge.cx.step st)) fun rr s' hq => ?_)⟩
  cases rr with
  | error e => exact tk e s' (XE.of_call I1 (fun _ _ _ z => z) hq)
  | ok fl =>
    cases fl with
    | ret u => exact I1.after hq
    | next => exact hq.elim
    | brk => exact hq.elim
    | cont => exact hq.elim
end
end DL
set_option Elab.async false
set_option linter.all false
set_option maxRecDepth 100000
set_option maxHeartbeats 4000000
/-! the data layer: x in some data -/
namespace DL
open PySem PySem.Spec PyProof.Rows L2 XR
theorem Room.u65 {k : Nat} {A : Around} (r : Room k A) : A.units + 65 < cLine := by
  have := r.un
  omega
section
variable {X : Cx} {m : Mo} {W : WX} {K : PySem.W.Frag} {a b : Expr} {wa wb w : WE} {pos : Pos} {H : Hp}
def rInG (K : PySem.W.Frag) (neg : Bool) : R2 := fun x y H Q => ∃ d ds, Dp K H x d ∧ (Dp K H y (.list ds) ∨ Dp K H y (.tuple ds)) ∧ SeqAt.shaped d = true ∧ SeqAt.shaped (.list ds) = true ∧ Q (.bl (xor neg (ds.any fun z => PyData.eqv z d))) H
theorem op_inG (hu : X.A.units + 65 < cLine) : OpR X (compareOp .In) (rInG X.K false) := by
  intro pins s σ H x y v u Q I rx ry ⟨d, ds, hd, he, sd, se, q⟩
  rw [Bool.false_xor] at q
  obtain ⟨as, r1⟩ := Dp.reads I d x v hd rx
  rcases he with he | he
  · obtain ⟨bs, r2⟩ := Dp.reads I _ y u he ry
    exact SeqAt.in_list_reads r2 r1 (SeqAt.canLay_of_shaped se) (SeqAt.canLay_of_shaped sd) (room_in_shaped sd hu) ⟨.bl _, H, I, rfl, q⟩
  · obtain ⟨bs, r2⟩ := Dp.reads I _ y u he ry
    exact SeqAt.in_tuple_reads r2 r1 (SeqAt.canLay_of_shaped se) (SeqAt.canLay_of_shaped sd) (room_in_shaped sd hu) ⟨.bl _, H, I, rfl, q⟩
theorem op_notInG (hu : X.A.units + 65 < cLine) : OpR X (compareOp .NotIn) (rInG X.K true) := by
  intro pins s σ H x y v u Q I rx ry ⟨d, ds, hd, he, sd, se, q⟩
  rw [Bool.true_xor] at q
  obtain ⟨as, r1⟩ := Dp.reads I d x v hd rx
  rcases he with he | he
  · obtain ⟨bs, r2⟩ := Dp.reads I _ y u he ry
    exact SeqAt.notIn_list_reads r2 r1 (SeqAt.canLay_of_shaped se) (SeqAt.canLay_of_shaped sd) (room_in_shaped sd hu) ⟨.bl _, H, I, rfl, q⟩
  · obtain ⟨bs, r2⟩ := Dp.reads I _ y u he ry
    exact SeqAt.notIn_tuple_reads r2 r1 (SeqAt.canLay_of_shaped se) (SeqAt.canLay_of_shaped sd) (room_in_shaped sd hu) ⟨.bl _, H, I, rfl, q⟩
def gInG (neg : Bool) : W2 := fun a b Q => ∃ ts, (b = .tup ts ∨ b = .lst ts) ∧ flat a = true ∧ flat b = true ∧ Q (.bl (xor neg (ts.any fun z => ueq z a)))
theorem any_toPs (a : U) : ∀ ts : List U, ((toPs ts).any fun z => PyData.eqv z (toP a)) = ts.any fun z => ueq z a
  | [] => rfl
  | t :: ts => by
    have h := any_toPs a ts
    show (_ || _) = (_ || _)
    rw [h]
    rfl
theorem opd_inG {neg : Bool} : OpD K (rInG K neg) (gInG neg) := fun m x y a b H Q Q' iv ra rb ⟨ts, eb, fa, fb, q⟩ c => by
  have fa' := fa
  have fb' := fb
  unfold flat at fa' fb'
  rw [Bool.and_eq_true] at fa' fb'
  have hd := Rel.dp ra fa'.1
  have he := Rel.dp rb fb'.1
  refine ⟨toP a, toPs ts, hd, ?_, fa'.2, ?_, ?_⟩
  · rcases eb with rfl | rfl
    · exact .inr he
    · exact .inl he
  · rcases eb with rfl | rfl
    · exact fb'.2
    · exact fb'.2
  · rw [any_toPs]
    exact c.here iv q (.bl _)
theorem dt_inG (hu : X.A.units + 65 < cLine) (ha : DE X W a wa) (hb : DE X W b wb) (hm : behindInMarks .In b = false) : DT X W (.Compare a [.In] [b] pos) (dTest (dOp (gInG false) wa wb)) := dt_cmp (op_inG hu) opd_inG ha hb hm
theorem dt_notInG (hu : X.A.units + 65 < cLine) (ha : DE X W a wa) (hb : DE X W b wb) (hm : behindInMarks .NotIn b = false) : DT X W (.Compare a [.NotIn] [b] pos) (dTest (dOp (gInG true) wa wb)) := dt_cmp (op_notInG hu) opd_inG ha hb hm
theorem rngU_length (i : Int) (n : Nat) : (rngU i n).length = n := by
  unfold rngU
  rw [List.length_map, List.length_range]
/-- for x in range(n) -/
theorem dFor_r1 {n : Int} {g : WG} {b : WS} {m : Mo} {D : DEnds} {ρ : Env} (h1 : -(2 ^ 62) ≤ n) (h2 : n < 2 ^ 62) (I : Nat → Env → Prop) (h0 : I 0 ρ)
    (turn : ∀ i u ρ', (rngU 0 n.toNat)[i]? = some u → I i ρ' → g u ρ' fun ρ2 => b m { D with nx := I (i + 1), ct := I (i + 1), bk := D.nx } ρ2) (fin : ∀ ρ', I n.toNat ρ' → D.nx ρ') : dFor (dItR1 (dCons (dC (.int n)) dNil)) g b m D ρ :=
  ⟨n, rfl, h1, h2, I, h0, turn, fun ρ' h => fin ρ' (by rw [rngU_length] at h; exact h)⟩
theorem flat_strs : ∀ {us : List U}, (∀ u ∈ us, ∃ x, u = .str x ∧ flat (.str x) = true) → isDs us = true ∧ PyData.canLayAll0 (toPs us) = true ∧ PyData.depthAll (toPs us) = 0
  | [], _ => ⟨rfl, rfl, rfl⟩
  | u :: us, h => by
    obtain ⟨x, rfl, hx⟩ := h u (by simp)
    obtain ⟨h1, h2, h3⟩ := flat_strs (us := us) fun v hv => h v (List.mem_cons_of_mem _ hv)
    unfold flat at hx
    rw [Bool.and_eq_true] at hx
    refine ⟨?_, ?_, ?_⟩
    · show (isD (.str x) && isDs us) = true
      rw [h1, hx.1]
      rfl
    · show (PyData.canLay0 (.str x) && PyData.canLayAll0 (toPs us)) = true
      rw [h2, show PyData.canLay0 (.str x) = true from SeqAt.canLay_of_shaped hx.2]
      rfl
    · show max (PyData.depth (.str x)) (PyData.depthAll (toPs us)) = 0
      rw [h3]
      rfl
theorem flat_lst_strs {us : List U} (h : ∀ u ∈ us, ∃ x, u = .str x ∧ flat (.str x) = true) : flat (.lst us) = true := by
  obtain ⟨h1, h2, h3⟩ := flat_strs h
  unfold flat SeqAt.shaped
  show (isDs us && (PyData.canLayAll0 (toPs us) && decide (PyData.depthAll (toPs us) + 1 ≤ 64))) = true
  rw [h1, h2, h3]
  rfl
theorem gNe_str (x y : Str) (Q : U → Prop) : gNe (.str x) (.str y) Q ↔ (flat (.str x) = true ∧ flat (.str y) = true ∧ Q (.bl (!decide (x = y)))) := by
  unfold gNe
  rw [ueq_str]
end
end DL
set_option Elab.async false
set_option linter.all false
set_option maxRecDepth 100000
set_option maxHeartbeats 4000000
/-! the data layer: repr of data with dicts in it -/
namespace DL
open PySem PySem.Spec PyProof.Rows L2 XR
mutual
/-- no raw thing inside; dicts may be -/
def isX : U → Bool
  | .raw _ => false
  | .dct ks us => isXs us
  | .dpt _ _ => false
  | .tup us => isXs us
  | .lst us => isXs us
  | _ => true
def isXs : List U → Bool
  | [] => true
  | u :: us => isX u && isXs us
end
section
variable {X : Cx} {pins : List (Addr × Obj)} {σ : L2.St} {H : Hp} {s : Shared} {m : Mo}
theorem not_cons {a : Addr} {as : List Addr} (h : a ≠ sysModules) (g : sysModules ∉ as) : sysModules ∉ a :: as := fun z => by
  rcases List.mem_cons.mp z with z | z
  · exact h z.symm
  · exact g z
theorem toPs_len : ∀ us : List U, (toPs us).length = us.length
  | [] => rfl
  | _ :: us => congrArg (· + 1) (toPs_len us)
theorem kv_split {P : Program} {w : World} {h : Heap} : ∀ {ks : List Key} {vs : List V} {kvs : List (Key × Value)} {es : List DictEntry}, vs.length = ks.length → KV (ks.zip vs) kvs → Pairs (mixKind P w) es kvs → ReadsAll h (es.map (·.key)) (ks.map keyP) [] ∧ Vals vs (es.map (·.val))
  | [], [], kvs, es, _, kv, pr => by
    unfold KV at kv
    cases kv
    cases pr
    exact ⟨ReadsAll.nil, .nil⟩
  | k :: ks, v :: vs, kvs, es, hl, kv, pr => by
    unfold KV at kv
    cases kv with
    | @cons _ b1 _ _ p1 kv =>
      obtain ⟨c1, w1⟩ := b1
      obtain ⟨e0, rv1⟩ := p1
      cases e0
      cases pr with
      | @cons d1 _ _ _ g1 f1 pr =>
        obtain ⟨h1, h2⟩ := kv_split (h := h) (by simpa using hl) kv pr
        refine ⟨?_, ?_⟩
        · have one : Reads h d1.key (keyP k) [] := by
            rcases keyIs_shape g1 with ⟨i, t, rfl, e⟩ | ⟨x, t, rfl, e⟩
            · rw [e]
              exact Reads.int _ _
            · rw [e]
              exact Reads.str _ _
          exact ReadsAll.cons one h1
        · rw [List.map_cons]
          have f2 : d1.val = w1 := f1
          rw [f2]
          exact .cons rv1 h2
  | [], _ :: _, _, _, hl, _, _ => by simp at hl
  | _ :: _, [], _, _, hl, _, _ => by simp at hl
mutual
theorem Rel.readsX (I : L2.Inv X pins σ H s) (hs : H sysModules = none) : ∀ {u : U} {v : V} {w : Value}, Rel X.K m H v u → isX u = true → RelV v w → ∃ as, Reads s.heap w (toP u) as ∧ sysModules ∉ as
  | _, _, _, .non, _, r => by
    cases r
    exact ⟨_, Reads.none, by simp⟩
  | _, _, _, .bl b, _, r => by
    cases r
    exact ⟨_, Reads.bool b, by simp⟩
  | _, _, _, .int i, _, r => by
    obtain ⟨t, rfl⟩ := r
    exact ⟨_, Reads.int i t, by simp⟩
  | _, _, _, .str x, _, r => by
    obtain ⟨t, rfl⟩ := r
    exact ⟨_, Reads.str x t, by simp⟩
  | _, _, _, .raw _, z, _ => nomatch z
  | _, _, _, .tup t l, z, r => by
    cases r
    obtain ⟨its, rv, ⟨o, ho, hc, n, hd⟩, _⟩ := I.tuple t.sq
    obtain ⟨as, hr, na⟩ := RelL.readsX I hs l z rv
    exact ⟨_, Reads.tuple ho hc hd hr, na⟩
  | _, _, _, .lst k h l, z, r => by
    cases r
    obtain ⟨its, rv, ⟨o, n, ho, hc, _, hd⟩, _⟩ := I.list (.inl (.inl h))
    obtain ⟨as, hr, na⟩ := RelL.readsX I hs l z rv
    exact ⟨_, Reads.list ho hc hd hr, not_cons (fun e => by rw [e, hs] at h; cases h) na⟩
  | _, _, _, .dpt _ _ _ _, z, _ => nomatch z
  | _, _, _, .dct (us := us0) (ks := ks) k h hl l, z, r => by
    cases r
    obtain ⟨_, ne, vs, kv, o, es, ep, ho, hx, hd, _, pr, _⟩ := I.hok _ _ h
    have na := beq_eq_false_iff_ne.mp ne
    obtain ⟨r1, rv⟩ := kv_split (h := s.heap) hl kv pr
    obtain ⟨as, r2, n2⟩ := RelL.readsX I hs l z rv
    have hlen : (toPs us0).length = ks.length := by
      rw [toPs_len, ← RelL.len l, hl]
    have r1' : ReadsAll s.heap (es.toList.map (·.key)) (((ks.map keyP).zip (toPs us0)).map (·.1)) [] := by
      rw [List.map_fst_zip (by rw [List.length_map, hlen]; exact Nat.le_refl _)]
      exact r1
    have r2' : ReadsAll s.heap (es.toList.map (·.val)) (((ks.map keyP).zip (toPs us0)).map (·.2)) as := by
      rw [List.map_snd_zip (by rw [List.length_map, hlen]; exact Nat.le_refl _)]
      exact r2
    refine ⟨_, Reads.dict ho hx.1 hd r1' r2', ?_⟩
    simp only [List.append_nil, List.cons_append, List.nil_append]
    exact not_cons na n2
theorem RelL.readsX (I : L2.Inv X pins σ H s) (hs : H sysModules = none) : ∀ {us : List U} {vs : List V} {ws : List Value}, RelL X.K m H vs us → isXs us = true → Vals vs ws → ∃ as, ReadsAll s.heap ws (toPs us) as ∧ sysModules ∉ as
  | _, _, _, .nil, _, r => by
    cases r
    exact ⟨_, ReadsAll.nil, by simp⟩
  | _, _, _, .cons h l, z, r => by
    cases r with
    | cons r1 r2 =>
      obtain ⟨z1, z2⟩ := Bool.and_eq_true_iff.mp z
      obtain ⟨as, q1, n1⟩ := Rel.readsX I hs h z1 r1
      obtain ⟨bs, q2, n2⟩ := RelL.readsX I hs l z2 r2
      exact ⟨_, ReadsAll.cons q1 q2, fun e => (List.mem_append.mp e).elim n1 n2⟩
end
/-- repr of data with dicts in it -/
def rRpX (K : PySem.W.Frag) : List V → Hp → VK → Prop := fun xs H Q => ∃ m a u, xs = [.ref a] ∧ Rel K m H (.ref a) u ∧ isX u = true ∧ (toP u).showable = true ∧ (toP u).depth ≤ 60 ∧ (toP u).shown.length ≤ sizeLine ∧ Q (.str (toP u).shown) H
/-- what the base heap holds is no tracked thing -/
theorem base_none (I : L2.Inv X pins σ H s) {o : Obj} (h : X.base.get? sysModules = some o) : H sysModules = none := (I.bs _ o h).2
theorem call_rpX (hS : (X.base.get? sysModules).isSome = true) (hG : X.A.guards = some []) (hu : X.A.units + 64 < cLine) : CallR X (.builtin "repr") (rRpX X.K) := by
  intro pins s σ H xs us Q I r h
  obtain ⟨m, a, u, rfl, hr, hx, sh, dp, hz, q⟩ := h
  obtain ⟨o, ho⟩ := Option.isSome_iff_exists.mp hS
  obtain ⟨w, rfl, ru⟩ := vals1 r
  obtain ⟨as, rr, na⟩ := Rel.readsX I (base_none I ho) hr hx ru
  obtain rfl : w = Value.ref a := ru
  refine repr_of_reads' (h₀ := s.heap) rr sh (fun _ => na) hG (by omega) (fun _ _ e => e) (fun h' t tk hk => ?_) hz
  exact ⟨.str _, H, I.kept hk, ⟨_, rfl⟩, q⟩
/-- what repr can tell, dicts among it -/
def rpOkX (u : U) : Prop := isX u = true ∧ (toP u).showable = true ∧ (toP u).depth ≤ 60 ∧ (toP u).shown.length ≤ sizeLine
def fRpX : WF := fun us Q => ∃ u, us = [u] ∧ ((∃ ts, u = .tup ts) ∨ ∃ ts, u = .lst ts) ∧ rpOkX u ∧ Q (.str (toP u).shown)
theorem cal_rpX {K : PySem.W.Frag} : CalD K (rRpX K) fRpX := fun m vs us H Q Q' iv r ⟨u, e, hu, ⟨h1, h2, h3, h4⟩, q⟩ c => by
  subst e
  obtain ⟨v, rfl, a⟩ := rl1 r
  rcases hu with ⟨ts, rfl⟩ | ⟨ts, rfl⟩
  · obtain ⟨p, ys, rfl, _⟩ := rel_tup a
    exact ⟨m, p, _, rfl, a, h1, h2, h3, h4, c.here iv q (.str _)⟩
  · obtain ⟨p, ys, rfl, _⟩ := rel_lst a
    exact ⟨m, p, _, rfl, a, h1, h2, h3, h4, c.here iv q (.str _)⟩
end
end DL
set_option Elab.async false
set_option linter.all false
set_option maxRecDepth 100000
set_option maxHeartbeats 4000000
/-! the data layer: dicts that are written out -/
namespace DL
open PySem PySem.Spec PyProof.Rows L2 XR
section
variable {K : PySem.W.Frag} {m : Mo} {H H' : Hp} {X : Cx} {W : WX} {pos : Pos}
theorem stp_past {p : Addr} {o : HO} {H1 H3 : Hp} (hp : H p = none) (s : stpM m (upd H p (.dK [])) H3) : stpM m H (upd H3 p o) := fun b u e k => by
  have ne := ne_of_none e hp
  rw [upd_ne ne]
  exact s b u (by rw [upd_ne ne]; exact e) k
/-- while a dict is being made at p -/
theorem ge_past {σ : L2.St} {ρ : Env} {Z : XQ} {p : Addr} (ge : GE K m W σ H ρ Z) (hp : H p = none) : GE K (addB m [p]) W σ (upd H p (.dK [])) ρ Z := by
  have hB : ∀ b ∈ [p], H b = none := fun b hb => by
    rw [List.mem_singleton.mp hb]
    exact hp
  refine ⟨⟨(inv_new ge.iv hp).1, fun b hb => ?_, (inv_new ge.iv hp).2.2⟩, RelS.step (stp_new hp) (RelS.addB ge.rs hB), fun C u v d H2 x s i r ok hd => ?_⟩
  · rcases List.mem_cons.mp hb with e | e
    · rw [e, upd_same]
      exact fun z => nomatch z
    · exact (inv_new ge.iv hp).2.1 b e
  · have s' : stpM m (upd H p (.dK [])) H2 := s
    exact ge.cx C u v d H2 x (stp_trans (stp_new hp) s') ⟨i.1, fun b hb => i.2.1 b (List.mem_cons_of_mem _ hb), i.2.2⟩ (Rel.cut r) (ok_cut ok) hd
def dDct1 (k1 : Key) (w1 : WE) : WE := fun m ρ Q Z => ∀ B, w1 (addB m [B]) ρ (fun a => Q (.dct [k1] [a])) Z
def dDct2 (k1 k2 : Key) (w1 w2 : WE) : WE := fun m ρ Q Z => ∀ B, w1 (addB m [B]) ρ (fun a => w2 (addB m [B]) ρ (fun b => Q (.dct [k1, k2] [a, b])) Z) Z
theorem put_nil (k : Key) (v : V) : mergeK [] [(k, v)] = [(k, v)] := rfl
theorem put_two {k1 k2 : Key} (ne : k1 ≠ k2) (v1 v2 : V) : mergeK [] [(k1, v1), (k2, v2)] = [(k1, v1), (k2, v2)] := by
  show putK [(k1, v1)] k2 v2 = _
  unfold putK
  simp [ne]
theorem de_dct1 {k1 : Key} {e1 v1 : Expr} {w1 : WE} (hk1 : PE X e1 (tC (kV k1))) (h1 : DE X W v1 w1) : DE X W (.Dict [some e1] [v1] pos) (dDct1 k1 w1) :=
  PE.weak (pe_disp (pps_cons hk1 h1 pps_nil) (by rfl) (by rfl) (fun z => by cases z) (by show 1 ≤ 15; decide)) fun σ H Q' ⟨m, ρ, Q, Z, ge, q, c⟩ => by
    intro p hp
    have k := ok_new ge.iv hp
    have g := ge_past ge hp
    have inD : p ∈ (addB m [p]).ban := List.mem_cons_self
    refine ⟨addB m [p], ρ, _, Z, g, q p, fun a va H2 q2 s2 i2 r2 => ?_⟩
    refine ⟨s2 _ _ upd_same k.1, [(k1, va)], rfl, by show 1 ≤ 15; decide, ?_⟩
    rw [put_nil]
    have i3 := inv_upd (o := .dK [(k1, va)]) i2 k.1
    refine c _ _ _ q2 (stp_past (H1 := H2) hp s2) ⟨i3.1, fun b hb => i3.2.1 b (List.mem_cons_of_mem _ hb), i3.2.2⟩ (.dct (vs := [va]) k upd_same rfl (.cons (Rel.cut (Rel.updB inD r2)) .nil))
theorem de_dct2 {k1 k2 : Key} {e1 e2 v1 v2 : Expr} {w1 w2 : WE} (ne : k1 ≠ k2) (hk1 : PE X e1 (tC (kV k1))) (hk2 : PE X e2 (tC (kV k2))) (h1 : DE X W v1 w1) (h2 : DE X W v2 w2) : DE X W (.Dict [some e1, some e2] [v1, v2] pos) (dDct2 k1 k2 w1 w2) :=
  PE.weak (pe_disp (pps_cons hk1 h1 (pps_cons hk2 h2 pps_nil)) (by rfl) (by rfl) (fun z => by cases z) (by show 2 ≤ 15; decide)) fun σ H Q' ⟨m, ρ, Q, Z, ge, q, c⟩ => by
    intro p hp
    have k := ok_new ge.iv hp
    have g := ge_past ge hp
    have inD : p ∈ (addB m [p]).ban := List.mem_cons_self
    refine ⟨addB m [p], ρ, _, Z, g, q p, fun a va H2 q2 s2 i2 r2 => ⟨addB m [p], ρ, _, Z, g.step s2 i2, q2, fun b vb H3 q3 s3 i3 r3 => ?_⟩⟩
    refine ⟨s3 _ _ (s2 _ _ upd_same k.1) k.1, [(k1, va), (k2, vb)], rfl, by show 2 ≤ 15; decide, ?_⟩
    rw [put_two ne]
    have i4 := inv_upd (o := .dK [(k1, va), (k2, vb)]) i3 k.1
    refine c _ _ _ q3 (stp_past (H1 := H2) hp (stp_trans (m := m) s2 s3)) ⟨i4.1, fun b hb => i4.2.1 b (List.mem_cons_of_mem _ hb), i4.2.2⟩
      (.dct (vs := [va, vb]) k upd_same rfl (.cons (Rel.cut (Rel.updB inD (Rel.step s3 r2))) (.cons (Rel.cut (Rel.updB inD r3)) .nil)))
end
end DL
set_option Elab.async false
set_option linter.all false
set_option maxRecDepth 100000
set_option maxHeartbeats 4000000
set_option exponentiation.threshold 10000
/-! the data layer: what repr tells where dicts may be, how long it is; bool(i), str(i) -/
namespace DL
open PySem PySem.Spec PyProof.Rows L2 XR
structure RpX (dep n : Nat) (u : U) : Prop where
  x : isX u = true
  s : (toP u).showable = true
  p : (toP u).depth ≤ dep
  l : (toP u).shown.length ≤ n
theorem RpX.ok {dep n : Nat} {u : U} (h : RpX dep n u) (hd : dep ≤ 60 := by decide) (hn : n ≤ sizeLine := by decide) : rpOkX u := ⟨h.x, h.s, Nat.le_trans h.p hd, Nat.le_trans h.l hn⟩
theorem RpX.up {dep n dep' n' : Nat} {u : U} (h : RpX dep n u) (hd : dep ≤ dep' := by decide) (hn : n ≤ n' := by decide) : RpX dep' n' u := ⟨h.x, h.s, Nat.le_trans h.p hd, Nat.le_trans h.l hn⟩
mutual
theorem isX_isD : ∀ u : U, isD u = true → isX u = true
  | .non, _ => rfl
  | .bl _, _ => rfl
  | .int _, _ => rfl
  | .str _, _ => rfl
  | .raw _, h => nomatch h
  | .dct _ _, h => nomatch h
  | .dpt _ _, h => nomatch h
  | .tup us, h => isXs_isDs us h
  | .lst us, h => isXs_isDs us h
theorem isXs_isDs : ∀ us : List U, isDs us = true → isXs us = true
  | [], _ => rfl
  | u :: us, h => by
    obtain ⟨h1, h2⟩ := Bool.and_eq_true_iff.mp (show (isD u && isDs us) = true from h)
    show (isX u && isXs us) = true
    rw [isX_isD u h1, isXs_isDs us h2]
    rfl
end
theorem Rp.toX {dep n : Nat} {u : U} (h : Rp dep n u) : RpX dep n u := ⟨isX_isD u h.d, h.s, h.p, h.l⟩
theorem rpxs {dep n : Nat} : ∀ {us : List U}, (∀ u ∈ us, RpX dep n u) → isXs us = true ∧ PyData.showableAll (toPs us) = true ∧ PyData.depthAll (toPs us) ≤ dep ∧ piled (PyData.shownAll (toPs us)) ≤ us.length * (n + 2)
  | [], _ => ⟨rfl, rfl, Nat.zero_le _, Nat.zero_le _⟩
  | u :: us, h => by
    obtain ⟨h1, h2, h3, h4⟩ := rpxs (us := us) fun v hv => h v (List.mem_cons_of_mem _ hv)
    have a := h u List.mem_cons_self
    refine ⟨?_, ?_, ?_, ?_⟩
    · show (isX u && isXs us) = true
      rw [a.x, h1]
      rfl
    · show ((toP u).showable && PyData.showableAll (toPs us)) = true
      rw [a.s, h2]
      rfl
    · show max (PyData.depth (toP u)) (PyData.depthAll (toPs us)) ≤ dep
      exact Nat.max_le.mpr ⟨a.p, h3⟩
    · show piled ((toP u).shown :: PyData.shownAll (toPs us)) ≤ (us.length + 1) * (n + 2)
      rw [piled_cons, Nat.succ_mul]
      have := a.l
      omega
theorem rpx_tup {dep n L : Nat} {us : List U} (h : ∀ u ∈ us, RpX dep n u) (hl : us.length ≤ L) : RpX (dep + 1) (3 + L * (n + 2)) (.tup us) := by
  obtain ⟨h1, h2, h3, h4⟩ := rpxs h
  refine ⟨h1, h2, Nat.succ_le_succ h3, ?_⟩
  have a := tupleText_le (PyData.shownAll (toPs us))
  have b : us.length * (n + 2) ≤ L * (n + 2) := Nat.mul_le_mul_right _ hl
  show (tupleText (PyData.shownAll (toPs us))).length ≤ _
  omega
theorem rpx_lst {dep n L : Nat} {us : List U} (h : ∀ u ∈ us, RpX dep n u) (hl : us.length ≤ L) : RpX (dep + 1) (3 + L * (n + 2)) (.lst us) := by
  obtain ⟨h1, h2, h3, h4⟩ := rpxs h
  refine ⟨h1, h2, Nat.succ_le_succ h3, ?_⟩
  have a := listText_le (PyData.shownAll (toPs us))
  have b : us.length * (n + 2) ≤ L * (n + 2) := Nat.mul_le_mul_right _ hl
  show (listText (PyData.shownAll (toPs us))).length ≤ _
  omega
theorem rpx_int {i : Int} {k : Nat} (h : i.natAbs < 2 ^ k) (hk : 0 < k) (hk2 : k ≤ 1920) : RpX 0 (k + 1) (.int i) := (rp_int h hk hk2).toX
theorem rpx_bl (b : Bool) : RpX 0 5 (.bl b) := (rp_bl b).toX
theorem rpx_non : RpX 0 5 .non := rp_non.toX
theorem cps_small (s : String) : ∀ c ∈ (Str.ofString s).cps.toList, c < 16 ^ 8 := fun c hc => by
  rw [Str.ofString_eq_toList] at hc
  simp only [List.mem_map] at hc
  obtain ⟨ch, _, rfl⟩ := hc
  have h1 : ch.val.toNat < 2 ^ 32 := ch.val.toNat_lt
  have e : (2 : Nat) ^ 32 = 16 ^ 8 := by decide
  have h2 : ch.toNat = ch.val.toNat := rfl
  omega
theorem rpx_str (s : String) {n : Nat} (h : (Str.ofString s).length ≤ n) : RpX 0 (10 * n + 2) (.str (Str.ofString s)) := by
  refine ⟨rfl, rfl, Nat.le_refl 0, ?_⟩
  have := PySem.StrLaws.reprText_len (Str.ofString s) (cps_small s)
  show (reprText (Str.ofString s)).length ≤ _
  omega
theorem rpx_strI {i : Int} {k : Nat} (h : i.natAbs < 2 ^ k) (hk : 0 < k) : RpX 0 (10 * (k + 1) + 2) (.str (Str.ofString (toString i))) := by
  refine rpx_str _ ?_
  rw [PySem.ofString_length]
  exact int_text_length_le hk (PySem.Flt.log2_lt_of hk h)
theorem dictText_le (ps : List Str) : (dictText ps).length ≤ 2 + piled ps := by
  have e : (dictText ps).length = 1 + (Str.join ", " ps).length + 1 := by
    unfold dictText
    rw [strLen_append, strLen_append]
    rfl
  by_cases h : ps = []
  · subst h
    rw [e]
    have : (Str.join ", " ([] : List Str)).length = 0 := by decide
    omega
  · have h2 := join_length_add ps h
    omega
/-- {'key': u, 1: n} -/
theorem rpx_key {dep n : Nat} {u : U} {j : Int} (h : RpX dep n u) (hj : j.natAbs < 2 ^ 60) : RpX (dep + 1) (n + 90) (.dct [.inr "key", .inl 1] [u, .int j]) := by
  have hi := rpx_int hj (by decide) (by decide)
  refine ⟨?_, ?_, ?_, ?_⟩
  · show (isX u && true) = true
    rw [h.x]
    rfl
  · have e1 := h.s
    have e2 : (PyData.int j).showable = true := hi.s
    show (true && (toP u).showable && ((PyData.int 1).showable && (PyData.int j).showable && true)) = true
    rw [e1, e2]
    decide +kernel
  · show PyData.depth (.dict [(.str "key", toP u), (.int 1, .int j)]) ≤ dep + 1
    have := h.p
    simp only [PyData.depth, PyData.depthKv] at *
    omega
  · show (dictText [PyData.shown (.str "key") ++ ": " ++ (toP u).shown, PyData.shown (.int 1) ++ ": " ++ PyData.shown (.int j)]).length ≤ n + 90
    have a := dictText_le [PyData.shown (.str "key") ++ ": " ++ (toP u).shown, PyData.shown (.int 1) ++ ": " ++ PyData.shown (.int j)]
    rw [piled_cons, piled_cons, piled_nil, strLen_append, strLen_append, strLen_append, strLen_append] at a
    have e1 : (PyData.shown (.str "key")).length = 5 := by decide +kernel
    have e2 : (PyData.shown (.int 1)).length = 1 := by decide +kernel
    have e3 : (Str.ofString ": ").length = 2 := by decide
    have e4 : (PyData.shown (.int j)).length ≤ 61 := hi.l
    have e5 := h.l
    omega
/-! ### values whose ints are bounded, too -/
mutual
def ibU : U → Bool
  | .int i => decide (i.natAbs < 2 ^ 300)
  | .tup us => ibUs us
  | .lst us => ibUs us
  | .dct _ us => ibUs us
  | .dpt _ us => ibUs us
  | _ => true
def ibUs : List U → Bool
  | [] => true
  | u :: us => ibU u && ibUs us
end
theorem ibUs_all {us : List U} : ibUs us = true ↔ ∀ u ∈ us, ibU u = true := by
  induction us with
  | nil => exact Iff.intro (fun _ u hu => nomatch hu) (fun _ => rfl)
  | cons u us ih =>
    rw [show ibUs (u :: us) = (ibU u && ibUs us) from rfl, Bool.and_eq_true, ih]
    constructor
    · rintro ⟨h1, h2⟩ v hv
      rcases List.mem_cons.mp hv with z | z
      · rw [z]
        exact h1
      · exact h2 v z
    · exact fun h => ⟨h u List.mem_cons_self, fun v hv => h v (List.mem_cons_of_mem _ hv)⟩
structure Av (dep n : Nat) (u : U) : Prop where
  r : RpX dep n u
  i : ibU u = true
theorem Av.up {dep n dep' n' : Nat} {u : U} (h : Av dep n u) (hd : dep ≤ dep' := by decide) (hn : n ≤ n' := by decide) : Av dep' n' u := ⟨h.r.up hd hn, h.i⟩
theorem av_tup {dep n L : Nat} {us : List U} (h : ∀ u ∈ us, Av dep n u) (hl : us.length ≤ L) : Av (dep + 1) (3 + L * (n + 2)) (.tup us) := ⟨rpx_tup (fun u hu => (h u hu).r) hl, ibUs_all.mpr fun u hu => (h u hu).i⟩
theorem av_lst {dep n L : Nat} {us : List U} (h : ∀ u ∈ us, Av dep n u) (hl : us.length ≤ L) : Av (dep + 1) (3 + L * (n + 2)) (.lst us) := ⟨rpx_lst (fun u hu => (h u hu).r) hl, ibUs_all.mpr fun u hu => (h u hu).i⟩
theorem av_int {i : Int} {k : Nat} (h : i.natAbs < 2 ^ k) (hk : 0 < k) (hk2 : k ≤ 300) : Av 0 (k + 1) (.int i) := ⟨rpx_int h hk (by omega), decide_eq_true (Nat.lt_of_lt_of_le h (Nat.pow_le_pow_right (by decide) hk2))⟩
theorem av_bl (b : Bool) : Av 0 5 (.bl b) := ⟨rpx_bl b, rfl⟩
theorem av_non : Av 0 5 .non := ⟨rpx_non, rfl⟩
theorem av_str (s : String) {n : Nat} (h : (Str.ofString s).length ≤ n) : Av 0 (10 * n + 2) (.str (Str.ofString s)) := ⟨rpx_str s h, rfl⟩
theorem av_strI {i : Int} {k : Nat} (h : i.natAbs < 2 ^ k) (hk : 0 < k) : Av 0 (10 * (k + 1) + 2) (.str (Str.ofString (toString i))) := ⟨rpx_strI h hk, rfl⟩
theorem av_key {dep n : Nat} {u : U} {j : Int} (h : Av dep n u) (hj : j.natAbs < 2 ^ 60) : Av (dep + 1) (n + 90) (.dct [.inr "key", .inl 1] [u, .int j]) := ⟨rpx_key h.r hj, by
  show (ibU u && (decide (j.natAbs < 2 ^ 300) && true)) = true
  rw [h.i, decide_eq_true (Nat.lt_of_lt_of_le hj (Nat.pow_le_pow_right (by decide) (by decide)))]
  rfl⟩
theorem ib_int {i : Int} (h : ibU (.int i) = true) : i.natAbs < 2 ^ 300 := of_decide_eq_true h
section
variable {K : PySem.W.Frag} {X : Cx} {W : WX}
def fBool : WF := fun us Q => (∃ i, us = [.int i] ∧ Q (.bl (i != 0))) ∨ ∃ k, us = [.bl k] ∧ Q (.bl k)
theorem cal_bool : CalD K (fun xs H Q => (∃ i, xs = [.int i] ∧ Q (.bl (i != 0)) H) ∨ ∃ k, xs = [.bl k] ∧ Q (.bl k) H) fBool := fun m vs us H Q Q' iv r h c => by
  rcases h with ⟨i, rfl, q⟩ | ⟨k, rfl, q⟩
  · obtain ⟨v, rfl, a⟩ := rl1 r
    exact .inl ⟨i, by rw [rel_int a], c.here iv q (.bl _)⟩
  · obtain ⟨v, rfl, a⟩ := rl1 r
    exact .inr ⟨k, by rw [rel_bl a], c.here iv q (.bl _)⟩
def fStrI : WF := fun us Q => ∃ i : Int, us = [.int i] ∧ i.natAbs.log2 < 1920 ∧ Q (.str (toString i))
theorem cal_strI : CalD K (fun xs H Q => ∃ i, xs = [.int i] ∧ i.natAbs.log2 < 1920 ∧ Q (.str (toString i)) H) fStrI := fun m vs us H Q Q' iv r ⟨i, e, hi, q⟩ c => by
  subst e
  obtain ⟨v, rfl, a⟩ := rl1 r
  exact ⟨i, by rw [rel_int a], hi, c.here iv q (.str _)⟩
theorem fBool_int (i : Int) (Q : U → Prop) : fBool [.int i] Q ↔ Q (.bl (i != 0)) := by simp [fBool]
theorem fStrI_int (i : Int) (Q : U → Prop) : fStrI [.int i] Q ↔ (i.natAbs.log2 < 1920 ∧ Q (.str (toString i))) := by simp [fStrI]
/-- an if whose two ways are read once each -/
theorem dIfS_gen {t : WT} {a b : WS} {m : Mo} {D : DEnds} {ρ : DL.Env} (p : Bool → Prop) (ht : ∀ Q : Bool → Prop, (∀ c, p c → Q c) → t m ρ Q (D.ex ρ)) (ha : p true → a m D ρ) (hb : p false → b m D ρ) : dIfS t a b m D ρ :=
  ht _ fun c h => by
    cases c with
    | true => exact ha h
    | false => exact hb h
theorem dIf_gen {t : WT} {a b : WE} {m : Mo} {ρ : DL.Env} {Q : U → Prop} {Z : XQ} (p : Bool → Prop) (ht : ∀ Q : Bool → Prop, (∀ c, p c → Q c) → t m ρ Q Z) (ha : p true → a m ρ Q Z) (hb : p false → b m ρ Q Z) : dIf t a b m ρ Q Z :=
  ht _ fun c h => by
    cases c with
    | true => exact ha h
    | false => exact hb h
theorem plus_tup (xs ys : List U) (Q : U → Prop) : gPlus (.tup xs) (.tup ys) Q ↔ (xs.length + ys.length ≤ sizeLine ∧ Q (.tup (xs ++ ys))) := by
  simp [gPlus, gAdd, gI, gCat, gCatT]
end
end DL
set_option Elab.async false
set_option linter.all false
set_option maxRecDepth 100000
set_option maxHeartbeats 4000000
/-! the data layer: a tuple repeated -/
namespace DL
open PySem PySem.Spec PyProof.Rows L2 XR
section
variable {K : PySem.W.Frag} {m : Mo} {X : Cx} {W : WX} {a b : Expr} {wa wb : WE} {pos : Pos} {H : Hp}
def gRepT : W2 := fun a b Q => ∃ xs k, a = .tup xs ∧ b = .int k ∧ xs ≠ [] ∧ 2 ≤ k ∧ k ≤ 1000 ∧ xs.length ≤ 1000 ∧ Q (.tup (List.replicate k.toNat xs).flatten)
theorem rep_relT {vs : List V} {us : List U} (r : RelL K m H vs us) : ∀ n : Nat, RelL K m H (List.replicate n vs).flatten (List.replicate n us).flatten
  | 0 => .nil
  | n + 1 => by
    rw [List.replicate_succ, List.replicate_succ, List.flatten_cons, List.flatten_cons]
    exact RelL.append r (rep_relT r n)
theorem opd_repT : OpD K (rRepT K) gRepT := fun m x y a b H Q Q' iv ra rb ⟨xs, k, ea, eb, hx, k1, k2, z, q⟩ c => by
  subst ea eb
  obtain ⟨p, vs, rfl, _, h, l⟩ := rel_tup ra
  refine ⟨p, k, vs, rfl, rel_int rb, h, fun e => hx ?_, k1, k2, by rw [RelL.len l]; exact z, fun d hd => c.tup iv hd (rep_relT l _) q⟩
  have := RelL.len l
  rw [e] at this
  exact List.length_eq_zero_iff.mp this.symm
theorem de_repT (ha : DE X W a wa) (hb : DE X W b wb) : DE X W (.BinOp a .Mult b pos) (dOp gRepT wa wb) := de_op op_repT opd_repT ha hb
theorem dWhile_in {t : WT} {b : WS} {m : Mo} {D : DEnds} {ρ : DL.Env} (I : Nat → DL.Env → Prop) (h0 : ∃ k, I k ρ) (turn : ∀ k ρ, I k ρ → t m ρ (fun c => if c = true then b m { D with nx := fun ρ' => ∃ k', k' < k ∧ I k' ρ', ct := fun ρ' => ∃ k', k' < k ∧ I k' ρ', bk := D.nx } ρ else D.nx ρ) (D.ex ρ)) : dWhile t b m D ρ := ⟨I, h0, turn⟩
end
end DL
set_option Elab.async false
set_option linter.all false
set_option maxRecDepth 100000
set_option maxHeartbeats 8000000
namespace T01
open PySem PySem.Spec PyProof.Rows L2 XR DL
/-- what the top says beside the defs -/
structure TxtN (K : PySem.W.Frag) (mg : Str → Option Value) : Prop where
  gcd : mg "gcd" = some (.builtin "math.gcd")
  isqrt : mg "isqrt" = some (.builtin "math.isqrt")
/-! ### sizes -/
abbrev Bd (k : Nat) (x : Int) : Prop := x.natAbs < 2 ^ k
theorem bd_mul {x y : Int} (a b : Nat) (h : Bd a x) (g : Bd b y) : Bd (a + b) (x * y) := wide_lt h g
theorem bd_add {x y : Int} (a : Nat) (h : Bd a x) (g : Bd a y) : Bd (a + 1) (x + y) := by
  unfold Bd at *
  have := Int.natAbs_add_le x y
  have e : 2 ^ (a + 1) = 2 ^ a + 2 ^ a := by rw [Nat.pow_succ]; omega
  omega
theorem bd_up {x : Int} {a : Nat} (b : Nat) (h : Bd a x) (hb : a ≤ b) : Bd b x := Nat.lt_of_lt_of_le h (Nat.pow_le_pow_right (by decide) hb)
theorem bd_neg {x : Int} {a : Nat} (h : Bd a x) : Bd a (-x) := by
  unfold Bd at *
  rw [Int.natAbs_neg]
  exact h
theorem mul_ok {x y : Int} (a b : Nat) (h : Bd a x) (g : Bd b y) (ha : 0 < a) (hb : 0 < b) (hab : a + b ≤ 1000000) : CMulW x y := wide_mul h g ha hb hab
section
variable {P : Program} {w : World} {K : PySem.W.Frag} {mg : Str → Option Value} {base : Heap}
theorem sc_is_fraction : FnScope ["number"] ["number"] (defScope s_is_fraction) := ⟨rfl, rfl, rfl, by decide +kernel, rfl, by decide +kernel, by decide +kernel⟩
def sp_is_fraction : SpD := fun m us Q _ => ∃ p q s d, us = [n4 p q s d] ∧ Q (.bl (decide (q = 0)))
theorem ok_is_fraction {a : Addr} {fd : FuncData} (D : DL.Def K mg "is_fraction" s_is_fraction a fd) : Fd P w K mg base 1 a fd ["number"] sp_is_fraction := by
  refine fd_of D.F sc_is_fraction (fun m us Q Z h => ?_) (fun cdv A outer s H E m us Qd Zd hr hG tk h => ?_)
  · obtain ⟨p, q, s, d, rfl, _⟩ := h
    rfl
  · obtain ⟨p, q, s, d, rfl, k⟩ := h
    have hu := hr.units
    refine ⟨_, (dss_one (ds_ret (de_eq hu (de_ix (de_var (pv 0)) de_int (fun _ _ => rfl)) de_int))), ?_⟩
    simp (config := { maxSteps := 1000000 }) only [dSeq, dIfS, dTest, dOp, dUn, dVar, dC, dTup, dLst, dNil, dCons, dRet, dRetN, dDrop, dSet, dPar, dAsg, dgTup, dgCons, dgNil, dgName, dCB, dNext, dIf, dAnd, dOr, dNot, dNotV, dAndV, dOrV, dCall, dCallK, dRaise, dAug, dSl, dPart, dNoPart, startU_eq, List.map_cons, List.map_nil, List.cons_append, List.nil_append, List.length_cons, List.length_nil, List.replicate, List.getElem?_cons_zero, List.getElem?_cons_succ, List.getElem?_nil, List.set_cons_zero, List.set_cons_succ, Nat.reduceAdd, Nat.reduceSub, ex_uu, ex_bl, ex_tup, ex_lst, ex_int, ex_cons, ex_two, gEq_int, gNe_int, gEq_p2, gNe_p2, gEq_str, ixp0, ixp1, plus_int, star_int, gI_int, gIC_int, ix0, ix1, ix2, ix3, fGcd_int, fIsq_int, fAbs_int, fInt_int, fLen_tup, fLen_lst, fMax2_int, gNeg_int, gFdv, gMod, DL.gSub, gPow, gLt, gLe, gGt, gGe, eq_self, decide_eq_true_eq, Bool.not_eq_true', decide_eq_false_iff_not, true_and, and_true, if_true, if_false, Bool.false_eq_true, Bool.not_true, Bool.not_false]
    exact k
theorem sc_go_together : FnScope ["one", "other"] ["one", "other"] (defScope s_go_together) := ⟨rfl, rfl, rfl, by decide +kernel, rfl, by decide +kernel, by decide +kernel⟩
def goN (q d v e : Int) : Bool := decide (q = 0) || (decide (v = 0) || decide (d = e))
def sp_go_together : SpD := fun m us Q _ => ∃ p q s d u v w e, us = [n4 p q s d, n4 u v w e] ∧ Q (.bl (goN q d v e))
theorem ok_go_together {a a1 : Addr} {fd fd1 : FuncData} (D : DL.Def K mg "go_together" s_go_together a fd) (D_is_fraction : DL.Def K mg "is_fraction" s_is_fraction a1 fd1) : Fd P w K mg base 2 a fd ["one", "other"] sp_go_together := by
  have G_is_fraction : Fd P w K mg base 1 a1 fd1 ["number"] sp_is_fraction := ok_is_fraction D_is_fraction
  have b_is_fraction : Binds K fd1 ["number"] [] := D_is_fraction.F.binds fun _ _ _ _ _ _ us hl => match us, hl with | [_], _ => rfl
  refine fd_of D.F sc_go_together (fun m us Q Z h => ?_) (fun cdv A outer s H E m us Qd Zd hr hG tk h => ?_)
  · obtain ⟨p, q, s, d, u, v, w, e, rfl, _⟩ := h
    rfl
  · obtain ⟨p, q, s, d, u, v, w, e, rfl, k⟩ := h
    have hu := hr.units
    refine ⟨_, (dss_one (ds_ret (de_or (de_call G_is_fraction (hr.mono (by decide)) hG tk (by rfl) D_is_fraction.g D_is_fraction.F.kp b_is_fraction (da_cons (de_var (pv 0)) da_nil)) (de_or (de_call G_is_fraction (hr.mono (by decide)) hG tk (by rfl) D_is_fraction.g D_is_fraction.F.kp b_is_fraction (da_cons (de_var (pv 1)) da_nil)) (de_bool1 (de_eq hu (de_ix (de_var (pv 0)) de_int (fun _ _ => rfl)) (de_ix (de_var (pv 1)) de_int (fun _ _ => rfl)))))))), ?_⟩
    simp (config := { maxSteps := 1000000 }) only [dSeq, dIfS, dTest, dOp, dUn, dVar, dC, dTup, dLst, dNil, dCons, dRet, dRetN, dDrop, dSet, dPar, dAsg, dgTup, dgCons, dgNil, dgName, dCB, dNext, dIf, dAnd, dOr, dNot, dNotV, dAndV, dOrV, dCall, dCallK, dRaise, dAug, dSl, dPart, dNoPart, startU_eq, List.map_cons, List.map_nil, List.cons_append, List.nil_append, List.length_cons, List.length_nil, List.replicate, List.getElem?_cons_zero, List.getElem?_cons_succ, List.getElem?_nil, List.set_cons_zero, List.set_cons_succ, Nat.reduceAdd, Nat.reduceSub, ex_uu, ex_bl, ex_tup, ex_lst, ex_int, ex_cons, ex_two, gEq_int, gNe_int, gEq_p2, gNe_p2, gEq_str, ixp0, ixp1, plus_int, star_int, gI_int, gIC_int, ix0, ix1, ix2, ix3, fGcd_int, fIsq_int, fAbs_int, fInt_int, fLen_tup, fLen_lst, fMax2_int, gNeg_int, gFdv, gMod, DL.gSub, gPow, gLt, gLe, gGt, gGe, eq_self, decide_eq_true_eq, Bool.not_eq_true', decide_eq_false_iff_not, true_and, and_true, if_true, if_false, Bool.false_eq_true, Bool.not_true, Bool.not_false]
    refine ⟨p, q, s, d, rfl, _, rfl, ?_⟩
    by_cases h1 : q = 0
    · simp only [h1, decide_true, if_true]
      simp only [goN, h1, decide_true, Bool.true_or] at k
      exact k
    · simp only [h1, decide_false, if_false, Bool.false_eq_true]
      refine ⟨u, v, w, e, rfl, _, rfl, ?_⟩
      by_cases h2 : v = 0
      · simp only [h2, decide_true, if_true]
        simp only [goN, h1, h2, decide_true, decide_false, Bool.true_or, Bool.false_or] at k
        exact k
      · simp only [h2, decide_false, if_false, Bool.false_eq_true]
        simp only [goN, h1, h2, decide_false, Bool.false_or] at k
        exact k
theorem sc_common_root : FnScope ["one", "other"] ["one", "other"] (defScope s_common_root) := ⟨rfl, rfl, rfl, by decide +kernel, rfl, by decide +kernel, by decide +kernel⟩
def rootN (q d e : Int) : Int := if q = 0 then e else d
def sp_common_root : SpD := fun m us Q _ => ∃ p q s d u v w e, us = [n4 p q s d, n4 u v w e] ∧ Q (.int (rootN q d e))
theorem ok_common_root {a a1 : Addr} {fd fd1 : FuncData} (D : DL.Def K mg "common_root" s_common_root a fd) (D_is_fraction : DL.Def K mg "is_fraction" s_is_fraction a1 fd1) : Fd P w K mg base 2 a fd ["one", "other"] sp_common_root := by
  have G_is_fraction : Fd P w K mg base 1 a1 fd1 ["number"] sp_is_fraction := ok_is_fraction D_is_fraction
  have b_is_fraction : Binds K fd1 ["number"] [] := D_is_fraction.F.binds fun _ _ _ _ _ _ us hl => match us, hl with | [_], _ => rfl
  refine fd_of D.F sc_common_root (fun m us Q Z h => ?_) (fun cdv A outer s H E m us Qd Zd hr hG tk h => ?_)
  · obtain ⟨p, q, s, d, u, v, w, e, rfl, _⟩ := h
    rfl
  · obtain ⟨p, q, s, d, u, v, w, e, rfl, k⟩ := h
    have hu := hr.units
    refine ⟨_, (dss_one (ds_ret (de_if (dt_val (de_call G_is_fraction (hr.mono (by decide)) hG tk (by rfl) D_is_fraction.g D_is_fraction.F.kp b_is_fraction (da_cons (de_var (pv 0)) da_nil))) (de_ix (de_var (pv 1)) de_int (fun _ _ => rfl)) (de_ix (de_var (pv 0)) de_int (fun _ _ => rfl))))), ?_⟩
    simp (config := { maxSteps := 1000000 }) only [dSeq, dIfS, dTest, dOp, dUn, dVar, dC, dTup, dLst, dNil, dCons, dRet, dRetN, dDrop, dSet, dPar, dAsg, dgTup, dgCons, dgNil, dgName, dCB, dNext, dIf, dAnd, dOr, dNot, dNotV, dAndV, dOrV, dCall, dCallK, dRaise, dAug, dSl, dPart, dNoPart, startU_eq, List.map_cons, List.map_nil, List.cons_append, List.nil_append, List.length_cons, List.length_nil, List.replicate, List.getElem?_cons_zero, List.getElem?_cons_succ, List.getElem?_nil, List.set_cons_zero, List.set_cons_succ, Nat.reduceAdd, Nat.reduceSub, ex_uu, ex_bl, ex_tup, ex_lst, ex_int, ex_cons, ex_two, gEq_int, gNe_int, gEq_p2, gNe_p2, gEq_str, ixp0, ixp1, plus_int, star_int, gI_int, gIC_int, ix0, ix1, ix2, ix3, fGcd_int, fIsq_int, fAbs_int, fInt_int, fLen_tup, fLen_lst, fMax2_int, gNeg_int, gFdv, gMod, DL.gSub, gPow, gLt, gLe, gGt, gGe, eq_self, decide_eq_true_eq, Bool.not_eq_true', decide_eq_false_iff_not, true_and, and_true, if_true, if_false, Bool.false_eq_true, Bool.not_true, Bool.not_false]
    refine ⟨p, q, s, d, rfl, _, rfl, ?_⟩
    by_cases h1 : q = 0
    · simp only [h1, decide_true, if_true]
      simp only [rootN, h1, if_true] at k
      exact k
    · simp only [h1, decide_false, if_false, Bool.false_eq_true]
      simp only [rootN, h1, if_false] at k
      exact k
theorem sc_lowest : FnScope ["p", "q", "s", "d", "divisor"] ["p", "q", "s", "d"] (defScope s_lowest) := ⟨rfl, rfl, rfl, by decide +kernel, rfl, by decide +kernel, by decide +kernel⟩
/-- what lowest tells -/
def lowN (p q s d : Int) : U :=
  let p' := if d = 1 then p + q else p
  let q' := if d = 1 then 0 else q
  let d' := if q' = 0 then 1 else d
  let g : Int := ((Nat.gcd ((Nat.gcd p'.natAbs q'.natAbs : Nat) : Int).natAbs s.natAbs : Nat) : Int)
  let g' := if s < 0 then -g else g
  n4 (p'.fdiv g') (q'.fdiv g') (s.fdiv g') d'
theorem fdv_ok {i a s : Int} (s0 : s ≠ 0) (sb : Bd 4000 s) : CFdv i ((Nat.gcd a.natAbs s.natAbs : Nat) : Int) ∧ CFdv i (-((Nat.gcd a.natAbs s.natAbs : Nat) : Int)) := by
  have h1 : 0 < Nat.gcd a.natAbs s.natAbs := Nat.gcd_pos_of_pos_right _ (by omega)
  have h2 : Nat.gcd a.natAbs s.natAbs ≤ s.natAbs := Nat.gcd_le_right _ (by omega)
  have h3 : (Nat.gcd a.natAbs s.natAbs).log2 < 9000 := Nat.lt_of_lt_of_le (PySem.Flt.log2_lt_of (by decide : 0 < 4000) (Nat.lt_of_le_of_lt h2 sb)) (by decide)
  refine ⟨⟨by omega, ?_⟩, ⟨by omega, ?_⟩⟩
  · rw [Int.natAbs_natCast]
    exact h3
  · rw [Int.natAbs_neg, Int.natAbs_natCast]
    exact h3
def sp_lowest : SpD := fun _ us Q _ => ∃ p q s d, us = [.int p, .int q, .int s, .int d] ∧ s ≠ 0 ∧ Bd 4000 s ∧ Q (lowN p q s d)
theorem ok_lowest {a : Addr} {fd : FuncData} (D : DL.Def K mg "lowest" s_lowest a fd) (T : TxtN K mg) : Fd P w K mg base 1 a fd ["p", "q", "s", "d"] sp_lowest := by
  refine fd_of D.F sc_lowest (fun m us Q Z h => ?_) (fun cdv A outer s H E m us Qd Zd hr hG tk h => ?_)
  · obtain ⟨p, q, s, d, rfl, _⟩ := h
    rfl
  · obtain ⟨p, q, s, d, rfl, s0, sb, k⟩ := h
    have hu := hr.units
    refine ⟨_, (dss_cons (ds_if (dt_eq hu (de_var (pv 3)) de_int) (dss_one (ds_of_par (ps_par (i := 0) (j := 1) (by rfl) sc_lowest.nd rfl rfl (by decide) rfl rfl (da_cons (de_plus (de_var (pv 0)) (de_var (pv 1))) (da_cons de_int da_nil)) (by rfl)))) dss_nil)
    (dss_cons (ds_if (dt_eq hu (de_var (pv 1)) de_int) (dss_one (ds_set (i := 3) sc_lowest.nd rfl (.inl rfl) de_int)) dss_nil)
    (dss_cons (ds_set (i := 4) sc_lowest.nd rfl (.inl rfl) (de_callB cal_gcd (pe_callBfun cr_gcd (by rfl) T.gcd (da_cons (de_callB cal_gcd (pe_callBfun cr_gcd (by rfl) T.gcd (da_cons (de_var (pv 0)) (da_cons (de_var (pv 1)) da_nil)))) (da_cons (de_var (pv 2)) da_nil)))))
    (dss_cons (ds_if (dt_lt (de_var (pv 2)) de_int) (dss_one (ds_set (i := 4) sc_lowest.nd rfl (.inl rfl) (de_neg (de_var (pv 4))))) dss_nil)
    (dss_one (ds_ret (de_tup (da_cons (de_fdv (de_var (pv 0)) (de_var (pv 4))) (da_cons (de_fdv (de_var (pv 1)) (de_var (pv 4))) (da_cons (de_fdv (de_var (pv 2)) (de_var (pv 4))) (da_cons (de_var (pv 3)) da_nil))))))))))), ?_⟩
    simp (config := { maxSteps := 1000000 }) only [dSeq, dIfS, dTest, dOp, dUn, dVar, dC, dTup, dLst, dNil, dCons, dRet, dRetN, dDrop, dSet, dPar, dAsg, dgTup, dgCons, dgNil, dgName, dCB, dNext, dIf, dAnd, dOr, dNot, dNotV, dAndV, dOrV, dCall, dCallK, dRaise, dAug, dSl, dPart, dNoPart, startU_eq, List.map_cons, List.map_nil, List.cons_append, List.nil_append, List.length_cons, List.length_nil, List.replicate, List.getElem?_cons_zero, List.getElem?_cons_succ, List.getElem?_nil, List.set_cons_zero, List.set_cons_succ, Nat.reduceAdd, Nat.reduceSub, ex_uu, ex_bl, ex_tup, ex_lst, ex_int, ex_cons, ex_two, gEq_int, gNe_int, gEq_p2, gNe_p2, gEq_str, ixp0, ixp1, plus_int, star_int, gI_int, gIC_int, ix0, ix1, ix2, ix3, fGcd_int, fIsq_int, fAbs_int, fInt_int, fLen_tup, fLen_lst, fMax2_int, gNeg_int, gFdv, gMod, DL.gSub, gPow, gLt, gLe, gGt, gGe, eq_self, decide_eq_true_eq, Bool.not_eq_true', decide_eq_false_iff_not, true_and, and_true, if_true, if_false, Bool.false_eq_true, Bool.not_true, Bool.not_false]
    have four : 4 ≤ sizeLine := le_line (by decide)
    have ok : ∀ i a : Int, _ := fun i a => fdv_ok (i := i) (a := a) s0 sb
    unfold lowN at k
    by_cases h1 : d = 1
    · by_cases h2 : s < 0
      · simp only [h1, h2, if_true] at k ⊢
        exact ⟨(ok _ _).2, (ok _ _).2, (ok _ _).2, four, k⟩
      · simp only [h1, h2, if_true, if_false] at k ⊢
        exact ⟨(ok _ _).1, (ok _ _).1, (ok _ _).1, four, k⟩
    · by_cases h3 : q = 0
      · by_cases h2 : s < 0
        · simp only [h1, h2, h3, if_true, if_false] at k ⊢
          exact ⟨(ok _ _).2, (ok _ _).2, (ok _ _).2, four, k⟩
        · simp only [h1, h2, h3, if_true, if_false] at k ⊢
          exact ⟨(ok _ _).1, (ok _ _).1, (ok _ _).1, four, k⟩
      · by_cases h2 : s < 0
        · simp only [h1, h2, h3, if_true, if_false] at k ⊢
          exact ⟨(ok _ _).2, (ok _ _).2, (ok _ _).2, four, k⟩
        · simp only [h1, h2, h3, if_true, if_false] at k ⊢
          exact ⟨(ok _ _).1, (ok _ _).1, (ok _ _).1, four, k⟩
/-! ### sums, products, quotients -/
def sumN (p q s d u v w e : Int) : U := lowN (p * w + u * s) (q * w + v * s) (s * w) (rootN q d e)
def mulN (p q s d u v w e : Int) : U := lowN (p * u + q * v * rootN q d e) (p * v + q * u) (s * w) (rootN q d e)
/-- within the sizes -/
structure Sz (p q s d u v w e : Int) : Prop where
  bp : Bd 1000 p
  bq : Bd 1000 q
  bs : Bd 1000 s
  bu : Bd 1000 u
  bv : Bd 1000 v
  bw : Bd 1000 w
  bd : Bd 1000 d
  be : Bd 1000 e
  s0 : s ≠ 0
  w0 : w ≠ 0
theorem Sz.sw {p q s d u v w e : Int} (z : Sz p q s d u v w e) : s * w ≠ 0 ∧ Bd 4000 (s * w) := ⟨Int.mul_ne_zero z.s0 z.w0, bd_up 4000 (bd_mul 1000 1000 z.bs z.bw) (by decide)⟩
theorem k1 {x y : Int} (h : Bd 1000 x) (g : Bd 1000 y) : CMulW x y := mul_ok 1000 1000 h g (by decide) (by decide) (by decide)
def sp_sum_of : SpD := fun m us Q _ => ∃ p q s d u v w e, us = [n4 p q s d, n4 u v w e] ∧ Sz p q s d u v w e ∧ Q (sumN p q s d u v w e)
end
end T01
set_option Elab.async false
set_option linter.all false
set_option maxRecDepth 100000
set_option maxHeartbeats 2000000
namespace T01
open PySem PySem.Spec PyProof.Rows L2 XR DL
/-! ### the law's deck, its draws -/
theorem pos1 : (fun (_ j : Int) => 0 < j) 0 2147483629 := by decide
theorem pos2 : (fun (_ j : Int) => 0 < j) 0 2147483563 := by decide
theorem cut63 {ns : List Int} (h : ns.length ≤ 63) : cutV (ns.map V.int) none (some 63) = ns.map V.int := by
  unfold cutV
  rw [HT.sIx_none, show (some (63 : Int)) = some ((63 : Nat) : Int) from rfl, HT.sIx_nat, List.length_map, Nat.min_eq_right h, List.drop_zero, Nat.sub_zero]
  exact List.take_of_length_le (by rw [List.length_map]; exact Nat.le_refl _)
theorem int_at {ns : List Int} {i : Nat} {y : V} (h : (ns.map V.int)[i]? = some y) : ∃ z, y = V.int z := by
  rw [List.getElem?_map] at h
  cases e : ns[i]? with
  | none =>
    rw [e] at h
    cases h
  | some z =>
    rw [e] at h
    exact ⟨z, (Option.some.inj h).symm⟩
theorem deck_merge {l : Addr} {m n : Int} : mergeK [] (deckL l m n) = deckL l m n := by rfl
def spDeck (K : PySem.W.Frag) : Sp := fun vs H Q _ => ∃ (a : Addr) (ns : List Int) (seed : Int), vs = [.ref a, .int seed] ∧ SqL K H a (ns.map V.int) ∧ ns.length ≤ 63 ∧ 0 ≤ seed ∧ seed < 2147483648 ∧
  ∀ (d l : Addr) (H' : Hp), H d = none → H l = none → d ≠ l → DeckAt H' d l → Same H H' → Q (.ref d) H'
section
variable {P : Program} {w : World} {K : PySem.W.Frag} {mg : Str → Option Value} {base : Heap}
theorem scDeck : FnScope ["script", "seed", "mixed", "cell"] ["script", "seed"] (defScope sDeck) := ⟨rfl, rfl, rfl, by decide +kernel, rfl, by decide +kernel, by decide +kernel⟩
theorem ok_deck {f : Addr} {fd : FuncData} (F : Fun K "_law_deck" "_law_deck" sDeck f fd) (gint : mg "int" = none) (glist : mg "list" = none) : FnOk P w K mg base CX0 1 f fd ["script", "seed"] (spDeck K) := by
  refine F.ok scDeck (fun vs H Q E h => ?_) (fun cdv A outer s H vs Q E hr h => ?_)
  · obtain ⟨a, ns, seed, rfl, _⟩ := h
    rfl
  · obtain ⟨a, ns, seed, rfl, hS, hlen, s0, s1, k⟩ := h
    refine ⟨_, pss_cons (ps_set (i := 2) scDeck.nd rfl (Or.inl rfl) (pv 1))
      (pss_cons (ps_for PassesOwn.never rfl (pi_list (pe_slice sl_list (pv 0) po_none (po_some pe_int))) (pg_name (i := 3) scDeck.nd rfl (Or.inl rfl))
        (pss_one (ps_set (i := 2) scDeck.nd rfl (Or.inl rfl) (pe_op op_mod (pe_callTy call_int1 (by rfl) gint (by decide +kernel) (pa_cons
          (pe_op op_add (pe_op op_add (pe_op op_mul (pv 2) pe_int) (pe_op op_mod (pe_callTy call_int1 (by rfl) gint (by decide +kernel) (pa_cons (pv 3) pa_nil)) pe_int)) pe_int) pa_nil)) pe_int))))
      (pss_one (ps_ret (pe_disp (pps_cons pe_str (pe_revL (pe_callTy call_list_of (by rfl) glist (by decide +kernel) (pa_cons (pe_slice sl_list (pv 0) po_none (po_some pe_int)) pa_nil)))
        (pps_cons pe_str (pv 2) (pps_cons pe_str pe_int pps_nil))) (by rfl) (by rfl) (fun z => by cases z) (by decide))))), ?_⟩
    refine ⟨_, rfl, _, rfl, _, rfl, a, _, rfl, hS, fun p hp => ⟨p, rfl, ⟨_, SqL.of upd_same⟩, ?_⟩⟩
    refine for_list (K := K) (a := p) (xs := cutV (ns.map V.int) none (some 63)) (fun i σ H' => ∃ (m : Int) (v : Option V), σ = [some (.ref a), some (.int seed), some (.int m), v] ∧ 0 ≤ m ∧ m < 2147483648 ∧ H' = upd H p (.lst (cutV (ns.map V.int) none (some 63))))
      ⟨seed, none, rfl, s0, s1, rfl⟩ (fun i σ H' _ ⟨_, _, _, _, _, e⟩ => by rw [e]; exact SqL.of upd_same) ?_ ?_
    · rintro i y σ H' hi ⟨m, v, rfl, m0, m1, rfl⟩
      rw [cut63 hlen] at hi
      obtain ⟨z, rfl⟩ := int_at hi
      refine ⟨_, rfl, _, _, rfl, rfl, .inl ⟨by omega, by omega⟩, _, rfl, .inl ⟨_, rfl, _, _, rfl, rfl, pos1, _, _, rfl, rfl, _, _, rfl, rfl, .inl ⟨_, rfl, _, _, rfl, rfl, pos2, ?_⟩⟩⟩
      exact ⟨_, some (.int z), rfl, Int.emod_nonneg _ (by decide), Int.lt_trans (Int.emod_lt_of_pos _ (by decide)) (by decide), rfl⟩
    · rintro σ H' ⟨m, v, rfl, m0, m1, rfl⟩
      intro q hq
      have np : p ≠ q := ne_of_none (o := .lst (cutV (ns.map V.int) none (some 63))) upd_same hq
      have sqp : ∀ o, SqL K (upd (upd H p (.lst (cutV (ns.map V.int) none (some 63)))) q o) a (ns.map V.int) := fun o => Same.seq (fun b u e => by
        rw [upd_ne (ne_of_none (show (upd H p (.lst (cutV (ns.map V.int) none (some 63)))) b = some u by rw [upd_ne (ne_of_none e hp)]; exact e) hq), upd_ne (ne_of_none e hp)]
        exact e) hS
      refine ⟨_, rfl, _, rfl, a, _, rfl, sqp _, fun r hr2 => ⟨r, _, rfl, .inl (SqL.of upd_same), fun t ht => ⟨t, _, rfl, SqL.of upd_same, fun u hu => ?_⟩⟩⟩
      rw [cut63 hlen] at *
      have e1 : Same H (upd H p (.lst (ns.map V.int))) := same_new hp
      have e2 := e1.trans (same_new (o := .dK []) hq)
      have e3 := e2.trans (same_new (o := .lst (ns.map V.int)) hr2)
      have e4 := e3.trans (same_new (o := .lst (ns.map V.int)) ht)
      have e5 := e4.trans (same_new (o := .lst (ns.map V.int).reverse) hu)
      have hqd : (upd H p (.lst (ns.map V.int))) q = none := hq
      have nqr : q ≠ r := ne_of_none (o := .dK []) upd_same hr2
      have f3 := (same_new (o := .lst (ns.map V.int)) hr2) q _ upd_same
      have f4 := (same_new (o := .lst (ns.map V.int)) ht) q _ f3
      have f5 := (same_new (o := .lst (ns.map V.int).reverse) hu) q _ f4
      have nq : H q = none := e1.free hqd
      have nu : H u = none := e4.free hu
      have nqu : q ≠ u := ne_of_none f4 hu
      refine ⟨_, rfl, f5, deckL u m 0, rfl, (by show 3 ≤ 15; decide), ?_⟩
      rw [deck_merge]
      refine k q u _ nq nu nqu ⟨m, 0, ns.reverse, upd_same, ?_, ?_, m0, m1⟩ fun b o e => ?_
      · rw [upd_ne nqu.symm, upd_same, List.map_reverse]
      · rw [List.length_reverse]
        exact hlen
      · rw [upd_ne (ne_of_none e nq)]
        exact e5 b o e
theorem dg_left {H : Hp} {d l : Addr} {m n : Int} (h : H d = some (.dK (deckL l m n))) : DGet H d (.str "left") (some (.ref l)) := DGet.k (k := kL) h
theorem dg_mixed {H : Hp} {d l : Addr} {m n : Int} (h : H d = some (.dK (deckL l m n))) : DGet H d (.str "mixed") (some (.int m)) := DGet.k (k := kM) h
theorem dg_draws {H : Hp} {d l : Addr} {m n : Int} (h : H d = some (.dK (deckL l m n))) : DGet H d (.str "draws") (some (.int n)) := DGet.k (k := kD) h
theorem dp_mixed {H : Hp} {d l : Addr} {m n x : Int} (h : H d = some (.dK (deckL l m n))) : DPut H d (.str "mixed") (.int x) (upd H d (.dK (deckL l x n))) :=
  DPut.k (k := kM) (v := .int x) h (by show 3 < sizeLine; decide)
theorem dp_draws {H : Hp} {d l : Addr} {m n x : Int} (h : H d = some (.dK (deckL l m n))) : DPut H d (.str "draws") (.int x) (upd H d (.dK (deckL l m x))) :=
  DPut.k (k := kD) (v := .int x) h (by show 3 < sizeLine; decide)
theorem dpInts {H : Hp} : ∀ ns : List Int, DpAll K H (ns.map V.int) (ns.map PyData.int)
  | [] => .nil
  | n :: r => .cons (.int n) (dpInts r)
theorem shInts : ∀ ns : List Int, SeqAt.shaped (.list (ns.map PyData.int)) = true := by
  intro ns
  have h1 : ∀ l : List Int, PyData.depthAll (l.map PyData.int) = 0 := fun l => by
    induction l with
    | nil => rfl
    | cons a r ih => simp [PyData.depthAll, PyData.depth, ih]
  have h2 : ∀ l : List Int, PyData.canLayAll0 (l.map PyData.int) = true := fun l => by
    induction l with
    | nil => rfl
    | cons a r ih => simp [PyData.canLayAll0, PyData.canLay0, ih]
  simp [SeqAt.shaped, PyData.depth, PyData.canLay0, h1, h2]
theorem neNil (ns : List Int) : (!PyData.eqv (.list (ns.map PyData.int)) (.list [])) = !ns.isEmpty := by
  cases ns with
  | nil => rfl
  | cons n r => rfl
def spDraw : Sp := fun vs H Q _ => ∃ (d l : Addr) (many : Int), vs = [.ref d, .int many] ∧ DeckAt H d l ∧ 0 < many ∧ many < 1073741824 ∧
  ∀ (r : Int) (H' : Hp), 0 ≤ r → r < many → DeckAt H' d l → Dk d l H H' → Q (.int r) H'
abbrev tInt (t : TE) : TE := tCB (fun xs H Q => (∃ i, xs = [V.int i] ∧ Q (V.int i) H) ∨ ∃ k, xs = [V.bl k] ∧ Q (V.int (if k = true then 1 else 0)) H) (tCons t tNil)
abbrev rAddI : R2 := rI0 fun i j => V.int (i + j)
abbrev rMulI : R2 := rI CMul fun i j => V.int (i * j)
abbrev rModP : R2 := rI (fun _ j => 0 < j) fun i j => V.int (i % j)
def tTail : TS :=
  tSeq (tAsg (tOp rModP (tInt (tOp rAddI (tDGet (tVar 0) (tC (V.str "mixed"))) (tOp rMulI (tC (V.int 31337)) (tDGet (tVar 0) (tC (V.str "draws")))))) (tC (V.int 2147483647))) (gName 3))
    (tSeq (tAsg (tOp rModP (tInt (tOp rAddI (tOp rAddI (tOp rMulI (tVar 3) (tVar 3)) (tOp rMulI (tC (V.int 48271)) (tDGet (tVar 0) (tC (V.str "draws"))))) (tC (V.int 11)))) (tC (V.int 2147483629))) (gName 3))
      (tSeq (tAsg (tOp rModP (tInt (tOp rAddI (tOp rMulI (tVar 3) (tC (V.int 69621))) (tC (V.int 77)))) (tC (V.int 2147483563))) (gName 3))
        (tRet (tOp (rI (fun _ j => j ≠ 0) fun i j => V.int (i.fmod j)) (tInt (tOp (rI CDiv fun i j => V.int (i / j)) (tVar 3) (tC (V.int 64)))) (tVar 1)))))
theorem scDraw : FnScope ["deck", "many", "cell", "figure"] ["deck", "many"] (defScope sDraw) := ⟨rfl, rfl, rfl, by decide +kernel, rfl, by decide +kernel, by decide +kernel⟩
theorem ok_draw {f : Addr} {fd : FuncData} (F : Fun K "_law_draw" "_law_draw" sDraw f fd) (gint : mg "int" = none) (gmax : mg "max" = none) : FnOk P w K mg base CX0 1 f fd ["deck", "many"] spDraw := by
  refine F.ok scDraw (fun vs H Q E h => ?_) (fun cdv A outer s H vs Q E hr h => ?_)
  · obtain ⟨d, l, many, rfl, _⟩ := h
    rfl
  · obtain ⟨d, l, many, rfl, ⟨m, n, ns, hd, hl, hz, m0, m1⟩, p0, p1, k⟩ := h
    have hu := hu_of hr
    refine ⟨_, pss_cons (ps_dput hu (pv 0) pe_str (pe_op op_add (pe_dget hu (pv 0) pe_str (fun _ _ => rfl)) pe_int) rfl)
      (pss_cons (ps_if (pt_cmpR (op_neD hr.units) (pe_dget hu (pv 0) pe_str (fun _ _ => rfl)) (pe_lst pa_nil) (nomark _))
        (pss_cons (ps_set (i := 2) scDraw.nd rfl (Or.inl rfl) (pe_bm0 PySem.F.plainAttrs_list PySem.F.slot_list_pop PySem.F.type_list_pop mt_pop (pe_dget hu (pv 0) pe_str (fun _ _ => rfl))))
        (pss_cons (ps_if (pt_cmpR op_ge (pv 2) (pe_op op_pow pe_int pe_int) (nomark _))
          (pss_cons (ps_expr (pe_bm PySem.F.plainAttrs_list PySem.F.slot_list_append PySem.F.type_list_append mt_append (pe_dget hu (pv 0) pe_str (fun _ _ => rfl))
            (pa_cons (pe_op op_fdivN (pv 2) (pe_callB (call_max2 rfl) (by rfl) gmax (by decide +kernel) (pa_cons pe_int (pa_cons (pv 1) pa_nil)))) pa_nil)))
          (pss_one (ps_ret (pe_op op_modN (pe_callTy call_int1 (by rfl) gint (by decide +kernel) (pa_cons (pv 2) pa_nil)) (pv 1))))) pss_nil)
        (pss_one (ps_dput hu (pv 0) pe_str (pe_op op_mod (pe_callTy call_int1 (by rfl) gint (by decide +kernel) (pa_cons
          (pe_op op_add (pe_op op_add (pe_op op_mul (pe_dget hu (pv 0) pe_str (fun _ _ => rfl)) pe_int) (pe_op op_mod (pe_callTy call_int1 (by rfl) gint (by decide +kernel) (pa_cons (pv 2) pa_nil)) pe_int)) pe_int) pa_nil)) pe_int) rfl)))) pss_nil)
      (pss_cons (ps_set (i := 3) scDraw.nd rfl (Or.inl rfl) (pe_op op_mod (pe_callTy call_int1 (by rfl) gint (by decide +kernel) (pa_cons
          (pe_op op_add (pe_dget hu (pv 0) pe_str (fun _ _ => rfl)) (pe_op op_mul pe_int (pe_dget hu (pv 0) pe_str (fun _ _ => rfl)))) pa_nil)) pe_int))
      (pss_cons (ps_set (i := 3) scDraw.nd rfl (Or.inl rfl) (pe_op op_mod (pe_callTy call_int1 (by rfl) gint (by decide +kernel) (pa_cons
          (pe_op op_add (pe_op op_add (pe_op op_mul (pv 3) (pv 3)) (pe_op op_mul pe_int (pe_dget hu (pv 0) pe_str (fun _ _ => rfl)))) pe_int) pa_nil)) pe_int))
      (pss_cons (ps_set (i := 3) scDraw.nd rfl (Or.inl rfl) (pe_op op_mod (pe_callTy call_int1 (by rfl) gint (by decide +kernel) (pa_cons
          (pe_op op_add (pe_op op_mul (pv 3) pe_int) pe_int) pa_nil)) pe_int))
      (pss_one (ps_ret (pe_op op_modN (pe_callTy call_int1 (by rfl) gint (by decide +kernel) (pa_cons (pe_op op_fdiv (pv 3) pe_int) pa_nil)) (pv 1)))))))), ?_⟩
    refine ⟨_, rfl, d, _, rfl, dg_draws hd, _, _, rfl, rfl, _, rfl, d, _, rfl, dp_draws hd, ?_⟩
    have hd1 : (upd H d (.dK (deckL l m (n + 1)))) d = some (.dK (deckL l m (n + 1))) := upd_same
    have nld : l ≠ d := fun z => by
      rw [z, hd] at hl
      cases hl
    have hl1 : (upd H d (.dK (deckL l m (n + 1)))) l = some (.lst (ns.map V.int)) := by
      rw [upd_ne nld]
      exact hl
    have D1 : Dk d l H (upd H d (.dK (deckL l m (n + 1)))) := fun b o e h1 _ => by
      rw [upd_ne h1]
      exact e
    generalize upd H d (.dK (deckL l m (n + 1))) = H1 at hd1 hl1 D1 ⊢
    refine ⟨_, rfl, d, _, rfl, dg_left hd1, (by show 0 ≤ sizeLine; decide), fun p hp => ?_⟩
    have hd2 : (upd H1 p (.lst [])) d = some (.dK (deckL l m (n + 1))) := same_new hp _ _ hd1
    have hl2 : (upd H1 p (.lst [])) l = some (.lst (ns.map V.int)) := same_new hp _ _ hl1
    have D2 : Dk d l H (upd H1 p (.lst [])) := D1.trans (Dk.of_same (same_new hp))
    have hp2 : (upd H1 p (.lst [])) p = some (.lst []) := upd_same
    generalize upd H1 p (.lst []) = H2 at hd2 hl2 D2 hp2 ⊢
    refine ⟨_, _, .lst (SqL.of hl2) (dpInts ns), .lst (SqL.of hp2) .nil, shInts ns, rfl, _, rfl, ?_⟩
    rw [neNil]
    have tail : ∀ (c : Option V) (m' n' : Int) (ns' : List Int) (H' : Hp), H' d = some (.dK (deckL l m' n')) → H' l = some (.lst (ns'.map V.int)) → ns'.length ≤ 63 → 0 ≤ m' → m' < 2147483648 → Dk d l H H' →
        tTail { nx := fun _ H' => Q .non H', rt := Q } [some (.ref d), some (.int many), c, none] H' := by
      intro c m' n' ns' H' hd' hl' hz' a0 a1 D'
      refine ⟨_, rfl, d, _, rfl, dg_mixed hd', _, rfl, d, _, rfl, dg_draws hd', _, _, rfl, rfl, .inl ⟨by decide, by decide⟩, _, _, rfl, rfl, .inl ⟨_, rfl, _, _, rfl, rfl, (by show (0 : Int) < 2147483647; decide), ?_⟩⟩
      have f0 := Int.emod_nonneg (m' + 31337 * n') (b := 2147483647) (by decide)
      have f1 := Int.emod_lt_of_pos (m' + 31337 * n') (b := 2147483647) (by decide)
      generalize (m' + 31337 * n') % 2147483647 = f at f0 f1 ⊢
      refine ⟨_, rfl, _, rfl, _, _, rfl, rfl, .inl ⟨by omega, by omega⟩, _, rfl, d, _, rfl, dg_draws hd', _, _, rfl, rfl, .inl ⟨by decide, by decide⟩, _, _, rfl, rfl, _, _, rfl, rfl, .inl ⟨_, rfl, _, _, rfl, rfl, (by show (0 : Int) < 2147483629; decide), ?_⟩⟩
      have g0 := Int.emod_nonneg (f * f + 48271 * n' + 11) (b := 2147483629) (by decide)
      have g1 := Int.emod_lt_of_pos (f * f + 48271 * n' + 11) (b := 2147483629) (by decide)
      generalize (f * f + 48271 * n' + 11) % 2147483629 = g at g0 g1 ⊢
      refine ⟨_, rfl, _, _, rfl, rfl, .inl ⟨by omega, by omega⟩, _, _, rfl, rfl, .inl ⟨_, rfl, _, _, rfl, rfl, (by show (0 : Int) < 2147483563; decide), ?_⟩⟩
      refine ⟨_, rfl, _, _, rfl, rfl, ⟨by decide, by decide⟩, .inl ⟨_, rfl, _, rfl, _, _, rfl, rfl, (by show many ≠ 0; omega), ?_⟩⟩
      exact k _ _ (Int.fmod_nonneg_of_pos _ p0) (Int.fmod_lt_of_pos _ p0) ⟨m', n', ns', hd', hl', hz', a0, a1⟩ D'
    cases ns with
    | nil => exact iteF (tail none m (n + 1) [] H2 hd2 hl2 hz m0 m1 D2)
    | cons x r =>
      refine iteT ?_
      have lst : ((x :: r).map V.int)[((x :: r).map V.int).length - 1]? = some (.int ((x :: r).getLast (by simp))) := by
        rw [← List.getLast?_eq_getElem?, List.getLast?_map, List.getLast?_eq_some_getLast (by simp)]
        rfl
      have dl : ((x :: r).map V.int).dropLast = ((x :: r).dropLast).map V.int := by rw [List.map_dropLast]
      have hz2 : ((x :: r).dropLast).length ≤ 62 := by
        rw [List.length_dropLast]
        omega
      generalize (x :: r).getLast (by simp) = c at lst
      refine ⟨_, rfl, d, _, rfl, dg_left hd2, .inl ⟨rfl, _, SqL.of hl2⟩, l, _, _, rfl, rfl, hl2, lst, ?_⟩
      rw [dl]
      generalize (x :: r).dropLast = q at hz2 ⊢
      have hd3 : (upd H2 l (.lst (q.map V.int))) d = some (.dK (deckL l m (n + 1))) := by
        rw [upd_ne nld.symm]
        exact hd2
      have hl3 : (upd H2 l (.lst (q.map V.int))) l = some (.lst (q.map V.int)) := upd_same
      have D3 : Dk d l H (upd H2 l (.lst (q.map V.int))) := fun b o e h1 h2 => by
        rw [upd_ne h2]
        exact D2 b o e h1 h2
      generalize upd H2 l (.lst (q.map V.int)) = H3 at hd3 hl3 D3 ⊢
      refine ⟨_, rfl, _, _, rfl, rfl, ⟨by decide, by decide, by decide⟩, _, _, rfl, rfl, _, rfl, ?_⟩
      refine ite2 (fun _ => ?_) (fun _ => ?_)
      · refine ⟨_, rfl, d, _, rfl, dg_left hd3, .inl ⟨rfl, _, SqL.of hl3⟩, _, rfl, _, rfl, _, _, rfl, _, _, rfl, rfl, ⟨by split <;> omega, by split <;> omega⟩, l, _, _, rfl, rfl, hl3, small1000 (by rw [List.length_map]; omega), ?_⟩
        refine ⟨_, rfl, .inl ⟨_, rfl, _, rfl, _, _, rfl, rfl, (by show many ≠ 0; omega), ?_⟩⟩
        refine k _ _ (Int.fmod_nonneg_of_pos _ p0) (Int.fmod_lt_of_pos _ p0) ⟨m, n + 1, q ++ [c.fdiv (if many > 2 then many else 2)], ?_, ?_, ?_, m0, m1⟩ fun b o e h1 h2 => ?_
        · rw [upd_ne nld.symm]
          exact hd3
        · rw [upd_same, List.map_append]
          rfl
        · rw [List.length_append]
          show q.length + 1 ≤ 63
          omega
        · rw [upd_ne h2]
          exact D3 b o e h1 h2
      · refine ⟨_, rfl, d, _, rfl, dg_mixed hd3, _, _, rfl, rfl, .inl ⟨by omega, by omega⟩, _, rfl, .inl ⟨_, rfl, _, _, rfl, rfl, (by show (0 : Int) < 2147483629; decide), _, _, rfl, rfl, _, _, rfl, rfl, .inl ⟨_, rfl, _, _, rfl, rfl, (by show (0 : Int) < 2147483587; decide), ?_⟩⟩⟩
        refine ⟨_, rfl, d, _, rfl, dp_mixed hd3, ?_⟩
        refine tail (some (.int c)) _ (n + 1) q _ upd_same ?_ (by omega) (Int.emod_nonneg _ (by decide)) (Int.lt_trans (Int.emod_lt_of_pos _ (by decide)) (by decide)) fun b o e h1 h2 => ?_
        · rw [upd_ne nld]
          exact hl3
        · rw [upd_ne h1]
          exact D3 b o e h1 h2
end
end T01
set_option Elab.async false
set_option linter.all false
set_option maxRecDepth 100000
set_option maxHeartbeats 8000000
namespace T01
open PySem PySem.Spec PyProof.Rows L2 XR DL
section
variable {P : Program} {w : World} {K : PySem.W.Frag} {mg : Str → Option Value} {base : Heap}
def sp_negative : SpD := fun m us Q _ => ∃ p q s d, us = [n4 p q s d] ∧ Q (n4 (-p) (-q) s d)
theorem sc_product_of : FnScope ["one", "other", "p", "q", "s", "_", "u", "v", "w", "d"] ["one", "other"] (defScope s_product_of) := ⟨rfl, rfl, rfl, by decide +kernel, rfl, by decide +kernel, by decide +kernel⟩
def sp_product_of : SpD := fun m us Q _ => ∃ p q s d u v w e, us = [n4 p q s d, n4 u v w e] ∧ Sz p q s d u v w e ∧ Q (mulN p q s d u v w e)
theorem ok_product_of {a a1 a2 a3 : Addr} {fd fd1 fd2 fd3 : FuncData} (D : DL.Def K mg "product_of" s_product_of a fd) (D_common_root : DL.Def K mg "common_root" s_common_root a1 fd1) (D_lowest : DL.Def K mg "lowest" s_lowest a2 fd2) (D_is_fraction : DL.Def K mg "is_fraction" s_is_fraction a3 fd3) (T : TxtN K mg) :
    Fd P w K mg base 3 a fd ["one", "other"] sp_product_of := by
  have G_common_root : Fd P w K mg base 2 a1 fd1 ["one", "other"] sp_common_root := ok_common_root D_common_root D_is_fraction
  have b_common_root : Binds K fd1 ["one", "other"] [] := D_common_root.F.binds fun _ _ _ _ _ _ us hl => match us, hl with | [_, _], _ => rfl
  have G_lowest : Fd P w K mg base 1 a2 fd2 ["p", "q", "s", "d"] sp_lowest := ok_lowest D_lowest T
  have b_lowest : Binds K fd2 ["p", "q", "s", "d"] [] := D_lowest.F.binds fun _ _ _ _ _ _ us hl => match us, hl with | [_, _, _, _], _ => rfl
  refine fd_of D.F sc_product_of (fun m us Q Z h => ?_) (fun cdv A outer s H E m us Qd Zd hr hG tk h => ?_)
  · obtain ⟨p, q, s, d, u, v, w, e, rfl, _⟩ := h
    rfl
  · obtain ⟨p, q, s, d, u, v, w, e, rfl, z, k⟩ := h
    have hu := hr.units
    have hd : Bd 1000 (rootN q d e) := by
      unfold rootN
      by_cases h : q = 0
      · rw [if_pos h]
        exact z.be
      · rw [if_neg h]
        exact z.bd
    refine ⟨_, (dss_cons (ds_asg (de_var (pv 0)) (dg_tup (n := 4) rfl (dgs_cons (dg_name (pg_name (i := 2) sc_product_of.nd rfl (.inl rfl))) (dgs_cons (dg_name (pg_name (i := 3) sc_product_of.nd rfl (.inl rfl))) (dgs_cons (dg_name (pg_name (i := 4) sc_product_of.nd rfl (.inl rfl))) (dgs_cons (dg_name (pg_name (i := 5) sc_product_of.nd rfl (.inl rfl))) dgs_nil))))))
    (dss_cons (ds_asg (de_var (pv 1)) (dg_tup (n := 4) rfl (dgs_cons (dg_name (pg_name (i := 6) sc_product_of.nd rfl (.inl rfl))) (dgs_cons (dg_name (pg_name (i := 7) sc_product_of.nd rfl (.inl rfl))) (dgs_cons (dg_name (pg_name (i := 8) sc_product_of.nd rfl (.inl rfl))) (dgs_cons (dg_name (pg_name (i := 5) sc_product_of.nd rfl (.inl rfl))) dgs_nil))))))
    (dss_cons (ds_set (i := 9) sc_product_of.nd rfl (.inl rfl) (de_call G_common_root (hr.mono (by decide)) hG tk (by rfl) D_common_root.g D_common_root.F.kp b_common_root (da_cons (de_var (pv 0)) (da_cons (de_var (pv 1)) da_nil))))
    (dss_one (ds_ret (de_call G_lowest (hr.mono (by decide)) hG tk (by rfl) D_lowest.g D_lowest.F.kp b_lowest (da_cons (de_plus (de_star (de_var (pv 2)) (de_var (pv 6))) (de_star (de_star (de_var (pv 3)) (de_var (pv 7))) (de_var (pv 9)))) (da_cons (de_plus (de_star (de_var (pv 2)) (de_var (pv 7))) (de_star (de_var (pv 3)) (de_var (pv 6)))) (da_cons (de_star (de_var (pv 4)) (de_var (pv 8))) (da_cons (de_var (pv 9)) da_nil)))))))))), ?_⟩
    simp (config := { maxSteps := 1000000 }) only [dSeq, dIfS, dTest, dOp, dUn, dVar, dC, dTup, dLst, dNil, dCons, dRet, dRetN, dDrop, dSet, dPar, dAsg, dgTup, dgCons, dgNil, dgName, dCB, dNext, dIf, dAnd, dOr, dNot, dNotV, dAndV, dOrV, dCall, dCallK, dRaise, dAug, dSl, dPart, dNoPart, startU_eq, List.map_cons, List.map_nil, List.cons_append, List.nil_append, List.length_cons, List.length_nil, List.replicate, List.getElem?_cons_zero, List.getElem?_cons_succ, List.getElem?_nil, List.set_cons_zero, List.set_cons_succ, Nat.reduceAdd, Nat.reduceSub, ex_uu, ex_bl, ex_tup, ex_lst, ex_int, ex_cons, ex_two, gEq_int, gNe_int, gEq_p2, gNe_p2, gEq_str, ixp0, ixp1, plus_int, star_int, gI_int, gIC_int, ix0, ix1, ix2, ix3, fGcd_int, fIsq_int, fAbs_int, fInt_int, fLen_tup, fLen_lst, fMax2_int, gNeg_int, gFdv, gMod, DL.gSub, gPow, gLt, gLe, gGt, gGe, eq_self, decide_eq_true_eq, Bool.not_eq_true', decide_eq_false_iff_not, true_and, and_true, if_true, if_false, Bool.false_eq_true, Bool.not_true, Bool.not_false]
    refine ⟨p, q, s, d, u, v, w, e, rfl, ?_⟩
    simp (config := { maxSteps := 1000000 }) only [dSeq, dIfS, dTest, dOp, dUn, dVar, dC, dTup, dLst, dNil, dCons, dRet, dRetN, dDrop, dSet, dPar, dAsg, dgTup, dgCons, dgNil, dgName, dCB, dNext, dIf, dAnd, dOr, dNot, dNotV, dAndV, dOrV, dCall, dCallK, dRaise, dAug, dSl, dPart, dNoPart, startU_eq, List.map_cons, List.map_nil, List.cons_append, List.nil_append, List.length_cons, List.length_nil, List.replicate, List.getElem?_cons_zero, List.getElem?_cons_succ, List.getElem?_nil, List.set_cons_zero, List.set_cons_succ, Nat.reduceAdd, Nat.reduceSub, ex_uu, ex_bl, ex_tup, ex_lst, ex_int, ex_cons, ex_two, gEq_int, gNe_int, gEq_p2, gNe_p2, gEq_str, ixp0, ixp1, plus_int, star_int, gI_int, gIC_int, ix0, ix1, ix2, ix3, fGcd_int, fIsq_int, fAbs_int, fInt_int, fLen_tup, fLen_lst, fMax2_int, gNeg_int, gFdv, gMod, DL.gSub, gPow, gLt, gLe, gGt, gGe, eq_self, decide_eq_true_eq, Bool.not_eq_true', decide_eq_false_iff_not, true_and, and_true, if_true, if_false, Bool.false_eq_true, Bool.not_true, Bool.not_false]
    refine ⟨k1 z.bp z.bu, k1 z.bq z.bv, mul_ok 2000 1000 (bd_mul 1000 1000 z.bq z.bv) hd (by decide) (by decide) (by decide), k1 z.bp z.bv, k1 z.bq z.bu, k1 z.bs z.bw, _, _, _, _, rfl, z.sw.1, z.sw.2, k⟩
def sp_difference_of : SpD := fun m us Q _ => ∃ p q s d u v w e, us = [n4 p q s d, n4 u v w e] ∧ Sz p q s d u v w e ∧ Q (sumN p q s d (-u) (-v) w e)
theorem sc_are_whole : FnScope ["things", "thing"] ["things"] (defScope s_are_whole) := ⟨rfl, rfl, rfl, by decide +kernel, rfl, by decide +kernel, by decide +kernel⟩
/-- the def's code object, its table -/
structure CodeAt (base : Heap) (mg : Str → Option Value) (fd : FuncData) (c P0 : Addr) : Prop where
  code : fd.code = .ref c
  tab : GxR.TabB base mg c P0
def sp_are_whole (P0 : Addr) : SpD := fun m us Q _ => ∃ ts, us = [.tup ts] ∧ ts.all notRaw = true ∧ P0 ∈ m.tabs ∧ Q (.bl (ts.all isIntU))
theorem ok_are_whole {a f c P0 : Addr} {fd : FuncData} (D : DL.Def K mg "are_whole" s_are_whole a fd) (C : CodeAt base mg fd c P0) (Wh : WholeAt K mg f) (gall : mg "all" = none) : Fd P w K mg base 2 a fd ["things"] (sp_are_whole P0) := by
  refine fd_ofC D.F sc_are_whole (fun m us Q Z h => ?_) (fun cdv A outer s H E m us Qd Zd hr hG tk hc h => ?_)
  · obtain ⟨ts, rfl, _⟩ := h
    rfl
  · obtain ⟨ts, rfl, hn, hP, k⟩ := h
    have hcd : cdv = .ref c := hc.symm.trans C.code
    refine ⟨_, (dss_one (ds_ret (de_allW (P := P0) (c := c) hr (by rfl) gall C.tab hcd ⟨rfl, rfl, by decide +kernel, rfl, rfl, fun y hy e => by
      rcases List.mem_cons.mp hy with rfl | hy
      · cases e
      rcases List.mem_cons.mp hy with rfl | hy
      · cases e
      rcases List.mem_cons.mp hy with rfl | hy
      · cases e
      cases hy⟩ Wh rfl (by decide) (de_var (pv 0)) (fun _ => rfl)))), ?_⟩
    simp only [dRet, dAllW]
    simp (config := { maxSteps := 1000000 }) only [dSeq, dIfS, dTest, dOp, dUn, dVar, dC, dTup, dLst, dNil, dCons, dRet, dRetN, dDrop, dSet, dPar, dAsg, dgTup, dgCons, dgNil, dgName, dCB, dNext, dIf, dAnd, dOr, dNot, dNotV, dAndV, dOrV, dCall, dCallK, dRaise, dAug, dSl, dPart, dNoPart, startU_eq, List.map_cons, List.map_nil, List.cons_append, List.nil_append, List.length_cons, List.length_nil, List.replicate, List.getElem?_cons_zero, List.getElem?_cons_succ, List.getElem?_nil, List.set_cons_zero, List.set_cons_succ, Nat.reduceAdd, Nat.reduceSub, ex_uu, ex_bl, ex_tup, ex_lst, ex_int, ex_cons, ex_two, gEq_int, gNe_int, gEq_p2, gNe_p2, gEq_str, ixp0, ixp1, plus_int, star_int, gI_int, gIC_int, ix0, ix1, ix2, ix3, fGcd_int, fIsq_int, fAbs_int, fInt_int, fLen_tup, fLen_lst, fMax2_int, gNeg_int, gFdv, gMod, DL.gSub, gPow, gLt, gLe, gGt, gGe, eq_self, decide_eq_true_eq, Bool.not_eq_true', decide_eq_false_iff_not, true_and, and_true, if_true, if_false, Bool.false_eq_true, Bool.not_true, Bool.not_false]
    exact ⟨hn, hP, k⟩
end
end T01
set_option Elab.async false
set_option linter.all false
set_option maxRecDepth 100000
set_option maxHeartbeats 8000000
set_option exponentiation.threshold 10000
namespace T01
open PySem PySem.Spec PyProof.Rows L2 XR DL
/-! ### the squares within an integer -/
def sqF : Nat → Int → Int → Int → Int → Int × Int × Int
  | 0, o, i, r, _ => (o, i, r)
  | n + 1, o, i, r, k => if k * k * k ≤ r ∧ k ≤ 100000 then
      (if r % k = 0 then (if r.fdiv k % k = 0 then sqF n (o * k) i ((r.fdiv k).fdiv k) k else sqF n o (i * k) (r.fdiv k) k) else sqF n o i r (k + (1 + k % 2)))
    else (o, i, r)
def sqR (r : Int) : Int := ((Float64.isqrt r.toNat : Nat) : Int)
def sqs (n : Int) : Int × Int :=
  let t := sqF (n.toNat + 100001) 1 1 n 2
  if sqR t.2.2 * sqR t.2.2 = t.2.2 then (t.1 * sqR t.2.2, t.2.1) else (t.1, t.2.1 * t.2.2)
/-- what holds at each turn -/
structure SqI (n o i r k : Int) : Prop where
  eq : o * o * i * r = n
  o1 : 1 ≤ o
  i1 : 1 ≤ i
  r1 : 1 ≤ r
  k2 : 2 ≤ k
  kl : k ≤ 100002
theorem le_mul1 {a b : Int} (ha : 1 ≤ a) (hb : 1 ≤ b) : a ≤ a * b ∧ b ≤ a * b ∧ 1 ≤ a * b := by
  have h1 : a * 1 ≤ a * b := Int.mul_le_mul_of_nonneg_left hb (by omega)
  have h2 : 1 * b ≤ a * b := Int.mul_le_mul_of_nonneg_right ha (by omega)
  omega
theorem SqI.le {n o i r k : Int} (h : SqI n o i r k) : o ≤ n ∧ i ≤ n ∧ r ≤ n := by
  have h1 := le_mul1 h.o1 h.o1
  have h2 := le_mul1 h1.2.2 h.i1
  have h3 := le_mul1 h2.2.2 h.r1
  rw [h.eq] at h3
  omega
theorem fdiv_of {r k : Int} (hk : 2 ≤ k) (h : r % k = 0) : k * r.fdiv k = r := by
  have e : r.fdiv k = r / k := Int.fdiv_eq_ediv_of_nonneg r (by omega)
  rw [e]
  exact Int.mul_ediv_cancel' (Int.dvd_of_emod_eq_zero h)
theorem fdiv_lt {r k : Int} (hr : 1 ≤ r) (hk : 2 ≤ k) (h : r % k = 0) : 1 ≤ r.fdiv k ∧ r.fdiv k < r := by
  have e := fdiv_of hk h
  have h1 : 1 ≤ r.fdiv k := by
    by_cases q : 1 ≤ r.fdiv k
    · exact q
    · have : k * r.fdiv k ≤ 0 := Int.mul_nonpos_of_nonneg_of_nonpos (by omega) (by omega)
      omega
  have h2 : 2 * r.fdiv k ≤ k * r.fdiv k := Int.mul_le_mul_of_nonneg_right hk (by omega)
  omega
theorem sq_eq2 {n o i r k r1 r2 : Int} (h : o * o * i * r = n) (e1 : k * r1 = r) (e2 : k * r2 = r1) : o * k * (o * k) * i * r2 = n := by
  subst e2
  subst e1
  rw [← h]
  ac_rfl
theorem sq_eq1 {n o i r k r1 : Int} (h : o * o * i * r = n) (e1 : k * r1 = r) : o * o * (i * k) * r1 = n := by
  subst e1
  rw [← h]
  ac_rfl
theorem cfd_ok {j k : Int} (h : 2 ≤ k) (h2 : k ≤ 100002) : CFdv j k := by
  refine ⟨by omega, Nat.lt_of_lt_of_le (PySem.Flt.log2_lt_of (by decide : 0 < 20) ?_) (by decide)⟩
  show k.natAbs < 2 ^ 20
  omega
theorem sqR_bd {r : Int} (h : r < 2 ^ 64) (h0 : 0 ≤ r) : Bd 64 (sqR r) := by
  have h1 := (Float64.isqrt_spec r.toNat).1
  have h2 := Nat.le_mul_self (Float64.isqrt r.toNat)
  unfold Bd sqR
  rw [Int.natAbs_natCast]
  omega
section
variable {P : Program} {w : World} {K : PySem.W.Frag} {mg : Str → Option Value} {base : Heap}
theorem sc_square_split : FnScope ["size", "outside", "inside", "rest", "k", "root"] ["size"] (defScope s_square_split) := ⟨rfl, rfl, rfl, by decide +kernel, rfl, by decide +kernel, by decide +kernel⟩
def sp_square_split : SpD := fun m us Q _ => ∃ n, us = [.int n] ∧ 1 ≤ n ∧ n < 2 ^ 64 ∧ Q (.tup [.int (sqs n).1, .int (sqs n).2])
theorem ok_square_split {a : Addr} {fd : FuncData} (D : DL.Def K mg "square_split" s_square_split a fd) (T : TxtN K mg) {tl : Tok} (hl : mg "LAST_TRIED" = some (.int 100000 tl)) : Fd P w K mg base 1 a fd ["size"] sp_square_split := by
  refine fd_of D.F sc_square_split (fun m us Q Z h => ?_) (fun cdv A outer s H E m us Qd Zd hr hG tk h => ?_)
  · obtain ⟨n, rfl, _⟩ := h
    rfl
  · obtain ⟨n, rfl, n1, nb, k⟩ := h
    have hu := hr.units
    refine ⟨_, (dss_cons (ds_asg (de_tup (da_cons de_int (da_cons de_int (da_cons (de_var (pv 0)) (da_cons de_int da_nil))))) (dg_tup (n := 4) rfl (dgs_cons (dg_name (pg_name (i := 1) sc_square_split.nd rfl (.inl rfl))) (dgs_cons (dg_name (pg_name (i := 2) sc_square_split.nd rfl (.inl rfl))) (dgs_cons (dg_name (pg_name (i := 3) sc_square_split.nd rfl (.inl rfl))) (dgs_cons (dg_name (pg_name (i := 4) sc_square_split.nd rfl (.inl rfl))) dgs_nil))))))
    (dss_cons (ds_while (passes_of rfl) (L2.PW.pt (dw_and (dt_le (de_star (de_star (de_var (pv 4)) (de_var (pv 4))) (de_var (pv 4))) (de_var (pv 3))) (dw_and1 (dt_le (de_var (pv 4)) (de_gint (by rfl) hl))))) (dss_one (ds_if (dt_eq hu (de_mod (de_var (pv 3)) (de_var (pv 4))) de_int) (dss_cons (ds_set (i := 3) sc_square_split.nd rfl (.inl rfl) (de_fdv (de_var (pv 3)) (de_var (pv 4))))
    (dss_one (ds_if (dt_eq hu (de_mod (de_var (pv 3)) (de_var (pv 4))) de_int) (dss_cons (ds_set (i := 3) sc_square_split.nd rfl (.inl rfl) (de_fdv (de_var (pv 3)) (de_var (pv 4))))
    (dss_one (ds_set (i := 1) sc_square_split.nd rfl (.inl rfl) (de_star (de_var (pv 1)) (de_var (pv 4)))))) (dss_one (ds_set (i := 2) sc_square_split.nd rfl (.inl rfl) (de_star (de_var (pv 2)) (de_var (pv 4)))))))) (dss_one (ds_of_aug (ps_aug (i := 4) sc_square_split.nd rfl (.inl rfl) (de_plus de_int (de_mod (de_var (pv 4)) de_int)) ip_add))))))
    (dss_cons (ds_set (i := 5) sc_square_split.nd rfl (.inl rfl) (de_callB cal_isq (pe_callBfun cr_isq (by rfl) T.isqrt (da_cons (de_var (pv 3)) da_nil))))
    (dss_cons (ds_if (dt_eq hu (de_star (de_var (pv 5)) (de_var (pv 5))) (de_var (pv 3))) (dss_one (ds_ret (de_tup (da_cons (de_star (de_var (pv 1)) (de_var (pv 5))) (da_cons (de_var (pv 2)) da_nil))))) dss_nil)
    (dss_one (ds_ret (de_tup (da_cons (de_var (pv 1)) (da_cons (de_star (de_var (pv 2)) (de_var (pv 3))) da_nil))))))))), ?_⟩
    simp (config := { maxSteps := 1000000 }) only [dSeq, dIfS, dTest, dOp, dUn, dVar, dC, dTup, dLst, dNil, dCons, dRet, dRetN, dDrop, dSet, dPar, dAsg, dgTup, dgCons, dgNil, dgName, dCB, dNext, dIf, dAnd, dOr, dNot, dNotV, dAndV, dOrV, dCall, dCallK, dRaise, dAug, dSl, dPart, dNoPart, startU_eq, List.map_cons, List.map_nil, List.cons_append, List.nil_append, List.length_cons, List.length_nil, List.replicate, List.getElem?_cons_zero, List.getElem?_cons_succ, List.getElem?_nil, List.set_cons_zero, List.set_cons_succ, Nat.reduceAdd, Nat.reduceSub, ex_uu, ex_bl, ex_tup, ex_lst, ex_int, ex_cons, ex_two, gEq_int, gNe_int, gEq_p2, gNe_p2, gEq_str, ixp0, ixp1, plus_int, star_int, gI_int, gIC_int, ix0, ix1, ix2, ix3, fGcd_int, fIsq_int, fAbs_int, fInt_int, fLen_tup, fLen_lst, fMax2_int, gNeg_int, gFdv, gMod, DL.gSub, gPow, gLt, gLe, gGt, gGe, eq_self, decide_eq_true_eq, Bool.not_eq_true', decide_eq_false_iff_not, true_and, and_true, if_true, if_false, Bool.false_eq_true, Bool.not_true, Bool.not_false]
    refine ⟨le_line (by decide), ?_⟩
    unfold dWhile
    refine ⟨fun z ρ => ∃ o i r k, ρ = [some (.int n), some (.int o), some (.int i), some (.int r), some (.int k), none] ∧ SqI n o i r k ∧ r.toNat + (100003 - k).toNat ≤ z ∧ sqF z o i r k = sqF (n.toNat + 100001) 1 1 n 2,
      ⟨n.toNat + 100001, 1, 1, n, 2, rfl, ⟨by omega, by decide, by decide, n1, by decide, by decide⟩, by omega, rfl⟩, ?_⟩
    rintro z ρ ⟨o, i, r, k', rfl, hI, hm, ht⟩
    simp (config := { maxSteps := 1000000 }) only [dSeq, dIfS, dTest, dOp, dUn, dVar, dC, dTup, dLst, dNil, dCons, dRet, dRetN, dDrop, dSet, dPar, dAsg, dgTup, dgCons, dgNil, dgName, dCB, dNext, dIf, dAnd, dOr, dNot, dNotV, dAndV, dOrV, dCall, dCallK, dRaise, dAug, dSl, dPart, dNoPart, startU_eq, List.map_cons, List.map_nil, List.cons_append, List.nil_append, List.length_cons, List.length_nil, List.replicate, List.getElem?_cons_zero, List.getElem?_cons_succ, List.getElem?_nil, List.set_cons_zero, List.set_cons_succ, Nat.reduceAdd, Nat.reduceSub, ex_uu, ex_bl, ex_tup, ex_lst, ex_int, ex_cons, ex_two, gEq_int, gNe_int, gEq_p2, gNe_p2, gEq_str, ixp0, ixp1, plus_int, star_int, gI_int, gIC_int, ix0, ix1, ix2, ix3, fGcd_int, fIsq_int, fAbs_int, fInt_int, fLen_tup, fLen_lst, fMax2_int, gNeg_int, gFdv, gMod, DL.gSub, gPow, gLt, gLe, gGt, gGe, eq_self, decide_eq_true_eq, Bool.not_eq_true', decide_eq_false_iff_not, true_and, and_true, if_true, if_false, Bool.false_eq_true, Bool.not_true, Bool.not_false]
    have hle := hI.le
    have bk : Bd 20 k' := by
      have := hI.k2
      have := hI.kl
      unfold Bd
      omega
    have bo : Bd 64 o := by
      have := hI.o1
      unfold Bd
      omega
    have bi : Bd 64 i := by
      have := hI.i1
      unfold Bd
      omega
    have br : Bd 64 r := by
      have := hI.r1
      unfold Bd
      omega
    have two : 2 ≤ sizeLine := le_line (by decide)
    have fin : ¬ (k' * k' * k' ≤ r ∧ k' ≤ 100000) → 0 ≤ r ∧ r < 2 ^ 64 ∧ CMulW (sqR r) (sqR r) ∧ if sqR r * sqR r = r then CMulW o (sqR r) ∧ 2 ≤ sizeLine ∧ Qd (.tup [.int (o * sqR r), .int i]) else CMulW i r ∧ 2 ≤ sizeLine ∧ Qd (.tup [.int o, .int (i * r)]) := by
      intro hc
      have r1 := hI.r1
      have e1 : sqF z o i r k' = (o, i, r) := by
        cases z with
        | zero => rfl
        | succ z =>
          unfold sqF
          rw [if_neg hc]
      have es : sqs n = if sqR r * sqR r = r then (o * sqR r, i) else (o, i * r) := by
        unfold sqs
        rw [← ht, e1]
      have bq := sqR_bd (r := r) (by omega) (by omega)
      refine ⟨by omega, by omega, mul_ok 64 64 bq bq (by decide) (by decide) (by decide), ?_⟩
      by_cases h : sqR r * sqR r = r
      · rw [if_pos h] at es ⊢
        rw [es] at k
        exact ⟨mul_ok 64 64 bo bq (by decide) (by decide) (by decide), two, k⟩
      · rw [if_neg h] at es ⊢
        rw [es] at k
        exact ⟨mul_ok 64 64 bi br (by decide) (by decide) (by decide), two, k⟩
    refine ⟨mul_ok 20 20 bk bk (by decide) (by decide) (by decide), mul_ok 40 20 (bd_mul 20 20 bk bk) bk (by decide) (by decide) (by decide), ?_⟩
    by_cases c1 : k' * k' * k' ≤ r
    · rw [if_pos c1]
      by_cases c2 : k' ≤ 100000
      · rw [if_pos c2]
        have k2 := hI.k2
        have r1 := hI.r1
        obtain ⟨z', rfl⟩ : ∃ z', z = z' + 1 := ⟨z - 1, by omega⟩
        unfold sqF at ht
        rw [if_pos ⟨c1, c2⟩] at ht
        refine ⟨by omega, ?_⟩
        by_cases m1 : r % k' = 0
        · rw [if_pos m1] at ht ⊢
          have f1 := fdiv_lt r1 k2 m1
          have e1 := fdiv_of k2 m1
          refine ⟨cfd_ok k2 hI.kl, by omega, ?_⟩
          by_cases m2 : r.fdiv k' % k' = 0
          · rw [if_pos m2] at ht ⊢
            have f2 := fdiv_lt f1.1 k2 m2
            have e2 := fdiv_of k2 m2
            exact ⟨cfd_ok k2 hI.kl, mul_ok 64 20 bo bk (by decide) (by decide) (by decide), z', by omega, o * k', i, (r.fdiv k').fdiv k', k', rfl, ⟨sq_eq2 hI.eq e1 e2, (le_mul1 hI.o1 (by omega)).2.2, hI.i1, f2.1, k2, hI.kl⟩, by omega, ht⟩
          · rw [if_neg m2] at ht ⊢
            exact ⟨mul_ok 64 20 bi bk (by decide) (by decide) (by decide), z', by omega, o, i * k', r.fdiv k', k', rfl, ⟨sq_eq1 hI.eq e1, hI.o1, (le_mul1 hI.i1 (by omega)).2.2, f1.1, k2, hI.kl⟩, by omega, ht⟩
        · rw [if_neg m1] at ht ⊢
          exact ⟨by decide, _, _, rfl, rfl, z', by omega, o, i, r, k' + (1 + k' % 2), rfl, ⟨hI.eq, hI.o1, hI.i1, r1, by omega, by omega⟩, by omega, ht⟩
      · rw [if_neg c2]
        exact fin fun z => c2 z.2
    · rw [if_neg c1]
      exact fin fun z => c1 z.1
theorem sc_is_square_free : FnScope ["number", "outside", "_"] ["number"] (defScope s_is_square_free) := ⟨rfl, rfl, rfl, by decide +kernel, rfl, by decide +kernel, by decide +kernel⟩
def sp_is_square_free : SpD := fun m us Q _ => ∃ n : Int, us = [.int n] ∧ n ≠ 0 ∧ n.natAbs < 2 ^ 64 ∧ Q (.bl (decide ((sqs ((n.natAbs : Nat) : Int)).1 = 1)))
theorem ok_is_square_free {a a1 : Addr} {fd fd1 : FuncData} (D : DL.Def K mg "is_square_free" s_is_square_free a fd) (D_square_split : DL.Def K mg "square_split" s_square_split a1 fd1) (T : TxtN K mg) (gabs : mg "abs" = none) {tl : Tok} (hl : mg "LAST_TRIED" = some (.int 100000 tl)) : Fd P w K mg base 2 a fd ["number"] sp_is_square_free := by
  have G_square_split : Fd P w K mg base 1 a1 fd1 ["size"] sp_square_split := ok_square_split D_square_split T hl
  have b_square_split : Binds K fd1 ["size"] [] := D_square_split.F.binds fun _ _ _ _ _ _ us hl => match us, hl with | [_], _ => rfl
  refine fd_of D.F sc_is_square_free (fun m us Q Z h => ?_) (fun cdv A outer s H E m us Qd Zd hr hG tk h => ?_)
  · obtain ⟨n, rfl, _⟩ := h
    rfl
  · obtain ⟨n, rfl, n0, nb, k⟩ := h
    have hu := hr.units
    refine ⟨_, (dss_cons (ds_asg (de_call G_square_split (hr.mono (by decide)) hG tk (by rfl) D_square_split.g D_square_split.F.kp b_square_split (da_cons (de_callB cal_abs (pe_callB call_abs (by rfl) gabs PyProof.Rows.boot_abs (da_cons (de_var (pv 0)) da_nil))) da_nil)) (dg_tup (n := 2) rfl (dgs_cons (dg_name (pg_name (i := 1) sc_is_square_free.nd rfl (.inl rfl))) (dgs_cons (dg_name (pg_name (i := 2) sc_is_square_free.nd rfl (.inl rfl))) dgs_nil))))
    (dss_one (ds_ret (de_eq hu (de_var (pv 1)) de_int)))), ?_⟩
    simp (config := { maxSteps := 1000000 }) only [dSeq, dIfS, dTest, dOp, dUn, dVar, dC, dTup, dLst, dNil, dCons, dRet, dRetN, dDrop, dSet, dPar, dAsg, dgTup, dgCons, dgNil, dgName, dCB, dNext, dIf, dAnd, dOr, dNot, dNotV, dAndV, dOrV, dCall, dCallK, dRaise, dAug, dSl, dPart, dNoPart, startU_eq, List.map_cons, List.map_nil, List.cons_append, List.nil_append, List.length_cons, List.length_nil, List.replicate, List.getElem?_cons_zero, List.getElem?_cons_succ, List.getElem?_nil, List.set_cons_zero, List.set_cons_succ, Nat.reduceAdd, Nat.reduceSub, ex_uu, ex_bl, ex_tup, ex_lst, ex_int, ex_cons, ex_two, gEq_int, gNe_int, gEq_p2, gNe_p2, gEq_str, ixp0, ixp1, plus_int, star_int, gI_int, gIC_int, ix0, ix1, ix2, ix3, fGcd_int, fIsq_int, fAbs_int, fInt_int, fLen_tup, fLen_lst, fMax2_int, gNeg_int, gFdv, gMod, DL.gSub, gPow, gLt, gLe, gGt, gGe, eq_self, decide_eq_true_eq, Bool.not_eq_true', decide_eq_false_iff_not, true_and, and_true, if_true, if_false, Bool.false_eq_true, Bool.not_true, Bool.not_false]
    have e : (if n < 0 then -n else n) = ((n.natAbs : Nat) : Int) := by
      split <;> omega
    rw [e]
    refine ⟨_, rfl, by omega, by omega, _, rfl, ?_⟩
    simp (config := { maxSteps := 1000000 }) only [dSeq, dIfS, dTest, dOp, dUn, dVar, dC, dTup, dLst, dNil, dCons, dRet, dRetN, dDrop, dSet, dPar, dAsg, dgTup, dgCons, dgNil, dgName, dCB, dNext, dIf, dAnd, dOr, dNot, dNotV, dAndV, dOrV, dCall, dCallK, dRaise, dAug, dSl, dPart, dNoPart, startU_eq, List.map_cons, List.map_nil, List.cons_append, List.nil_append, List.length_cons, List.length_nil, List.replicate, List.getElem?_cons_zero, List.getElem?_cons_succ, List.getElem?_nil, List.set_cons_zero, List.set_cons_succ, Nat.reduceAdd, Nat.reduceSub, ex_uu, ex_bl, ex_tup, ex_lst, ex_int, ex_cons, ex_two, gEq_int, gNe_int, gEq_p2, gNe_p2, gEq_str, ixp0, ixp1, plus_int, star_int, gI_int, gIC_int, ix0, ix1, ix2, ix3, fGcd_int, fIsq_int, fAbs_int, fInt_int, fLen_tup, fLen_lst, fMax2_int, gNeg_int, gFdv, gMod, DL.gSub, gPow, gLt, gLe, gGt, gGe, eq_self, decide_eq_true_eq, Bool.not_eq_true', decide_eq_false_iff_not, true_and, and_true, if_true, if_false, Bool.false_eq_true, Bool.not_true, Bool.not_false]
    exact k
end
end T01
set_option Elab.async false
set_option linter.all false
set_option maxRecDepth 100000
set_option maxHeartbeats 8000000
set_option exponentiation.threshold 10000
namespace T01
open PySem PySem.Spec PyProof.Rows L2 XR DL
/-! ### what is a number -/
def numF (p q s d : Int) : Bool := decide (1 ≤ s) && (decide (((Nat.gcd ((Nat.gcd p.natAbs q.natAbs : Nat) : Int).natAbs s.natAbs : Nat) : Int) = 1) && (if q = 0 then decide (d = 1) else (!decide (d = 0)) && ((!decide (d = 1)) && decide ((if d < 0 then -d else d) ≤ 1000000000000))))
def formN : U → Bool
  | .tup [.int p, .int q, .int s, .int d] => numF p q s d
  | _ => false
def okU (u : U) : Prop := notRaw u = true ∧ ∀ ts, u = .tup ts → ts.all notRaw = true
theorem fIsi_of {u : U} {n t : String} {b : Bool} {Q : U → Prop} (h : tyN u = some t) (k : kitB t n = some b) (q : Q (.bl b)) : fIsi [u, .raw (.ty n)] Q := ⟨u, n, t, b, rfl, h, k, q⟩
theorem ints4 {ts : List U} (h : ts.length = 4) (g : ts.all isIntU = true) : ∃ p q s d : Int, ts = [.int p, .int q, .int s, .int d] := by
  match ts, h with
  | [a, b, c, d], _ =>
    have ha := List.all_eq_true.mp g a (by simp)
    have hb := List.all_eq_true.mp g b (by simp)
    have hc := List.all_eq_true.mp g c (by simp)
    have hd := List.all_eq_true.mp g d (by simp)
    cases a <;> first | cases ha | skip
    cases b <;> first | cases hb | skip
    cases c <;> first | cases hc | skip
    cases d <;> first | cases hd | skip
    exact ⟨_, _, _, _, rfl⟩
theorem form_len {ts : List U} (h : ts.length ≠ 4) : formN (.tup ts) = false := by
  unfold formN
  split
  · rename_i p q s d e
    injection e with e
    subst e
    exact absurd rfl h
  · rfl
theorem form_int {ts : List U} (h : ts.all isIntU = false) : formN (.tup ts) = false := by
  unfold formN
  split
  · rename_i p q s d e
    injection e with e
    subst e
    cases h
  · rfl
section
variable {P : Program} {w : World} {K : PySem.W.Frag} {mg : Str → Option Value} {base : Heap}
theorem sc_has_form : FnScope ["thing", "p", "q", "s", "d"] ["thing"] (defScope s_has_form) := ⟨rfl, rfl, rfl, by decide +kernel, rfl, by decide +kernel, by decide +kernel⟩
def sp_has_form (P0 : Addr) : SpD := fun m us Q _ => ∃ u, us = [u] ∧ okU u ∧ P0 ∈ m.tabs ∧ Q (.bl (formN u))
theorem ok_has_form {a a1 f c P0 : Addr} {fd fd1 : FuncData} (D : DL.Def K mg "has_form" s_has_form a fd) (D_are_whole : DL.Def K mg "are_whole" s_are_whole a1 fd1) (C : CodeAt base mg fd1 c P0) (Wh : WholeAt K mg f) (gall : mg "all" = none) (T : TxtN K mg) (glen : mg "len" = none) (gtup : mg "tuple" = none) (gabs : mg "abs" = none)
    {tl : Tok} (hl : mg "LARGEST_ROOT" = some (.int 1000000000000 tl)) : Fd P w K mg base 3 a fd ["thing"] (sp_has_form P0) := by
  have G_are_whole : Fd P w K mg base 2 a1 fd1 ["things"] (sp_are_whole P0) := ok_are_whole D_are_whole C Wh gall
  have b_are_whole : Binds K fd1 ["things"] [] := D_are_whole.F.binds fun _ _ _ _ _ _ us hl => match us, hl with | [_], _ => rfl
  refine fd_of D.F sc_has_form (fun m us Q Z h => ?_) (fun cdv A outer s H E m us Qd Zd hr hG tk h => ?_)
  · obtain ⟨u, rfl, _⟩ := h
    rfl
  · obtain ⟨u, rfl, ⟨hn, ht⟩, hP, k⟩ := h
    have hu := hr.units
    refine ⟨_, (dss_cons (ds_if (L2.PW.pt (dw_or (dt_not (dt_val (de_callB cal_isi (pe_callB call_isi (by rfl) Wh.isi (by decide +kernel) (da_cons (de_var (pv 0)) (da_cons (de_ty (n := "tuple") (by rfl) gtup (by decide +kernel)) da_nil)))))) (dw_or (dt_ne hu (de_callB cal_len (pe_callB call_len_seq (by rfl) glen PySem.boot_len (da_cons (de_var (pv 0)) da_nil))) de_int) (dw_or1 (dt_not (dt_val (de_call G_are_whole (hr.mono (by decide)) hG tk (by rfl) D_are_whole.g D_are_whole.F.kp b_are_whole (da_cons (de_var (pv 0)) da_nil)))))))) (dss_one (ds_ret de_bl)) dss_nil)
    (dss_cons (ds_asg (de_var (pv 0)) (dg_tup (n := 4) rfl (dgs_cons (dg_name (pg_name (i := 1) sc_has_form.nd rfl (.inl rfl))) (dgs_cons (dg_name (pg_name (i := 2) sc_has_form.nd rfl (.inl rfl))) (dgs_cons (dg_name (pg_name (i := 3) sc_has_form.nd rfl (.inl rfl))) (dgs_cons (dg_name (pg_name (i := 4) sc_has_form.nd rfl (.inl rfl))) dgs_nil))))))
    (dss_cons (ds_if (L2.PW.pt (dw_or (dt_lt (de_var (pv 3)) de_int) (dw_or1 (dt_ne hu (de_callB cal_gcd (pe_callBfun cr_gcd (by rfl) T.gcd (da_cons (de_callB cal_gcd (pe_callBfun cr_gcd (by rfl) T.gcd (da_cons (de_var (pv 1)) (da_cons (de_var (pv 2)) da_nil)))) (da_cons (de_var (pv 3)) da_nil)))) de_int)))) (dss_one (ds_ret de_bl)) dss_nil)
    (dss_cons (ds_if (dt_eq hu (de_var (pv 2)) de_int) (dss_one (ds_ret (de_eq hu (de_var (pv 4)) de_int))) dss_nil)
    (dss_one (ds_ret (de_and (de_ne hu (de_var (pv 4)) de_int) (de_and (de_ne hu (de_var (pv 4)) de_int) (de_bool1 (de_le (de_callB cal_abs (pe_callB call_abs (by rfl) gabs PyProof.Rows.boot_abs (da_cons (de_var (pv 4)) da_nil))) (de_gint (by rfl) hl))))))))))), ?_⟩
    simp (config := { maxSteps := 1000000 }) only [dSeq, dIfS, dTest, dOp, dUn, dVar, dC, dTup, dLst, dNil, dCons, dRet, dRetN, dDrop, dSet, dPar, dAsg, dgTup, dgCons, dgNil, dgName, dCB, dNext, dIf, dAnd, dOr, dNot, dNotV, dAndV, dOrV, dCall, dCallK, dRaise, dAug, dSl, dPart, dNoPart, startU_eq, List.map_cons, List.map_nil, List.cons_append, List.nil_append, List.length_cons, List.length_nil, List.replicate, List.getElem?_cons_zero, List.getElem?_cons_succ, List.getElem?_nil, List.set_cons_zero, List.set_cons_succ, Nat.reduceAdd, Nat.reduceSub, ex_uu, ex_bl, ex_tup, ex_lst, ex_int, ex_cons, ex_two, gEq_int, gNe_int, gEq_p2, gNe_p2, gEq_str, ixp0, ixp1, plus_int, star_int, gI_int, gIC_int, ix0, ix1, ix2, ix3, fGcd_int, fIsq_int, fAbs_int, fInt_int, fLen_tup, fLen_lst, fMax2_int, gNeg_int, gFdv, gMod, DL.gSub, gPow, gLt, gLe, gGt, gGe, eq_self, decide_eq_true_eq, Bool.not_eq_true', decide_eq_false_iff_not, true_and, and_true, if_true, if_false, Bool.false_eq_true, Bool.not_true, Bool.not_false]
    cases u with
    | non => exact fIsi_of (b := false) rfl (by decide +kernel) ⟨_, rfl, by rw [if_pos rfl]; exact k⟩
    | bl b => exact fIsi_of (b := false) rfl (by decide +kernel) ⟨_, rfl, by rw [if_pos rfl]; exact k⟩
    | int i => exact fIsi_of (b := false) rfl (by decide +kernel) ⟨_, rfl, by rw [if_pos rfl]; exact k⟩
    | str x => exact fIsi_of (b := false) rfl (by decide +kernel) ⟨_, rfl, by rw [if_pos rfl]; exact k⟩
    | lst us => exact fIsi_of (b := false) rfl (by decide +kernel) ⟨_, rfl, by rw [if_pos rfl]; exact k⟩
    | dct ks us => exact fIsi_of (b := false) rfl (by decide +kernel) ⟨_, rfl, by rw [if_pos rfl]; exact k⟩
    | dpt ks us => exact fIsi_of (b := false) rfl (by decide +kernel) ⟨_, rfl, by rw [if_pos rfl]; exact k⟩
    | raw v => cases hn
    | tup ts =>
      refine fIsi_of (b := true) rfl (by decide +kernel) ⟨_, rfl, ?_⟩
      rw [if_neg (fun z => Bool.noConfusion z)]
      simp (config := { maxSteps := 1000000 }) only [dSeq, dIfS, dTest, dOp, dUn, dVar, dC, dTup, dLst, dNil, dCons, dRet, dRetN, dDrop, dSet, dPar, dAsg, dgTup, dgCons, dgNil, dgName, dCB, dNext, dIf, dAnd, dOr, dNot, dNotV, dAndV, dOrV, dCall, dCallK, dRaise, dAug, dSl, dPart, dNoPart, startU_eq, List.map_cons, List.map_nil, List.cons_append, List.nil_append, List.length_cons, List.length_nil, List.replicate, List.getElem?_cons_zero, List.getElem?_cons_succ, List.getElem?_nil, List.set_cons_zero, List.set_cons_succ, Nat.reduceAdd, Nat.reduceSub, ex_uu, ex_bl, ex_tup, ex_lst, ex_int, ex_cons, ex_two, gEq_int, gNe_int, gEq_p2, gNe_p2, gEq_str, ixp0, ixp1, plus_int, star_int, gI_int, gIC_int, ix0, ix1, ix2, ix3, fGcd_int, fIsq_int, fAbs_int, fInt_int, fLen_tup, fLen_lst, fMax2_int, gNeg_int, gFdv, gMod, DL.gSub, gPow, gLt, gLe, gGt, gGe, eq_self, decide_eq_true_eq, Bool.not_eq_true', decide_eq_false_iff_not, true_and, and_true, if_true, if_false, Bool.false_eq_true, Bool.not_true, Bool.not_false]
      by_cases h4 : ts.length = 4
      · have e4 : ((ts.length : Nat) : Int) = 4 := by omega
        simp only [e4, decide_true, Bool.not_true, Bool.false_eq_true, if_false, not_true_eq_false]
        refine ⟨ts, rfl, ht ts rfl, hP, _, rfl, ?_⟩
        cases hw : ts.all isIntU with
        | false =>
          rw [form_int hw] at k
          exact k
        | true =>
          obtain ⟨p, q, s, d, rfl⟩ := ints4 h4 hw
          simp (config := { maxSteps := 1000000 }) only [dSeq, dIfS, dTest, dOp, dUn, dVar, dC, dTup, dLst, dNil, dCons, dRet, dRetN, dDrop, dSet, dPar, dAsg, dgTup, dgCons, dgNil, dgName, dCB, dNext, dIf, dAnd, dOr, dNot, dNotV, dAndV, dOrV, dCall, dCallK, dRaise, dAug, dSl, dPart, dNoPart, startU_eq, List.map_cons, List.map_nil, List.cons_append, List.nil_append, List.length_cons, List.length_nil, List.replicate, List.getElem?_cons_zero, List.getElem?_cons_succ, List.getElem?_nil, List.set_cons_zero, List.set_cons_succ, Nat.reduceAdd, Nat.reduceSub, ex_uu, ex_bl, ex_tup, ex_lst, ex_int, ex_cons, ex_two, gEq_int, gNe_int, gEq_p2, gNe_p2, gEq_str, ixp0, ixp1, plus_int, star_int, gI_int, gIC_int, ix0, ix1, ix2, ix3, fGcd_int, fIsq_int, fAbs_int, fInt_int, fLen_tup, fLen_lst, fMax2_int, gNeg_int, gFdv, gMod, DL.gSub, gPow, gLt, gLe, gGt, gGe, eq_self, decide_eq_true_eq, Bool.not_eq_true', decide_eq_false_iff_not, true_and, and_true, if_true, if_false, Bool.false_eq_true, Bool.not_true, Bool.not_false]
          have k' : Qd (.bl (numF p q s d)) := k
          rw [if_neg (fun z => Bool.noConfusion z)]
          unfold numF at k'
          by_cases c1 : s < 1
          · rw [if_pos c1]
            have c1' : ¬ 1 ≤ s := by omega
            simp only [c1', decide_false, Bool.false_and] at k'
            exact k'
          · rw [if_neg c1]
            have c1' : 1 ≤ s := by omega
            simp only [c1', decide_true, Bool.true_and] at k'
            by_cases c2 : ((Nat.gcd ((Nat.gcd p.natAbs q.natAbs : Nat) : Int).natAbs s.natAbs : Nat) : Int) = 1
            · rw [if_neg (not_not_intro c2)]
              simp only [c2, decide_true, Bool.true_and] at k'
              by_cases c3 : q = 0
              · rw [if_pos c3] at k' ⊢
                exact k'
              · rw [if_neg c3] at k' ⊢
                by_cases c4 : d = 0
                · rw [if_neg (not_not_intro c4)]
                  simp only [c4, decide_true, Bool.not_true, Bool.false_and] at k'
                  exact k'
                · rw [if_pos c4]
                  by_cases c5 : d = 1
                  · rw [if_neg (not_not_intro c5)]
                    simp only [c4, c5, decide_true, decide_false, Bool.not_true, Bool.not_false, Bool.false_and, Bool.and_false] at k'
                    exact k'
                  · rw [if_pos c5]
                    simp only [c4, c5, decide_false, Bool.not_false, Bool.true_and] at k'
                    exact k'
            · rw [if_pos c2]
              simp only [c2, decide_false, Bool.false_and] at k'
              exact k'
      · have e4 : ¬ ((ts.length : Nat) : Int) = 4 := by omega
        rw [form_len h4] at k
        simp only [e4, decide_false, Bool.not_false, if_true, not_false_eq_true]
        exact k
theorem form_true {u : U} (h : formN u = true) : ∃ p q s d : Int, u = n4 p q s d ∧ numF p q s d = true := by
  unfold formN at h
  split at h
  · exact ⟨_, _, _, _, rfl, h⟩
  · cases h
theorem num_d {p q s d : Int} (h : numF p q s d = true) : d ≠ 0 ∧ d.natAbs ≤ 1000000000000 := by
  unfold numF at h
  simp only [Bool.and_eq_true, decide_eq_true_eq] at h
  obtain ⟨_, _, h⟩ := h
  by_cases c : q = 0
  · rw [if_pos c] at h
    have := of_decide_eq_true h
    omega
  · rw [if_neg c] at h
    simp only [Bool.and_eq_true, Bool.not_eq_true', decide_eq_false_iff_not, decide_eq_true_eq] at h
    obtain ⟨h1, _, h3⟩ := h
    split at h3 <;> omega
/-- the root that the numbers share -/
def togF : Int → List U → Option Int
  | sh, [] => some sh
  | sh, u :: us => match u with
    | .tup [.int p, .int q, .int s, .int d] => if numF p q s d = true then (if q = 0 then togF sh us else if sh ≠ 1 ∧ sh ≠ d then none else togF d us) else none
    | _ => none
def togN (ts : List U) : Bool := match togF 1 ts with
  | some sh => decide ((sqs ((sh.natAbs : Nat) : Int)).1 = 1)
  | none => false
theorem tog_bad {sh : Int} {u : U} {us : List U} (h : formN u = false) : togF sh (u :: us) = none := by
  unfold togF
  split
  · rename_i p q s d
    have z : numF p q s d = false := h
    rw [z, if_neg (fun z => Bool.noConfusion z)]
  · rfl
theorem tog_ok {sh p q s d : Int} {us : List U} (h : numF p q s d = true) : togF sh (n4 p q s d :: us) = if q = 0 then togF sh us else if sh ≠ 1 ∧ sh ≠ d then none else togF d us := by
  show (if numF p q s d = true then _ else _) = _
  rw [if_pos h]
theorem sc_are_together : FnScope ["things", "shared", "thing"] ["things"] (defScope s_are_together) := ⟨rfl, rfl, rfl, by decide +kernel, rfl, by decide +kernel, by decide +kernel⟩
def sp_are_together (P0 : Addr) : SpD := fun m us Q _ => ∃ ts, us = [.tup ts] ∧ (∀ u ∈ ts, okU u) ∧ P0 ∈ m.tabs ∧ Q (.bl (togN ts))
theorem ok_are_together {a a1 a2 : Addr} {fd fd1 fd2 : FuncData} {P0 : Addr} (D : DL.Def K mg "are_together" s_are_together a fd) (D_has_form : DL.Def K mg "has_form" s_has_form a1 fd1) (G_has_form : Fd P w K mg base 3 a1 fd1 ["thing"] (sp_has_form P0)) (D_is_square_free : DL.Def K mg "is_square_free" s_is_square_free a2 fd2)
    (G_is_square_free : Fd P w K mg base 2 a2 fd2 ["number"] sp_is_square_free) : Fd P w K mg base 4 a fd ["things"] (sp_are_together P0) := by
  have b_has_form : Binds K fd1 ["thing"] [] := D_has_form.F.binds fun _ _ _ _ _ _ us hl => match us, hl with | [_], _ => rfl
  have b_is_square_free : Binds K fd2 ["number"] [] := D_is_square_free.F.binds fun _ _ _ _ _ _ us hl => match us, hl with | [_], _ => rfl
  refine fd_of D.F sc_are_together (fun m us Q Z h => ?_) (fun cdv A outer s H E m us Qd Zd hr hG tk h => ?_)
  · obtain ⟨ts, rfl, _⟩ := h
    rfl
  · obtain ⟨ts, rfl, ho, hP, k⟩ := h
    have hu := hr.units
    refine ⟨_, (dss_cons (ds_set (i := 1) sc_are_together.nd rfl (.inl rfl) de_int)
    (dss_cons (ds_for (ps_for (passes_of rfl) rfl (di_tup (de_var (pv 0))) (dg_name (pg_name (i := 2) sc_are_together.nd rfl (.inl rfl))) (dss_cons (ds_if (dt_not (dt_val (de_call G_has_form (hr.mono (by decide)) hG tk (by rfl) D_has_form.g D_has_form.F.kp b_has_form (da_cons (de_var (pv 2)) da_nil)))) (dss_one (ds_ret de_bl)) dss_nil)
    (dss_one (ds_if (dt_ne hu (de_ix (de_var (pv 2)) de_int (fun _ _ => rfl)) de_int) (dss_cons (ds_if (L2.PW.pt (dw_and (dt_ne hu (de_var (pv 1)) de_int) (dw_and1 (dt_ne hu (de_var (pv 1)) (de_ix (de_var (pv 2)) de_int (fun _ _ => rfl)))))) (dss_one (ds_ret de_bl)) dss_nil)
    (dss_one (ds_set (i := 1) sc_are_together.nd rfl (.inl rfl) (de_ix (de_var (pv 2)) de_int (fun _ _ => rfl))))) dss_nil)))))
    (dss_one (ds_ret (de_call G_is_square_free (hr.mono (by decide)) hG tk (by rfl) D_is_square_free.g D_is_square_free.F.kp b_is_square_free (da_cons (de_var (pv 1)) da_nil)))))), ?_⟩
    simp (config := { maxSteps := 1000000 }) only [dSeq, dIfS, dTest, dOp, dUn, dVar, dC, dTup, dLst, dNil, dCons, dRet, dRetN, dDrop, dSet, dPar, dAsg, dgTup, dgCons, dgNil, dgName, dCB, dNext, dIf, dAnd, dOr, dNot, dNotV, dAndV, dOrV, dCall, dCallK, dRaise, dAug, dSl, dPart, dNoPart, startU_eq, List.map_cons, List.map_nil, List.cons_append, List.nil_append, List.length_cons, List.length_nil, List.replicate, List.getElem?_cons_zero, List.getElem?_cons_succ, List.getElem?_nil, List.set_cons_zero, List.set_cons_succ, Nat.reduceAdd, Nat.reduceSub, ex_uu, ex_bl, ex_tup, ex_lst, ex_int, ex_cons, ex_two, gEq_int, gNe_int, gEq_p2, gNe_p2, gEq_str, ixp0, ixp1, plus_int, star_int, gI_int, gIC_int, ix0, ix1, ix2, ix3, fGcd_int, fIsq_int, fAbs_int, fInt_int, fLen_tup, fLen_lst, fMax2_int, gNeg_int, gFdv, gMod, DL.gSub, gPow, gLt, gLe, gGt, gGe, eq_self, decide_eq_true_eq, Bool.not_eq_true', decide_eq_false_iff_not, true_and, and_true, if_true, if_false, Bool.false_eq_true, Bool.not_true, Bool.not_false]
    simp only [dFor, dItT]
    simp (config := { maxSteps := 1000000 }) only [dSeq, dIfS, dTest, dOp, dUn, dVar, dC, dTup, dLst, dNil, dCons, dRet, dRetN, dDrop, dSet, dPar, dAsg, dgTup, dgCons, dgNil, dgName, dCB, dNext, dIf, dAnd, dOr, dNot, dNotV, dAndV, dOrV, dCall, dCallK, dRaise, dAug, dSl, dPart, dNoPart, startU_eq, List.map_cons, List.map_nil, List.cons_append, List.nil_append, List.length_cons, List.length_nil, List.replicate, List.getElem?_cons_zero, List.getElem?_cons_succ, List.getElem?_nil, List.set_cons_zero, List.set_cons_succ, Nat.reduceAdd, Nat.reduceSub, ex_uu, ex_bl, ex_tup, ex_lst, ex_int, ex_cons, ex_two, gEq_int, gNe_int, gEq_p2, gNe_p2, gEq_str, ixp0, ixp1, plus_int, star_int, gI_int, gIC_int, ix0, ix1, ix2, ix3, fGcd_int, fIsq_int, fAbs_int, fInt_int, fLen_tup, fLen_lst, fMax2_int, gNeg_int, gFdv, gMod, DL.gSub, gPow, gLt, gLe, gGt, gGe, eq_self, decide_eq_true_eq, Bool.not_eq_true', decide_eq_false_iff_not, true_and, and_true, if_true, if_false, Bool.false_eq_true, Bool.not_true, Bool.not_false]
    refine ⟨fun i ρ' => ∃ sh th, ρ' = [some (.tup ts), some (.int sh), th] ∧ togF sh (ts.drop i) = togF 1 ts ∧ sh ≠ 0 ∧ sh.natAbs ≤ 1000000000000, ⟨1, _, rfl, rfl, by decide, by decide⟩, ?_, ?_⟩
    · rintro i u ρ' hi ⟨sh, th, rfl, ht, s0, sb⟩
      have hd : ts.drop i = u :: ts.drop (i + 1) := by
        obtain ⟨hl, e⟩ := List.getElem?_eq_some_iff.mp hi
        rw [← e]
        exact List.drop_eq_getElem_cons hl
      rw [hd] at ht
      simp (config := { maxSteps := 1000000 }) only [dSeq, dIfS, dTest, dOp, dUn, dVar, dC, dTup, dLst, dNil, dCons, dRet, dRetN, dDrop, dSet, dPar, dAsg, dgTup, dgCons, dgNil, dgName, dCB, dNext, dIf, dAnd, dOr, dNot, dNotV, dAndV, dOrV, dCall, dCallK, dRaise, dAug, dSl, dPart, dNoPart, startU_eq, List.map_cons, List.map_nil, List.cons_append, List.nil_append, List.length_cons, List.length_nil, List.replicate, List.getElem?_cons_zero, List.getElem?_cons_succ, List.getElem?_nil, List.set_cons_zero, List.set_cons_succ, Nat.reduceAdd, Nat.reduceSub, ex_uu, ex_bl, ex_tup, ex_lst, ex_int, ex_cons, ex_two, gEq_int, gNe_int, gEq_p2, gNe_p2, gEq_str, ixp0, ixp1, plus_int, star_int, gI_int, gIC_int, ix0, ix1, ix2, ix3, fGcd_int, fIsq_int, fAbs_int, fInt_int, fLen_tup, fLen_lst, fMax2_int, gNeg_int, gFdv, gMod, DL.gSub, gPow, gLt, gLe, gGt, gGe, eq_self, decide_eq_true_eq, Bool.not_eq_true', decide_eq_false_iff_not, true_and, and_true, if_true, if_false, Bool.false_eq_true, Bool.not_true, Bool.not_false]
      refine ⟨u, rfl, ho u (List.mem_of_getElem? hi), hP, _, rfl, ?_⟩
      cases hf : formN u with
      | false =>
        rw [tog_bad hf] at ht
        have e : togN ts = false := by
          unfold togN
          rw [← ht]
        rw [e] at k
        rw [if_pos rfl]
        exact k
      | true =>
        obtain ⟨p, q, s, d, rfl, hnum⟩ := form_true hf
        have hd2 := num_d hnum
        rw [tog_ok hnum] at ht
        rw [if_neg (fun z => Bool.noConfusion z)]
        simp (config := { maxSteps := 1000000 }) only [dSeq, dIfS, dTest, dOp, dUn, dVar, dC, dTup, dLst, dNil, dCons, dRet, dRetN, dDrop, dSet, dPar, dAsg, dgTup, dgCons, dgNil, dgName, dCB, dNext, dIf, dAnd, dOr, dNot, dNotV, dAndV, dOrV, dCall, dCallK, dRaise, dAug, dSl, dPart, dNoPart, startU_eq, List.map_cons, List.map_nil, List.cons_append, List.nil_append, List.length_cons, List.length_nil, List.replicate, List.getElem?_cons_zero, List.getElem?_cons_succ, List.getElem?_nil, List.set_cons_zero, List.set_cons_succ, Nat.reduceAdd, Nat.reduceSub, ex_uu, ex_bl, ex_tup, ex_lst, ex_int, ex_cons, ex_two, gEq_int, gNe_int, gEq_p2, gNe_p2, gEq_str, ixp0, ixp1, plus_int, star_int, gI_int, gIC_int, ix0, ix1, ix2, ix3, fGcd_int, fIsq_int, fAbs_int, fInt_int, fLen_tup, fLen_lst, fMax2_int, gNeg_int, gFdv, gMod, DL.gSub, gPow, gLt, gLe, gGt, gGe, eq_self, decide_eq_true_eq, Bool.not_eq_true', decide_eq_false_iff_not, true_and, and_true, if_true, if_false, Bool.false_eq_true, Bool.not_true, Bool.not_false]
        by_cases c1 : q = 0
        · rw [if_pos c1] at ht
          rw [if_neg (not_not_intro c1)]
          exact ⟨sh, _, rfl, ht, s0, sb⟩
        · rw [if_neg c1] at ht
          rw [if_pos c1]
          have e : (sh ≠ 1 ∧ sh ≠ d) → togN ts = false := fun z => by
            rw [if_pos z] at ht
            unfold togN
            rw [← ht]
          by_cases c2 : sh = 1
          · rw [if_neg (fun z => z.1 c2)] at ht
            rw [if_neg (not_not_intro c2)]
            exact ⟨d, _, rfl, ht, hd2.1, hd2.2⟩
          · rw [if_pos c2]
            by_cases c3 : sh = d
            · rw [if_neg (fun z => z.2 c3)] at ht
              rw [if_neg (not_not_intro c3)]
              exact ⟨d, _, rfl, ht, hd2.1, hd2.2⟩
            · rw [if_pos c3]
              rw [e ⟨c2, c3⟩] at k
              exact k
    · rintro ρ' ⟨sh, th, rfl, ht, s0, sb⟩
      rw [List.drop_length] at ht
      have e : togN ts = decide ((sqs ((sh.natAbs : Nat) : Int)).1 = 1) := by
        unfold togN
        rw [← ht]
        rfl
      rw [e] at k
      simp (config := { maxSteps := 1000000 }) only [dSeq, dIfS, dTest, dOp, dUn, dVar, dC, dTup, dLst, dNil, dCons, dRet, dRetN, dDrop, dSet, dPar, dAsg, dgTup, dgCons, dgNil, dgName, dCB, dNext, dIf, dAnd, dOr, dNot, dNotV, dAndV, dOrV, dCall, dCallK, dRaise, dAug, dSl, dPart, dNoPart, startU_eq, List.map_cons, List.map_nil, List.cons_append, List.nil_append, List.length_cons, List.length_nil, List.replicate, List.getElem?_cons_zero, List.getElem?_cons_succ, List.getElem?_nil, List.set_cons_zero, List.set_cons_succ, Nat.reduceAdd, Nat.reduceSub, ex_uu, ex_bl, ex_tup, ex_lst, ex_int, ex_cons, ex_two, gEq_int, gNe_int, gEq_p2, gNe_p2, gEq_str, ixp0, ixp1, plus_int, star_int, gI_int, gIC_int, ix0, ix1, ix2, ix3, fGcd_int, fIsq_int, fAbs_int, fInt_int, fLen_tup, fLen_lst, fMax2_int, gNeg_int, gFdv, gMod, DL.gSub, gPow, gLt, gLe, gGt, gGe, eq_self, decide_eq_true_eq, Bool.not_eq_true', decide_eq_false_iff_not, true_and, and_true, if_true, if_false, Bool.false_eq_true, Bool.not_true, Bool.not_false]
      exact ⟨sh, rfl, s0, by omega, k⟩
end
end T01
set_option Elab.async false
set_option linter.all false
set_option maxRecDepth 100000
set_option maxHeartbeats 8000000
set_option exponentiation.threshold 10000
namespace T01
open PySem PySem.Spec PyProof.Rows L2 XR DL
open PySem.XK (ExF)
/-- a def that stands under another name, too -/
structure DefAs (K : PySem.W.Frag) (mg : Str → Option Value) (x y : Str) (st : Stmt) (f : Addr) (fd : FuncData) : Prop where
  F : Fun K y y st f fd
  g : mg x = some (.ref f)
def isNum (u : U) : Bool := togN [u]
theorem isNum_true {u : U} (h : isNum u = true) : ∃ p q s d : Int, u = n4 p q s d ∧ numF p q s d = true := by
  cases hf : formN u with
  | true => exact form_true hf
  | false =>
    unfold isNum togN at h
    rw [tog_bad hf] at h
    cases h
def goU : U → U → Bool
  | .tup [.int _, .int q, .int _, .int d], .tup [.int _, .int v, .int _, .int e] => goN q d v e
  | _, _ => false
section
variable {P : Program} {w : World} {K : PySem.W.Frag} {mg : Str → Option Value} {base : Heap}
theorem sc_is_number : FnScope ["thing"] ["thing"] (defScope s_is_number) := ⟨rfl, rfl, rfl, by decide +kernel, rfl, by decide +kernel, by decide +kernel⟩
def sp_is_number (P0 : Addr) : SpD := fun m us Q _ => ∃ u, us = [u] ∧ okU u ∧ P0 ∈ m.tabs ∧ Q (.bl (isNum u))
theorem ok_is_number {a a1 : Addr} {fd fd1 : FuncData} {P0 : Addr} (D : DL.Def K mg "is_number" s_is_number a fd) (D_are_together : DL.Def K mg "are_together" s_are_together a1 fd1) (G_are_together : Fd P w K mg base 4 a1 fd1 ["things"] (sp_are_together P0)) : Fd P w K mg base 5 a fd ["thing"] (sp_is_number P0) := by
  have b_are_together : Binds K fd1 ["things"] [] := D_are_together.F.binds fun _ _ _ _ _ _ us hl => match us, hl with | [_], _ => rfl
  refine fd_of D.F sc_is_number (fun m us Q Z h => ?_) (fun cdv A outer s H E m us Qd Zd hr hG tk h => ?_)
  · obtain ⟨u, rfl, _⟩ := h
    rfl
  · obtain ⟨u, rfl, ho, hP, k⟩ := h
    refine ⟨_, (dss_one (ds_ret (de_call G_are_together (hr.mono (by decide)) hG tk (by rfl) D_are_together.g D_are_together.F.kp b_are_together (da_cons (de_tup (da_cons (de_var (pv 0)) da_nil)) da_nil)))), ?_⟩
    simp (config := { maxSteps := 1000000 }) only [dSeq, dIfS, dTest, dOp, dUn, dVar, dC, dTup, dLst, dNil, dCons, dRet, dRetN, dDrop, dSet, dPar, dAsg, dgTup, dgCons, dgNil, dgName, dCB, dNext, dIf, dAnd, dOr, dNot, dNotV, dAndV, dOrV, dCall, dCallK, dRaise, dAug, dSl, dPart, dNoPart, startU_eq, List.map_cons, List.map_nil, List.cons_append, List.nil_append, List.length_cons, List.length_nil, List.replicate, List.getElem?_cons_zero, List.getElem?_cons_succ, List.getElem?_nil, List.set_cons_zero, List.set_cons_succ, Nat.reduceAdd, Nat.reduceSub, ex_uu, ex_bl, ex_tup, ex_lst, ex_int, ex_cons, ex_two, gEq_int, gNe_int, gEq_p2, gNe_p2, gEq_str, ixp0, ixp1, plus_int, star_int, gI_int, gIC_int, ix0, ix1, ix2, ix3, fGcd_int, fIsq_int, fAbs_int, fInt_int, fLen_tup, fLen_lst, fMax2_int, gNeg_int, gFdv, gMod, DL.gSub, gPow, gLt, gLe, gGt, gGe, eq_self, decide_eq_true_eq, Bool.not_eq_true', decide_eq_false_iff_not, true_and, and_true, if_true, if_false, Bool.false_eq_true, Bool.not_true, Bool.not_false]
    refine ⟨le_line (by decide), [u], rfl, fun v hv => ?_, hP, k⟩
    rw [List.mem_singleton.mp hv]
    exact ho
theorem sc_check_number : FnScope ["thing"] ["thing"] (defScope s_check_number) := ⟨rfl, rfl, rfl, by decide +kernel, rfl, by decide +kernel, by decide +kernel⟩
def sp_check_number (P0 CB : Addr) : SpD := fun m us Q Z => ∃ u, us = [u] ∧ okU u ∧ P0 ∈ m.tabs ∧ (isNum u = true → Q .non) ∧ (isNum u = false → Z CB u)
theorem ok_check_number {a a1 : Addr} {fd fd1 : FuncData} {P0 CB fB : Addr} (D : DL.Def K mg "check_number" s_check_number a fd) (D_is_number : DL.Def K mg "is_number" s_is_number a1 fd1) (G_is_number : Fd P w K mg base 5 a1 fd1 ["thing"] (sp_is_number P0)) (xBadNumber : ExF K CB fB) (gBadNumber : mg "BadNumber" = some (.ref CB)) :
    Fd P w K mg base 6 a fd ["thing"] (sp_check_number P0 CB) := by
  have b_is_number : Binds K fd1 ["thing"] [] := D_is_number.F.binds fun _ _ _ _ _ _ us hl => match us, hl with | [_], _ => rfl
  refine fd_of D.F sc_check_number (fun m us Q Z h => ?_) (fun cdv A outer s H E m us Qd Zd hr hG tk h => ?_)
  · obtain ⟨u, rfl, _⟩ := h
    rfl
  · obtain ⟨u, rfl, ho, hP, k1, k2⟩ := h
    refine ⟨_, (dss_one (ds_if (dt_not (dt_val (de_call G_is_number (hr.mono (by decide)) hG tk (by rfl) D_is_number.g D_is_number.F.kp b_is_number (da_cons (de_var (pv 0)) da_nil)))) (dss_one (ds_raise xBadNumber rfl tk hr (by rfl) gBadNumber (de_var (pv 0)))) dss_nil)), ?_⟩
    simp (config := { maxSteps := 1000000 }) only [dSeq, dIfS, dTest, dOp, dUn, dVar, dC, dTup, dLst, dNil, dCons, dRet, dRetN, dDrop, dSet, dPar, dAsg, dgTup, dgCons, dgNil, dgName, dCB, dNext, dIf, dAnd, dOr, dNot, dNotV, dAndV, dOrV, dCall, dCallK, dRaise, dAug, dSl, dPart, dNoPart, startU_eq, List.map_cons, List.map_nil, List.cons_append, List.nil_append, List.length_cons, List.length_nil, List.replicate, List.getElem?_cons_zero, List.getElem?_cons_succ, List.getElem?_nil, List.set_cons_zero, List.set_cons_succ, Nat.reduceAdd, Nat.reduceSub, ex_uu, ex_bl, ex_tup, ex_lst, ex_int, ex_cons, ex_two, gEq_int, gNe_int, gEq_p2, gNe_p2, gEq_str, ixp0, ixp1, plus_int, star_int, gI_int, gIC_int, ix0, ix1, ix2, ix3, fGcd_int, fIsq_int, fAbs_int, fInt_int, fLen_tup, fLen_lst, fMax2_int, gNeg_int, gFdv, gMod, DL.gSub, gPow, gLt, gLe, gGt, gGe, eq_self, decide_eq_true_eq, Bool.not_eq_true', decide_eq_false_iff_not, true_and, and_true, if_true, if_false, Bool.false_eq_true, Bool.not_true, Bool.not_false]
    refine ⟨u, rfl, ho, hP, _, rfl, ?_⟩
    cases hn : isNum u with
    | true =>
      rw [if_neg (fun z => Bool.noConfusion z)]
      exact k1 hn
    | false =>
      rw [if_pos rfl]
      exact k2 hn
theorem sc_check_pair_0 : FnScope ["one", "other"] ["one", "other"] (defScope s_check_pair_0) := ⟨rfl, rfl, rfl, by decide +kernel, rfl, by decide +kernel, by decide +kernel⟩
/-- the refusals of a pair, in their sequence -/
def pairOk (CB CO : Addr) (u v : U) (q : Prop) (Z : XQ) : Prop := (isNum u = false → Z CB u) ∧ (isNum u = true → isNum v = false → Z CB v) ∧ (isNum u = true → isNum v = true → goU u v = false → Z CO v) ∧ (isNum u = true → isNum v = true → goU u v = true → q)
def sp_check_pair_0 (P0 CB CO : Addr) : SpD := fun m us Q Z => ∃ u v, us = [u, v] ∧ okU u ∧ okU v ∧ P0 ∈ m.tabs ∧ pairOk CB CO u v (Q .non) Z
theorem ok_check_pair_0 {a a1 a2 a3 : Addr} {fd fd1 fd2 fd3 : FuncData} {P0 CB CO fO : Addr} (F : Fun K "check_pair" "check_pair" s_check_pair_0 a fd) (D_check_number : DL.Def K mg "check_number" s_check_number a1 fd1) (G_check_number : Fd P w K mg base 6 a1 fd1 ["thing"] (sp_check_number P0 CB)) (D_go_together : DL.Def K mg "go_together" s_go_together a2 fd2)
    (D_is_fraction : DL.Def K mg "is_fraction" s_is_fraction a3 fd3) (xOtherRoot : ExF K CO fO) (gOtherRoot : mg "OtherRoot" = some (.ref CO)) : Fd P w K mg base 7 a fd ["one", "other"] (sp_check_pair_0 P0 CB CO) := by
  have b_check_number : Binds K fd1 ["thing"] [] := D_check_number.F.binds fun _ _ _ _ _ _ us hl => match us, hl with | [_], _ => rfl
  have G_go_together : Fd P w K mg base 2 a2 fd2 ["one", "other"] sp_go_together := ok_go_together D_go_together D_is_fraction
  have b_go_together : Binds K fd2 ["one", "other"] [] := D_go_together.F.binds fun _ _ _ _ _ _ us hl => match us, hl with | [_, _], _ => rfl
  refine fd_of F sc_check_pair_0 (fun m us Q Z h => ?_) (fun cdv A outer s H E m us Qd Zd hr hG tk h => ?_)
  · obtain ⟨u, v, rfl, _⟩ := h
    rfl
  · obtain ⟨u, v, rfl, ho, ho2, hP, k1, k2, k3, k4⟩ := h
    refine ⟨_, (dss_cons (ds_expr (de_call G_check_number (hr.mono (by decide)) hG tk (by rfl) D_check_number.g D_check_number.F.kp b_check_number (da_cons (de_var (pv 0)) da_nil)))
    (dss_cons (ds_expr (de_call G_check_number (hr.mono (by decide)) hG tk (by rfl) D_check_number.g D_check_number.F.kp b_check_number (da_cons (de_var (pv 1)) da_nil)))
    (dss_one (ds_if (dt_not (dt_val (de_call G_go_together (hr.mono (by decide)) hG tk (by rfl) D_go_together.g D_go_together.F.kp b_go_together (da_cons (de_var (pv 0)) (da_cons (de_var (pv 1)) da_nil))))) (dss_one (ds_raise xOtherRoot rfl tk hr (by rfl) gOtherRoot (de_var (pv 1)))) dss_nil)))), ?_⟩
    simp (config := { maxSteps := 1000000 }) only [dSeq, dIfS, dTest, dOp, dUn, dVar, dC, dTup, dLst, dNil, dCons, dRet, dRetN, dDrop, dSet, dPar, dAsg, dgTup, dgCons, dgNil, dgName, dCB, dNext, dIf, dAnd, dOr, dNot, dNotV, dAndV, dOrV, dCall, dCallK, dRaise, dAug, dSl, dPart, dNoPart, startU_eq, List.map_cons, List.map_nil, List.cons_append, List.nil_append, List.length_cons, List.length_nil, List.replicate, List.getElem?_cons_zero, List.getElem?_cons_succ, List.getElem?_nil, List.set_cons_zero, List.set_cons_succ, Nat.reduceAdd, Nat.reduceSub, ex_uu, ex_bl, ex_tup, ex_lst, ex_int, ex_cons, ex_two, gEq_int, gNe_int, gEq_p2, gNe_p2, gEq_str, ixp0, ixp1, plus_int, star_int, gI_int, gIC_int, ix0, ix1, ix2, ix3, fGcd_int, fIsq_int, fAbs_int, fInt_int, fLen_tup, fLen_lst, fMax2_int, gNeg_int, gFdv, gMod, DL.gSub, gPow, gLt, gLe, gGt, gGe, eq_self, decide_eq_true_eq, Bool.not_eq_true', decide_eq_false_iff_not, true_and, and_true, if_true, if_false, Bool.false_eq_true, Bool.not_true, Bool.not_false]
    refine ⟨u, rfl, ho, hP, fun h1 => ?_, fun h1 => k1 h1⟩
    refine ⟨v, rfl, ho2, hP, fun h2 => ?_, fun h2 => k2 h1 h2⟩
    obtain ⟨p, q, s, d, rfl, n1⟩ := isNum_true h1
    obtain ⟨u1, v1, w1, e1, rfl, n2⟩ := isNum_true h2
    refine ⟨p, q, s, d, u1, v1, w1, e1, rfl, _, rfl, ?_⟩
    cases hg : goN q d v1 e1 with
    | true =>
      rw [if_neg (fun z => Bool.noConfusion z)]
      exact k4 h1 h2 hg
    | false =>
      rw [if_pos rfl]
      exact k3 h1 h2 hg
/-- two numbers that go together, within the sizes, and what is told of them -/
def told2 (f : Int → Int → Int → Int → Int → Int → Int → Int → U) (u v : U) (Q : U → Prop) : Prop := ∃ p q s d u1 v1 w1 e1, u = n4 p q s d ∧ v = n4 u1 v1 w1 e1 ∧ Sz p q s d u1 v1 w1 e1 ∧ Q (f p q s d u1 v1 w1 e1)
def sp_pair (P0 CB CO : Addr) (f : Int → Int → Int → Int → Int → Int → Int → Int → U) : SpD := fun m us Q Z => ∃ u v, us = [u, v] ∧ okU u ∧ okU v ∧ P0 ∈ m.tabs ∧ pairOk CB CO u v (told2 f u v Q) Z
def subN (p q s d u v w e : Int) : U := sumN p q s d (-u) (-v) w e
theorem sc_times : FnScope ["one", "other"] ["one", "other"] (defScope s_times) := ⟨rfl, rfl, rfl, by decide +kernel, rfl, by decide +kernel, by decide +kernel⟩
theorem ok_times {a a1 a2 : Addr} {fd fd1 fd2 : FuncData} {P0 CB CO : Addr} (D : DL.Def K mg "times" s_times a fd) (D_check_pair : DL.Def K mg "check_pair" s_check_pair_0 a1 fd1) (G_check_pair : Fd P w K mg base 7 a1 fd1 ["one", "other"] (sp_check_pair_0 P0 CB CO))
    (D_product_of : DL.Def K mg "product_of" s_product_of a2 fd2) (G_product_of : Fd P w K mg base 3 a2 fd2 ["one", "other"] sp_product_of) : Fd P w K mg base 8 a fd ["one", "other"] (sp_pair P0 CB CO mulN) := by
  have b_check_pair : Binds K fd1 ["one", "other"] [] := D_check_pair.F.binds fun _ _ _ _ _ _ us hl => match us, hl with | [_, _], _ => rfl
  have b_product_of : Binds K fd2 ["one", "other"] [] := D_product_of.F.binds fun _ _ _ _ _ _ us hl => match us, hl with | [_, _], _ => rfl
  refine fd_of D.F sc_times (fun m us Q Z h => ?_) (fun cdv A outer s H E m us Qd Zd hr hG tk h => ?_)
  · obtain ⟨u, v, rfl, _⟩ := h
    rfl
  · obtain ⟨u, v, rfl, ho, ho2, hP, k1, k2, k3, k4⟩ := h
    refine ⟨_, (dss_cons (ds_expr (de_call G_check_pair (hr.mono (by decide)) hG tk (by rfl) D_check_pair.g D_check_pair.F.kp b_check_pair (da_cons (de_var (pv 0)) (da_cons (de_var (pv 1)) da_nil))))
    (dss_one (ds_ret (de_call G_product_of (hr.mono (by decide)) hG tk (by rfl) D_product_of.g D_product_of.F.kp b_product_of (da_cons (de_var (pv 0)) (da_cons (de_var (pv 1)) da_nil)))))), ?_⟩
    simp (config := { maxSteps := 1000000 }) only [dSeq, dIfS, dTest, dOp, dUn, dVar, dC, dTup, dLst, dNil, dCons, dRet, dRetN, dDrop, dSet, dPar, dAsg, dgTup, dgCons, dgNil, dgName, dCB, dNext, dIf, dAnd, dOr, dNot, dNotV, dAndV, dOrV, dCall, dCallK, dRaise, dAug, dSl, dPart, dNoPart, startU_eq, List.map_cons, List.map_nil, List.cons_append, List.nil_append, List.length_cons, List.length_nil, List.replicate, List.getElem?_cons_zero, List.getElem?_cons_succ, List.getElem?_nil, List.set_cons_zero, List.set_cons_succ, Nat.reduceAdd, Nat.reduceSub, ex_uu, ex_bl, ex_tup, ex_lst, ex_int, ex_cons, ex_two, gEq_int, gNe_int, gEq_p2, gNe_p2, gEq_str, ixp0, ixp1, plus_int, star_int, gI_int, gIC_int, ix0, ix1, ix2, ix3, fGcd_int, fIsq_int, fAbs_int, fInt_int, fLen_tup, fLen_lst, fMax2_int, gNeg_int, gFdv, gMod, DL.gSub, gPow, gLt, gLe, gGt, gGe, eq_self, decide_eq_true_eq, Bool.not_eq_true', decide_eq_false_iff_not, true_and, and_true, if_true, if_false, Bool.false_eq_true, Bool.not_true, Bool.not_false]
    refine ⟨u, v, rfl, ho, ho2, hP, k1, k2, k3, fun h1 h2 h3 => ?_⟩
    obtain ⟨p, q, s, d, u1, v1, w1, e1, rfl, rfl, z, q1⟩ := k4 h1 h2 h3
    exact ⟨p, q, s, d, u1, v1, w1, e1, rfl, z, q1⟩
end
end T01
set_option Elab.async false
set_option linter.all false
set_option maxRecDepth 100000
set_option maxHeartbeats 8000000
set_option exponentiation.threshold 10000
namespace T01
open PySem PySem.Spec PyProof.Rows L2 XR DL
open PySem.XK (ExF)
/-! ### lowest terms, part by part -/
def low4 (p q s d : Int) : Int × Int × Int × Int :=
  let p' := if d = 1 then p + q else p
  let q' := if d = 1 then 0 else q
  let d' := if q' = 0 then 1 else d
  let g : Int := ((Nat.gcd ((Nat.gcd p'.natAbs q'.natAbs : Nat) : Int).natAbs s.natAbs : Nat) : Int)
  let g' := if s < 0 then -g else g
  (p'.fdiv g', q'.fdiv g', s.fdiv g', d')
theorem lowN_eq (p q s d : Int) : lowN p q s d = n4 (low4 p q s d).1 (low4 p q s d).2.1 (low4 p q s d).2.2.1 (low4 p q s d).2.2.2 := rfl
/-- exact division -/
theorem fdiv_dvd {x g : Int} (hg : g ≠ 0) (h : g ∣ x) : x = g * x.fdiv g ∧ (x.fdiv g).natAbs ≤ x.natAbs := by
  obtain ⟨y, e⟩ := h
  have e2 : x.fdiv g = y := by rw [e]; exact Int.mul_fdiv_cancel_left y hg
  rw [e2]
  refine ⟨e, ?_⟩
  rw [e, Int.natAbs_mul]
  exact Nat.le_mul_of_pos_left _ (by omega)
/-- the divisor of lowest -/
structure LowG (p' q' s g' : Int) : Prop where
  g0 : g' ≠ 0
  dp : g' ∣ p'
  dq : g' ∣ q'
  ds : g' ∣ s
  pos : 0 < s.fdiv g'
  one : ∀ k : Nat, (k : Int) ∣ p'.fdiv g' → (k : Int) ∣ q'.fdiv g' → (k : Int) ∣ s.fdiv g' → k = 1
theorem lowG {p' q' s : Int} (s0 : s ≠ 0) : LowG p' q' s (if s < 0 then -((Nat.gcd ((Nat.gcd p'.natAbs q'.natAbs : Nat) : Int).natAbs s.natAbs : Nat) : Int) else ((Nat.gcd ((Nat.gcd p'.natAbs q'.natAbs : Nat) : Int).natAbs s.natAbs : Nat) : Int)) := by
  rw [Int.natAbs_natCast]
  generalize hG : Nat.gcd (Nat.gcd p'.natAbs q'.natAbs) s.natAbs = g
  have gp : 0 < g := by rw [← hG]; exact Nat.gcd_pos_of_pos_right _ (by omega)
  have d1 : g ∣ Nat.gcd p'.natAbs q'.natAbs := by rw [← hG]; exact Nat.gcd_dvd_left _ _
  have dp : (g : Int) ∣ p' := Int.ofNat_dvd_left.mpr (Nat.dvd_trans d1 (Nat.gcd_dvd_left _ _))
  have dq : (g : Int) ∣ q' := Int.ofNat_dvd_left.mpr (Nat.dvd_trans d1 (Nat.gcd_dvd_right _ _))
  have ds : (g : Int) ∣ s := Int.ofNat_dvd_left.mpr (by rw [← hG]; exact Nat.gcd_dvd_right _ _)
  have key : ∀ g' : Int, g' ≠ 0 → g'.natAbs = g → g' ∣ p' → g' ∣ q' → g' ∣ s → 0 < s.fdiv g' → LowG p' q' s g' := fun g' h0 ha h1 h2 h3 h4 => by
    refine ⟨h0, h1, h2, h3, h4, fun k k1 k2 k3 => ?_⟩
    have up : ∀ x : Int, g' ∣ x → (k : Int) ∣ x.fdiv g' → k * g ∣ x.natAbs := fun x hx hk => by
      obtain ⟨y, hy⟩ := hk
      have e := (fdiv_dvd h0 hx).1
      rw [hy] at e
      rw [e, Int.natAbs_mul, Int.natAbs_mul, ha, Int.natAbs_natCast]
      exact ⟨y.natAbs, by ac_rfl⟩
    have z : k * g ∣ g := by
      have z1 := Nat.dvd_gcd (Nat.dvd_gcd (up p' h1 k1) (up q' h2 k2)) (up s h3 k3)
      rw [hG] at z1
      exact z1
    have z2 := Nat.le_of_dvd gp z
    have z3 : k ≠ 0 := fun e => by
      rw [e, Nat.zero_mul] at z
      have := Nat.eq_zero_of_zero_dvd z
      omega
    by_cases c : k = 1
    · exact c
    · have : 2 * g ≤ k * g := Nat.mul_le_mul_right _ (by omega)
      omega
  by_cases c : s < 0
  · rw [if_pos c]
    refine key _ (by omega) (by omega) (Int.neg_dvd.mpr dp) (Int.neg_dvd.mpr dq) (Int.neg_dvd.mpr ds) ?_
    have e := (fdiv_dvd (by omega : -(g : Int) ≠ 0) (Int.neg_dvd.mpr ds)).1
    by_cases h : 0 < s.fdiv (-(g : Int))
    · exact h
    · have : 0 ≤ -(g : Int) * s.fdiv (-(g : Int)) := Int.mul_nonneg_of_nonpos_of_nonpos (by omega) (by omega)
      omega
  · rw [if_neg c]
    refine key _ (by omega) (by omega) dp dq ds ?_
    have e := (fdiv_dvd (by omega : (g : Int) ≠ 0) ds).1
    by_cases h : 0 < s.fdiv (g : Int)
    · exact h
    · have : (g : Int) * s.fdiv (g : Int) ≤ 0 := Int.mul_nonpos_of_nonneg_of_nonpos (by omega) (by omega)
      omega
theorem low4_bd {p q s d : Int} {k : Nat} (s0 : s ≠ 0) (hp : Bd k p) (hq : Bd k q) (hs : Bd k s) (hd : Bd k d) (hk : 1 ≤ k) :
    Bd (k + 1) (low4 p q s d).1 ∧ Bd (k + 1) (low4 p q s d).2.1 ∧ Bd (k + 1) (low4 p q s d).2.2.1 ∧ Bd (k + 1) (low4 p q s d).2.2.2 ∧ 0 < (low4 p q s d).2.2.1 := by
  have G := lowG (p' := if d = 1 then p + q else p) (q' := if d = 1 then 0 else q) s0
  have one : Bd (k + 1) 1 := by
    unfold Bd
    have : 2 ^ 1 ≤ 2 ^ (k + 1) := Nat.pow_le_pow_right (by decide) (by omega)
    omega
  have hp' : Bd (k + 1) (if d = 1 then p + q else p) := by
    split
    · exact bd_add k hp hq
    · exact bd_up (a := k) (k + 1) hp (by omega)
  have hq' : Bd (k + 1) (if d = 1 then 0 else q) := by
    split
    · unfold Bd
      exact Nat.pos_of_ne_zero (by simp)
    · exact bd_up (a := k) (k + 1) hq (by omega)
  refine ⟨Nat.lt_of_le_of_lt (fdiv_dvd G.g0 G.dp).2 hp', Nat.lt_of_le_of_lt (fdiv_dvd G.g0 G.dq).2 hq', Nat.lt_of_le_of_lt (fdiv_dvd G.g0 G.ds).2 (bd_up (a := k) (k + 1) hs (by omega)), ?_, G.pos⟩
  show Bd (k + 1) (if (if d = 1 then 0 else q) = 0 then 1 else d)
  by_cases c : (if d = 1 then 0 else q) = 0
  · rw [if_pos c]
    exact one
  · rw [if_neg c]
    exact bd_up (a := k) (k + 1) hd (by omega)
def overN (p q s d u v w e : Int) : U :=
  mulN p q s d (low4 (w * u) (-w * v) (u * u - v * v * e) e).1 (low4 (w * u) (-w * v) (u * u - v * v * e) e).2.1 (low4 (w * u) (-w * v) (u * u - v * v * e) e).2.2.1 (low4 (w * u) (-w * v) (u * u - v * v * e) e).2.2.2
/-- within smaller sizes, the second one not zero -/
structure Sq (p q s d u v w e : Int) : Prop where
  bp : Bd 1000 p
  bq : Bd 1000 q
  bs : Bd 1000 s
  bu : Bd 300 u
  bv : Bd 300 v
  bw : Bd 300 w
  bd : Bd 1000 d
  be : Bd 300 e
  s0 : s ≠ 0
  n0 : u * u - v * v * e ≠ 0
theorem bd_sub {x y : Int} (a : Nat) (h : Bd a x) (g : Bd a y) : Bd (a + 1) (x - y) := by
  rw [Int.sub_eq_add_neg]
  exact bd_add a h (bd_neg g)
section
variable {P : Program} {w : World} {K : PySem.W.Frag} {mg : Str → Option Value} {base : Heap}
def sp_quotient_of : SpD := fun m us Q _ => ∃ p q s d u v w e, us = [n4 p q s d, n4 u v w e] ∧ Sq p q s d u v w e ∧ Q (overN p q s d u v w e)
end
end T01
set_option Elab.async false
set_option linter.all false
set_option maxRecDepth 100000
set_option maxHeartbeats 8000000
set_option exponentiation.threshold 10000
namespace T01
open PySem PySem.Spec PyProof.Rows L2 XR DL
open PySem.XK (ExF)
def isZ (u : U) : Bool := ueq u (n4 0 0 1 1)
theorem isZ_n4 (p q s d : Int) : isZ (n4 p q s d) = (decide (p = 0) && (decide (q = 0) && (decide (s = 1) && decide (d = 1)))) := ueq_n4 p q s d 0 0 1 1
theorem gEq_zero (p q s d : Int) (Q : U → Prop) : gEq (n4 p q s d) (n4 0 0 1 1) Q ↔ Q (.bl (isZ (n4 p q s d))) := by
  unfold gEq
  rw [flat_n4, flat_n4]
  simp [isZ]
section
variable {P : Program} {w : World} {K : PySem.W.Frag} {mg : Str → Option Value} {base : Heap}
def overQ (CB : Addr) (u v : U) (Q : U → Prop) (Z : XQ) : Prop := (isZ v = true → Z CB v) ∧ (isZ v = false → ∃ p q s d u1 v1 w1 e1, u = n4 p q s d ∧ v = n4 u1 v1 w1 e1 ∧ Sq p q s d u1 v1 w1 e1 ∧ Q (overN p q s d u1 v1 w1 e1))
def sp_over (P0 CB CO : Addr) : SpD := fun m us Q Z => ∃ u v, us = [u, v] ∧ okU u ∧ okU v ∧ P0 ∈ m.tabs ∧ pairOk CB CO u v (overQ CB u v Q Z) Z
/-! ### polynomials -/
def isN (u : U) : Prop := ∃ p q s d : Int, u = n4 p q s d
def trimN (ts : List U) : Nat → Nat
  | 0 => 0
  | n + 1 => match ts[n]? with
    | some u => if isZ u = true then trimN ts n else n + 1
    | none => n + 1
theorem trimN_le (ts : List U) : ∀ n, trimN ts n ≤ n
  | 0 => Nat.le_refl _
  | n + 1 => by
    have ih := trimN_le ts n
    unfold trimN
    split
    · split <;> omega
    · omega
def trimU (ts : List U) : List U := ts.take (trimN ts ts.length)
def sp_trimmed : SpD := fun m us Q _ => ∃ ts, us = [.lst ts] ∧ (∀ u ∈ ts, isN u) ∧ ts.length ≤ 1000 ∧ Q (.tup (trimU ts))
theorem atI_last1 {ts : List U} {n : Nat} (h : n < ts.length) : atI ts (((n + 1 : Nat) : Int) - 1) = ts[n]? := by
  rw [show (((n + 1 : Nat) : Int) - 1) = (n : Int) from by omega]
  have e := List.getElem?_eq_getElem h
  rw [e]
  exact atI_nat e
theorem cut_to (ts : List U) (n : Nat) (h : n ≤ ts.length) : cutU ts none (some (n : Int)) = ts.take n := by
  unfold cutU
  rw [HT.sIx_none, HT.sIx_nat, Nat.min_eq_left h, List.drop_zero, Nat.sub_zero]
def rootP : List U → Int
  | [] => 1
  | u :: us => match u with
    | .tup [.int _, .int q, .int _, .int d] => if q = 0 then rootP us else d
    | _ => 1
def sp_poly_root : SpD := fun m us Q _ => ∃ ts, us = [.tup ts] ∧ (∀ u ∈ ts, isN u) ∧ Q (.int (rootP ts))
def polysGo (ts us : List U) : Bool := decide (rootP ts = 1) || (decide (rootP us = 1) || decide (rootP ts = rootP us))
def sp_polys_go_together : SpD := fun m us Q _ => ∃ ts rs, us = [.tup ts, .tup rs] ∧ (∀ u ∈ ts, isN u) ∧ (∀ u ∈ rs, isN u) ∧ Q (.bl (polysGo ts rs))
end
end T01
set_option Elab.async false
set_option linter.all false
set_option maxRecDepth 100000
set_option maxHeartbeats 8000000
set_option exponentiation.threshold 10000
namespace T01
open PySem PySem.Spec PyProof.Rows L2 XR DL
open PySem.XK (ExF)
/-! ### sums of polynomials -/
def sumU : U → U → U
  | .tup [.int p, .int q, .int s, .int d], .tup [.int u, .int v, .int w, .int e] => sumN p q s d u v w e
  | _, _ => .non
def SzU (u v : U) : Prop := ∃ p q s d u1 v1 w1 e1, u = n4 p q s d ∧ v = n4 u1 v1 w1 e1 ∧ Sz p q s d u1 v1 w1 e1
theorem SzU.swap {u v : U} (h : SzU u v) : SzU v u := by
  obtain ⟨p, q, s, d, u1, v1, w1, e1, rfl, rfl, z⟩ := h
  exact ⟨_, _, _, _, _, _, _, _, rfl, rfl, ⟨z.bu, z.bv, z.bw, z.bp, z.bq, z.bs, z.be, z.bd, z.w0, z.s0⟩⟩
theorem sumU_isN {u v : U} (h : SzU u v) : isN (sumU u v) := by
  obtain ⟨p, q, s, d, u1, v1, w1, e1, rfl, rfl, z⟩ := h
  exact ⟨_, _, _, _, rfl⟩
def zipS (a b : List U) : List U := List.zipWith sumU a b
def addL (a b : List U) : List U := trimU (zipS a b ++ a.drop b.length)
def addP (ts rs : List U) : List U := if ts.length < rs.length then addL rs ts else addL ts rs
theorem zpU_inv : ∀ {a b : List U} {i : Nat} {u : U}, (zpU a b)[i]? = some u → ∃ x y, a[i]? = some x ∧ b[i]? = some y ∧ u = .tup [x, y]
  | [], _, i, u, h => by simp [zpU] at h
  | _ :: _, [], i, u, h => by simp [zpU] at h
  | x :: a, y :: b, 0, u, h => by
    simp [zpU] at h
    exact ⟨x, y, rfl, rfl, h.symm⟩
  | x :: a, y :: b, i + 1, u, h => by
    have h2 : (zpU a b)[i]? = some u := by simpa [zpU] using h
    obtain ⟨x1, y1, h1, h3, e⟩ := zpU_inv h2
    exact ⟨x1, y1, by simpa using h1, by simpa using h3, e⟩
theorem zipS_get {a b : List U} {i : Nat} {x y : U} (h : a[i]? = some x) (g : b[i]? = some y) : (zipS a b)[i]? = some (sumU x y) := by
  unfold zipS
  rw [List.getElem?_zipWith, h, g]
theorem take_succ' {l : List U} {i : Nat} {x : U} (h : l[i]? = some x) : l.take (i + 1) = l.take i ++ [x] := by
  rw [List.take_add_one, h]
  rfl
theorem cut_from (ts : List U) (n : Nat) (h : n ≤ ts.length) : cutU ts (some (n : Int)) none = ts.drop n := by
  unfold cutU
  rw [HT.sIx_none, HT.sIx_nat, Nat.min_eq_left h]
  exact List.take_of_length_le (by rw [List.length_drop]; omega)
section
variable {P : Program} {w : World} {K : PySem.W.Frag} {mg : Str → Option Value} {base : Heap}
def sp_poly_sum : SpD := fun m us Q _ => ∃ ts rs, us = [.tup ts, .tup rs] ∧ (∀ u ∈ ts, isN u) ∧ (∀ u ∈ rs, isN u) ∧ (∀ u ∈ ts, ∀ v ∈ rs, SzU u v) ∧ ts.length ≤ 400 ∧ rs.length ≤ 400 ∧ Q (.tup (addP ts rs))
end
end T01
set_option Elab.async false
set_option linter.all false
set_option maxRecDepth 100000
set_option maxHeartbeats 8000000
set_option exponentiation.threshold 10000
namespace T01
open PySem PySem.Spec PyProof.Rows L2 XR DL
open PySem.XK (ExF)
/-! ### a polynomial's value -/
def mulU : U → U → U
  | .tup [.int p, .int q, .int s, .int d], .tup [.int u, .int v, .int w, .int e] => mulN p q s d u v w e
  | _, _ => .non
def horn (num : U) : U → List U → U
  | v, [] => v
  | v, f :: r => horn num (sumU (mulU v num) f) r
def HornOk (num : U) : U → List U → Prop
  | _, [] => True
  | v, f :: r => SzU v num ∧ SzU (mulU v num) f ∧ HornOk num (sumU (mulU v num) f) r
section
variable {P : Program} {w : World} {K : PySem.W.Frag} {mg : Str → Option Value} {base : Heap}
def sp_poly_value : SpD := fun m us Q _ => ∃ ts num, us = [.tup ts, num] ∧ HornOk num (n4 0 0 1 1) ts.reverse ∧ Q (horn num (n4 0 0 1 1) ts.reverse)
end
/-! ### what is a polynomial -/
def isPoly (u : U) : Bool := match u with
  | .tup ts => togN ts && (match ts.getLast? with
    | none => true
    | some v => !isZ v)
  | _ => false
theorem togF_some : ∀ {ts : List U} {sh r : Int}, togF sh ts = some r → ∀ u ∈ ts, isN u
  | [], _, _, _, u, hu => by cases hu
  | t :: ts, sh, r, h, u, hu => by
    cases hf : formN t with
    | false =>
      rw [tog_bad hf] at h
      cases h
    | true =>
      obtain ⟨p, q, s, d, rfl, hn⟩ := form_true hf
      rw [tog_ok hn] at h
      have rest : ∃ sh' : Int, togF sh' ts = some r := by
        by_cases c : q = 0
        · rw [if_pos c] at h
          exact ⟨_, h⟩
        · rw [if_neg c] at h
          by_cases c2 : sh ≠ 1 ∧ sh ≠ d
          · rw [if_pos c2] at h
            cases h
          · rw [if_neg c2] at h
            exact ⟨_, h⟩
      obtain ⟨sh', h2⟩ := rest
      rcases List.mem_cons.mp hu with e | e
      · exact ⟨p, q, s, d, e⟩
      · exact togF_some h2 u e
theorem togN_isN {ts : List U} (h : togN ts = true) : ∀ u ∈ ts, isN u := by
  unfold togN at h
  cases e : togF 1 ts with
  | none =>
    rw [e] at h
    cases h
  | some r => exact togF_some e
theorem n4s_flat : ∀ {ts : List U}, (∀ u ∈ ts, isN u) → isDs ts = true ∧ PyData.canLayAll0 (toPs ts) = true ∧ PyData.depthAll (toPs ts) ≤ 1
  | [], _ => ⟨rfl, rfl, Nat.zero_le _⟩
  | t :: ts, h => by
    obtain ⟨h1, h2, h3⟩ := n4s_flat (ts := ts) fun u hu => h u (List.mem_cons_of_mem _ hu)
    obtain ⟨p, q, s, d, rfl⟩ := h t List.mem_cons_self
    refine ⟨h1, h2, ?_⟩
    show max (PyData.depth (toP (n4 p q s d))) (PyData.depthAll (toPs ts)) ≤ 1
    exact Nat.max_le.mpr ⟨Nat.le_refl 1, h3⟩
theorem flat_tup {ts : List U} (h : ∀ u ∈ ts, isN u) : flat (.tup ts) = true := by
  obtain ⟨h1, h2, h3⟩ := n4s_flat h
  unfold flat SeqAt.shaped
  rw [show isD (.tup ts) = true from h1, show (toP (.tup ts)).canLay0 = true from h2, show decide ((toP (.tup ts)).depth ≤ 64) = true from decide_eq_true (by show PyData.depthAll (toPs ts) + 1 ≤ 64; omega)]
  rfl
theorem iteT {b : Bool} (p q : Prop) (h : b = true) : (if b = true then p else q) = p := if_pos h
theorem ueq_nil (ts : List U) : ueq (.tup ts) (.tup []) = ts.isEmpty := by
  cases ts with
  | nil => rfl
  | cons t ts => rfl
section
variable {P : Program} {w : World} {K : PySem.W.Frag} {mg : Str → Option Value} {base : Heap}
def sp_is_polynomial (P0 : Addr) : SpD := fun m us Q _ => ∃ u, us = [u] ∧ notRaw u = true ∧ (∀ ts, u = .tup ts → ∀ v ∈ ts, okU v) ∧ P0 ∈ m.tabs ∧ Q (.bl (isPoly u))
end
end T01
set_option Elab.async false
set_option linter.all false
set_option maxRecDepth 100000
set_option maxHeartbeats 8000000
set_option exponentiation.threshold 10000
namespace T01
open PySem PySem.Spec PyProof.Rows L2 XR DL
open PySem.XK (ExF)
/-! ### refusals of polynomials, their sums -/
/-- a value that is_polynomial may be asked of -/
def okP (u : U) : Prop := notRaw u = true ∧ ∀ ts, u = .tup ts → ∀ v ∈ ts, okU v
theorem isPoly_true {u : U} (h : isPoly u = true) : ∃ ts, u = .tup ts ∧ togN ts = true ∧ ∀ v ∈ ts, isN v := by
  cases u with
  | tup ts =>
    have h1 : (togN ts && (match ts.getLast? with
      | none => true
      | some v => !isZ v)) = true := h
    have h2 := (Bool.and_eq_true _ _ ▸ h1).1
    exact ⟨ts, rfl, h2, togN_isN h2⟩
  | _ => cases h
def polysGoU : U → U → Bool
  | .tup ts, .tup rs => polysGo ts rs
  | _, _ => false
/-- the refusals of a pair of polynomials, in their sequence -/
def pairP (CP CO : Addr) (u v : U) (q : Prop) (Z : XQ) : Prop := (isPoly u = false → Z CP u) ∧ (isPoly u = true → isPoly v = false → Z CP v) ∧ (isPoly u = true → isPoly v = true → polysGoU u v = false → Z CO v) ∧ (isPoly u = true → isPoly v = true → polysGoU u v = true → q)
section
variable {P : Program} {w : World} {K : PySem.W.Frag} {mg : Str → Option Value} {base : Heap}
def sp_check_polynomial (P0 CP : Addr) : SpD := fun m us Q Z => ∃ u, us = [u] ∧ okP u ∧ P0 ∈ m.tabs ∧ (isPoly u = true → Q .non) ∧ (isPoly u = false → Z CP u)
def sp_check_pair_1 (P0 CP CO : Addr) : SpD := fun m us Q Z => ∃ u v, us = [u, v] ∧ okP u ∧ okP v ∧ P0 ∈ m.tabs ∧ pairP CP CO u v (Q .non) Z
/-- two polynomials that go together, within the sizes, and what is told of them -/
def toldP (f : List U → List U → List U) (u v : U) (Q : U → Prop) : Prop := ∃ ts rs, u = .tup ts ∧ v = .tup rs ∧ (∀ u ∈ ts, ∀ v ∈ rs, SzU u v) ∧ ts.length ≤ 400 ∧ rs.length ≤ 400 ∧ Q (.tup (f ts rs))
def sp_pairP (P0 CP CO : Addr) (f : List U → List U → List U) : SpD := fun m us Q Z => ∃ u v, us = [u, v] ∧ okP u ∧ okP v ∧ P0 ∈ m.tabs ∧ pairP CP CO u v (toldP f u v Q) Z
end
end T01
set_option Elab.async false
set_option linter.all false
set_option maxRecDepth 100000
set_option maxHeartbeats 8000000
set_option exponentiation.threshold 10000
namespace T01
open PySem PySem.Spec PyProof.Rows L2 XR DL
open PySem.XK (ExF)
/-! ### a polynomial's value at a number -/
def goPN : U → U → Bool
  | .tup ts, .tup [.int _, .int q, .int _, .int d] => decide (q = 0) || (decide (rootP ts = 1) || decide (rootP ts = d))
  | _, _ => false
/-- the refusals of a polynomial and a number, in their sequence -/
def pairPN (CP CB CO : Addr) (u v : U) (q : Prop) (Z : XQ) : Prop := (isPoly u = false → Z CP u) ∧ (isPoly u = true → isNum v = false → Z CB v) ∧ (isPoly u = true → isNum v = true → goPN u v = false → Z CO v) ∧ (isPoly u = true → isNum v = true → goPN u v = true → q)
def toldAt (u v : U) (Q : U → Prop) : Prop := ∃ ts, u = .tup ts ∧ HornOk v (n4 0 0 1 1) ts.reverse ∧ Q (horn v (n4 0 0 1 1) ts.reverse)
section
variable {P : Program} {w : World} {K : PySem.W.Frag} {mg : Str → Option Value} {base : Heap}
def sp_poly_at (P0 CP CB CO : Addr) : SpD := fun m us Q Z => ∃ u v, us = [u, v] ∧ okP u ∧ okU v ∧ P0 ∈ m.tabs ∧ pairPN CP CB CO u v (toldAt u v Q) Z
end
end T01
set_option Elab.async false
set_option linter.all false
set_option maxRecDepth 100000
set_option maxHeartbeats 8000000
set_option exponentiation.threshold 10000
namespace T01
open PySem PySem.Spec PyProof.Rows L2 XR DL
open PySem.XK (ExF)
/-! ### products of polynomials -/
def prodRow (i : Nat) (p : U) : Nat → List U → List U → List U
  | _, [], acc => acc
  | j, q :: rs, acc => prodRow i p (j + 1) rs (acc.set (i + j) (sumU (acc.getD (i + j) .non) (mulU p q)))
def prodAll (rs : List U) : Nat → List U → List U → List U
  | _, [], acc => acc
  | i, p :: ts, acc => prodAll rs (i + 1) ts (prodRow i p 0 rs acc)
def RowOk (i : Nat) (p : U) : Nat → List U → List U → Prop
  | _, [], _ => True
  | j, q :: rs, acc => SzU p q ∧ SzU (acc.getD (i + j) .non) (mulU p q) ∧ RowOk i p (j + 1) rs (acc.set (i + j) (sumU (acc.getD (i + j) .non) (mulU p q)))
def AllOk (rs : List U) : Nat → List U → List U → Prop
  | _, [], _ => True
  | i, p :: ts, acc => RowOk i p 0 rs acc ∧ AllOk rs (i + 1) ts (prodRow i p 0 rs acc)
def mulP (ts rs : List U) : List U := if ts.isEmpty || rs.isEmpty then [] else prodAll rs 0 ts (List.replicate (ts.length + rs.length - 1) (n4 0 0 1 1))
def MulOk (ts rs : List U) : Prop := AllOk rs 0 ts (List.replicate (ts.length + rs.length - 1) (n4 0 0 1 1))
theorem prodRow_len (i : Nat) (p : U) : ∀ (rs : List U) (j : Nat) (acc : List U), (prodRow i p j rs acc).length = acc.length
  | [], _, _ => rfl
  | q :: rs, j, acc => by
    unfold prodRow
    rw [prodRow_len i p rs, List.length_set]
theorem prodRow_cons (i : Nat) (p : U) (j : Nat) (q : U) (rs acc : List U) : prodRow i p j (q :: rs) acc = prodRow i p (j + 1) rs (acc.set (i + j) (sumU (acc.getD (i + j) .non) (mulU p q))) := rfl
theorem drop_at {l : List U} {i : Nat} {x : U} (h : l[i]? = some x) : l.drop i = x :: l.drop (i + 1) := by
  obtain ⟨hl, e⟩ := List.getElem?_eq_some_iff.mp h
  rw [← e]
  exact List.drop_eq_getElem_cons hl
section
variable {P : Program} {w : World} {K : PySem.W.Frag} {mg : Str → Option Value} {base : Heap}
def sp_poly_product : SpD := fun m us Q _ => ∃ ts rs, us = [.tup ts, .tup rs] ∧ (∀ u ∈ ts, isN u) ∧ (∀ u ∈ rs, isN u) ∧ MulOk ts rs ∧ ts.length ≤ 400 ∧ rs.length ≤ 400 ∧ Q (.tup (mulP ts rs))
def toldT (u v : U) (Q : U → Prop) : Prop := ∃ ts rs, u = .tup ts ∧ v = .tup rs ∧ MulOk ts rs ∧ ts.length ≤ 400 ∧ rs.length ≤ 400 ∧ Q (.tup (mulP ts rs))
def sp_poly_times (P0 CP CO : Addr) : SpD := fun m us Q Z => ∃ u v, us = [u, v] ∧ okP u ∧ okP v ∧ P0 ∈ m.tabs ∧ pairP CP CO u v (toldT u v Q) Z
end
end T01
set_option Elab.async false
set_option linter.all false
set_option maxRecDepth 100000
set_option maxHeartbeats 8000000
set_option exponentiation.threshold 10000
namespace T01
open PySem PySem.Spec PyProof.Rows L2 XR DL
open PySem.XK (ExF)
/-! ### the law's own arithmetic -/
theorem abs_nat (a : Int) : (if a < 0 then -a else a) = (a.natAbs : Int) := by
  by_cases h : a < 0
  · rw [if_pos h]; omega
  · rw [if_neg h]; omega
section
variable {P : Program} {w : World} {K : PySem.W.Frag} {mg : Str → Option Value} {base : Heap}
theorem sc__law_common : FnScope ["one", "other"] ["one", "other"] (defScope s__law_common) := ⟨rfl, rfl, rfl, by decide +kernel, rfl, by decide +kernel, by decide +kernel⟩
def sp__law_common : SpD := fun m us Q _ => ∃ a b : Int, us = [.int a, .int b] ∧ Q (.int (Int.gcd a b : Nat))
theorem ok__law_common {a : Addr} {fd : FuncData} (D : DL.Def K mg "_law_common" s__law_common a fd) (gabs : mg "abs" = none) (gint : mg "int" = none) : Fd P w K mg base 1 a fd ["one", "other"] sp__law_common := by
  refine fd_of D.F sc__law_common (fun m us Q Z h => ?_) (fun cdv A outer s H E m us Qd Zd hr hG tk h => ?_)
  · obtain ⟨x, y, rfl, _⟩ := h
    rfl
  · obtain ⟨x, y, rfl, k⟩ := h
    have hu := hr.units
    refine ⟨_, (dss_cons (ds_of_par (ps_par (i := 0) (j := 1) (by rfl) sc__law_common.nd rfl rfl (by decide) rfl rfl (da_cons (de_callB cal_abs (pe_callB call_abs (by rfl) gabs PyProof.Rows.boot_abs (da_cons (de_var (pv 0)) da_nil))) (da_cons (de_callB cal_abs (pe_callB call_abs (by rfl) gabs PyProof.Rows.boot_abs (da_cons (de_var (pv 1)) da_nil))) da_nil)) (by rfl)))
    (dss_cons (ds_while (passes_of rfl) (dt_gt (de_var (pv 1)) de_int) (dss_one (ds_of_par (ps_par (i := 0) (j := 1) (by rfl) sc__law_common.nd rfl rfl (by decide) rfl rfl (da_cons (de_var (pv 1)) (da_cons (de_mod (de_callB cal_int (pe_callTy call_int1 (by rfl) gint (by decide +kernel) (da_cons (de_var (pv 0)) da_nil))) (de_var (pv 1))) da_nil)) (by rfl)))))
    (dss_one (ds_ret (de_var (pv 0)))))), ?_⟩
    simp (config := { maxSteps := 1000000 }) only [dSeq, dIfS, dTest, dOp, dUn, dVar, dC, dTup, dLst, dNil, dCons, dRet, dRetN, dDrop, dSet, dPar, dAsg, dgTup, dgCons, dgNil, dgName, dCB, dNext, dIf, dAnd, dOr, dNot, dNotV, dAndV, dOrV, dCall, dCallK, dRaise, dAug, dSl, dPart, dNoPart, startU_eq, List.map_cons, List.map_nil, List.cons_append, List.nil_append, List.length_cons, List.length_nil, List.replicate, List.getElem?_cons_zero, List.getElem?_cons_succ, List.getElem?_nil, List.set_cons_zero, List.set_cons_succ, Nat.reduceAdd, Nat.reduceSub, ex_uu, ex_bl, ex_tup, ex_lst, ex_int, ex_cons, ex_two, gEq_int, gNe_int, gEq_p2, gNe_p2, gEq_str, ixp0, ixp1, plus_int, star_int, gI_int, gIC_int, ix0, ix1, ix2, ix3, fGcd_int, fIsq_int, fAbs_int, fInt_int, fLen_tup, fLen_lst, fMax2_int, gNeg_int, gFdv, gMod, DL.gSub, gPow, gLt, gLe, gGt, gGe, eq_self, decide_eq_true_eq, Bool.not_eq_true', decide_eq_false_iff_not, true_and, and_true, if_true, if_false, Bool.false_eq_true, Bool.not_true, Bool.not_false]
    rw [abs_nat, abs_nat]
    unfold dWhile
    refine ⟨fun k ρ' => ∃ u v : Nat, ρ' = [some (.int (u : Int)), some (.int (v : Int))] ∧ k = v ∧ Nat.gcd u v = Int.gcd x y, ⟨_, x.natAbs, y.natAbs, rfl, rfl, rfl⟩, ?_⟩
    rintro v ρ' ⟨u, _, rfl, rfl, hg⟩
    simp (config := { maxSteps := 1000000 }) only [dSeq, dIfS, dTest, dOp, dUn, dVar, dC, dTup, dLst, dNil, dCons, dRet, dRetN, dDrop, dSet, dPar, dAsg, dgTup, dgCons, dgNil, dgName, dCB, dNext, dIf, dAnd, dOr, dNot, dNotV, dAndV, dOrV, dCall, dCallK, dRaise, dAug, dSl, dPart, dNoPart, startU_eq, List.map_cons, List.map_nil, List.cons_append, List.nil_append, List.length_cons, List.length_nil, List.replicate, List.getElem?_cons_zero, List.getElem?_cons_succ, List.getElem?_nil, List.set_cons_zero, List.set_cons_succ, Nat.reduceAdd, Nat.reduceSub, ex_uu, ex_bl, ex_tup, ex_lst, ex_int, ex_cons, ex_two, gEq_int, gNe_int, gEq_p2, gNe_p2, gEq_str, ixp0, ixp1, plus_int, star_int, gI_int, gIC_int, ix0, ix1, ix2, ix3, fGcd_int, fIsq_int, fAbs_int, fInt_int, fLen_tup, fLen_lst, fMax2_int, gNeg_int, gFdv, gMod, DL.gSub, gPow, gLt, gLe, gGt, gGe, eq_self, decide_eq_true_eq, Bool.not_eq_true', decide_eq_false_iff_not, true_and, and_true, if_true, if_false, Bool.false_eq_true, Bool.not_true, Bool.not_false]
    by_cases c : (0 : Int) < (v : Int)
    · rw [if_pos c]
      have lt : u % v < v := Nat.mod_lt _ (by omega)
      refine ⟨c, _, lt, v, u % v, by rw [Int.natCast_emod], rfl, ?_⟩
      rw [← hg, Nat.gcd_comm u v, Nat.gcd_rec v u, Nat.gcd_comm]
    · rw [if_neg c]
      have e : v = 0 := by omega
      subst e
      rw [Nat.gcd_zero_right] at hg
      rw [hg]
      exact k
/-- lowest terms, the law's way -/
def tdv (p q s : Int) : Int := (Int.gcd (Int.gcd p q : Nat) s : Nat) * (if 0 < s then 1 else -1)
def lowT (p q s d : Int) : U := n4 (Int.fdiv p (tdv p q s)) (Int.fdiv q (tdv p q s)) (Int.fdiv s (tdv p q s)) (if ¬q = 0 then d else 1)
def madeN (p q s d : Int) : U := if d = 1 then lowT (p + q) 0 s d else lowT p q s d
theorem tdv_ok {s : Int} (g : Int) (s0 : s ≠ 0) (sb : Bd 4000 s) : CMulW (Int.gcd g s : Nat) 1 ∧ CMulW (Int.gcd g s : Nat) (-1) ∧ ∀ i, CFdv i ((Int.gcd g s : Nat) * 1) ∧ CFdv i ((Int.gcd g s : Nat) * (-1)) := by
  have h1 : 0 < Int.gcd g s := Int.gcd_pos_of_ne_zero_right _ s0
  have h2 : Int.gcd g s ≤ s.natAbs := Nat.gcd_le_right _ (by omega)
  have hb : Bd 4000 ((Int.gcd g s : Nat) : Int) := by
    unfold Bd at sb ⊢
    rw [Int.natAbs_natCast]
    exact Nat.lt_of_le_of_lt h2 sb
  have hl : (Int.gcd g s).log2 < 9000 := Nat.lt_of_lt_of_le (PySem.Flt.log2_lt_of (by decide : 0 < 4000) (Nat.lt_of_le_of_lt h2 sb)) (by decide)
  refine ⟨mul_ok 4000 4000 hb (by unfold Bd; decide) (by decide) (by decide) (by decide), mul_ok 4000 4000 hb (by unfold Bd; decide) (by decide) (by decide) (by decide), fun i => ⟨⟨by omega, ?_⟩, ⟨by omega, ?_⟩⟩⟩
  · rw [Int.mul_one, Int.natAbs_natCast]
    exact hl
  · rw [Int.mul_neg, Int.mul_one, Int.natAbs_neg, Int.natAbs_natCast]
    exact hl
theorem sc__law_made : FnScope ["p", "q", "s", "d", "part"] ["p", "q", "s", "d"] (defScope s__law_made) := ⟨rfl, rfl, rfl, by decide +kernel, rfl, by decide +kernel, by decide +kernel⟩
def sp__law_made : SpD := fun m us Q _ => ∃ p q s d : Int, us = [.int p, .int q, .int s, .int d] ∧ s ≠ 0 ∧ Bd 4000 s ∧ Q (madeN p q s d)
theorem ok__law_made {a a1 : Addr} {fd fd1 : FuncData} (D : DL.Def K mg "_law_made" s__law_made a fd) (D__law_common : DL.Def K mg "_law_common" s__law_common a1 fd1) (gabs : mg "abs" = none) (gint : mg "int" = none) : Fd P w K mg base 2 a fd ["p", "q", "s", "d"] sp__law_made := by
  have G__law_common : Fd P w K mg base 1 a1 fd1 ["one", "other"] sp__law_common := ok__law_common D__law_common gabs gint
  have b__law_common : Binds K fd1 ["one", "other"] [] := D__law_common.F.binds fun _ _ _ _ _ _ us hl => match us, hl with | [_, _], _ => rfl
  refine fd_of D.F sc__law_made (fun m us Q Z h => ?_) (fun cdv A outer s H E m us Qd Zd hr hG tk h => ?_)
  · obtain ⟨p, q, s, d, rfl, _⟩ := h
    rfl
  · obtain ⟨p, q, s, d, rfl, s0, sb, k⟩ := h
    have hu := hr.units
    refine ⟨_, (dss_cons (ds_if (dt_eq hu (de_var (pv 3)) de_int) (dss_one (ds_of_par (ps_par (i := 0) (j := 1) (by rfl) sc__law_made.nd rfl rfl (by decide) rfl rfl (da_cons (de_plus (de_var (pv 0)) (de_var (pv 1))) (da_cons de_int da_nil)) (by rfl)))) dss_nil)
    (dss_cons (ds_set (i := 4) sc__law_made.nd rfl (.inl rfl) (de_star (de_call G__law_common (hr.mono (by decide)) hG tk (by rfl) D__law_common.g D__law_common.F.kp b__law_common (da_cons (de_call G__law_common (hr.mono (by decide)) hG tk (by rfl) D__law_common.g D__law_common.F.kp b__law_common (da_cons (de_var (pv 0)) (da_cons (de_var (pv 1)) da_nil))) (da_cons (de_var (pv 2)) da_nil))) (de_if (dt_gt (de_var (pv 2)) de_int) de_int (de_neg de_int))))
    (dss_one (ds_ret (de_tup (da_cons (de_fdv (de_var (pv 0)) (de_var (pv 4))) (da_cons (de_fdv (de_var (pv 1)) (de_var (pv 4))) (da_cons (de_fdv (de_var (pv 2)) (de_var (pv 4))) (da_cons (de_if (dt_ne hu (de_var (pv 1)) de_int) (de_var (pv 3)) de_int) da_nil))))))))), ?_⟩
    simp (config := { maxSteps := 1000000 }) only [dSeq, dIfS, dTest, dOp, dUn, dVar, dC, dTup, dLst, dNil, dCons, dRet, dRetN, dDrop, dSet, dPar, dAsg, dgTup, dgCons, dgNil, dgName, dCB, dNext, dIf, dAnd, dOr, dNot, dNotV, dAndV, dOrV, dCall, dCallK, dRaise, dAug, dSl, dPart, dNoPart, startU_eq, List.map_cons, List.map_nil, List.cons_append, List.nil_append, List.length_cons, List.length_nil, List.replicate, List.getElem?_cons_zero, List.getElem?_cons_succ, List.getElem?_nil, List.set_cons_zero, List.set_cons_succ, Nat.reduceAdd, Nat.reduceSub, ex_uu, ex_bl, ex_tup, ex_lst, ex_int, ex_cons, ex_two, gEq_int, gNe_int, gEq_p2, gNe_p2, gEq_str, ixp0, ixp1, plus_int, star_int, gI_int, gIC_int, ix0, ix1, ix2, ix3, fGcd_int, fIsq_int, fAbs_int, fInt_int, fLen_tup, fLen_lst, fMax2_int, gNeg_int, gFdv, gMod, DL.gSub, gPow, gLt, gLe, gGt, gGe, eq_self, decide_eq_true_eq, Bool.not_eq_true', decide_eq_false_iff_not, true_and, and_true, if_true, if_false, Bool.false_eq_true, Bool.not_true, Bool.not_false]
    have core : ∀ (p1 q1 : Int) (F : U → U → U → Prop), F (.int (Int.fdiv p1 (tdv p1 q1 s))) (.int (Int.fdiv q1 (tdv p1 q1 s))) (.int (Int.fdiv s (tdv p1 q1 s))) → sp__law_common m [.int p1, .int q1] (fun x => sp__law_common m [x, .int s] (fun x =>
        if 0 < s then gStar x (.int 1) fun u => gIC CFdv (fun i j => U.int (i.fdiv j)) (.int p1) u fun x => gIC CFdv (fun i j => U.int (i.fdiv j)) (.int q1) u fun x_1 => gIC CFdv (fun i j => U.int (i.fdiv j)) (.int s) u fun x_2 => F x x_1 x_2
        else gStar x (.int (-1)) fun u => gIC CFdv (fun i j => U.int (i.fdiv j)) (.int p1) u fun x => gIC CFdv (fun i j => U.int (i.fdiv j)) (.int q1) u fun x_1 => gIC CFdv (fun i j => U.int (i.fdiv j)) (.int s) u fun x_2 => F x x_1 x_2) Zd) Zd := by
      intro p1 q1 F hF
      obtain ⟨c1, c2, c3⟩ := tdv_ok ((Int.gcd p1 q1 : Nat) : Int) s0 sb
      refine ⟨p1, q1, rfl, _, s, rfl, ?_⟩
      unfold tdv at hF
      by_cases hs : 0 < s
      · rw [if_pos hs] at hF ⊢
        exact .inl ⟨_, _, rfl, rfl, c1, _, _, rfl, rfl, (c3 _).1, _, _, rfl, rfl, (c3 _).1, _, _, rfl, rfl, (c3 _).1, hF⟩
      · rw [if_neg hs] at hF ⊢
        exact .inl ⟨_, _, rfl, rfl, c2, _, _, rfl, rfl, (c3 _).2, _, _, rfl, rfl, (c3 _).2, _, _, rfl, rfl, (c3 _).2, hF⟩
    unfold madeN at k
    by_cases hd : d = 1
    · rw [if_pos hd] at k ⊢
      refine core (p + q) 0 (fun x x_1 x_2 => if ¬True then 4 ≤ sizeLine ∧ Qd (U.tup [x, x_1, x_2, U.int d]) else 4 ≤ sizeLine ∧ Qd (U.tup [x, x_1, x_2, U.int 1])) ?_
      rw [if_neg (fun z => z trivial)]
      exact ⟨le_line (by decide), k⟩
    · rw [if_neg hd] at k ⊢
      refine core p q (fun x x_1 x_2 => if ¬q = 0 then 4 ≤ sizeLine ∧ Qd (U.tup [x, x_1, x_2, U.int d]) else 4 ≤ sizeLine ∧ Qd (U.tup [x, x_1, x_2, U.int 1])) ?_
      unfold lowT at k
      by_cases hq : q = 0
      · rw [if_neg (fun z => z hq)] at k ⊢
        exact ⟨le_line (by decide), k⟩
      · rw [if_pos hq] at k ⊢
        exact ⟨le_line (by decide), k⟩
end
end T01
set_option Elab.async false
set_option linter.all false
set_option maxRecDepth 100000
set_option maxHeartbeats 8000000
set_option exponentiation.threshold 10000
namespace T01
open PySem PySem.Spec PyProof.Rows L2 XR DL
open PySem.XK (ExF)
/-! ### the law's own sums, products, quotients -/
def plusL (p q s d u v w e : Int) : U := madeN (p * w + u * s) (q * w + v * s) (s * w) (if ¬q = 0 then d else e)
def timesL (p q s d u v w e : Int) : U := madeN (p * u + q * v * (if ¬q = 0 then d else e)) (p * v + q * u) (s * w) (if ¬q = 0 then d else e)
section
variable {P : Program} {w : World} {K : PySem.W.Frag} {mg : Str → Option Value} {base : Heap}
def sp__law_less : SpD := fun m us Q _ => ∃ p q s d : Int, us = [n4 p q s d] ∧ Q (n4 (-p) (-q) s d)
def sp__law_plus : SpD := fun m us Q _ => ∃ p q s d u v w e, us = [n4 p q s d, n4 u v w e] ∧ Sz p q s d u v w e ∧ Q (plusL p q s d u v w e)
def sp__law_times : SpD := fun m us Q _ => ∃ p q s d u v w e, us = [n4 p q s d, n4 u v w e] ∧ Sz p q s d u v w e ∧ Q (timesL p q s d u v w e)
end
end T01
set_option Elab.async false
set_option linter.all false
set_option maxRecDepth 100000
set_option maxHeartbeats 8000000
set_option exponentiation.threshold 10000
namespace T01
open PySem PySem.Spec PyProof.Rows L2 XR DL
open PySem.XK (ExF)
/-! ### the law's own quotients, polynomials -/
def overL (Q : U → Prop) (p q s d u v w e : Int) : Prop := u * u - v * v * e ≠ 0 ∧ Bd 1000 u ∧ Bd 1000 v ∧ Bd 1000 w ∧ Bd 1000 e ∧ ∃ a b c f, madeN (u * w) (-v * w) (u * u - v * v * e) e = n4 a b c f ∧ Sz p q s d a b c f ∧ Q (timesL p q s d a b c f)
section
variable {P : Program} {w : World} {K : PySem.W.Frag} {mg : Str → Option Value} {base : Heap}
def sp__law_over : SpD := fun m us Q _ => ∃ p q s d u v w e, us = [n4 p q s d, n4 u v w e] ∧ overL Q p q s d u v w e
def sp__law_constant : SpD := fun m us Q _ => ∃ u, us = [u] ∧ isN u ∧ Q (.tup (trimU [u]))
theorem rngU_len2 (i : Int) (n : Nat) : (rngU i n).length = n := by
  unfold rngU
  simp
def sp__law_ten : SpD := fun m us Q _ => ∃ n : Nat, us = [.int (n : Int)] ∧ n ≤ 100 ∧ Q (.int ((10 : Int) ^ n))
theorem ten_bd (i : Nat) (h : i ≤ 100) : Bd 1000 ((10 : Int) ^ i) := by
  unfold Bd
  have e : ((10 : Int) ^ i).natAbs = 10 ^ i := by
    rw [Int.natAbs_pow]
    rfl
  rw [e]
  exact Nat.lt_of_le_of_lt (Nat.pow_le_pow_right (by decide) h) (by decide)
end
end T01
set_option Elab.async false
set_option linter.all false
set_option maxRecDepth 100000
set_option maxHeartbeats 8000000
set_option exponentiation.threshold 10000
namespace T01
open PySem PySem.Spec PyProof.Rows L2 XR DL
open PySem.XK (ExF)
/-! ### which numbers are short -/
def shortN (n : Nat) : U → Bool
  | .tup [.int p, .int q, .int s, .int _] => decide (p.natAbs < 10 ^ n ∧ q.natAbs < 10 ^ n ∧ s < ((10 ^ n : Nat) : Int))
  | _ => false
theorem short_eq (n : Nat) (p q s d : Int) : shortN n (n4 p q s d) = !decide ((10 : Int) ^ n ≤ (if (if q < 0 then -q else q) > (if p < 0 then -p else p) then (if s > (if q < 0 then -q else q) then s else (if q < 0 then -q else q)) else (if s > (if p < 0 then -p else p) then s else (if p < 0 then -p else p)))) := by
  have e : (10 : Int) ^ n = ((10 ^ n : Nat) : Int) := by
    rw [Int.natCast_pow]
    rfl
  rw [e]
  unfold shortN n4
  dsimp only
  generalize (10 ^ n : Nat) = T
  rw [Bool.eq_iff_iff, Bool.not_eq_true', decide_eq_true_eq, decide_eq_false_iff_not]
  repeat' split
  all_goals omega
theorem ones_flat : ∀ {ts : List U}, (∀ u ∈ ts, u = .int 1) → isDs ts = true ∧ PyData.canLayAll0 (toPs ts) = true ∧ PyData.depthAll (toPs ts) ≤ 1
  | [], _ => ⟨rfl, rfl, Nat.zero_le _⟩
  | t :: ts, h => by
    obtain ⟨h1, h2, h3⟩ := ones_flat (ts := ts) fun u hu => h u (List.mem_cons_of_mem _ hu)
    have e := h t List.mem_cons_self
    subst e
    refine ⟨h1, h2, ?_⟩
    show max (PyData.depth (toP (.int 1))) (PyData.depthAll (toPs ts)) ≤ 1
    exact Nat.max_le.mpr ⟨Nat.zero_le 1, h3⟩
theorem flat_ones {ts : List U} (h : ∀ u ∈ ts, u = .int 1) : flat (.lst ts) = true := by
  obtain ⟨h1, h2, h3⟩ := ones_flat h
  unfold flat SeqAt.shaped
  rw [show isD (.lst ts) = true from h1, show (toP (.lst ts)).canLay0 = true from h2, show decide ((toP (.lst ts)).depth ≤ 64) = true from decide_eq_true (by show PyData.depthAll (toPs ts) + 1 ≤ 64; omega)]
  rfl
theorem ueq_lnil (ts : List U) : ueq (.lst ts) (.lst []) = ts.isEmpty := by
  cases ts with
  | nil => rfl
  | cons t ts => rfl
section
variable {P : Program} {w : World} {K : PySem.W.Frag} {mg : Str → Option Value} {base : Heap}
def sp__law_are_short : SpD := fun m us Q _ => ∃ (ts : List U) (n : Nat), us = [.lst ts, .int (n : Int)] ∧ (∀ u ∈ ts, isN u) ∧ ts.length ≤ 400 ∧ n ≤ 100 ∧ Q (.bl (ts.all (shortN n)))
end
end T01
set_option Elab.async false
set_option linter.all false
set_option maxRecDepth 100000
set_option maxHeartbeats 8000000
set_option exponentiation.threshold 10000
namespace T01
open PySem PySem.Spec PyProof.Rows L2 XR DL
/-! ### the law's arithmetic is the program's -/
theorem lowT_low (p q s d : Int) (s0 : s ≠ 0) : lowT p q s d = n4 (p.fdiv (if s < 0 then -((Int.gcd (Int.gcd p q : Nat) s : Nat) : Int) else ((Int.gcd (Int.gcd p q : Nat) s : Nat) : Int))) (q.fdiv (if s < 0 then -((Int.gcd (Int.gcd p q : Nat) s : Nat) : Int) else ((Int.gcd (Int.gcd p q : Nat) s : Nat) : Int)))
    (s.fdiv (if s < 0 then -((Int.gcd (Int.gcd p q : Nat) s : Nat) : Int) else ((Int.gcd (Int.gcd p q : Nat) s : Nat) : Int))) (if q = 0 then 1 else d) := by
  have e : tdv p q s = if s < 0 then -((Int.gcd (Int.gcd p q : Nat) s : Nat) : Int) else ((Int.gcd (Int.gcd p q : Nat) s : Nat) : Int) := by
    unfold tdv
    by_cases hs : 0 < s
    · rw [if_pos hs, if_neg (by omega), Int.mul_one]
    · rw [if_neg hs, if_pos (by omega), Int.mul_neg, Int.mul_one]
  have e2 : (if ¬q = 0 then d else 1) = if q = 0 then 1 else d := by
    by_cases hq : q = 0
    · rw [if_neg (fun z => z hq), if_pos hq]
    · rw [if_pos hq, if_neg hq]
  unfold lowT
  rw [e, e2]
theorem made_low (p q s d : Int) (s0 : s ≠ 0) : madeN p q s d = lowN p q s d := by
  unfold madeN lowN
  by_cases hd : d = 1
  · rw [if_pos hd, lowT_low _ _ _ _ s0]
    simp only [if_pos hd]
    rfl
  · rw [if_neg hd, lowT_low _ _ _ _ s0]
    simp only [if_neg hd]
    rfl
theorem root_eq (q d e : Int) : (if ¬q = 0 then d else e) = rootN q d e := by
  unfold rootN
  by_cases h : q = 0
  · rw [if_neg (fun z => z h), if_pos h]
  · rw [if_pos h, if_neg h]
theorem plus_sum {p q s d u v w e : Int} (s0 : s ≠ 0) (w0 : w ≠ 0) : plusL p q s d u v w e = sumN p q s d u v w e := by
  unfold plusL sumN
  rw [made_low _ _ _ _ (Int.mul_ne_zero s0 w0), root_eq]
theorem times_mul {p q s d u v w e : Int} (s0 : s ≠ 0) (w0 : w ≠ 0) : timesL p q s d u v w e = mulN p q s d u v w e := by
  unfold timesL mulN
  rw [made_low _ _ _ _ (Int.mul_ne_zero s0 w0), root_eq]
theorem over_eq {p q s d u v w e a b c f : Int} (n0 : u * u - v * v * e ≠ 0) (s0 : s ≠ 0) (c0 : c ≠ 0) (em : madeN (u * w) (-v * w) (u * u - v * v * e) e = n4 a b c f) : timesL p q s d a b c f = overN p q s d u v w e := by
  rw [made_low _ _ _ _ n0, Int.mul_comm u w, show -v * w = -w * v from by rw [Int.neg_mul, Int.neg_mul, Int.mul_comm v w]] at em
  have h : lowN (w * u) (-w * v) (u * u - v * v * e) e = n4 (low4 (w * u) (-w * v) (u * u - v * v * e) e).1 (low4 (w * u) (-w * v) (u * u - v * v * e) e).2.1 (low4 (w * u) (-w * v) (u * u - v * v * e) e).2.2.1 (low4 (w * u) (-w * v) (u * u - v * v * e) e).2.2.2 := rfl
  rw [h] at em
  simp only [n4, U.tup.injEq, List.cons.injEq, U.int.injEq, and_true] at em
  obtain ⟨rfl, rfl, rfl, rfl⟩ := em
  rw [times_mul s0 c0]
  rfl
end T01
set_option Elab.async false
set_option linter.all false
set_option maxRecDepth 100000
set_option maxHeartbeats 8000000
set_option exponentiation.threshold 10000
namespace T01
open PySem PySem.Spec PyProof.Rows L2 XR DL
/-! ### draws as data -/
theorem dk_stp {m : Mo} {H H' : Hp} {d l : Addr} (e : m.deck = some (d, l)) (D : Dk d l H H') : stpM m H H' := fun b o h k => by
  obtain ⟨k1, _⟩ := k
  rw [e] at k1
  exact D b o h k1.1 k1.2
theorem dk_inv {m : Mo} {H H' : Hp} {d l : Addr} (e : m.deck = some (d, l)) (i : invM m H) (D : Dk d l H H') (A : DeckAt H' d l) : invM m H' := by
  obtain ⟨i1, i2, i3⟩ := i
  have A' := A
  rw [e] at i1
  obtain ⟨m0, n0, ns0, h1, h2, _⟩ := i1
  obtain ⟨m1, n1, ns1, g1, g2, _⟩ := A
  refine ⟨by rw [e]; exact A', fun b hb => ?_, fun b hb => ?_⟩
  · by_cases c1 : b = d
    · rw [c1, g1]
      exact fun z => nomatch z
    · by_cases c2 : b = l
      · rw [c2, g2]
        exact fun z => nomatch z
      · have z := i2 b hb
        cases hH : H b with
        | none => exact absurd hH z
        | some o =>
          rw [D b o hH c1 c2]
          exact fun z => nomatch z
  · obtain ⟨ps, hp, z⟩ := i3 b hb
    have c1 : b ≠ d := fun c => by
      rw [c, h1] at hp
      cases hp
    have c2 : b ≠ l := fun c => by
      rw [c, h2] at hp
      cases hp
    exact ⟨ps, D b _ hp c1 c2, z⟩
def sp_draw : SpD := fun m us Q _ => ∃ (d l : Addr) (many : Int), m.deck = some (d, l) ∧ us = [.raw (.ref d), .int many] ∧ 0 < many ∧ many < 1073741824 ∧ ∀ r : Int, 0 ≤ r → r < many → Q (.int r)
section
variable {P : Program} {w : World} {K : PySem.W.Frag} {mg : Str → Option Value} {base : Heap}
theorem ok__law_draw {a : Addr} {fd : FuncData} (D : DL.Def K mg "_law_draw" sDraw a fd) (gint : mg "int" = none) (gmax : mg "max" = none) : Fd P w K mg base 1 a fd ["deck", "many"] sp_draw :=
  Fd.of0 (ok_draw D.F gint gmax) (fun m us Q Z h => by
    obtain ⟨d, l, many, _, rfl, _⟩ := h
    rfl) fun H vs m us Qd Zd Q E iv rl hsp c => by
    obtain ⟨d, l, many, e, rfl, p0, p1, k⟩ := hsp
    obtain ⟨v, x, rfl, ra, rb⟩ := rl2 rl
    cases ra
    rw [rel_int rb]
    have A : DeckAt H d l := by
      have i1 := iv.1
      rw [e] at i1
      exact i1
    exact ⟨d, l, many, rfl, A, p0, p1, fun r H' r0 r1 A' D' => c _ _ H' (k r r0 r1) (dk_stp e D') (dk_inv e iv D' A') (.int r)⟩
theorem sc__law_great : FnScope ["deck", "many", "found", "left"] ["deck", "many"] (defScope s__law_great) := ⟨rfl, rfl, rfl, by decide +kernel, rfl, by decide +kernel, by decide +kernel⟩
def sp_great : SpD := fun m us Q _ => ∃ (d l : Addr) (many : Int), m.deck = some (d, l) ∧ us = [.raw (.ref d), .int many] ∧ 0 < many ∧ Bd 400 many ∧ ∀ r : Int, 0 ≤ r → r < many → Q (.int r)
theorem great_step {f l q r : Int} (hf : 0 ≤ f) (r0 : 0 ≤ r) (r1 : r < 1000000) (hq : q * 1000000 ≤ l) (q0 : 0 ≤ q) (h : (f + 1) * l ≤ n) : (f * 1000000 + r + 1) * q ≤ n := by
  have h1 : (f * 1000000 + r + 1) * q ≤ ((f + 1) * 1000000) * q := Int.mul_le_mul_of_nonneg_right (by omega) q0
  have h2 : ((f + 1) * 1000000) * q = (f + 1) * (q * 1000000) := by rw [Int.mul_assoc, Int.mul_comm 1000000 q]
  have h3 : (f + 1) * (q * 1000000) ≤ (f + 1) * l := Int.mul_le_mul_of_nonneg_left hq (by omega)
  omega
theorem great_le {f l n : Int} (hf : 0 ≤ f) (hl : 0 < l) (h : (f + 1) * l ≤ n) : f + 1 ≤ n := by
  have h1 : (f + 1) * 1 ≤ (f + 1) * l := Int.mul_le_mul_of_nonneg_left (by omega) (by omega)
  omega
theorem ok__law_great {a a1 : Addr} {fd fd1 : FuncData} (D : DL.Def K mg "_law_great" s__law_great a fd) (D__law_draw : DL.Def K mg "_law_draw" sDraw a1 fd1) (gint : mg "int" = none) (gmax : mg "max" = none) : Fd P w K mg base 2 a fd ["deck", "many"] sp_great := by
  have G__law_draw : Fd P w K mg base 1 a1 fd1 ["deck", "many"] sp_draw := ok__law_draw D__law_draw gint gmax
  have b__law_draw : Binds K fd1 ["deck", "many"] [] := D__law_draw.F.binds fun _ _ _ _ _ _ us hl => match us, hl with | [_, _], _ => rfl
  refine fd_of D.F sc__law_great (fun m us Q Z h => ?_) (fun cdv A outer s H E m us Qd Zd hr hG tk h => ?_)
  · obtain ⟨d, l, many, _, rfl, _⟩ := h
    rfl
  · obtain ⟨d, l, many, e, rfl, p0, p1, k⟩ := h
    have hu := hr.units
    refine ⟨_, (dss_cons (ds_of_par (ps_par (i := 2) (j := 3) (by rfl) sc__law_great.nd rfl rfl (by decide) rfl rfl (da_cons de_int (da_cons (de_var (pv 1)) da_nil)) (by rfl)))
    (dss_cons (ds_while (passes_of rfl) (dt_gt (de_var (pv 3)) de_int) (dss_one (ds_of_par (ps_par (i := 2) (j := 3) (by rfl) sc__law_great.nd rfl rfl (by decide) rfl rfl (da_cons (de_plus (de_star (de_var (pv 2)) (de_pow de_int de_int)) (de_call G__law_draw (hr.mono (by decide)) hG tk (by rfl) D__law_draw.g D__law_draw.F.kp b__law_draw (da_cons (de_var (pv 0)) (da_cons (de_pow de_int de_int) da_nil)))) (da_cons (de_fdv (de_var (pv 3)) (de_pow de_int de_int)) da_nil)) (by rfl)))))
    (dss_one (ds_ret (de_mod (de_callB cal_int (pe_callTy call_int1 (by rfl) gint (by decide +kernel) (da_cons (de_var (pv 2)) da_nil))) (de_var (pv 1))))))), ?_⟩
    simp (config := { maxSteps := 1000000 }) only [dSeq, dIfS, dTest, dOp, dUn, dVar, dC, dTup, dLst, dNil, dCons, dRet, dRetN, dDrop, dSet, dPar, dAsg, dgTup, dgCons, dgNil, dgName, dCB, dNext, dIf, dAnd, dOr, dNot, dNotV, dAndV, dOrV, dCall, dCallK, dRaise, dAug, dSl, dPart, dNoPart, startU_eq, List.map_cons, List.map_nil, List.cons_append, List.nil_append, List.length_cons, List.length_nil, List.replicate, List.getElem?_cons_zero, List.getElem?_cons_succ, List.getElem?_nil, List.set_cons_zero, List.set_cons_succ, Nat.reduceAdd, Nat.reduceSub, ex_uu, ex_bl, ex_tup, ex_lst, ex_int, ex_cons, ex_two, gEq_int, gNe_int, gEq_p2, gNe_p2, gEq_str, ixp0, ixp1, plus_int, star_int, gI_int, gIC_int, ix0, ix1, ix2, ix3, fGcd_int, fIsq_int, fAbs_int, fInt_int, fLen_tup, fLen_lst, fMax2_int, gNeg_int, gFdv, gMod, DL.gSub, gPow, gLt, gLe, gGt, gGe, eq_self, decide_eq_true_eq, Bool.not_eq_true', decide_eq_false_iff_not, true_and, and_true, if_true, if_false, Bool.false_eq_true, Bool.not_true, Bool.not_false]
    unfold dWhile
    refine ⟨fun z ρ => ∃ f g : Int, ρ = [some (.raw (.ref d)), some (.int many), some (.int f), some (.int g)] ∧ z = g.toNat ∧ 0 ≤ f ∧ 0 ≤ g ∧ (f + 1) * g ≤ many ∧ f < many * 1000000, ⟨_, 0, many, rfl, rfl, by omega, by omega, by omega, by omega⟩, ?_⟩
    rintro z ρ ⟨f, g, rfl, rfl, f0, g0, hfg, hf⟩
    simp (config := { maxSteps := 1000000 }) only [dSeq, dIfS, dTest, dOp, dUn, dVar, dC, dTup, dLst, dNil, dCons, dRet, dRetN, dDrop, dSet, dPar, dAsg, dgTup, dgCons, dgNil, dgName, dCB, dNext, dIf, dAnd, dOr, dNot, dNotV, dAndV, dOrV, dCall, dCallK, dRaise, dAug, dSl, dPart, dNoPart, startU_eq, List.map_cons, List.map_nil, List.cons_append, List.nil_append, List.length_cons, List.length_nil, List.replicate, List.getElem?_cons_zero, List.getElem?_cons_succ, List.getElem?_nil, List.set_cons_zero, List.set_cons_succ, Nat.reduceAdd, Nat.reduceSub, ex_uu, ex_bl, ex_tup, ex_lst, ex_int, ex_cons, ex_two, gEq_int, gNe_int, gEq_p2, gNe_p2, gEq_str, ixp0, ixp1, plus_int, star_int, gI_int, gIC_int, ix0, ix1, ix2, ix3, fGcd_int, fIsq_int, fAbs_int, fInt_int, fLen_tup, fLen_lst, fMax2_int, gNeg_int, gFdv, gMod, DL.gSub, gPow, gLt, gLe, gGt, gGe, eq_self, decide_eq_true_eq, Bool.not_eq_true', decide_eq_false_iff_not, true_and, and_true, if_true, if_false, Bool.false_eq_true, Bool.not_true, Bool.not_false]
    have bf : Bd 440 f := by
      unfold Bd at p1 ⊢
      have : (2 : Nat) ^ 440 = 2 ^ 400 * 2 ^ 40 := by rw [← Nat.pow_add]
      have h40 : (2 : Nat) ^ 40 = 1099511627776 := by decide
      rw [h40] at this
      omega
    by_cases c : 0 < g
    · rw [if_pos c]
      have hle := great_le f0 c hfg
      have q0 : 0 ≤ g.fdiv 1000000 := Int.fdiv_nonneg g0 (by decide)
      have e1 : g.fdiv 1000000 = g / 1000000 := Int.fdiv_eq_ediv_of_nonneg g (by decide)
      have CP : CPow 10 6 := ⟨by decide, by decide, by decide⟩
      refine ⟨CP, mul_ok 440 40 bf (by unfold Bd; decide) (by decide) (by decide) (by decide), CP, d, l, _, e, rfl, by decide, by decide, fun r r0 r1 => ?_⟩
      simp (config := { maxSteps := 1000000 }) only [dSeq, dIfS, dTest, dOp, dUn, dVar, dC, dTup, dLst, dNil, dCons, dRet, dRetN, dDrop, dSet, dPar, dAsg, dgTup, dgCons, dgNil, dgName, dCB, dNext, dIf, dAnd, dOr, dNot, dNotV, dAndV, dOrV, dCall, dCallK, dRaise, dAug, dSl, dPart, dNoPart, startU_eq, List.map_cons, List.map_nil, List.cons_append, List.nil_append, List.length_cons, List.length_nil, List.replicate, List.getElem?_cons_zero, List.getElem?_cons_succ, List.getElem?_nil, List.set_cons_zero, List.set_cons_succ, Nat.reduceAdd, Nat.reduceSub, ex_uu, ex_bl, ex_tup, ex_lst, ex_int, ex_cons, ex_two, gEq_int, gNe_int, gEq_p2, gNe_p2, gEq_str, ixp0, ixp1, plus_int, star_int, gI_int, gIC_int, ix0, ix1, ix2, ix3, fGcd_int, fIsq_int, fAbs_int, fInt_int, fLen_tup, fLen_lst, fMax2_int, gNeg_int, gFdv, gMod, DL.gSub, gPow, gLt, gLe, gGt, gGe, eq_self, decide_eq_true_eq, Bool.not_eq_true', decide_eq_false_iff_not, true_and, and_true, if_true, if_false, Bool.false_eq_true, Bool.not_true, Bool.not_false]
      have r1' : r < 1000000 := r1
      have e10 : (10 : Int) ^ Int.toNat 6 = 1000000 := by decide
      rw [e10]
      have h6 := Int.ediv_mul_le g (b := 1000000) (by decide)
      have h7 : g / 1000000 < g := Int.ediv_lt_of_lt_mul (by decide) (by omega)
      exact ⟨CP, ⟨by decide, by decide +kernel⟩, _, by rw [e1]; omega, _, _, rfl, rfl, by omega, q0, great_step f0 r0 r1' (by rw [e1]; exact h6) q0 hfg, by omega⟩
    · rw [if_neg c]
      refine ⟨p0, ?_⟩
      exact k _ (Int.emod_nonneg _ (by omega)) (Int.emod_lt_of_pos _ p0)
theorem sc__law_pick : FnScope ["deck", "some"] ["deck", "some"] (defScope s__law_pick) := ⟨rfl, rfl, rfl, by decide +kernel, rfl, by decide +kernel, by decide +kernel⟩
def sp_pick : SpD := fun m us Q _ => ∃ (d l : Addr) (ts : List U), m.deck = some (d, l) ∧ us = [.raw (.ref d), .lst ts] ∧ 0 < ts.length ∧ ts.length < 1000 ∧ ∀ u ∈ ts, Q u
theorem ok__law_pick {a a1 : Addr} {fd fd1 : FuncData} (D : DL.Def K mg "_law_pick" s__law_pick a fd) (D__law_draw : DL.Def K mg "_law_draw" sDraw a1 fd1) (gint : mg "int" = none) (gmax : mg "max" = none) (glen : mg "len" = none) : Fd P w K mg base 2 a fd ["deck", "some"] sp_pick := by
  have G__law_draw : Fd P w K mg base 1 a1 fd1 ["deck", "many"] sp_draw := ok__law_draw D__law_draw gint gmax
  have b__law_draw : Binds K fd1 ["deck", "many"] [] := D__law_draw.F.binds fun _ _ _ _ _ _ us hl => match us, hl with | [_, _], _ => rfl
  refine fd_of D.F sc__law_pick (fun m us Q Z h => ?_) (fun cdv A outer s H E m us Qd Zd hr hG tk h => ?_)
  · obtain ⟨d, l, ts, _, rfl, _⟩ := h
    rfl
  · obtain ⟨d, l, ts, e, rfl, p0, p1, k⟩ := h
    have hu := hr.units
    refine ⟨_, (dss_one (ds_ret (de_ix (de_var (pv 1)) (de_call G__law_draw (hr.mono (by decide)) hG tk (by rfl) D__law_draw.g D__law_draw.F.kp b__law_draw (da_cons (de_var (pv 0)) (da_cons (de_callB cal_len (pe_callB call_len_seq (by rfl) glen PySem.boot_len (da_cons (de_var (pv 1)) da_nil))) da_nil))) (fun _ _ => rfl)))), ?_⟩
    simp (config := { maxSteps := 1000000 }) only [dSeq, dIfS, dTest, dOp, dUn, dVar, dC, dTup, dLst, dNil, dCons, dRet, dRetN, dDrop, dSet, dPar, dAsg, dgTup, dgCons, dgNil, dgName, dCB, dNext, dIf, dAnd, dOr, dNot, dNotV, dAndV, dOrV, dCall, dCallK, dRaise, dAug, dSl, dPart, dNoPart, startU_eq, List.map_cons, List.map_nil, List.cons_append, List.nil_append, List.length_cons, List.length_nil, List.replicate, List.getElem?_cons_zero, List.getElem?_cons_succ, List.getElem?_nil, List.set_cons_zero, List.set_cons_succ, Nat.reduceAdd, Nat.reduceSub, ex_uu, ex_bl, ex_tup, ex_lst, ex_int, ex_cons, ex_two, gEq_int, gNe_int, gEq_p2, gNe_p2, gEq_str, ixp0, ixp1, plus_int, star_int, gI_int, gIC_int, ix0, ix1, ix2, ix3, fGcd_int, fIsq_int, fAbs_int, fInt_int, fLen_tup, fLen_lst, fMax2_int, gNeg_int, gFdv, gMod, DL.gSub, gPow, gLt, gLe, gGt, gGe, eq_self, decide_eq_true_eq, Bool.not_eq_true', decide_eq_false_iff_not, true_and, and_true, if_true, if_false, Bool.false_eq_true, Bool.not_true, Bool.not_false]
    refine ⟨d, l, _, e, rfl, by omega, by omega, fun r r0 r1 => ?_⟩
    obtain ⟨j, rfl⟩ : ∃ j : Nat, r = (j : Int) := ⟨r.toNat, by omega⟩
    have lt : j < ts.length := by omega
    exact (ix_lst_at _ _ _ ts[j] (atI_nat (List.getElem?_eq_getElem lt))).mpr (k _ (List.getElem_mem lt))
end
end T01
set_option Elab.async false
set_option linter.all false
set_option maxRecDepth 100000
set_option maxHeartbeats 8000000
set_option exponentiation.threshold 10000
namespace T01
open PySem PySem.Spec PyProof.Rows L2 XR DL
/-! ### numbers by value -/
def vp : U → Rat
  | .tup [.int p, .int _, .int s, .int _] => (p : Rat) / (s : Rat)
  | _ => 0
def vq : U → Rat
  | .tup [.int _, .int q, .int s, .int _] => (q : Rat) / (s : Rat)
  | _ => 0
theorem vp_n4 (p q s d : Int) : vp (n4 p q s d) = (p : Rat) / (s : Rat) := rfl
theorem vq_n4 (p q s d : Int) : vq (n4 p q s d) = (q : Rat) / (s : Rat) := rfl
structure NumF (p q s d : Int) : Prop where
  s1 : 1 ≤ s
  one : Nat.gcd (Nat.gcd p.natAbs q.natAbs) s.natAbs = 1
  d1 : q = 0 → d = 1
  d2 : q ≠ 0 → d ≠ 0 ∧ d ≠ 1 ∧ d.natAbs ≤ 1000000000000
theorem numF_iff {p q s d : Int} : numF p q s d = true ↔ NumF p q s d := by
  unfold numF
  rw [Int.natAbs_natCast]
  simp only [Bool.and_eq_true, decide_eq_true_eq]
  constructor
  · rintro ⟨h1, h2, h3⟩
    refine ⟨h1, by omega, fun c => ?_, fun c => ?_⟩
    · rw [if_pos c] at h3
      exact of_decide_eq_true h3
    · rw [if_neg c] at h3
      simp only [Bool.and_eq_true, Bool.not_eq_true', decide_eq_false_iff_not, decide_eq_true_eq] at h3
      obtain ⟨a, b, c⟩ := h3
      refine ⟨a, b, ?_⟩
      split at c <;> omega
  · rintro ⟨h1, h2, h3, h4⟩
    refine ⟨h1, by omega, ?_⟩
    by_cases c : q = 0
    · rw [if_pos c]
      exact decide_eq_true (h3 c)
    · rw [if_neg c]
      obtain ⟨a, b, e⟩ := h4 c
      simp only [Bool.and_eq_true, Bool.not_eq_true', decide_eq_false_iff_not, decide_eq_true_eq]
      refine ⟨a, b, ?_⟩
      split <;> omega
/-- a number of the root D -/
def NumD (D : Int) (u : U) : Prop := ∃ p q s d : Int, u = n4 p q s d ∧ NumF p q s d ∧ (q = 0 ∨ d = D)
theorem NumD.isN {D : Int} {u : U} (h : NumD D u) : isN u := by
  obtain ⟨p, q, s, d, e, _⟩ := h
  exact ⟨p, q, s, d, e⟩
theorem cast_ne {s : Int} (h : s ≠ 0) : (s : Rat) ≠ 0 := by exact_mod_cast h
theorem div_eq_iff' {p s p' s' : Int} (h : s ≠ 0) (h' : s' ≠ 0) : (p:Rat)/(s:Rat) = (p':Rat)/(s':Rat) ↔ p*s' = p'*s := by
  have a := cast_ne h
  have b := cast_ne h'
  constructor
  · intro e
    have z : (p:Rat)*(s':Rat) = (p':Rat)*(s:Rat) := by grind
    exact_mod_cast z
  · intro e
    have z : (p:Rat)*(s':Rat) = (p':Rat)*(s:Rat) := by exact_mod_cast e
    grind
theorem dvd_low {p q s p' q' s' : Int} (h : Nat.gcd (Nat.gcd p.natAbs q.natAbs) s.natAbs = 1) (e1 : p*s' = p'*s) (e2 : q*s' = q'*s) : s.natAbs ∣ s'.natAbs := by
  have a1 : s.natAbs ∣ p.natAbs * s'.natAbs := ⟨p'.natAbs, by rw [← Int.natAbs_mul, e1, Int.natAbs_mul, Nat.mul_comm]⟩
  have a2 : s.natAbs ∣ q.natAbs * s'.natAbs := ⟨q'.natAbs, by rw [← Int.natAbs_mul, e2, Int.natAbs_mul, Nat.mul_comm]⟩
  have a3 : s.natAbs ∣ s.natAbs * s'.natAbs := Nat.dvd_mul_right _ _
  have b := Nat.dvd_gcd (Nat.dvd_gcd a1 a2) a3
  rw [Nat.gcd_mul_right, Nat.gcd_mul_right, h, Nat.one_mul] at b
  exact b
theorem NumD.ext {D : Int} {u v : U} (hu : NumD D u) (hv : NumD D v) (e1 : vp u = vp v) (e2 : vq u = vq v) : u = v := by
  obtain ⟨p, q, s, d, rfl, f, r⟩ := hu
  obtain ⟨p', q', s', d', rfl, f', r'⟩ := hv
  have s0 := f.s1
  have s0' := f'.s1
  rw [vp_n4, vp_n4, div_eq_iff' (by omega) (by omega)] at e1
  rw [vq_n4, vq_n4, div_eq_iff' (by omega) (by omega)] at e2
  have d1 := dvd_low f.one e1 e2
  have d2 := dvd_low f'.one e1.symm e2.symm
  have es : s = s' := by
    have := Nat.dvd_antisymm d1 d2
    omega
  subst es
  have ep : p = p' := Int.eq_of_mul_eq_mul_right (by omega) e1
  have eq' : q = q' := Int.eq_of_mul_eq_mul_right (by omega) e2
  subst ep eq'
  have ed : d = d' := by
    by_cases c : q = 0
    · rw [f.d1 c, f'.d1 c]
    · rcases r with r | r
      · exact absurd r c
      · rcases r' with r' | r'
        · exact absurd r' c
        · rw [r, r']
  rw [ed]
theorem low_val {p g : Int} {s : Int} (g0 : g ≠ 0) (dp : g ∣ p) (ds : g ∣ s) (s0 : s ≠ 0) : ((p.fdiv g : Int) : Rat) / ((s.fdiv g : Int) : Rat) = (p : Rat) / (s : Rat) := by
  have e1 := (fdiv_dvd g0 dp).1
  have e2 := (fdiv_dvd g0 ds).1
  have n : s.fdiv g ≠ 0 := fun c => by
    rw [c, Int.mul_zero] at e2
    exact s0 e2
  rw [div_eq_iff' n s0]
  generalize s.fdiv g = x at *
  generalize p.fdiv g = y at *
  subst e1 e2
  grind
/-- a root that may stand: no condition for fractions -/
def RtOk (D q d : Int) : Prop := q = 0 ∨ (d = D ∧ d ≠ 0 ∧ d ≠ 1 ∧ d.natAbs ≤ 1000000000000)
theorem low_num {D p q s d : Int} (s0 : s ≠ 0) (hr : RtOk D q d) : NumD D (lowN p q s d) ∧ vp (lowN p q s d) = (p : Rat) / (s : Rat) ∧ vq (lowN p q s d) = (q : Rat) / (s : Rat) := by
  have ep : (if d = 1 then p + q else p) = p := by
    by_cases c : d = 1
    · rcases hr with h | h
      · rw [if_pos c, h]
        omega
      · exact absurd c h.2.2.1
    · rw [if_neg c]
  have eq' : (if d = 1 then 0 else q) = q := by
    by_cases c : d = 1
    · rcases hr with h | h
      · rw [if_pos c, h]
      · exact absurd c h.2.2.1
    · rw [if_neg c]
  have G := lowG (p' := p) (q' := q) s0
  have e : lowN p q s d = n4 (p.fdiv (if s < 0 then -((Nat.gcd ((Nat.gcd p.natAbs q.natAbs : Nat) : Int).natAbs s.natAbs : Nat) : Int) else ((Nat.gcd ((Nat.gcd p.natAbs q.natAbs : Nat) : Int).natAbs s.natAbs : Nat) : Int)))
      (q.fdiv (if s < 0 then -((Nat.gcd ((Nat.gcd p.natAbs q.natAbs : Nat) : Int).natAbs s.natAbs : Nat) : Int) else ((Nat.gcd ((Nat.gcd p.natAbs q.natAbs : Nat) : Int).natAbs s.natAbs : Nat) : Int)))
      (s.fdiv (if s < 0 then -((Nat.gcd ((Nat.gcd p.natAbs q.natAbs : Nat) : Int).natAbs s.natAbs : Nat) : Int) else ((Nat.gcd ((Nat.gcd p.natAbs q.natAbs : Nat) : Int).natAbs s.natAbs : Nat) : Int))) (if q = 0 then 1 else d) := by
    unfold lowN
    simp only [ep, eq']
  rw [e]
  generalize (if s < 0 then -((Nat.gcd ((Nat.gcd p.natAbs q.natAbs : Nat) : Int).natAbs s.natAbs : Nat) : Int) else ((Nat.gcd ((Nat.gcd p.natAbs q.natAbs : Nat) : Int).natAbs s.natAbs : Nat) : Int)) = g at G ⊢
  have q0 : q.fdiv g = 0 ↔ q = 0 := by
    have e1 := (fdiv_dvd G.g0 G.dq).1
    constructor
    · intro z
      rw [z, Int.mul_zero] at e1
      exact e1
    · intro z
      rw [z]
      exact Int.zero_fdiv g
  refine ⟨⟨_, _, _, _, rfl, ⟨?_, ?_, ?_, ?_⟩, ?_⟩, ?_, ?_⟩
  · have := G.pos
    omega
  · refine G.one _ ?_ ?_ ?_
    · exact Int.ofNat_dvd_left.mpr (Nat.dvd_trans (Nat.gcd_dvd_left _ _) (Nat.gcd_dvd_left _ _))
    · exact Int.ofNat_dvd_left.mpr (Nat.dvd_trans (Nat.gcd_dvd_left _ _) (Nat.gcd_dvd_right _ _))
    · exact Int.ofNat_dvd_left.mpr (Nat.gcd_dvd_right _ _)
  · intro z
    rw [if_pos (q0.mp z)]
  · intro z
    have z' : q ≠ 0 := fun c => z (q0.mpr c)
    rw [if_neg z']
    rcases hr with h | h
    · exact absurd h z'
    · exact ⟨h.2.1, h.2.2.1, h.2.2.2⟩
  · by_cases z : q = 0
    · exact .inl (q0.mpr z)
    · rw [if_neg z]
      rcases hr with h | h
      · exact absurd h z
      · exact .inr h.1
  · rw [vp_n4]
    exact low_val G.g0 G.dp G.ds s0
  · rw [vq_n4]
    exact low_val G.g0 G.dq G.ds s0
theorem root_ok {D q d v e x : Int} (f1 : q = 0 → d = 1) (f2 : q ≠ 0 → d ≠ 0 ∧ d ≠ 1 ∧ d.natAbs ≤ 1000000000000) (r : q = 0 ∨ d = D) (g2 : v ≠ 0 → e ≠ 0 ∧ e ≠ 1 ∧ e.natAbs ≤ 1000000000000) (t : v = 0 ∨ e = D) (hx : q = 0 → v = 0 → x = 0) : RtOk D x (rootN q d e) := by
  unfold rootN RtOk
  by_cases c : q = 0
  · rw [if_pos c]
    by_cases c2 : v = 0
    · exact .inl (hx c c2)
    · rcases t with t | t
      · exact absurd t c2
      · exact .inr ⟨t, g2 c2⟩
  · rw [if_neg c]
    rcases r with r | r
    · exact absurd r c
    · exact .inr ⟨r, f2 c⟩
theorem root_val {D q d v e : Int} (r : q = 0 ∨ d = D) (t : v = 0 ∨ e = D) : q * v * rootN q d e = q * v * D := by
  unfold rootN
  by_cases c : q = 0
  · simp [c]
  · rw [if_neg c]
    rcases r with r | r
    · exact absurd r c
    · rw [r]
theorem sumU_ok {D : Int} {u v : U} (hu : NumD D u) (hv : NumD D v) : NumD D (sumU u v) ∧ vp (sumU u v) = vp u + vp v ∧ vq (sumU u v) = vq u + vq v := by
  obtain ⟨p, q, s, d, rfl, f, r⟩ := hu
  obtain ⟨p', q', s', d', rfl, f', r'⟩ := hv
  have s0 : s ≠ 0 := by have := f.s1; omega
  have s0' : s' ≠ 0 := by have := f'.s1; omega
  have h := low_num (D := D) (p := p * s' + p' * s) (q := q * s' + q' * s) (s := s * s') (d := rootN q d d') (Int.mul_ne_zero s0 s0') (root_ok f.d1 f.d2 r f'.d2 r' fun a b => by rw [a, b]; simp)
  refine ⟨h.1, ?_, ?_⟩
  · show vp (lowN _ _ _ _) = _
    rw [h.2.1, vp_n4, vp_n4]
    have a := cast_ne s0
    have b := cast_ne s0'
    push_cast
    grind
  · show vq (lowN _ _ _ _) = _
    rw [h.2.2, vq_n4, vq_n4]
    have a := cast_ne s0
    have b := cast_ne s0'
    push_cast
    grind
theorem mulU_ok {D : Int} {u v : U} (hu : NumD D u) (hv : NumD D v) : NumD D (mulU u v) ∧ vp (mulU u v) = vp u * vp v + vq u * vq v * (D : Rat) ∧ vq (mulU u v) = vp u * vq v + vq u * vp v := by
  obtain ⟨p, q, s, d, rfl, f, r⟩ := hu
  obtain ⟨p', q', s', d', rfl, f', r'⟩ := hv
  have s0 : s ≠ 0 := by have := f.s1; omega
  have s0' : s' ≠ 0 := by have := f'.s1; omega
  have h := low_num (D := D) (p := p * p' + q * q' * rootN q d d') (q := p * q' + q * p') (s := s * s') (d := rootN q d d') (Int.mul_ne_zero s0 s0') (root_ok f.d1 f.d2 r f'.d2 r' fun a b => by rw [a, b]; simp)
  refine ⟨h.1, ?_, ?_⟩
  · show vp (lowN _ _ _ _) = _
    rw [h.2.1, vp_n4, vp_n4, vq_n4, vq_n4, root_val r r']
    have a := cast_ne s0
    have b := cast_ne s0'
    push_cast
    grind
  · show vq (lowN _ _ _ _) = _
    rw [h.2.2, vp_n4, vp_n4, vq_n4, vq_n4]
    have a := cast_ne s0
    have b := cast_ne s0'
    push_cast
    grind
theorem NumF.neg {p q s d : Int} (f : NumF p q s d) : NumF (-p) (-q) s d := by
  refine ⟨f.s1, by rw [Int.natAbs_neg, Int.natAbs_neg]; exact f.one, fun c => f.d1 (by omega), fun c => f.d2 (by omega)⟩
def negU : U → U
  | .tup [.int p, .int q, .int s, .int d] => n4 (-p) (-q) s d
  | _ => .non
theorem negU_ok {D : Int} {u : U} (hu : NumD D u) : NumD D (negU u) ∧ vp (negU u) = - vp u ∧ vq (negU u) = - vq u := by
  obtain ⟨p, q, s, d, rfl, f, r⟩ := hu
  refine ⟨⟨_, _, _, _, rfl, f.neg, r.elim (fun z => .inl (by omega)) .inr⟩, ?_, ?_⟩
  · show ((-p : Int) : Rat) / (s : Rat) = - ((p : Rat) / (s : Rat))
    push_cast
    grind
  · show ((-q : Int) : Rat) / (s : Rat) = - ((q : Rat) / (s : Rat))
    push_cast
    grind
abbrev zU : U := n4 0 0 1 1
abbrev oU : U := n4 1 0 1 1
theorem zU_ok (D : Int) : NumD D zU := ⟨_, _, _, _, rfl, ⟨by decide, by decide, fun _ => rfl, fun c => absurd rfl c⟩, .inl rfl⟩
theorem oU_ok (D : Int) : NumD D oU := ⟨_, _, _, _, rfl, ⟨by decide, by decide, fun _ => rfl, fun c => absurd rfl c⟩, .inl rfl⟩
theorem zU_p : vp zU = 0 := by rw [vp_n4]; push_cast; grind
theorem zU_q : vq zU = 0 := by rw [vq_n4]; push_cast; grind
theorem oU_p : vp oU = 1 := by rw [vp_n4]; push_cast; grind
theorem oU_q : vq oU = 0 := by rw [vq_n4]; push_cast; grind
theorem isZ_iff {D : Int} {u : U} (hu : NumD D u) : isZ u = true ↔ u = zU := by
  obtain ⟨p, q, s, d, rfl, f, r⟩ := hu
  rw [isZ_n4]
  simp only [Bool.and_eq_true, decide_eq_true_eq]
  constructor
  · rintro ⟨rfl, rfl, rfl, rfl⟩
    rfl
  · intro e
    simp only [n4, U.tup.injEq, List.cons.injEq, U.int.injEq, and_true] at e
    exact e
theorem zero_iff {D : Int} {u : U} (hu : NumD D u) : u = zU ↔ vp u = 0 ∧ vq u = 0 := by
  constructor
  · rintro rfl
    exact ⟨zU_p, zU_q⟩
  · rintro ⟨a, b⟩
    exact hu.ext (zU_ok D) (by rw [a, zU_p]) (by rw [b, zU_q])
/-- D is no square -/
def NonSq (D : Int) : Prop := ∀ x y : Int, y ≠ 0 → x * x ≠ y * y * D
theorem nonSq_neg {D : Int} (h : D < 0) : NonSq D := fun x y hy e => by
  have h1 : 0 ≤ x * x := by
    rcases Int.le_total 0 x with c | c
    · exact Int.mul_nonneg c c
    · exact Int.mul_nonneg_of_nonpos_of_nonpos c c
  have h2 : 0 < y * y := by
    rcases Int.lt_or_gt_of_ne hy with c | c
    · exact Int.mul_pos_of_neg_of_neg c c
    · exact Int.mul_pos c c
  have h3 : y * y * D < 0 := Int.mul_neg_of_pos_of_neg h2 h
  omega
theorem nonSq_pos {D : Nat} (h : ∀ k : Nat, k * k ≠ D) : NonSq (D : Int) := fun x y hy e => by
  have e1 : x.natAbs * x.natAbs = y.natAbs * y.natAbs * D := by
    have := congrArg Int.natAbs e
    rw [Int.natAbs_mul, Int.natAbs_mul, Int.natAbs_mul, Int.natAbs_natCast] at this
    exact this
  obtain ⟨a, b, hc, ea, eb⟩ := Nat.exists_coprime x.natAbs y.natAbs
  have g0 : 0 < x.natAbs.gcd y.natAbs := Nat.gcd_pos_of_pos_right _ (by omega)
  generalize x.natAbs.gcd y.natAbs = g at ea eb g0
  rw [ea, eb] at e1
  have e2 : a * a = b * b * D := by
    have e3 : (g * g) * (a * a) = (g * g) * (b * b * D) := by
      rw [show (g * g) * (a * a) = a * g * (a * g) by ac_rfl, e1]
      ac_rfl
    exact Nat.eq_of_mul_eq_mul_left (Nat.mul_pos g0 g0) e3
  have d1 : b ∣ a * a := ⟨b * D, by rw [e2]; ac_rfl⟩
  have d2 : b ∣ a := Nat.Coprime.dvd_of_dvd_mul_left hc.symm d1
  have b1 : b = 1 := Nat.Coprime.eq_one_of_dvd hc.symm d2
  rw [b1, Nat.mul_one, Nat.one_mul] at e2
  exact h a e2
theorem nonSq_of {D m : Nat} (h1 : m * m < D) (h2 : D < (m + 1) * (m + 1)) : NonSq (D : Int) := nonSq_pos fun k e => by
  rcases Nat.lt_or_ge m k with c | c
  · have : (m + 1) * (m + 1) ≤ k * k := Nat.mul_le_mul c c
    omega
  · have : k * k ≤ m * m := Nat.mul_le_mul c c
    omega
/-- a root: 1, or no square -/
def Rt (D : Int) : Prop := D = 1 ∨ (D ≠ 0 ∧ D ≠ 1 ∧ D.natAbs ≤ 1000000000000 ∧ NonSq D)
theorem norm_ne {D p q s d : Int} (hD : Rt D) (f : NumF p q s d) (r : q = 0 ∨ d = D) (h : n4 p q s d ≠ zU) : p * p - q * q * d ≠ 0 := by
  by_cases c : q = 0
  · subst c
    have hp : p ≠ 0 := fun c => by
      subst c
      have := f.one
      have d1 := f.d1 rfl
      have s1 := f.s1
      simp at this
      exact h (by rw [d1, show s = 1 by omega])
    rw [Int.mul_zero, Int.zero_mul, Int.sub_zero]
    exact Int.mul_ne_zero hp hp
  · rcases r with r | r
    · exact absurd r c
    · rcases hD with hD | hD
      · exact absurd (r.trans hD) (f.d2 c).2.1
      · intro e
        rw [r] at e
        exact hD.2.2.2 p q c (by omega)
theorem norm_val {D : Int} {v : U} (hD : Rt D) (hv : NumD D v) (h : v ≠ zU) : vp v * vp v - vq v * vq v * (D : Rat) ≠ 0 := by
  obtain ⟨p, q, s, d, rfl, f, r⟩ := hv
  have n := norm_ne hD f r h
  have s0 : s ≠ 0 := by have := f.s1; omega
  rw [vp_n4, vq_n4]
  intro e
  have a := cast_ne s0
  have e2 : (p : Rat) * (p : Rat) - (q : Rat) * (q : Rat) * (D : Rat) = 0 := by grind
  have e3 : p * p - q * q * D = 0 := by exact_mod_cast e2
  refine n ?_
  rcases r with r | r
  · rw [r, Int.mul_zero, Int.zero_mul] at e3 ⊢
    exact e3
  · rw [r]
    exact e3
def overU : U → U → U
  | .tup [.int p, .int q, .int s, .int d], .tup [.int u, .int v, .int w, .int e] => overN p q s d u v w e
  | _, _ => .non
theorem inv_ok {D u v w e : Int} (hD : Rt D) (f : NumF u v w e) (r : v = 0 ∨ e = D) (h : n4 u v w e ≠ zU) :
    NumD D (lowN (w * u) (-w * v) (u * u - v * v * e) e) ∧ vp (lowN (w * u) (-w * v) (u * u - v * v * e) e) * (vp (n4 u v w e) * vp (n4 u v w e) - vq (n4 u v w e) * vq (n4 u v w e) * (D : Rat)) = vp (n4 u v w e) ∧
      vq (lowN (w * u) (-w * v) (u * u - v * v * e) e) * (vp (n4 u v w e) * vp (n4 u v w e) - vq (n4 u v w e) * vq (n4 u v w e) * (D : Rat)) = - vq (n4 u v w e) := by
  have n := norm_ne hD f r h
  have h := low_num (D := D) (p := w * u) (q := -w * v) (s := u * u - v * v * e) (d := e) n (by
    rcases r with r | r
    · exact .inl (by rw [r]; simp)
    · by_cases c : v = 0
      · exact .inl (by rw [c]; simp)
      · exact .inr ⟨r, f.d2 c⟩)
  have s0 : w ≠ 0 := by have := f.s1; omega
  have a := cast_ne s0
  have en : ((u * u - v * v * e : Int) : Rat) = (u : Rat) * u - (v : Rat) * v * (D : Rat) := by
    rcases r with r | r
    · rw [r]; push_cast; grind
    · rw [r]; push_cast; rfl
  have b := cast_ne n
  rw [en] at b
  refine ⟨h.1, ?_, ?_⟩
  · rw [h.2.1, en, vp_n4, vq_n4]
    push_cast
    grind
  · rw [h.2.2, en, vp_n4, vq_n4]
    push_cast
    grind
theorem overU_ok {D : Int} {u v : U} (hD : Rt D) (hu : NumD D u) (hv : NumD D v) (h : v ≠ zU) : NumD D (overU u v) ∧ vp (overU u v) * vp v + vq (overU u v) * vq v * (D : Rat) = vp u ∧ vp (overU u v) * vq v + vq (overU u v) * vp v = vq u := by
  have hn := norm_val hD hv h
  obtain ⟨p, q, s, d, rfl, f, r⟩ := hu
  obtain ⟨p', q', s', d', rfl, f', r'⟩ := hv
  have i := inv_ok hD f' r' h
  have m := mulU_ok (D := D) (u := n4 p q s d) (v := lowN (s' * p') (-s' * q') (p' * p' - q' * q' * d') d') ⟨_, _, _, _, rfl, f, r⟩ i.1
  have e : overU (n4 p q s d) (n4 p' q' s' d') = mulU (n4 p q s d) (lowN (s' * p') (-s' * q') (p' * p' - q' * q' * d') d') := by
    rw [lowN_eq]
    rfl
  rw [e]
  refine ⟨m.1, ?_, ?_⟩
  · rw [m.2.1, m.2.2]
    obtain ⟨_, i1, i2⟩ := i
    generalize vp (lowN (s' * p') (-s' * q') (p' * p' - q' * q' * d') d') = x at *
    generalize vq (lowN (s' * p') (-s' * q') (p' * p' - q' * q' * d') d') = y at *
    generalize vp (n4 p' q' s' d') = a at *
    generalize vq (n4 p' q' s' d') = b at *
    generalize vp (n4 p q s d) = k at *
    generalize vq (n4 p q s d) = l at *
    clear e m r r' f f' hD h
    have ex : x = a / (a * a - b * b * (D : Rat)) := by grind
    have ey : y = -b / (a * a - b * b * (D : Rat)) := by grind
    grind
  · rw [m.2.1, m.2.2]
    obtain ⟨_, i1, i2⟩ := i
    generalize vp (lowN (s' * p') (-s' * q') (p' * p' - q' * q' * d') d') = x at *
    generalize vq (lowN (s' * p') (-s' * q') (p' * p' - q' * q' * d') d') = y at *
    generalize vp (n4 p' q' s' d') = a at *
    generalize vq (n4 p' q' s' d') = b at *
    generalize vp (n4 p q s d) = k at *
    generalize vq (n4 p q s d) = l at *
    clear e m r r' f f' hD h
    have ex : x = a / (a * a - b * b * (D : Rat)) := by grind
    have ey : y = -b / (a * a - b * b * (D : Rat)) := by grind
    grind
/-! ### the laws of numbers -/
theorem sum_assoc {D : Int} {u v w : U} (hu : NumD D u) (hv : NumD D v) (hw : NumD D w) : sumU (sumU u v) w = sumU u (sumU v w) := by
  have a := sumU_ok hu hv
  have b := sumU_ok hv hw
  have c := sumU_ok a.1 hw
  have d := sumU_ok hu b.1
  exact c.1.ext d.1 (by rw [c.2.1, d.2.1, a.2.1, b.2.1]; grind) (by rw [c.2.2, d.2.2, a.2.2, b.2.2]; grind)
theorem sum_comm {D : Int} {u v : U} (hu : NumD D u) (hv : NumD D v) : sumU u v = sumU v u := by
  have a := sumU_ok hu hv
  have b := sumU_ok hv hu
  exact a.1.ext b.1 (by rw [a.2.1, b.2.1]; grind) (by rw [a.2.2, b.2.2]; grind)
theorem mul_assoc' {D : Int} {u v w : U} (hu : NumD D u) (hv : NumD D v) (hw : NumD D w) : mulU (mulU u v) w = mulU u (mulU v w) := by
  have a := mulU_ok hu hv
  have b := mulU_ok hv hw
  have c := mulU_ok a.1 hw
  have d := mulU_ok hu b.1
  exact c.1.ext d.1 (by rw [c.2.1, d.2.1, a.2.1, b.2.1, a.2.2, b.2.2]; grind) (by rw [c.2.2, d.2.2, a.2.1, b.2.1, a.2.2, b.2.2]; grind)
theorem mul_comm' {D : Int} {u v : U} (hu : NumD D u) (hv : NumD D v) : mulU u v = mulU v u := by
  have a := mulU_ok hu hv
  have b := mulU_ok hv hu
  exact a.1.ext b.1 (by rw [a.2.1, b.2.1]; grind) (by rw [a.2.2, b.2.2]; grind)
theorem sum_zero {D : Int} {u : U} (hu : NumD D u) : sumU u zU = u ∧ sumU zU u = u := by
  have a := sumU_ok hu (zU_ok D)
  have b := sumU_ok (zU_ok D) hu
  refine ⟨a.1.ext hu ?_ ?_, b.1.ext hu ?_ ?_⟩
  · rw [a.2.1, zU_p]; grind
  · rw [a.2.2, zU_q]; grind
  · rw [b.2.1, zU_p]; grind
  · rw [b.2.2, zU_q]; grind
theorem mul_one' {D : Int} {u : U} (hu : NumD D u) : mulU u oU = u ∧ mulU oU u = u := by
  have a := mulU_ok hu (oU_ok D)
  have b := mulU_ok (oU_ok D) hu
  refine ⟨a.1.ext hu ?_ ?_, b.1.ext hu ?_ ?_⟩
  · rw [a.2.1, oU_p, oU_q]; grind
  · rw [a.2.2, oU_p, oU_q]; grind
  · rw [b.2.1, oU_p, oU_q]; grind
  · rw [b.2.2, oU_p, oU_q]; grind
theorem mul_zero' {D : Int} {u : U} (hu : NumD D u) : mulU u zU = zU ∧ mulU zU u = zU := by
  have a := mulU_ok hu (zU_ok D)
  have b := mulU_ok (zU_ok D) hu
  refine ⟨a.1.ext (zU_ok D) ?_ ?_, b.1.ext (zU_ok D) ?_ ?_⟩
  · rw [a.2.1, zU_p, zU_q]; grind
  · rw [a.2.2, zU_p, zU_q]; grind
  · rw [b.2.1, zU_p, zU_q]; grind
  · rw [b.2.2, zU_p, zU_q]; grind
theorem mul_sum {D : Int} {u v w : U} (hu : NumD D u) (hv : NumD D v) (hw : NumD D w) : mulU (sumU u v) w = sumU (mulU u w) (mulU v w) := by
  have a := sumU_ok hu hv
  have b := mulU_ok hu hw
  have c := mulU_ok hv hw
  have d := mulU_ok a.1 hw
  have e := sumU_ok b.1 c.1
  exact d.1.ext e.1 (by rw [d.2.1, e.2.1, a.2.1, a.2.2, b.2.1, c.2.1]; grind) (by rw [d.2.2, e.2.2, a.2.1, a.2.2, b.2.2, c.2.2]; grind)
theorem mul_ne {D : Int} {u v : U} (hD : Rt D) (hu : NumD D u) (hv : NumD D v) (h1 : u ≠ zU) (h2 : v ≠ zU) : mulU u v ≠ zU := by
  intro e
  have m := mulU_ok hu hv
  have n := norm_val hD hv h2
  rw [e, zU_p, zU_q] at m
  obtain ⟨_, m1, m2⟩ := m
  refine h1 ((zero_iff hu).mpr ?_)
  generalize vp u = a at *
  generalize vq u = b at *
  generalize vp v = x at *
  generalize vq v = y at *
  constructor
  · have : a * (x * x - y * y * (D : Rat)) = 0 := by grind
    grind
  · have : b * (x * x - y * y * (D : Rat)) = 0 := by grind
    grind
end T01
set_option Elab.async false
set_option linter.all false
set_option maxRecDepth 100000
set_option maxHeartbeats 8000000
set_option exponentiation.threshold 10000
namespace T01
open PySem PySem.Spec PyProof.Rows L2 XR DL
/-! ### sizes of numbers -/
def BdU (a : Nat) (u : U) : Prop := ∃ p q s d : Int, u = n4 p q s d ∧ Bd a p ∧ Bd a q ∧ Bd a s
/-- a number of the root D, of a size -/
structure Nm (D : Int) (a : Nat) (u : U) : Prop where
  num : NumD D u
  bd : BdU a u
theorem Nm.up {D : Int} {a b : Nat} {u : U} (h : Nm D a u) (l : a ≤ b) : Nm D b u := by
  obtain ⟨n, p, q, s, d, e, h1, h2, h3⟩ := h
  exact ⟨n, p, q, s, d, e, bd_up b h1 l, bd_up b h2 l, bd_up b h3 l⟩
theorem Nm.parts {D : Int} {a : Nat} {u : U} (h : Nm D a u) : ∃ p q s d : Int, u = n4 p q s d ∧ NumF p q s d ∧ (q = 0 ∨ d = D) ∧ Bd a p ∧ Bd a q ∧ Bd a s := by
  obtain ⟨⟨p, q, s, d, rfl, f, r⟩, p', q', s', d', e, h1, h2, h3⟩ := h
  simp only [n4, U.tup.injEq, List.cons.injEq, U.int.injEq, and_true] at e
  obtain ⟨rfl, rfl, rfl, rfl⟩ := e
  exact ⟨p, q, s, d, rfl, f, r, h1, h2, h3⟩
theorem d_bd {D q d : Int} {k p s : Nat} {P S : Int} (hD : Bd k D) (k1 : 1 ≤ k) (f : NumF P q S d) (r : q = 0 ∨ d = D) : Bd k d := by
  rcases r with r | r
  · rw [f.d1 r]
    unfold Bd
    have : 2 ^ 1 ≤ 2 ^ k := Nat.pow_le_pow_right (by decide) k1
    omega
  · rw [r]
    exact hD
theorem root_bd {d e : Int} {k : Nat} (q : Int) (h : Bd k d) (g : Bd k e) : Bd k (rootN q d e) := by
  unfold rootN
  by_cases c : q = 0
  · rw [if_pos c]
    exact g
  · rw [if_neg c]
    exact h
theorem lowN_bd {p q s d : Int} {k : Nat} (s0 : s ≠ 0) (hp : Bd k p) (hq : Bd k q) (hs : Bd k s) (hd : Bd k d) (hk : 1 ≤ k) : BdU (k + 1) (lowN p q s d) := by
  have h := low4_bd s0 hp hq hs hd hk
  exact ⟨_, _, _, _, lowN_eq p q s d, h.1, h.2.1, h.2.2.1⟩
theorem Nm.sum {D : Int} {a b : Nat} {u v : U} {k : Nat} (hD : Bd k D) (k1 : 1 ≤ k) (hu : Nm D a u) (hv : Nm D b v) : Nm D (a + b + k + 2) (sumU u v) := by
  obtain ⟨p, q, s, d, rfl, f, r, h1, h2, h3⟩ := hu.parts
  obtain ⟨p', q', s', d', rfl, f', r', g1, g2, g3⟩ := hv.parts
  refine ⟨(sumU_ok hu.num hv.num).1, ?_⟩
  have bd := root_bd q (d_bd (s := 0) (p := 0) hD k1 f r) (d_bd (s := 0) (p := 0) hD k1 f' r')
  refine lowN_bd (k := a + b + k + 1) (Int.mul_ne_zero (by have := f.s1; omega) (by have := f'.s1; omega)) ?_ ?_ ?_ ?_ (by omega)
  · exact bd_up (a := a + b + 1) _ (bd_add _ (bd_mul a b h1 g3) (bd_up (a := b + a) _ (bd_mul b a g1 h3) (by omega))) (by omega)
  · exact bd_up (a := a + b + 1) _ (bd_add _ (bd_mul a b h2 g3) (bd_up (a := b + a) _ (bd_mul b a g2 h3) (by omega))) (by omega)
  · exact bd_up (a := a + b) _ (bd_mul a b h3 g3) (by omega)
  · exact bd_up (a := k) _ bd (by omega)
theorem Nm.mul {D : Int} {a b : Nat} {u v : U} {k : Nat} (hD : Bd k D) (k1 : 1 ≤ k) (hu : Nm D a u) (hv : Nm D b v) : Nm D (a + b + k + 2) (mulU u v) := by
  obtain ⟨p, q, s, d, rfl, f, r, h1, h2, h3⟩ := hu.parts
  obtain ⟨p', q', s', d', rfl, f', r', g1, g2, g3⟩ := hv.parts
  refine ⟨(mulU_ok hu.num hv.num).1, ?_⟩
  have bd := root_bd q (d_bd (s := 0) (p := 0) hD k1 f r) (d_bd (s := 0) (p := 0) hD k1 f' r')
  refine lowN_bd (k := a + b + k + 1) (Int.mul_ne_zero (by have := f.s1; omega) (by have := f'.s1; omega)) ?_ ?_ ?_ ?_ (by omega)
  · exact bd_add _ (bd_up (a := a + b) _ (bd_mul a b h1 g1) (by omega)) (bd_mul (a + b) k (bd_mul a b h2 g2) bd)
  · exact bd_up (a := a + b + 1) _ (bd_add _ (bd_mul a b h1 g2) (bd_mul a b h2 g1)) (by omega)
  · exact bd_up (a := a + b) _ (bd_mul a b h3 g3) (by omega)
  · exact bd_up (a := k) _ bd (by omega)
theorem Nm.neg {D : Int} {a : Nat} {u : U} (hu : Nm D a u) : Nm D a (negU u) := by
  obtain ⟨p, q, s, d, rfl, f, r, h1, h2, h3⟩ := hu.parts
  exact ⟨(negU_ok hu.num).1, _, _, _, _, rfl, bd_neg h1, bd_neg h2, h3⟩
theorem one_bd {k : Nat} (h : 1 ≤ k) : Bd k 1 := by
  unfold Bd
  have : 2 ^ 1 ≤ 2 ^ k := Nat.pow_le_pow_right (by decide) h
  omega
theorem zero_bd (k : Nat) : Bd k 0 := by
  unfold Bd
  exact Nat.pos_of_ne_zero (by simp)
theorem Nm.zU (D : Int) {a : Nat} (h : 1 ≤ a) : Nm D a zU := ⟨zU_ok D, _, _, _, _, rfl, zero_bd a, zero_bd a, one_bd h⟩
theorem Nm.oU (D : Int) {a : Nat} (h : 1 ≤ a) : Nm D a oU := ⟨oU_ok D, _, _, _, _, rfl, one_bd h, zero_bd a, one_bd h⟩
theorem Nm.sz {D : Int} {a b : Nat} {u v : U} {k : Nat} (hD : Bd k D) (k1 : 1 ≤ k) (k2 : k ≤ 1000) (hu : Nm D a u) (hv : Nm D b v) (ha : a ≤ 1000) (hb : b ≤ 1000) : SzU u v := by
  obtain ⟨p, q, s, d, rfl, f, r, h1, h2, h3⟩ := hu.parts
  obtain ⟨p', q', s', d', rfl, f', r', g1, g2, g3⟩ := hv.parts
  exact ⟨_, _, _, _, _, _, _, _, rfl, rfl, bd_up _ h1 ha, bd_up _ h2 ha, bd_up _ h3 ha, bd_up _ g1 hb, bd_up _ g2 hb, bd_up _ g3 hb, bd_up _ (d_bd (s := 0) (p := 0) hD k1 f r) k2, bd_up _ (d_bd (s := 0) (p := 0) hD k1 f' r') k2, by have := f.s1; omega, by have := f'.s1; omega⟩
theorem inv_bd {D u v w e : Int} {b k : Nat} (hR : Rt D) (hD : Bd k D) (k1 : 1 ≤ k) (f : NumF u v w e) (r : v = 0 ∨ e = D) (h : n4 u v w e ≠ zU) (g1 : Bd b u) (g2 : Bd b v) (g3 : Bd b w) : BdU (b + b + k + 2) (lowN (w * u) (-w * v) (u * u - v * v * e) e) := by
  have bd := d_bd (s := 0) (p := 0) hD k1 f r
  refine lowN_bd (k := b + b + k + 1) (norm_ne hR f r h) ?_ ?_ ?_ ?_ (by omega)
  · exact bd_up (a := b + b) _ (bd_mul b b g3 g1) (by omega)
  · exact bd_up (a := b + b) _ (bd_mul b b (bd_neg g3) g2) (by omega)
  · exact bd_sub _ (bd_up (a := b + b) _ (bd_mul b b g1 g1) (by omega)) (bd_mul (b + b) k (bd_mul b b g2 g2) bd)
  · exact bd_up (a := k) _ bd (by omega)
theorem over_mul {p q s d u v w e : Int} : overU (n4 p q s d) (n4 u v w e) = mulU (n4 p q s d) (lowN (w * u) (-w * v) (u * u - v * v * e) e) := by
  rw [lowN_eq]
  rfl
theorem Nm.over {D : Int} {a b : Nat} {u v : U} {k : Nat} (hR : Rt D) (hD : Bd k D) (k1 : 1 ≤ k) (hu : Nm D a u) (hv : Nm D b v) (h : v ≠ DL.n4 0 0 1 1) : Nm D (a + (b + b + k + 2) + k + 2) (overU u v) := by
  obtain ⟨p, q, s, d, rfl, f, r, h1, h2, h3⟩ := hu.parts
  obtain ⟨p', q', s', d', rfl, f', r', g1, g2, g3⟩ := hv.parts
  rw [over_mul]
  exact Nm.mul hD k1 hu ⟨(inv_ok hR f' r' h).1, inv_bd hR hD k1 f' r' h g1 g2 g3⟩
/-! ### numbers as the program looks at them -/
def Sf (D : Int) : Prop := D = 1 ∨ (sqs ((D.natAbs : Nat) : Int)).1 = 1
theorem sqs_one : (sqs 1).1 = 1 := by decide +kernel
theorem togF_num {D : Int} : ∀ (ts : List U) (sh : Int), (∀ u ∈ ts, NumD D u) → (sh = 1 ∨ sh = D) → ∃ r : Int, togF sh ts = some r ∧ (r = 1 ∨ r = D)
  | [], sh, _, h => ⟨sh, rfl, h⟩
  | u :: us, sh, hn, h => by
    obtain ⟨p, q, s, d, rfl, f, r⟩ := hn u List.mem_cons_self
    rw [tog_ok (numF_iff.mpr f)]
    have hn' : ∀ u ∈ us, NumD D u := fun v hv => hn v (List.mem_cons_of_mem _ hv)
    by_cases c : q = 0
    · rw [if_pos c]
      exact togF_num us sh hn' h
    · rw [if_neg c]
      rcases r with r | r
      · exact absurd r c
      · subst r
        rw [if_neg (fun z => h.elim z.1 z.2)]
        exact togF_num us d hn' (.inr rfl)
theorem togN_num {D : Int} (hS : Sf D) {ts : List U} (hn : ∀ u ∈ ts, NumD D u) : togN ts = true := by
  obtain ⟨r, e, h⟩ := togF_num ts 1 hn (.inl rfl)
  unfold togN
  rw [e]
  refine decide_eq_true ?_
  rcases h with h | h
  · rw [h]
    exact sqs_one
  · rw [h]
    rcases hS with hS | hS
    · rw [hS]
      exact sqs_one
    · exact hS
theorem isNum_num {D : Int} (hS : Sf D) {u : U} (hn : NumD D u) : isNum u = true := togN_num hS fun v hv => by
  rw [List.mem_singleton.mp hv]
  exact hn
theorem goU_num {D : Int} {u v : U} (hu : NumD D u) (hv : NumD D v) : goU u v = true := by
  obtain ⟨p, q, s, d, rfl, f, r⟩ := hu
  obtain ⟨p', q', s', d', rfl, f', r'⟩ := hv
  show (decide (q = 0) || (decide (q' = 0) || decide (d = d'))) = true
  rcases r with r | r
  · simp [r]
  · rcases r' with r' | r'
    · simp [r']
    · simp [r, r']
theorem okU_num {D : Int} {u : U} (hu : NumD D u) : okU u := by
  obtain ⟨p, q, s, d, rfl, f, r⟩ := hu
  refine ⟨rfl, fun ts e => ?_⟩
  cases e
  rfl
theorem okP_nums {D : Int} {ts : List U} (h : ∀ u ∈ ts, NumD D u) : okP (.tup ts) := ⟨rfl, fun rs e v hv => by
  cases e
  exact okU_num (h v hv)⟩
theorem rootP_num {D : Int} : ∀ ts : List U, (∀ u ∈ ts, NumD D u) → rootP ts = 1 ∨ rootP ts = D
  | [], _ => .inl rfl
  | u :: us, h => by
    obtain ⟨p, q, s, d, rfl, f, r⟩ := h u List.mem_cons_self
    show (if q = 0 then rootP us else d) = 1 ∨ (if q = 0 then rootP us else d) = D
    by_cases c : q = 0
    · rw [if_pos c]
      exact rootP_num us fun v hv => h v (List.mem_cons_of_mem _ hv)
    · rw [if_neg c]
      exact .inr (r.resolve_left c)
theorem polysGo_num {D : Int} {ts rs : List U} (h : ∀ u ∈ ts, NumD D u) (g : ∀ u ∈ rs, NumD D u) : polysGo ts rs = true := by
  unfold polysGo
  rcases rootP_num ts h with a | a
  · simp [a]
  · rcases rootP_num rs g with b | b
    · simp [b]
    · simp [a, b]
end T01
set_option Elab.async false
set_option linter.all false
set_option maxRecDepth 100000
set_option maxHeartbeats 8000000
set_option exponentiation.threshold 10000
namespace T01
open PySem PySem.Spec PyProof.Rows L2 XR DL
open PySem.XK (ExF)
/-! ### drawn numbers -/
def dRoots : List Int := [1, 2, 3, -1, 5, -3, 6, -2, 21, -35, 101, 9973]
/-- what is known of a drawn root -/
structure Rk (D : Int) : Prop where
  rt : Rt D
  sf : Sf D
  bd : Bd 14 D
theorem rk_of {D : Int} (h1 : D = 1 ∨ (D ≠ 0 ∧ D ≠ 1 ∧ D.natAbs ≤ 1000000000000 ∧ NonSq D)) (h2 : (sqs ((D.natAbs : Nat) : Int)).1 = 1) (h3 : Bd 14 D) : Rk D := ⟨h1, .inr h2, h3⟩
theorem rk_drawn {D : Int} (h : D ∈ dRoots) : Rk D := by
  have pos : ∀ (n m : Nat), n ≠ 0 → n ≠ 1 → n ≤ 1000000000000 → m * m < n → n < (m + 1) * (m + 1) → (sqs (n : Int)).1 = 1 → n < 2 ^ 14 → Rk (n : Int) := fun n m a b c e f g k =>
    rk_of (.inr ⟨by omega, by omega, by omega, nonSq_of e f⟩) (by rw [Int.natAbs_natCast]; exact g) (by unfold Bd; omega)
  have neg : ∀ n : Nat, n ≠ 0 → n ≤ 1000000000000 → (sqs (n : Int)).1 = 1 → n < 2 ^ 14 → Rk (-(n : Int)) := fun n a c g k =>
    rk_of (.inr ⟨by omega, by omega, by omega, nonSq_neg (by omega)⟩) (by rw [Int.natAbs_neg, Int.natAbs_natCast]; exact g) (by unfold Bd; omega)
  unfold dRoots at h
  simp only [List.mem_cons, List.not_mem_nil, or_false] at h
  rcases h with rfl | rfl | rfl | rfl | rfl | rfl | rfl | rfl | rfl | rfl | rfl | rfl
  · exact rk_of (.inl rfl) sqs_one (by unfold Bd; decide)
  · exact pos 2 1 (by decide) (by decide) (by decide) (by decide) (by decide) (by decide +kernel) (by decide)
  · exact pos 3 1 (by decide) (by decide) (by decide) (by decide) (by decide) (by decide +kernel) (by decide)
  · exact neg 1 (by decide) (by decide) (by decide +kernel) (by decide)
  · exact pos 5 2 (by decide) (by decide) (by decide) (by decide) (by decide) (by decide +kernel) (by decide)
  · exact neg 3 (by decide) (by decide) (by decide +kernel) (by decide)
  · exact pos 6 2 (by decide) (by decide) (by decide) (by decide) (by decide) (by decide +kernel) (by decide)
  · exact neg 2 (by decide) (by decide) (by decide +kernel) (by decide)
  · exact pos 21 4 (by decide) (by decide) (by decide) (by decide) (by decide) (by decide +kernel) (by decide)
  · exact neg 35 (by decide) (by decide) (by decide +kernel) (by decide)
  · exact pos 101 10 (by decide) (by decide) (by decide) (by decide) (by decide) (by decide +kernel) (by decide)
  · exact pos 9973 99 (by decide) (by decide) (by decide) (by decide) (by decide) (by decide +kernel) (by decide)
/-- a made number of a root -/
theorem made_nm {D p q s : Int} {j : Nat} (hD : Rk D) (s0 : s ≠ 0) (j14 : 14 ≤ j) (hp : Bd j p) (hq : Bd j q) (hs : Bd j s) : Nm D (j + 2) (madeN p q s D) := by
  rw [made_low _ _ _ _ s0]
  by_cases c : D = 1
  · subst c
    have e : lowN p q s 1 = lowN (p + q) 0 s 1 := by
      unfold lowN
      simp
    rw [e]
    exact ⟨(low_num (D := 1) s0 (.inl rfl)).1, lowN_bd s0 (bd_add _ hp hq) (zero_bd _) (bd_up _ hs (by omega)) (one_bd (by omega)) (by omega)⟩
  · have h := hD.rt.resolve_left c
    exact Nm.up (a := j + 1) ⟨(low_num (D := D) s0 (.inr ⟨rfl, h.1, h.2.1, h.2.2.1⟩)).1, lowN_bd s0 hp hq hs (bd_up _ hD.bd (by omega)) (by omega)⟩ (by omega)
section
variable {P : Program} {w : World} {K : PySem.W.Frag} {mg : Str → Option Value} {base : Heap}
def sp_drawn_root : SpD := fun m us Q _ => ∃ (d l : Addr), m.deck = some (d, l) ∧ us = [.raw (.ref d)] ∧ ∀ D : Int, Rk D → Q (.int D)
def sp_drawn : SpD := fun m us Q _ => ∃ (d l : Addr) (D size : Int) (j : Nat), m.deck = some (d, l) ∧ us = [.raw (.ref d), .int D, .int size] ∧ Rk D ∧ 1 ≤ size ∧ Bd j size ∧ 14 ≤ j ∧ j ≤ 300 ∧ ∀ u, Nm D (j + 2) u → Q u
end
end T01
set_option Elab.async false
set_option linter.all false
set_option maxRecDepth 100000
set_option maxHeartbeats 8000000
set_option exponentiation.threshold 10000
namespace T01
open PySem PySem.Spec PyProof.Rows L2 XR DL
open PySem.XK (ExF)
/-! ### what is wanted of calls, numbers of a root being passed -/
theorem nf {c : Bool} (h : c = true) (e : c = false) : False := by
  rw [h] at e
  cases e
section
variable {D : Int} {a b : Nat} {u v : U} {m : Mo} {Q : U → Prop} {Z : XQ} {P0 CB CO CP : Addr}
theorem pair_num (hD : Rk D) (hu : NumD D u) (hv : NumD D v) {q : Prop} (h : q) : pairOk CB CO u v q Z :=
  ⟨fun e => (nf (isNum_num hD.sf hu) e).elim, fun _ e => (nf (isNum_num hD.sf hv) e).elim, fun _ _ e => (nf (goU_num hu hv) e).elim, fun _ _ _ => h⟩
theorem sz_of (hD : Rk D) (hu : Nm D a u) (hv : Nm D b v) (ha : a ≤ 1000) (hb : b ≤ 1000) : SzU u v := Nm.sz hD.bd (by decide) (by decide) hu hv ha hb
theorem plus_use (hD : Rk D) (hu : Nm D a u) (hv : Nm D b v) (ha : a ≤ 1000) (hb : b ≤ 1000) (hP : P0 ∈ m.tabs) (q : Q (sumU u v)) : sp_pair P0 CB CO sumN m [u, v] Q Z := by
  refine ⟨u, v, rfl, okU_num hu.num, okU_num hv.num, hP, pair_num hD hu.num hv.num ?_⟩
  obtain ⟨p, q1, s, d, u1, v1, w1, e1, rfl, rfl, z⟩ := sz_of hD hu hv ha hb
  exact ⟨p, q1, s, d, u1, v1, w1, e1, rfl, rfl, z, q⟩
theorem times_use (hD : Rk D) (hu : Nm D a u) (hv : Nm D b v) (ha : a ≤ 1000) (hb : b ≤ 1000) (hP : P0 ∈ m.tabs) (q : Q (mulU u v)) : sp_pair P0 CB CO mulN m [u, v] Q Z := by
  refine ⟨u, v, rfl, okU_num hu.num, okU_num hv.num, hP, pair_num hD hu.num hv.num ?_⟩
  obtain ⟨p, q1, s, d, u1, v1, w1, e1, rfl, rfl, z⟩ := sz_of hD hu hv ha hb
  exact ⟨p, q1, s, d, u1, v1, w1, e1, rfl, rfl, z, q⟩
theorem minus_use (hD : Rk D) (hu : Nm D a u) (hv : Nm D b v) (ha : a ≤ 1000) (hb : b ≤ 1000) (hP : P0 ∈ m.tabs) (q : Q (sumU u (negU v))) : sp_pair P0 CB CO subN m [u, v] Q Z := by
  refine ⟨u, v, rfl, okU_num hu.num, okU_num hv.num, hP, pair_num hD hu.num hv.num ?_⟩
  obtain ⟨p, q1, s, d, u1, v1, w1, e1, rfl, rfl, z⟩ := sz_of hD hu hv ha hb
  exact ⟨p, q1, s, d, u1, v1, w1, e1, rfl, rfl, z, q⟩
theorem sq_of (hD : Rk D) (hu : Nm D a u) (hv : Nm D b v) (ha : a ≤ 1000) (hb : b ≤ 300) (h : v ≠ zU) : ∃ p q s d u1 v1 w1 e1, u = n4 p q s d ∧ v = n4 u1 v1 w1 e1 ∧ Sq p q s d u1 v1 w1 e1 := by
  obtain ⟨p, q, s, d, rfl, f, r, h1, h2, h3⟩ := hu.parts
  obtain ⟨p', q', s', d', rfl, f', r', g1, g2, g3⟩ := hv.parts
  exact ⟨_, _, _, _, _, _, _, _, rfl, rfl, bd_up _ h1 ha, bd_up _ h2 ha, bd_up _ h3 ha, bd_up _ g1 hb, bd_up _ g2 hb, bd_up _ g3 hb, bd_up _ (d_bd (s := 0) (p := 0) hD.bd (by decide) f r) (by decide), bd_up _ (d_bd (s := 0) (p := 0) hD.bd (by decide) f' r') (by decide), by have := f.s1; omega, norm_ne hD.rt f' r' h⟩
theorem over_use (hD : Rk D) (hu : Nm D a u) (hv : Nm D b v) (ha : a ≤ 1000) (hb : b ≤ 300) (hP : P0 ∈ m.tabs) (z : v = zU → Z CB v) (q : v ≠ zU → Q (overU u v)) : sp_over P0 CB CO m [u, v] Q Z := by
  refine ⟨u, v, rfl, okU_num hu.num, okU_num hv.num, hP, pair_num hD hu.num hv.num ⟨fun e => z ((isZ_iff hv.num).mp e), fun e => ?_⟩⟩
  have ne : v ≠ zU := fun c => by
    rw [(isZ_iff hv.num).mpr c] at e
    cases e
  obtain ⟨p, q1, s, d, u1, v1, w1, e1, rfl, rfl, z'⟩ := sq_of hD hu hv ha hb ne
  exact ⟨p, q1, s, d, u1, v1, w1, e1, rfl, rfl, z', q ne⟩
theorem lplus_use (hD : Rk D) (hu : Nm D a u) (hv : Nm D b v) (ha : a ≤ 1000) (hb : b ≤ 1000) (q : Q (sumU u v)) : sp__law_plus m [u, v] Q Z := by
  obtain ⟨p, q1, s, d, u1, v1, w1, e1, rfl, rfl, z⟩ := sz_of hD hu hv ha hb
  exact ⟨p, q1, s, d, u1, v1, w1, e1, rfl, z, by rw [plus_sum z.s0 z.w0]; exact q⟩
theorem ltimes_use (hD : Rk D) (hu : Nm D a u) (hv : Nm D b v) (ha : a ≤ 1000) (hb : b ≤ 1000) (q : Q (mulU u v)) : sp__law_times m [u, v] Q Z := by
  obtain ⟨p, q1, s, d, u1, v1, w1, e1, rfl, rfl, z⟩ := sz_of hD hu hv ha hb
  exact ⟨p, q1, s, d, u1, v1, w1, e1, rfl, z, by rw [times_mul z.s0 z.w0]; exact q⟩
theorem lless_use (hu : NumD D u) (q : Q (negU u)) : sp__law_less m [u] Q Z := by
  obtain ⟨p, q1, s, d, rfl, f, r⟩ := hu
  exact ⟨p, q1, s, d, rfl, q⟩
theorem lover_use (hD : Rk D) (hu : Nm D a u) (hv : Nm D b v) (ha : a ≤ 1000) (hb : b ≤ 300) (h : v ≠ zU) (q : Q (overU u v)) : sp__law_over m [u, v] Q Z := by
  obtain ⟨p, q1, s, d, rfl, f, r, h1, h2, h3⟩ := hu.parts
  obtain ⟨p', q', s', d', rfl, f', r', g1, g2, g3⟩ := hv.parts
  have n := norm_ne hD.rt f' r' h
  have db := d_bd (s := 0) (p := 0) hD.bd (by decide) f' r'
  have iv : Nm D (b + b + 14 + 2) (lowN (s' * p') (-s' * q') (p' * p' - q' * q' * d') d') := ⟨(inv_ok hD.rt f' r' h).1, inv_bd hD.rt hD.bd (by decide) f' r' h g1 g2 g3⟩
  have em : madeN (p' * s') (-q' * s') (p' * p' - q' * q' * d') d' = lowN (s' * p') (-s' * q') (p' * p' - q' * q' * d') d' := by
    rw [made_low _ _ _ _ n, Int.mul_comm p' s', show -q' * s' = -s' * q' from by rw [Int.neg_mul, Int.neg_mul, Int.mul_comm q' s']]
  obtain ⟨x1, x2, x3, x4, ex, fx, rx, y1, y2, y3⟩ := iv.parts
  have xb := d_bd (s := 0) (p := 0) hD.bd (by decide) fx rx
  have dd := d_bd (s := 0) (p := 0) hD.bd (by decide) f r
  have x0 : x3 ≠ 0 := by have := fx.s1; omega
  have s0 : s ≠ 0 := by have := f.s1; omega
  refine ⟨p, q1, s, d, p', q', s', d', rfl, n, bd_up _ g1 (by omega), bd_up _ g2 (by omega), bd_up _ g3 (by omega), bd_up _ db (by decide), x1, x2, x3, x4, em.trans ex, ⟨bd_up _ h1 ha, bd_up _ h2 ha, bd_up _ h3 ha, bd_up _ y1 (by omega), bd_up _ y2 (by omega), bd_up _ y3 (by omega), bd_up _ dd (by decide), bd_up _ xb (by decide), s0, x0⟩, ?_⟩
  rw [over_eq n s0 x0 (em.trans ex)]
  exact q
/-! ### polynomials of numbers of a root -/
/-- as a polynomial: zero at the end is none -/
theorem trim_one (hu : NumD D u) : trimU [u] = if isZ u = true then [] else [u] := by
  unfold trimU
  show [u].take (trimN [u] 1) = _
  have e : trimN [u] 1 = if isZ u = true then 0 else 1 := rfl
  rw [e]
  split <;> rfl
theorem trim_z : trimU [zU] = [] := by decide +kernel
theorem trim_nz (hu : NumD D u) (h : u ≠ zU) : trimU [u] = [u] := by
  rw [trim_one hu, if_neg fun z => h ((isZ_iff hu).mp z)]
theorem trim_last {ts : List U} (hv : NumD D v) (h : v ≠ zU) : trimU (ts ++ [v]) = ts ++ [v] := by
  unfold trimU
  have e : trimN (ts ++ [v]) (ts ++ [v]).length = (ts ++ [v]).length := by
    rw [List.length_append, List.length_singleton]
    unfold trimN
    rw [List.getElem?_append_right (Nat.le_refl _), Nat.sub_self]
    show (if isZ v = true then _ else _) = _
    rw [if_neg fun z => h ((isZ_iff hv).mp z)]
  rw [e, List.take_length]
theorem trim_two_z : trimU [u, zU] = trimU [u] := by
  unfold trimU
  have e : trimN [u, zU] 2 = trimN [u] 1 := rfl
  show [u, zU].take (trimN [u, zU] 2) = [u].take (trimN [u] 1)
  rw [e]
  have h := trimN_le [u] 1
  have h2 : trimN [u] 1 = 0 ∨ trimN [u] 1 = 1 := by omega
  rcases h2 with h | h <;> rw [h] <;> rfl
theorem trim_mem {ts : List U} (h : v ∈ trimU ts) : v ∈ ts := List.mem_of_mem_take h
theorem trimN_last (ts : List U) : ∀ n : Nat, n ≤ ts.length → trimN ts n = 0 ∨ ∃ k v, trimN ts n = k + 1 ∧ ts[k]? = some v ∧ isZ v = false
  | 0, _ => .inl rfl
  | n + 1, h => by
    unfold trimN
    split
    · rename_i u e
      by_cases c : isZ u = true
      · rw [if_pos c]
        exact trimN_last ts n (by omega)
      · rw [if_neg c]
        exact .inr ⟨n, u, rfl, e, by simpa using c⟩
    · rename_i e
      rw [List.getElem?_eq_none_iff] at e
      omega
theorem trim_end (ts : List U) : trimU ts = [] ∨ ∃ v, (trimU ts).getLast? = some v ∧ isZ v = false := by
  rcases trimN_last ts ts.length (Nat.le_refl _) with z | ⟨k, v, z, e, hz⟩
  · refine .inl ?_
    unfold trimU
    rw [z, List.take_zero]
  · refine .inr ⟨v, ?_, hz⟩
    have lk : k + 1 ≤ ts.length := by
      have := trimN_le ts ts.length
      omega
    unfold trimU
    rw [z, List.getLast?_eq_getElem?, List.length_take, Nat.min_eq_left lk, List.getElem?_take, if_pos (by omega)]
    exact e
theorem poly_of (hD : Rk D) {ts : List U} (h : ∀ u ∈ ts, NumD D u) (hl : ts = [] ∨ ∃ v, ts.getLast? = some v ∧ isZ v = false) : isPoly (.tup ts) = true := by
  show (togN ts && (match ts.getLast? with
    | none => true
    | some v => !isZ v)) = true
  rw [togN_num hD.sf h, Bool.true_and]
  rcases hl with rfl | ⟨v, e, hz⟩
  · rfl
  · rw [e]
    show (!isZ v) = true
    rw [hz]
    rfl
theorem poly_trim (hD : Rk D) {ts : List U} (h : ∀ u ∈ ts, NumD D u) : isPoly (.tup (trimU ts)) = true := poly_of hD (fun u hu => h u (trim_mem hu)) (trim_end ts)
theorem pairP_num (hD : Rk D) {ts rs : List U} (h1 : ∀ u ∈ ts, NumD D u) (h2 : ∀ u ∈ rs, NumD D u) (p1 : isPoly (.tup ts) = true) (p2 : isPoly (.tup rs) = true) {q : Prop} (h : q) : pairP CP CO (.tup ts) (.tup rs) q Z :=
  ⟨fun e => (nf p1 e).elim, fun _ e => (nf p2 e).elim, fun _ _ e => (nf (polysGo_num h1 h2) e).elim, fun _ _ _ => h⟩
theorem pplus_use (hD : Rk D) {ts rs : List U} (h1 : ∀ u ∈ ts, Nm D 1000 u) (h2 : ∀ u ∈ rs, Nm D 1000 u) (p1 : isPoly (.tup ts) = true) (p2 : isPoly (.tup rs) = true) (l1 : ts.length ≤ 400) (l2 : rs.length ≤ 400) (hP : P0 ∈ m.tabs) (q : Q (.tup (addP ts rs))) : sp_pairP P0 CP CO addP m [.tup ts, .tup rs] Q Z :=
  ⟨_, _, rfl, okP_nums fun u hu => (h1 u hu).num, okP_nums fun u hu => (h2 u hu).num, hP, pairP_num hD (fun u hu => (h1 u hu).num) (fun u hu => (h2 u hu).num) p1 p2 ⟨ts, rs, rfl, rfl, fun u hu v hv => sz_of hD (h1 u hu) (h2 v hv) (by decide) (by decide), l1, l2, q⟩⟩
theorem ptimes_use (hD : Rk D) {ts rs : List U} (h1 : ∀ u ∈ ts, NumD D u) (h2 : ∀ u ∈ rs, NumD D u) (p1 : isPoly (.tup ts) = true) (p2 : isPoly (.tup rs) = true) (hm : MulOk ts rs) (l1 : ts.length ≤ 400) (l2 : rs.length ≤ 400) (hP : P0 ∈ m.tabs) (q : Q (.tup (mulP ts rs))) : sp_poly_times P0 CP CO m [.tup ts, .tup rs] Q Z :=
  ⟨_, _, rfl, okP_nums h1, okP_nums h2, hP, pairP_num hD h1 h2 p1 p2 ⟨ts, rs, rfl, rfl, hm, l1, l2, q⟩⟩
theorem goPN_num {ts : List U} (h : ∀ u ∈ ts, NumD D u) (hv : NumD D v) : goPN (.tup ts) v = true := by
  obtain ⟨p, q, s, d, rfl, f, r⟩ := hv
  show (decide (q = 0) || (decide (rootP ts = 1) || decide (rootP ts = d))) = true
  rcases r with r | r
  · simp [r]
  · rcases rootP_num ts h with a | a
    · simp [a]
    · simp [a, r]
theorem pat_use (hD : Rk D) {ts : List U} (h1 : ∀ u ∈ ts, NumD D u) (hv : NumD D v) (p1 : isPoly (.tup ts) = true) (hh : HornOk v zU ts.reverse) (hP : P0 ∈ m.tabs) (q : Q (horn v zU ts.reverse)) : sp_poly_at P0 CP CB CO m [.tup ts, v] Q Z :=
  ⟨_, _, rfl, okP_nums h1, okU_num hv, hP, fun e => (nf p1 e).elim, fun _ e => (nf (isNum_num hD.sf hv) e).elim, fun _ _ e => (nf (goPN_num h1 hv) e).elim, fun _ _ _ => ⟨ts, rfl, hh, q⟩⟩
theorem const_use (hu : NumD D u) (q : Q (.tup (trimU [u]))) : sp__law_constant m [u] Q Z := ⟨u, rfl, hu.isN, q⟩
/-! ### constants -/
theorem const_cases (hu : NumD D u) : (u = zU ∧ trimU [u] = []) ∨ (u ≠ zU ∧ trimU [u] = [u]) := by
  by_cases c : u = zU
  · subst c
    exact .inl ⟨rfl, trim_z⟩
  · exact .inr ⟨c, trim_nz hu c⟩
theorem const_mem {P : U → Prop} (h : P u) : ∀ v ∈ trimU [u], P v := fun v hv => by
  rw [List.mem_singleton.mp (trim_mem hv)]
  exact h
theorem const_len : (trimU [u]).length ≤ 1 := by
  unfold trimU
  rw [List.length_take]
  exact Nat.min_le_right _ _
theorem add_const (hu : NumD D u) (hv : NumD D v) : addP (trimU [u]) (trimU [v]) = trimU [sumU u v] := by
  rcases const_cases hu with ⟨rfl, e1⟩ | ⟨c1, e1⟩
  · rcases const_cases hv with ⟨rfl, e2⟩ | ⟨c2, e2⟩
    · rw [e1, (sum_zero (zU_ok D)).1]
      exact trim_z.symm
    · rw [e1, e2, (sum_zero hv).2]
      exact rfl
  · rcases const_cases hv with ⟨rfl, e2⟩ | ⟨c2, e2⟩
    · rw [e1, trim_z, (sum_zero hu).1]
      exact rfl
    · rw [e1, e2]
      rfl
theorem mul_const (hD : Rk D) (hu : NumD D u) (hv : NumD D v) : mulP (trimU [u]) (trimU [v]) = trimU [mulU u v] := by
  rcases const_cases hu with ⟨rfl, e1⟩ | ⟨c1, e1⟩
  · rw [e1, (mul_zero' hv).2, trim_z]
    rfl
  · rcases const_cases hv with ⟨rfl, e2⟩ | ⟨c2, e2⟩
    · rw [trim_z, (mul_zero' hu).1, trim_z, e1]
      rfl
    · rw [e1, e2, trim_nz (mulU_ok hu hv).1 (mul_ne hD.rt hu hv c1 c2)]
      show [sumU zU (mulU u v)] = _
      rw [(sum_zero (mulU_ok hu hv).1).2]
theorem mul_const_ok (hD : Rk D) (hu : Nm D a u) (hv : Nm D b v) (ha : a ≤ 400) (hb : b ≤ 400) : MulOk (trimU [u]) (trimU [v]) := by
  rcases const_cases hu.num with ⟨rfl, e1⟩ | ⟨c1, e1⟩
  · rw [e1]
    exact trivial
  · rcases const_cases hv.num with ⟨rfl, e2⟩ | ⟨c2, e2⟩
    · rw [e1, trim_z]
      exact ⟨trivial, trivial⟩
    · rw [e1, e2]
      exact ⟨⟨sz_of hD hu hv (by omega) (by omega), sz_of hD (Nm.zU D (a := 1) (by decide)) (Nm.mul hD.bd (by decide) hu hv) (by decide) (by omega), trivial⟩, trivial⟩
theorem horn_const (hu : NumD D u) (hv : NumD D v) : horn v zU (trimU [u]).reverse = u := by
  rcases const_cases hu with ⟨rfl, e1⟩ | ⟨c1, e1⟩
  · rw [e1]
    rfl
  · rw [e1]
    show sumU (mulU zU v) u = u
    rw [(mul_zero' hv).2, (sum_zero hu).2]
theorem horn_const_ok (hD : Rk D) (hu : Nm D a u) (hv : Nm D b v) (ha : a ≤ 400) (hb : b ≤ 400) : HornOk v zU (trimU [u]).reverse := by
  rcases const_cases hu.num with ⟨rfl, e1⟩ | ⟨c1, e1⟩
  · rw [e1]
    exact trivial
  · rw [e1]
    have z := Nm.zU D (a := 1) (by decide)
    exact ⟨sz_of hD z hv (by decide) (by omega), sz_of hD (Nm.mul hD.bd (by decide) z hv) hu (by omega) (by omega), trivial⟩
theorem horn_two {w : U} (hu : NumD D u) (hv : NumD D v) (hw : NumD D w) : horn w zU (trimU [u, v]).reverse = sumU (mulU v w) u := by
  by_cases c : v = zU
  · subst c
    rw [trim_two_z, horn_const hu hw, (mul_zero' hw).2, (sum_zero hu).2]
  · have e : trimU [u, v] = [u, v] := trim_last (ts := [u]) hv c
    rw [e]
    show sumU (mulU (sumU (mulU zU w) v) w) u = _
    rw [(mul_zero' hw).2, (sum_zero hv).2]
theorem horn_two_ok {w : U} {c : Nat} (hD : Rk D) (hu : Nm D a u) (hv : Nm D b v) (hw : Nm D c w) (ha : a ≤ 100) (hb : b ≤ 100) (hc : c ≤ 100) : HornOk w zU (trimU [u, v]).reverse := by
  by_cases k : v = zU
  · subst k
    rw [trim_two_z]
    exact horn_const_ok hD hu hw (by omega) (by omega)
  · have e : trimU [u, v] = [u, v] := trim_last (ts := [u]) hv.num k
    rw [e]
    have z := Nm.zU D (a := 1) (by decide)
    have m1 := Nm.mul hD.bd (by decide) z hw
    have s1 := Nm.sum hD.bd (by decide) m1 hv
    have m2 := Nm.mul hD.bd (by decide) s1 hw
    exact ⟨sz_of hD z hw (by decide) (by omega), sz_of hD m1 hv (by omega) (by omega), sz_of hD s1 hw (by omega) (by omega), sz_of hD m2 hu (by omega) (by omega), trivial⟩
theorem two_mem {P : U → Prop} (h : P u) (g : P v) : ∀ x ∈ trimU [u, v], P x := fun x hx => by
  have z := trim_mem hx
  simp only [List.mem_cons, List.not_mem_nil, or_false] at z
  rcases z with rfl | rfl
  · exact h
  · exact g
theorem Nm.rp (hD : Rk D) (hu : Nm D a u) (ha : a ≤ 1000) : Rp 1 5000 u := by
  obtain ⟨p, q, s, d, rfl, f, r, h1, h2, h3⟩ := hu.parts
  have dd := d_bd (s := 0) (p := 0) hD.bd (by decide) f r
  have i : ∀ x : Int, Bd 1000 x → Rp 0 1001 (.int x) := fun x hx => rp_int hx (by decide) (by decide)
  refine Rp.up (rp_tup (L := 4) (dep := 0) (n := 1001) (fun x hx => ?_) (by show 4 ≤ 4; decide)) (by decide) (by decide)
  simp only [List.mem_cons, List.not_mem_nil, or_false] at hx
  rcases hx with rfl | rfl | rfl | rfl
  · exact i _ (bd_up _ h1 ha)
  · exact i _ (bd_up _ h2 ha)
  · exact i _ (bd_up _ h3 ha)
  · exact i _ (bd_up _ dd (by decide))
theorem Nm.rpk (hD : Rk D) (hu : Nm D a u) (ha : a ≤ 1000) : rpOk u := Rp.ok (Nm.rp hD hu ha) (by decide) (by decide)
theorem fRp_num (hu : NumD D u) (h : rpOk u) (q : Q (.str (toP u).shown)) : fRp [u] Q := by
  obtain ⟨p, q1, s, d, rfl, f, r⟩ := hu
  exact fRp_tup _ _ h q
theorem gEq_num (hu : NumD D u) : gEq u zU Q ↔ Q (.bl (isZ u)) := by
  obtain ⟨p, q1, s, d, rfl, f, r⟩ := hu
  exact gEq_zero _ _ _ _ _
theorem rp_nums (hD : Rk D) {ts : List U} (h : ∀ u ∈ ts, Nm D 1000 u) (hl : ts.length ≤ 1000) : rpOk (.tup ts) := Rp.ok (rp_tup (L := 1000) (fun u hu => Nm.rp hD (h u hu) (by decide)) hl) (by decide) (by decide)
theorem rp_numsL (hD : Rk D) {ts : List U} (h : ∀ u ∈ ts, Nm D 1000 u) (hl : ts.length ≤ 1000) : rpOk (.lst ts) := Rp.ok (rp_lst (L := 1000) (fun u hu => Nm.rp hD (h u hu) (by decide)) hl) (by decide) (by decide)
end
end T01
set_option Elab.async false
set_option linter.all false
set_option maxRecDepth 100000
set_option maxHeartbeats 8000000
set_option exponentiation.threshold 10000
namespace T01
open PySem PySem.Spec PyProof.Rows L2 XR DL
/-! ### squares that divide -/
def Pm (q : Nat) : Prop := 2 ≤ q ∧ ∀ j, 2 ≤ j → j < q → ¬ j ∣ q
def SqF (n : Nat) : Prop := ∀ q, 2 ≤ q → ¬ q * q ∣ n
theorem pm_ex : ∀ n : Nat, 2 ≤ n → ∃ p, Pm p ∧ p ∣ n := by
  intro n
  induction n using Nat.strongRecOn with
  | ind n ih =>
    intro h
    by_cases c : ∃ j, 2 ≤ j ∧ j < n ∧ j ∣ n
    · obtain ⟨j, j2, jn, jd⟩ := c
      obtain ⟨p, hp, pd⟩ := ih j jn j2
      exact ⟨p, hp, Nat.dvd_trans pd jd⟩
    · exact ⟨n, ⟨h, fun j j2 jn jd => c ⟨j, j2, jn, jd⟩⟩, Nat.dvd_refl n⟩
theorem pm_co {q k : Nat} (h : Pm q) (hk : ¬ q ∣ k) : Nat.Coprime q k := by
  have g1 : Nat.gcd q k ∣ q := Nat.gcd_dvd_left q k
  have g2 : Nat.gcd q k ∣ k := Nat.gcd_dvd_right q k
  have q2 := h.1
  rcases Nat.lt_or_ge (Nat.gcd q k) 2 with l | l
  · have : Nat.gcd q k ≠ 0 := fun z => by
      have := Nat.eq_zero_of_gcd_eq_zero_left z
      omega
    show Nat.gcd q k = 1
    omega
  · rcases Nat.lt_or_ge (Nat.gcd q k) q with m | m
    · exact absurd g1 (h.2 _ l m)
    · exfalso
      have : Nat.gcd q k ≤ q := Nat.le_of_dvd (by omega) g1
      have e : Nat.gcd q k = q := by omega
      rw [e] at g2
      exact hk g2
theorem pm_lt {q k : Nat} (h : k < q) (h0 : 0 < k) : ¬ q ∣ k := fun z => by
  have := Nat.le_of_dvd h0 z
  omega
theorem pm_lt' {q k : Nat} (hq : Pm q) (h : q < k) (hk : Pm k) : ¬ q ∣ k := hk.2 q hq.1 h
theorem co_sq {q k r : Nat} (h : Nat.Coprime q k) (d : q * q ∣ k * r) : q * q ∣ r := (Nat.Coprime.mul_left h h).dvd_of_dvd_mul_left d
structure SqJ (n o i r k : Nat) : Prop where
  eq : o * o * i * r = n
  o1 : 1 ≤ o
  i1 : 1 ≤ i
  r1 : 1 ≤ r
  k2 : 2 ≤ k
  par : k = 2 ∨ k % 2 = 1
  C : ∀ j, 2 ≤ j → j < k → ¬ j ∣ r
  D : ∀ q, Pm q → k < q → ¬ q ∣ i
  E : ∀ q, Pm q → ¬ q * q ∣ i
  F : Pm k → k ∣ i → ¬ k ∣ r
theorem SqJ.pm {n o i r k : Nat} (h : SqJ n o i r k) (d : k ∣ r) : Pm k := ⟨h.k2, fun j j2 jk jd => h.C j j2 jk (Nat.dvd_trans jd d)⟩
theorem SqJ.start {n : Nat} (h : 1 ≤ n) : SqJ n 1 1 n 2 := ⟨by omega, by decide, by decide, h, by decide, .inl rfl, fun j a b => by omega, fun q hq _ d => by
  have := Nat.le_of_dvd (by decide) d
  have := hq.1
  omega, fun q hq d => by
  have h1 := Nat.le_of_dvd (by decide) d
  have h2 := hq.1
  have h3 : 2 * 2 ≤ q * q := Nat.mul_le_mul h2 h2
  omega, fun _ d => by
  have := Nat.le_of_dvd (by decide) d
  omega⟩
theorem SqJ.one {n o i r k : Nat} (h : SqJ n o i (k * r) k) (hn : ¬ k ∣ r) : SqJ n o (i * k) r k := by
  have pk := h.pm ⟨r, rfl⟩
  have ki : ¬ k ∣ i := fun z => h.F pk z ⟨r, rfl⟩
  have r1 : 1 ≤ r := by
    rcases Nat.eq_zero_or_pos r with z | z
    · have := h.r1
      rw [z, Nat.mul_zero] at this
      omega
    · exact z
  refine ⟨?_, h.o1, Nat.mul_pos h.i1 (by have := h.k2; omega), r1, h.k2, h.par, fun j a b d => h.C j a b (Nat.dvd_trans d ⟨k, Nat.mul_comm _ _⟩), fun q hq l d => ?_, fun q hq d => ?_, fun _ _ => hn⟩
  · rw [← h.eq, Nat.mul_assoc (o * o), Nat.mul_assoc i, ← Nat.mul_assoc]
  · have c := pm_co hq (pm_lt l (by have := h.k2; omega))
    exact h.D q hq l (Nat.Coprime.dvd_of_dvd_mul_right c d)
  · by_cases e : q = k
    · subst e
      exact ki (Nat.dvd_of_mul_dvd_mul_right (by have := h.k2; omega) d)
    · have c : Nat.Coprime q k := pm_co hq fun z => by
        rcases Nat.lt_or_ge q k with l | l
        · exact pk.2 q hq.1 l z
        · have := Nat.le_of_dvd (by have := h.k2; omega) z
          omega
      rw [Nat.mul_comm i k] at d
      exact h.E q hq (co_sq c d)
theorem SqJ.two {n o i r k : Nat} (h : SqJ n o i (k * (k * r)) k) : SqJ n (o * k) i r k := by
  have pk := h.pm ⟨k * r, rfl⟩
  have ki : ¬ k ∣ i := fun z => h.F pk z ⟨k * r, rfl⟩
  have r1 : 1 ≤ r := by
    rcases Nat.eq_zero_or_pos r with z | z
    · have := h.r1
      rw [z, Nat.mul_zero, Nat.mul_zero] at this
      omega
    · exact z
  refine ⟨?_, Nat.mul_pos h.o1 (by have := h.k2; omega), h.i1, r1, h.k2, h.par, fun j a b d => h.C j a b (Nat.dvd_trans d ⟨k * k, by rw [← Nat.mul_assoc, Nat.mul_comm]⟩), h.D, h.E, fun _ z => absurd z ki⟩
  rw [← h.eq]
  simp only [Nat.mul_assoc, Nat.mul_left_comm]
theorem SqJ.next {n o i r k : Nat} (h : SqJ n o i r k) (hn : ¬ k ∣ r) : SqJ n o i r (k + (1 + k % 2)) := by
  have k2 := h.k2
  refine ⟨h.eq, h.o1, h.i1, h.r1, by omega, ?_, fun j a b d => ?_, fun q hq l => h.D q hq (by omega), h.E, fun pk z => absurd z (h.D _ pk (by omega))⟩
  · rcases h.par with z | z <;> omega
  · rcases Nat.lt_or_ge j k with l | l
    · exact h.C j a l d
    · rcases Nat.eq_or_lt_of_le l with e | l2
      · subst e
        exact hn d
      · have kodd : k % 2 = 1 := by omega
        have e : j = k + 1 := by omega
        have two : 2 ∣ r := Nat.dvd_trans ⟨(k + 1) / 2, by omega⟩ d
        exact h.C 2 (by decide) (by omega) two
theorem cast_ediv {k r : Nat} (hk : 2 ≤ k) (h : ((r : Int)) % (k : Int) = 0) : ∃ t : Nat, r = k * t ∧ (r : Int).fdiv (k : Int) = (t : Int) := by
  have d : k ∣ r := by
    have : (k : Int) ∣ (r : Int) := Int.dvd_of_emod_eq_zero h
    exact Int.ofNat_dvd.mp this
  obtain ⟨t, rfl⟩ := d
  refine ⟨t, rfl, ?_⟩
  rw [Int.natCast_mul, Int.mul_fdiv_cancel_left _ (by omega)]
theorem cast_ndvd {k r : Nat} (h : ¬ ((r : Int)) % (k : Int) = 0) : ¬ k ∣ r := fun z => h (Int.emod_eq_zero_of_dvd (Int.ofNat_dvd.mpr z))
theorem sqF_ok {n : Nat} : ∀ (f : Nat) (o i r k : Nat), SqJ n o i r k → r + (100003 - k) ≤ f → k ≤ 100002 → ∃ o' i' r' k' : Nat, sqF f o i r k = ((o' : Int), (i' : Int), (r' : Int)) ∧ SqJ n o' i' r' k' ∧ ¬ ((k' : Int) * k' * k' ≤ r' ∧ (k' : Int) ≤ 100000) ∧ k' ≤ 100002
  | 0, o, i, r, k, h, hf, _ => by
    have := h.r1
    omega
  | f + 1, o, i, r, k, h, hf, kl => by
    unfold sqF
    by_cases c : (k : Int) * k * k ≤ r ∧ (k : Int) ≤ 100000
    · rw [if_pos c]
      have k2 := h.k2
      by_cases m1 : (r : Int) % (k : Int) = 0
      · rw [if_pos m1]
        obtain ⟨t, rfl, e1⟩ := cast_ediv k2 m1
        rw [e1]
        have t1 : 1 ≤ t := by
          rcases Nat.eq_zero_or_pos t with z | z
          · have := h.r1
            rw [z, Nat.mul_zero] at this
            omega
          · exact z
        have lt : 2 * t ≤ k * t := Nat.mul_le_mul_right t k2
        by_cases m2 : (t : Int) % (k : Int) = 0
        · rw [if_pos m2]
          obtain ⟨t2, rfl, e2⟩ := cast_ediv k2 m2
          rw [e2]
          have lt2 : 2 * t2 ≤ k * t2 := Nat.mul_le_mul_right t2 k2
          exact sqF_ok f (o * k) i t2 k h.two (by omega) kl
        · rw [if_neg m2]
          exact sqF_ok f o (i * k) t k (h.one (cast_ndvd m2)) (by omega) kl
      · rw [if_neg m1]
        have e : ((k : Int) + (1 + (k : Int) % 2)) = ((k + (1 + k % 2) : Nat) : Int) := by omega
        rw [e]
        exact sqF_ok f o i r _ (h.next (cast_ndvd m1)) (by omega) (by omega)
    · rw [if_neg c]
      exact ⟨o, i, r, k, rfl, h, c, kl⟩
theorem sqR_nat (r : Nat) : sqR (r : Int) = ((Float64.isqrt r : Nat) : Int) := by
  unfold sqR
  rw [Int.toNat_natCast]
theorem isq_root {r t : Nat} (h : t * t = r) : Float64.isqrt r = t := by
  have s := Float64.isqrt_spec r
  rw [← h] at s ⊢
  generalize Float64.isqrt (t * t) = x at s
  obtain ⟨s1, s2⟩ := s
  rcases Nat.lt_trichotomy x t with l | l | l
  · have : (x + 1) * (x + 1) ≤ t * t := Nat.mul_le_mul l l
    omega
  · exact l
  · have : (t + 1) * (t + 1) ≤ x * x := Nat.mul_le_mul l l
    have e : (t + 1) * (t + 1) = t * t + t + t + 1 := by grind
    omega
/-- what square_split tells -/
theorem sqs_ok {n : Nat} (n1 : 1 ≤ n) (nb : n < 1000000000000000) : ∃ f m : Nat, sqs (n : Int) = ((f : Int), (m : Int)) ∧ f * f * m = n ∧ 1 ≤ f ∧ 1 ≤ m ∧ SqF m := by
  obtain ⟨o, i, r, k, e, h, hx, kl⟩ := sqF_ok (n := n) (n + 100001) 1 1 n 2 (SqJ.start n1) (by omega) (by decide)
  have o1 := h.o1
  have i1 := h.i1
  have r1 := h.r1
  have k2 := h.k2
  have rn : r ≤ n := by
    rw [← h.eq]
    exact Nat.le_mul_of_pos_left _ (Nat.mul_pos (Nat.mul_pos o1 o1) i1)
  have kr : r < k * k * k := by
    have e2 : ((k : Int) * k * k) = ((k * k * k : Nat) : Int) := by
      rw [Int.natCast_mul, Int.natCast_mul]
    rw [e2] at hx
    by_cases c : (k : Int) ≤ 100000
    · have : ¬ (((k * k * k : Nat) : Int) ≤ (r : Int)) := fun z => hx ⟨z, c⟩
      omega
    · have k3 : 100001 ≤ k := by omega
      have : 100001 * 100001 * 100001 ≤ k * k * k := Nat.mul_le_mul (Nat.mul_le_mul k3 k3) k3
      omega
  have up : ∀ m : Nat, (∀ q, Pm q → ¬ q * q ∣ m) → SqF m := fun m hm q q2 d => by
    obtain ⟨p, hp, pd⟩ := pm_ex q q2
    exact hm p hp (Nat.dvd_trans (Nat.mul_dvd_mul pd pd) d)
  have es : sqs (n : Int) = if sqR r * sqR r = r then ((o : Int) * sqR r, (i : Int)) else ((o : Int), (i : Int) * r) := by
    unfold sqs
    rw [Int.toNat_natCast]
    have e' : sqF (n + 100001) 1 1 (n : Int) 2 = ((o : Int), (i : Int), (r : Int)) := e
    rw [e']
  rw [es]
  by_cases c : sqR r * sqR r = r
  · rw [if_pos c]
    rw [sqR_nat] at c ⊢
    have c' : Float64.isqrt r * Float64.isqrt r = r := by
      rw [← Int.natCast_mul] at c
      omega
    refine ⟨o * Float64.isqrt r, i, by rw [Int.natCast_mul], ?_, ?_, i1, up i h.E⟩
    · rw [← h.eq]
      have : o * Float64.isqrt r * (o * Float64.isqrt r) * i = o * o * i * (Float64.isqrt r * Float64.isqrt r) := by grind
      rw [this, c']
    · refine Nat.mul_pos o1 ?_
      rcases Nat.eq_zero_or_pos (Float64.isqrt r) with z | z
      · rw [z] at c'
        omega
      · exact z
  · rw [if_neg c]
    have hc : ∀ t, t * t ≠ r := fun t e => c (by
      rw [sqR_nat, isq_root e, ← Int.natCast_mul, e])
    refine ⟨o, i * r, by rw [Int.natCast_mul], by rw [← h.eq, Nat.mul_assoc, Nat.mul_assoc, Nat.mul_assoc], o1, Nat.mul_pos i1 r1, up _ fun q hq d => ?_⟩
    have big : k ≤ q → q * q ∣ r → False := fun kq d => by
      obtain ⟨t, rfl⟩ := d
      have t1 : t ≠ 1 := fun z => hc q (by rw [z, Nat.mul_one])
      have t0 : t ≠ 0 := fun z => by
        rw [z, Nat.mul_zero] at r1
        omega
      have tk : k ≤ t := by
        rcases Nat.lt_or_ge t k with l | l
        · exact absurd ⟨q * q, Nat.mul_comm _ _⟩ (h.C t (by omega) l)
        · exact l
      have : k * k * k ≤ q * q * t := Nat.mul_le_mul (Nat.mul_le_mul kq kq) tk
      omega
    have offi : Nat.Coprime q i → k ≤ q → False := fun c2 kq => big kq (co_sq c2 d)
    have offr : ¬ q ∣ r → False := fun z => by
      have c2 := pm_co hq z
      exact h.E q hq (co_sq c2 (by rw [Nat.mul_comm r i]; exact d))
    rcases Nat.lt_trichotomy q k with l | l | l
    · exact offr (h.C q hq.1 l)
    · subst l
      by_cases z : q ∣ i
      · exact offr (h.F hq z)
      · exact offi (pm_co hq z) (Nat.le_refl _)
    · exact offi (pm_co hq (h.D q hq l)) (by omega)
theorem sqs_lean {n : Nat} (n1 : 1 ≤ n) (nb : n < 1000000000000000) : ((sqs (n : Int)).1 = 1) ↔ SqF n := by
  obtain ⟨f, m, e, h, f1, m1, hm⟩ := sqs_ok n1 nb
  rw [e]
  constructor
  · intro z
    have z' : f = 1 := by
      have : (f : Int) = 1 := z
      omega
    subst z'
    have h : m = n := by rw [← h]; omega
    rw [← h]
    exact hm
  · intro z
    rcases Nat.lt_or_ge f 2 with l | l
    · have : f = 1 := by omega
      rw [this]
      rfl
    · exact absurd ⟨m, h.symm⟩ (z f l)
end T01
set_option Elab.async false
set_option linter.all false
set_option maxRecDepth 100000
set_option maxHeartbeats 8000000
set_option exponentiation.threshold 10000
--@reprX
namespace T01
open PySem PySem.Spec PyProof.Rows L2 XR DL
/-! ### any values -/
theorem dct_key_ne : (Sum.inr ("key" : Str) : Key) ≠ Sum.inl 1 := by decide
theorem isX_okU {u : U} (h : isX u = true) : okU u := by
  have all : ∀ us : List U, isXs us = true → us.all notRaw = true := by
    intro us
    induction us with
    | nil => intro _; rfl
    | cons v vs ih =>
      intro z
      obtain ⟨z1, z2⟩ := Bool.and_eq_true_iff.mp (show (isX v && isXs vs) = true from z)
      rw [List.all_cons, ih z2, Bool.and_true]
      cases v <;> first | rfl | cases z1
  refine ⟨?_, fun ts e => ?_⟩
  · cases u <;> first | rfl | cases h
  · subst e
    exact all ts h
theorem isX_raw {u : U} (h : isX u = true) : notRaw u = true := (isX_okU h).1
def anyT : Nat → Nat
  | 0 => 170
  | n + 1 => 3 * (anyT n + 2) + 100
def anyD : Nat → Nat
  | 0 => 2
  | n + 1 => anyD n + 2
theorem anyT_ge (n : Nat) : 170 ≤ anyT n := by
  cases n with
  | zero => exact Nat.le_refl _
  | succ n =>
    show 170 ≤ 3 * (anyT n + 2) + 100
    have : 170 ≤ anyT n := anyT_ge n
    omega
theorem anyD_ge (n : Nat) : 2 ≤ anyD n := by
  induction n with
  | zero => exact Nat.le_refl _
  | succ n ih =>
    show 2 ≤ anyD n + 2
    omega
section
variable {P : Program} {w : World} {K : PySem.W.Frag} {mg : Str → Option Value} {base : Heap}
theorem sc__law_is_integer : FnScope ["thing"] ["thing"] (defScope s__law_is_integer) := ⟨rfl, rfl, rfl, by decide +kernel, rfl, by decide +kernel, by decide +kernel⟩
def sp_is_integer : SpD := fun m us Q _ => ∃ u, us = [u] ∧ notRaw u = true ∧ Q (.bl (isIntU u))
theorem ty_some {u : U} (h : notRaw u = true) : ∃ t, tyN u = some t := by
  cases u <;> first | exact ⟨_, rfl⟩ | cases h
theorem ok__law_is_integer {a : Addr} {fd : FuncData} (D : DL.Def K mg "_law_is_integer" s__law_is_integer a fd) (gisi : mg "isinstance" = none) (gint : mg "int" = none) (gbool : mg "bool" = none) : Fd P w K mg base 1 a fd ["thing"] sp_is_integer := by
  refine fd_of D.F sc__law_is_integer (fun m us Q Z h => ?_) (fun cdv A outer s H E m us Qd Zd hr hG tk h => ?_)
  · obtain ⟨u, rfl, _⟩ := h
    rfl
  · obtain ⟨u, rfl, hn, k⟩ := h
    have hu := hr.units
    refine ⟨_, (dss_one (ds_ret (de_and (de_callB cal_isi (pe_callB call_isi (by rfl) gisi (by decide +kernel) (da_cons (de_var (pv 0)) (da_cons (de_ty (n := "int") (by rfl) gint (by decide +kernel)) da_nil)))) (de_bool1 (de_not (de_callB cal_isi (pe_callB call_isi (by rfl) gisi (by decide +kernel) (da_cons (de_var (pv 0)) (da_cons (de_ty (n := "bool") (by rfl) gbool (by decide +kernel)) da_nil))))))))), ?_⟩
    simp (config := { maxSteps := 1000000 }) only [dSeq, dIfS, dTest, dOp, dUn, dVar, dC, dTup, dLst, dNil, dCons, dRet, dRetN, dDrop, dSet, dPar, dAsg, dgTup, dgCons, dgNil, dgName, dCB, dNext, dIf, dAnd, dOr, dNot, dNotV, dAndV, dOrV, dCall, dCallK, dRaise, dAug, dSl, dPart, dNoPart, startU_eq, List.map_cons, List.map_nil, List.cons_append, List.nil_append, List.length_cons, List.length_nil, List.replicate, List.getElem?_cons_zero, List.getElem?_cons_succ, List.getElem?_nil, List.set_cons_zero, List.set_cons_succ, Nat.reduceAdd, Nat.reduceSub, ex_uu, ex_bl, ex_tup, ex_lst, ex_int, ex_cons, ex_two, gEq_int, gNe_int, gEq_p2, gNe_p2, gEq_str, ixp0, ixp1, plus_int, star_int, gI_int, gIC_int, ix0, ix1, ix2, ix3, fGcd_int, fIsq_int, fAbs_int, fInt_int, fLen_tup, fLen_lst, fMax2_int, gNeg_int, gFdv, gMod, DL.gSub, gPow, gLt, gLe, gGt, gGe, eq_self, decide_eq_true_eq, Bool.not_eq_true', decide_eq_false_iff_not, true_and, and_true, if_true, if_false, Bool.false_eq_true, Bool.not_true, Bool.not_false]
    obtain ⟨t, ht⟩ := ty_some hn
    obtain ⟨bi, bb, k1, k2, k3⟩ := kit_int ht
    rw [← k3] at k
    refine ⟨u, "int", t, bi, rfl, ht, k1, _, rfl, ?_⟩
    cases bi with
    | false =>
      rw [if_neg (fun z => Bool.noConfusion z)]
      exact k
    | true =>
      rw [if_pos rfl]
      exact ⟨u, "bool", t, bb, rfl, ht, k2, _, rfl, k⟩
/-- whether no square above 1 divides it -/
noncomputable def leanN (n : Int) : Bool := @decide (n ≠ 0 ∧ SqF n.natAbs) (Classical.propDecidable _)
theorem leanN_true {n : Int} : leanN n = true ↔ (n ≠ 0 ∧ SqF n.natAbs) := by
  unfold leanN
  exact @decide_eq_true_iff _ (Classical.propDecidable _)
theorem leanN_false {n : Int} (q : Nat) (h : 2 ≤ q) (d : q * q ∣ n.natAbs) : leanN n = false := by
  cases e : leanN n with
  | false => rfl
  | true => exact absurd d ((leanN_true.mp e).2 q h)
theorem sc__law_is_lean : FnScope ["number", "p"] ["number"] (defScope s__law_is_lean) := ⟨rfl, rfl, rfl, by decide +kernel, rfl, by decide +kernel, by decide +kernel⟩
def sp_is_lean : SpD := fun m us Q _ => ∃ n : Int, us = [.int n] ∧ n.natAbs ≤ 1000000000000000000000000 ∧ Q (.bl (leanN n))
theorem ok__law_is_lean {a : Addr} {fd : FuncData} (D : DL.Def K mg "_law_is_lean" s__law_is_lean a fd) (gabs : mg "abs" = none) (gint : mg "int" = none) : Fd P w K mg base 1 a fd ["number"] sp_is_lean := by
  refine fd_of D.F sc__law_is_lean (fun m us Q Z h => ?_) (fun cdv A outer s H E m us Qd Zd hr hG tk h => ?_)
  · obtain ⟨u, rfl, _⟩ := h
    rfl
  · obtain ⟨n, rfl, hb, k⟩ := h
    have hu := hr.units
    refine ⟨_, (dss_cons (ds_set (i := 1) sc__law_is_lean.nd rfl (.inl rfl) de_int)
    (dss_cons (ds_while (passes_of rfl) (dt_le (de_star (de_var (pv 1)) (de_var (pv 1))) (de_callB cal_abs (pe_callB call_abs (by rfl) gabs PyProof.Rows.boot_abs (da_cons (de_var (pv 0)) da_nil)))) (dss_cons (ds_if (dt_eq hu (de_mod (de_callB cal_int (pe_callTy call_int1 (by rfl) gint (by decide +kernel) (da_cons (de_var (pv 0)) da_nil))) (de_star (de_var (pv 1)) (de_var (pv 1)))) de_int) (dss_one (ds_ret de_bl)) dss_nil)
    (dss_one (ds_set (i := 1) sc__law_is_lean.nd rfl (.inl rfl) (de_plus (de_var (pv 1)) de_int)))))
    (dss_one (ds_ret (de_ne hu (de_var (pv 0)) de_int))))), ?_⟩
    simp (config := { maxSteps := 1000000 }) only [dSeq, dIfS, dTest, dOp, dUn, dVar, dC, dTup, dLst, dNil, dCons, dRet, dRetN, dDrop, dSet, dPar, dAsg, dgTup, dgCons, dgNil, dgName, dCB, dNext, dIf, dAnd, dOr, dNot, dNotV, dAndV, dOrV, dCall, dCallK, dRaise, dAug, dSl, dPart, dNoPart, startU_eq, List.map_cons, List.map_nil, List.cons_append, List.nil_append, List.length_cons, List.length_nil, List.replicate, List.getElem?_cons_zero, List.getElem?_cons_succ, List.getElem?_nil, List.set_cons_zero, List.set_cons_succ, Nat.reduceAdd, Nat.reduceSub, ex_uu, ex_bl, ex_tup, ex_lst, ex_int, ex_cons, ex_two, gEq_int, gNe_int, gEq_p2, gNe_p2, gEq_str, ixp0, ixp1, plus_int, star_int, gI_int, gIC_int, ix0, ix1, ix2, ix3, fGcd_int, fIsq_int, fAbs_int, fInt_int, fLen_tup, fLen_lst, fMax2_int, gNeg_int, gFdv, gMod, DL.gSub, gPow, gLt, gLe, gGt, gGe, eq_self, decide_eq_true_eq, Bool.not_eq_true', decide_eq_false_iff_not, true_and, and_true, if_true, if_false, Bool.false_eq_true, Bool.not_true, Bool.not_false]
    unfold dWhile
    refine ⟨fun z ρ => ∃ p : Nat, ρ = [some (.int n), some (.int (p : Int))] ∧ 2 ≤ p ∧ z = (n.natAbs + 3 - p) ∧ (∀ j : Nat, 2 ≤ j → j < p → ¬ j * j ∣ n.natAbs) ∧ p ≤ 2000000000000, ⟨_, 2, rfl, by decide, rfl, fun j a b => by omega, by decide⟩, ?_⟩
    rintro z ρ ⟨p, rfl, p2, rfl, hj, hp⟩
    simp (config := { maxSteps := 1000000 }) only [dSeq, dIfS, dTest, dOp, dUn, dVar, dC, dTup, dLst, dNil, dCons, dRet, dRetN, dDrop, dSet, dPar, dAsg, dgTup, dgCons, dgNil, dgName, dCB, dNext, dIf, dAnd, dOr, dNot, dNotV, dAndV, dOrV, dCall, dCallK, dRaise, dAug, dSl, dPart, dNoPart, startU_eq, List.map_cons, List.map_nil, List.cons_append, List.nil_append, List.length_cons, List.length_nil, List.replicate, List.getElem?_cons_zero, List.getElem?_cons_succ, List.getElem?_nil, List.set_cons_zero, List.set_cons_succ, Nat.reduceAdd, Nat.reduceSub, ex_uu, ex_bl, ex_tup, ex_lst, ex_int, ex_cons, ex_two, gEq_int, gNe_int, gEq_p2, gNe_p2, gEq_str, ixp0, ixp1, plus_int, star_int, gI_int, gIC_int, ix0, ix1, ix2, ix3, fGcd_int, fIsq_int, fAbs_int, fInt_int, fLen_tup, fLen_lst, fMax2_int, gNeg_int, gFdv, gMod, DL.gSub, gPow, gLt, gLe, gGt, gGe, eq_self, decide_eq_true_eq, Bool.not_eq_true', decide_eq_false_iff_not, true_and, and_true, if_true, if_false, Bool.false_eq_true, Bool.not_true, Bool.not_false]
    rw [abs_nat]
    have sq : ((p : Int) * (p : Int)) = ((p * p : Nat) : Int) := (Int.natCast_mul p p).symm
    have pp : p ≤ p * p := Nat.le_mul_of_pos_left p (by omega)
    have bp : Bd 60 (p : Int) := Nat.lt_of_le_of_lt (show (p : Int).natAbs ≤ 2000000000000 by omega) (by decide)
    have cm := mul_ok 60 60 bp bp (by decide) (by decide) (by decide)
    rw [sq]
    refine ⟨cm, ?_⟩
    by_cases c : ((p * p : Nat) : Int) ≤ (n.natAbs : Int)
    · rw [if_pos c]
      have c' : p * p ≤ n.natAbs := by omega
      refine ⟨cm, by omega, ?_⟩
      by_cases d : n % ((p * p : Nat) : Int) = 0
      · rw [if_pos d]
        have dv : p * p ∣ n.natAbs := by
          have := Int.natAbs_dvd_natAbs.mpr (Int.dvd_of_emod_eq_zero d)
          rw [Int.natAbs_natCast] at this
          exact this
        rw [leanN_false p p2 dv] at k
        exact k
      · rw [if_neg d]
        have dn : ¬ p * p ∣ n.natAbs := fun z => d (Int.emod_eq_zero_of_dvd (Int.natAbs_dvd_natAbs.mp (by rw [Int.natAbs_natCast]; exact z)))
        refine ⟨_, by omega, p + 1, by rw [Int.natCast_add]; rfl, by omega, rfl, fun j a b => ?_, ?_⟩
        · rcases Nat.lt_or_ge j p with l | l
          · exact hj j a l
          · have : j = p := by omega
            subst this
            exact dn
        · rcases Nat.lt_or_ge p 2000000000000 with l | l
          · omega
          · exfalso
            have : 2000000000000 * 2000000000000 ≤ p * p := Nat.mul_le_mul l l
            omega
    · rw [if_neg c]
      have c' : n.natAbs < p * p := by omega
      have e : leanN n = !decide (n = 0) := by
        by_cases z : n = 0
        · rw [decide_eq_true z]
          cases e : leanN n with
          | false => rfl
          | true => exact absurd z (leanN_true.mp e).1
        · rw [decide_eq_false z]
          refine leanN_true.mpr ⟨z, fun q q2 d => ?_⟩
          rcases Nat.lt_or_ge q p with l | l
          · exact hj q q2 l d
          · have h1 : p * p ≤ q * q := Nat.mul_le_mul l l
            have h2 := Nat.le_of_dvd (by omega) d
            omega
      rw [e] at k
      exact k
theorem sc__law_any : FnScope ["deck", "deep", "way", "some", "turn"] ["deck", "deep"] (defScope s__law_any) := ⟨rfl, rfl, rfl, by decide +kernel, rfl, by decide +kernel, by decide +kernel⟩
def sp_any (n : Nat) : SpD := fun m us Q _ => ∃ (d l : Addr), m.deck = some (d, l) ∧ us = [.raw (.ref d), .int (n : Int)] ∧ ∀ u, Av (anyD n) (anyT n) u → Q u
theorem any_leaf {n : Nat} {u : U} (h : Av 0 162 u) : Av (anyD n) (anyT n) u := h.up (Nat.zero_le _) (by have := anyT_ge n; omega)
theorem ok__law_any {a a1 a2 : Addr} {fd fd1 fd2 : FuncData} (D__law_any : DL.Def K mg "_law_any" s__law_any a fd) (D__law_draw : DL.Def K mg "_law_draw" sDraw a1 fd1) (D__law_pick : DL.Def K mg "_law_pick" s__law_pick a2 fd2) (G__law_draw : Fd P w K mg base 1 a1 fd1 ["deck", "many"] sp_draw) (G__law_pick : Fd P w K mg base 2 a2 fd2 ["deck", "some"] sp_pick) (glen : mg "len" = none) (gtup : mg "tuple" = none) (grange : mg "range" = none) : ∀ n : Nat, Fd P w K mg base (3 + n) a fd ["deck", "deep"] (sp_any n) := by
  have b__law_draw : Binds K fd1 ["deck", "many"] [] := D__law_draw.F.binds fun _ _ _ _ _ _ us hl => match us, hl with | [_, _], _ => rfl
  have b__law_pick : Binds K fd2 ["deck", "some"] [] := D__law_pick.F.binds fun _ _ _ _ _ _ us hl => match us, hl with | [_, _], _ => rfl
  have b__law_any : Binds K fd ["deck", "deep"] [] := D__law_any.F.binds fun _ _ _ _ _ _ us hl => match us, hl with | [_, _], _ => rfl
  have step : ∀ (n : Nat) (j : Nat) (spx : SpD), (∀ m us Q Z, spx m us Q Z → us.length = 2) → Fd P w K mg base (2 + n) a fd ["deck", "deep"] spx → (n = 0 ∨ ∃ n', n = n' + 1 ∧ spx = sp_any n') → Fd P w K mg base (3 + n) a fd ["deck", "deep"] (sp_any n) := fun n j spx hl G__law_any hn => by
    rw [show 3 + n = (2 + n) + 1 by omega]
    refine fd_of D__law_any.F sc__law_any (fun m us Q Z h => ?_) (fun cdv A outer s H E m us Qd Zd hr hG tk h => ?_)
    · obtain ⟨d, l, _, rfl, _⟩ := h
      rfl
    · obtain ⟨d, l, e, rfl, k⟩ := h
      have hu := hr.units
      have six : 6 ≤ sizeLine := le_line (by decide)
      have eight : 8 ≤ sizeLine := le_line (by decide)
      have three : 3 ≤ sizeLine := le_line (by decide)
      refine ⟨_, (dss_cons (ds_set (i := 2) sc__law_any.nd rfl (.inl rfl) (de_call G__law_draw (hr.mono (by omega)) hG tk (by rfl) D__law_draw.g D__law_draw.F.kp b__law_draw (da_cons (de_var (pv 0)) (da_cons de_int da_nil))))
    (dss_cons (ds_if (dt_lt (de_var (pv 2)) de_int) (dss_one (ds_ret (de_call G__law_pick (hr.mono (by omega)) hG tk (by rfl) D__law_pick.g D__law_pick.F.kp b__law_pick (da_cons (de_var (pv 0)) (da_cons (de_lst (da_cons de_int (da_cons de_int (da_cons (de_neg de_int) (da_cons de_int (da_cons (de_star de_int (de_pow de_int de_int)) (da_cons (de_neg (de_pow de_int de_int)) (da_cons de_int (da_cons de_int da_nil))))))))) da_nil))))) dss_nil)
    (dss_cons (ds_if (dt_lt (de_var (pv 2)) de_int) (dss_one (ds_ret (de_call G__law_pick (hr.mono (by omega)) hG tk (by rfl) D__law_pick.g D__law_pick.F.kp b__law_pick (da_cons (de_var (pv 0)) (da_cons (de_lst (da_cons de_str (da_cons de_str (da_cons de_str (da_cons de_str (da_cons de_str (da_cons de_str da_nil))))))) da_nil))))) dss_nil)
    (dss_cons (ds_if (dt_eq hu (de_var (pv 2)) de_int) (dss_one (ds_ret (de_call G__law_pick (hr.mono (by omega)) hG tk (by rfl) D__law_pick.g D__law_pick.F.kp b__law_pick (da_cons (de_var (pv 0)) (da_cons (de_lst (da_cons de_bl (da_cons de_bl (da_cons de_non da_nil)))) da_nil))))) dss_nil)
    (dss_cons (ds_set (i := 3) sc__law_any.nd rfl (.inl rfl) (de_if (dt_gt (de_var (pv 1)) de_int) (PE.weak (pe_lc (own := [("turn", 4)]) (g := (gName 4)) rfl sc__law_any.nd (di_range1 (a := .Name "" ⟨0, 0, 0, 0⟩) (pi_range1 (by rfl) grange (da_cons (de_call G__law_draw (hr.mono (by omega)) hG tk (by rfl) D__law_draw.g D__law_draw.F.kp b__law_draw (da_cons (de_var (pv 0)) (da_cons de_int da_nil))) da_nil))) (blkOk_by (own := [("turn", 4)]) (N := ["deck", "deep", "way", "some", "turn"]) (sc := defScope s__law_any) (by decide +kernel)) (fun _ _ _ _ _ => pg_name (i := 4) sc__law_any.nd rfl (.inl rfl)) (fun _ _ _ _ _ => pts_yes) (fun _ _ _ _ _ => (de_call G__law_any (hr.mono (by omega)) hG noW_takes (by rfl) D__law_any.g D__law_any.F.kp b__law_any (da_cons (de_var (pv 0)) (da_cons (de_sub (de_var (pv 1)) de_int) da_nil))))) (t_lc (tg_name 4))) (de_lst da_nil)))
    (dss_cons (ds_if (dt_eq hu (de_var (pv 2)) de_int) (dss_one (ds_ret (de_var (pv 3)))) dss_nil)
    (dss_one (ds_ret (de_if (dt_eq hu (de_var (pv 2)) de_int) (de_dct2 (k1 := (.inr "key")) (k2 := (.inl 1)) (by decide) pe_str pe_int (de_var (pv 3)) (de_callB cal_len (pe_callB call_len_seq (by rfl) glen PySem.boot_len (da_cons (de_var (pv 3)) da_nil)))) (de_callB cal_tuple (pe_callTy call_tuple_of (by rfl) gtup (by decide +kernel) (da_cons (de_var (pv 3)) da_nil)))))))))))), ?_⟩
      simp (config := { maxSteps := 1000000 }) only [dSeq, dIfS, dTest, dOp, dUn, dVar, dC, dTup, dLst, dNil, dCons, dRet, dRetN, dDrop, dSet, dPar, dAsg, dgTup, dgCons, dgNil, dgName, dCB, dNext, dIf, dAnd, dOr, dNot, dNotV, dAndV, dOrV, dCall, dCallK, dRaise, dAug, dSl, dPart, dNoPart, startU_eq, List.map_cons, List.map_nil, List.cons_append, List.nil_append, List.length_cons, List.length_nil, List.replicate, List.getElem?_cons_zero, List.getElem?_cons_succ, List.getElem?_nil, List.set_cons_zero, List.set_cons_succ, Nat.reduceAdd, Nat.reduceSub, ex_uu, ex_bl, ex_tup, ex_lst, ex_int, ex_cons, ex_two, gEq_int, gNe_int, gEq_p2, gNe_p2, gEq_str, ixp0, ixp1, plus_int, star_int, gI_int, gIC_int, ix0, ix1, ix2, ix3, fGcd_int, fIsq_int, fAbs_int, fInt_int, fLen_tup, fLen_lst, fMax2_int, gNeg_int, gFdv, gMod, DL.gSub, gPow, gLt, gLe, gGt, gGe, eq_self, decide_eq_true_eq, Bool.not_eq_true', decide_eq_false_iff_not, true_and, and_true, if_true, if_false, Bool.false_eq_true, Bool.not_true, Bool.not_false]
      refine ⟨d, l, 10, e, rfl, by decide, by decide, fun way w0 w1 => ?_⟩
      simp (config := { maxSteps := 1000000 }) only [dSeq, dIfS, dTest, dOp, dUn, dVar, dC, dTup, dLst, dNil, dCons, dRet, dRetN, dDrop, dSet, dPar, dAsg, dgTup, dgCons, dgNil, dgName, dCB, dNext, dIf, dAnd, dOr, dNot, dNotV, dAndV, dOrV, dCall, dCallK, dRaise, dAug, dSl, dPart, dNoPart, startU_eq, List.map_cons, List.map_nil, List.cons_append, List.nil_append, List.length_cons, List.length_nil, List.replicate, List.getElem?_cons_zero, List.getElem?_cons_succ, List.getElem?_nil, List.set_cons_zero, List.set_cons_succ, Nat.reduceAdd, Nat.reduceSub, ex_uu, ex_bl, ex_tup, ex_lst, ex_int, ex_cons, ex_two, gEq_int, gNe_int, gEq_p2, gNe_p2, gEq_str, ixp0, ixp1, plus_int, star_int, gI_int, gIC_int, ix0, ix1, ix2, ix3, fGcd_int, fIsq_int, fAbs_int, fInt_int, fLen_tup, fLen_lst, fMax2_int, gNeg_int, gFdv, gMod, DL.gSub, gPow, gLt, gLe, gGt, gGe, eq_self, decide_eq_true_eq, Bool.not_eq_true', decide_eq_false_iff_not, true_and, and_true, if_true, if_false, Bool.false_eq_true, Bool.not_true, Bool.not_false]
      by_cases c1 : way < 2
      · rw [if_pos c1]
        have cp : CPow 10 38 := ⟨by decide, by decide, by decide⟩
        have cp2 : CPow 10 20 := ⟨by decide, by decide, by decide⟩
        refine ⟨cp, mul_ok 10 200 (by decide) (by decide) (by decide) (by decide) (by decide), cp2, eight, d, l, _, e, rfl, by show 0 < 8; decide, by show 8 < 1000; decide, fun u hu => k u ?_⟩
        have li : ∀ i : Int, i.natAbs < 2 ^ 150 → Av (anyD n) (anyT n) (.int i) := fun i hi => any_leaf ((av_int hi (by decide) (by decide)).up)
        simp only [List.mem_cons, List.not_mem_nil, or_false] at hu
        rcases hu with rfl | rfl | rfl | rfl | rfl | rfl | rfl | rfl <;> exact li _ (by decide)
      rw [if_neg c1]
      by_cases c2 : way < 4
      · rw [if_pos c2]
        refine ⟨six, d, l, _, e, rfl, by show 0 < 6; decide, by show 6 < 1000; decide, fun u hu => k u ?_⟩
        have ls : ∀ s : String, (Str.ofString s).length ≤ 16 → Av (anyD n) (anyT n) (.str (Str.ofString s)) := fun s hs => any_leaf (av_str s hs)
        simp only [List.mem_cons, List.not_mem_nil, or_false] at hu
        rcases hu with rfl | rfl | rfl | rfl | rfl | rfl <;> exact ls _ (by decide)
      rw [if_neg c2]
      by_cases c3 : way = 4
      · rw [if_pos c3]
        refine ⟨three, d, l, _, e, rfl, by show 0 < 3; decide, by show 3 < 1000; decide, fun u hu => k u ?_⟩
        simp only [List.mem_cons, List.not_mem_nil, or_false] at hu
        rcases hu with rfl | rfl | rfl
        · exact any_leaf ((av_bl _).up)
        · exact any_leaf ((av_bl _).up)
        · exact any_leaf (av_non.up)
      rw [if_neg c3]
      have fin : ∀ (ts : List U) (ρ : DL.Env), ts.length ≤ 3 → (∃ dd tt, dd + 2 ≤ anyD n ∧ 3 + 3 * (tt + 2) + 90 ≤ anyT n ∧ ∀ u ∈ ts, Av dd tt u) → ρ[3]? = some (some (.lst ts)) → (if way = 5 then Qd (.lst ts) else if way = 6 then dDct2 (.inr "key") (.inl 1) (dVar 3) (dCB fLen (dCons (dVar 3) dNil)) m ρ Qd Zd else fTuple [.lst ts] Qd) := fun ts ρ l3 ⟨dd, tt, h1, h2, h3⟩ hρ => by
        have rl : Av (dd + 1) (3 + 3 * (tt + 2)) (.lst ts) := av_lst h3 l3
        by_cases c5 : way = 5
        · rw [if_pos c5]
          exact k _ (rl.up (by omega) (by omega))
        rw [if_neg c5]
        by_cases c6 : way = 6
        · rw [if_pos c6]
          refine fun B => ⟨_, hρ, _, hρ, ts, .inr rfl, k _ ?_⟩
          have hj : ((ts.length : Nat) : Int).natAbs < 2 ^ 60 := by
            rw [Int.natAbs_natCast]
            exact Nat.lt_of_le_of_lt l3 (by decide)
          exact (av_key rl hj).up (by omega) (by omega)
        · rw [if_neg c6]
          exact ⟨ts, .inr rfl, k _ ((av_tup h3 l3).up (by omega) (by omega))⟩
      by_cases c4 : (0 : Int) < (n : Int)
      · rw [if_pos c4]
        rcases hn with rfl | ⟨n', rfl, rfl⟩
        · exact absurd c4 (by decide)
        simp only [dLc, dItR1]
        simp (config := { maxSteps := 1000000 }) only [dSeq, dIfS, dTest, dOp, dUn, dVar, dC, dTup, dLst, dNil, dCons, dRet, dRetN, dDrop, dSet, dPar, dAsg, dgTup, dgCons, dgNil, dgName, dCB, dNext, dIf, dAnd, dOr, dNot, dNotV, dAndV, dOrV, dCall, dCallK, dRaise, dAug, dSl, dPart, dNoPart, startU_eq, List.map_cons, List.map_nil, List.cons_append, List.nil_append, List.length_cons, List.length_nil, List.replicate, List.getElem?_cons_zero, List.getElem?_cons_succ, List.getElem?_nil, List.set_cons_zero, List.set_cons_succ, Nat.reduceAdd, Nat.reduceSub, ex_uu, ex_bl, ex_tup, ex_lst, ex_int, ex_cons, ex_two, gEq_int, gNe_int, gEq_p2, gNe_p2, gEq_str, ixp0, ixp1, plus_int, star_int, gI_int, gIC_int, ix0, ix1, ix2, ix3, fGcd_int, fIsq_int, fAbs_int, fInt_int, fLen_tup, fLen_lst, fMax2_int, gNeg_int, gFdv, gMod, DL.gSub, gPow, gLt, gLe, gGt, gGe, eq_self, decide_eq_true_eq, Bool.not_eq_true', decide_eq_false_iff_not, true_and, and_true, if_true, if_false, Bool.false_eq_true, Bool.not_true, Bool.not_false]
        refine ⟨d, l, 4, e, rfl, by decide, by decide, fun r r0 r1 => ⟨r, rfl, by omega, by omega, ?_⟩⟩
        have rl : (rngU 0 r.toNat).length = r.toNat := rngU_length _ _
        rw [rl]
        refine ⟨le_line (by omega), fun i acc => acc.length = i ∧ ∀ u ∈ acc, Av (anyD n') (anyT n') u, ⟨rfl, (fun u hu => nomatch hu)⟩, ?_, ?_⟩
        · rintro B i u acc hi ⟨ha, hb⟩
          refine ⟨_, rfl, ?_⟩
          unfold dYes
          dsimp only
          rw [if_pos rfl]
          have en : (((n' + 1 : Nat) : Int) - 1) = (n' : Int) := by omega
          refine ⟨_, rfl, _, rfl, _, _, rfl, rfl, d, l, e, by show [U.raw (V.ref d), U.int (((n' + 1 : Nat) : Int) - 1)] = _; rw [en], fun y hy => ⟨by rw [List.length_append, ha]; rfl, fun v hv => ?_⟩⟩
          rcases List.mem_append.mp hv with z | z
          · exact hb v z
          · rw [List.mem_singleton.mp z]
            exact hy
        · rintro acc ⟨ha, hb⟩
          exact fin acc _ (by omega) ⟨anyD n', anyT n', Nat.le_refl _, by show _ ≤ 3 * (anyT n' + 2) + 100; omega, hb⟩ rfl
      · rw [if_neg c4]
        refine ⟨Nat.zero_le _, ?_⟩
        exact fin [] _ (by decide) ⟨0, 0, anyD_ge n, by have := anyT_ge n; omega, fun u hu => nomatch hu⟩ rfl
  intro n
  induction n with
  | zero =>
    refine step 0 0 (fun _ _ _ _ => False) (fun _ _ _ _ z => z.elim) ⟨fun _ _ _ _ z => z.elim, fun _ _ _ _ _ _ _ _ _ _ _ _ _ _ _ _ _ _ _ _ z => z.elim⟩ (.inl rfl)
  | succ n ih =>
    have ih' : Fd P w K mg base (2 + (n + 1)) a fd ["deck", "deep"] (sp_any n) := ih.mono (by omega)
    exact step (n + 1) 0 (sp_any n) (fun m us Q Z h => by
      obtain ⟨d, l, _, rfl, _⟩ := h
      rfl) ih' (.inr ⟨n, rfl, rfl⟩)
theorem sc__law_instead : FnScope ["some", "at", "item"] ["some", "at", "item"] (defScope s__law_instead) := ⟨rfl, rfl, rfl, by decide +kernel, rfl, by decide +kernel, by decide +kernel⟩
def sp_instead : SpD := fun m us Q _ => ∃ (ts : List U) (i : Nat) (u : U), us = [.tup ts, .int (i : Int), u] ∧ i < ts.length ∧ ts.length ≤ 900 ∧ Q (.tup (ts.set i u))
theorem cut_to' (ts : List U) (n : Nat) (h : n ≤ ts.length) : cutU ts none (some (n : Int)) = ts.take n := cut_to ts n h
theorem ok__law_instead {a : Addr} {fd : FuncData} (D : DL.Def K mg "_law_instead" s__law_instead a fd) : Fd P w K mg base 1 a fd ["some", "at", "item"] sp_instead := by
  refine fd_of D.F sc__law_instead (fun m us Q Z h => ?_) (fun cdv A outer s H E m us Qd Zd hr hG tk h => ?_)
  · obtain ⟨ts, i, u, rfl, _⟩ := h
    rfl
  · obtain ⟨ts, i, u, rfl, hi, hl, k⟩ := h
    have hu := hr.units
    refine ⟨_, (dss_one (ds_ret (de_plus (de_plus (de_sl (de_var (pv 0)) do_none (do_some (de_var (pv 1)))) (de_tup (da_cons (de_var (pv 2)) da_nil))) (de_sl (de_var (pv 0)) (do_some (de_plus (de_var (pv 1)) de_int)) do_none)))), ?_⟩
    simp (config := { maxSteps := 1000000 }) only [dSeq, dIfS, dTest, dOp, dUn, dVar, dC, dTup, dLst, dNil, dCons, dRet, dRetN, dDrop, dSet, dPar, dAsg, dgTup, dgCons, dgNil, dgName, dCB, dNext, dIf, dAnd, dOr, dNot, dNotV, dAndV, dOrV, dCall, dCallK, dRaise, dAug, dSl, dPart, dNoPart, startU_eq, List.map_cons, List.map_nil, List.cons_append, List.nil_append, List.length_cons, List.length_nil, List.replicate, List.getElem?_cons_zero, List.getElem?_cons_succ, List.getElem?_nil, List.set_cons_zero, List.set_cons_succ, Nat.reduceAdd, Nat.reduceSub, ex_uu, ex_bl, ex_tup, ex_lst, ex_int, ex_cons, ex_two, gEq_int, gNe_int, gEq_p2, gNe_p2, gEq_str, ixp0, ixp1, plus_int, star_int, gI_int, gIC_int, ix0, ix1, ix2, ix3, fGcd_int, fIsq_int, fAbs_int, fInt_int, fLen_tup, fLen_lst, fMax2_int, gNeg_int, gFdv, gMod, DL.gSub, gPow, gLt, gLe, gGt, gGe, eq_self, decide_eq_true_eq, Bool.not_eq_true', decide_eq_false_iff_not, true_and, and_true, if_true, if_false, Bool.false_eq_true, Bool.not_true, Bool.not_false]
    have one : 1 ≤ sizeLine := le_line (by decide)
    refine .inr ⟨_, rfl, one, (plus_tup _ _ _).mpr ⟨?_, .inr ⟨_, rfl, (plus_tup _ _ _).mpr ⟨?_, ?_⟩⟩⟩⟩
    · rw [cut_to ts i (by omega), List.length_take]
      exact le_line (by show min i ts.length + 1 ≤ 1000; omega)
    · have e : ((i : Int) + 1) = ((i + 1 : Nat) : Int) := by omega
      rw [e, cut_to ts i (by omega), cut_from ts (i + 1) (by omega), List.length_append, List.length_take, List.length_drop]
      exact le_line (by show min i ts.length + 1 + (ts.length - (i + 1)) ≤ 1000; omega)
    · have e : ((i : Int) + 1) = ((i + 1 : Nat) : Int) := by omega
      rw [e, cut_to ts i (by omega), cut_from ts (i + 1) (by omega)]
      rw [List.set_eq_take_append_cons_drop, if_pos hi] at k
      rw [List.append_assoc]
      exact k
/-! ### things with a part changed -/
inductive Th (L k : Nat) : Nat → U → Prop
  | int {d : Nat} {i : Int} : Bd k i → Th L k d (.int i)
  | tup {d : Nat} {us : List U} : us.length ≤ L → (∀ u ∈ us, Th L k d u) → Th L k (d + 1) (.tup us)
def thT (L k : Nat) : Nat → Nat
  | 0 => k + 1
  | d + 1 => 3 + (L + 1) * (thT L k d + 2)
def beT (L k : Nat) : Nat → Nat
  | 0 => 2000 + 10 * (k + 4)
  | d + 1 => 3 + (L + 1) * (thT L k d + beT L k d + 40) + thT L k (d + 1)
theorem thT_mono (L k d : Nat) : thT L k d ≤ thT L k (d + 1) := by
  show thT L k d ≤ 3 + (L + 1) * (thT L k d + 2)
  have : 1 * (thT L k d + 2) ≤ (L + 1) * (thT L k d + 2) := Nat.mul_le_mul_right _ (by omega)
  omega
theorem thT_ge (L k : Nat) : ∀ d, k + 1 ≤ thT L k d
  | 0 => Nat.le_refl _
  | d + 1 => Nat.le_trans (thT_ge L k d) (thT_mono L k d)
theorem beT_mono (L k d : Nat) : beT L k d ≤ beT L k (d + 1) := by
  show beT L k d ≤ 3 + (L + 1) * (thT L k d + beT L k d + 40) + thT L k (d + 1)
  have : 1 * (thT L k d + beT L k d + 40) ≤ (L + 1) * (thT L k d + beT L k d + 40) := Nat.mul_le_mul_right _ (by omega)
  omega
theorem beT_ge (L k : Nat) : ∀ d, 2000 + 10 * (k + 4) ≤ beT L k d
  | 0 => Nat.le_refl _
  | d + 1 => Nat.le_trans (beT_ge L k d) (beT_mono L k d)
theorem Th.rp {L k : Nat} (hk : 0 < k) (hk2 : k ≤ 299) : ∀ {d : Nat} {u : U}, Th L k d u → Av d (thT L k d) u
  | d, _, .int h => (av_int h hk (by omega)).up (Nat.zero_le _) (thT_ge L k d)
  | _, _, .tup (d := d) hl h => (av_tup (fun u hu => Th.rp hk hk2 (h u hu)) hl).up (Nat.le_refl _) (by
      show _ ≤ 3 + (L + 1) * (thT L k d + 2)
      rw [Nat.succ_mul]
      omega)
theorem Th.flat {L k : Nat} : ∀ {d : Nat} {u : U}, Th L k d u → isD u = true ∧ PyData.canLay0 (toP u) = true ∧ PyData.depth (toP u) ≤ d
  | d, _, .int h => ⟨rfl, rfl, Nat.zero_le _⟩
  | _, _, .tup (d := d) (us := us) hl h => by
    have all : ∀ vs : List U, (∀ u ∈ vs, Th L k d u) → isDs vs = true ∧ PyData.canLayAll0 (toPs vs) = true ∧ PyData.depthAll (toPs vs) ≤ d := fun vs hv => by
      induction vs with
      | nil => exact ⟨rfl, rfl, Nat.zero_le _⟩
      | cons v vs ih =>
        obtain ⟨h1, h2, h3⟩ := ih fun u hu => hv u (List.mem_cons_of_mem _ hu)
        obtain ⟨g1, g2, g3⟩ := Th.flat (hv v List.mem_cons_self)
        refine ⟨?_, ?_, ?_⟩
        · show (isD v && isDs vs) = true
          rw [h1, g1]
          rfl
        · show (PyData.canLay0 (toP v) && PyData.canLayAll0 (toPs vs)) = true
          rw [h2, g2]
          rfl
        · show max (PyData.depth (toP v)) (PyData.depthAll (toPs vs)) ≤ d
          exact Nat.max_le.mpr ⟨g3, h3⟩
    obtain ⟨h1, h2, h3⟩ := all us h
    exact ⟨h1, h2, Nat.succ_le_succ h3⟩
theorem Th.fl {L k d : Nat} {u : U} (h : Th L k d u) (hd : d ≤ 60) : DL.flat u = true := by
  obtain ⟨h1, h2, h3⟩ := h.flat
  unfold DL.flat SeqAt.shaped
  rw [h1, h2, decide_eq_true (show (toP u).depth ≤ 64 by omega)]
  rfl
theorem Th.raw {L k d : Nat} {u : U} (h : Th L k d u) : notRaw u = true := by
  cases h <;> rfl
theorem Th.mem {L k d : Nat} {us : List U} {u : U} (h : Th L k d (.tup us)) (hu : u ∈ us) : ∃ d', d = d' + 1 ∧ Th L k d' u := by
  cases h with
  | tup hl h => exact ⟨_, rfl, h u hu⟩
theorem sc__law_bent : FnScope ["deck", "thing", "deep", "way", "is_great", "x", "at"] ["deck", "thing", "deep"] (defScope s__law_bent) := ⟨rfl, rfl, rfl, by decide +kernel, rfl, by decide +kernel, by decide +kernel⟩
def sp_bent (L k n : Nat) : SpD := fun m us Q _ => ∃ (d l : Addr) (dd : Nat) (u : U), m.deck = some (d, l) ∧ us = [.raw (.ref d), u, .int (n : Int)] ∧ Th L k dd u ∧ dd ≤ 50 ∧ ∀ v, Av (dd + 8) (beT L k dd) v → Q v
theorem ok__law_bent {a a1 a2 a3 a4 a5 : Addr} {fd fd1 fd2 fd3 fd4 fd5 : FuncData} {L k : Nat} (hk : 0 < k) (hk2 : k ≤ 290) (hL : L ≤ 800) (D__law_bent : DL.Def K mg "_law_bent" s__law_bent a fd) (D__law_draw : DL.Def K mg "_law_draw" sDraw a1 fd1) (G__law_draw : Fd P w K mg base 1 a1 fd1 ["deck", "many"] sp_draw) (D__law_pick : DL.Def K mg "_law_pick" s__law_pick a2 fd2) (G__law_pick : Fd P w K mg base 2 a2 fd2 ["deck", "some"] sp_pick)
    (D__law_any : DL.Def K mg "_law_any" s__law_any a3 fd3) (G__law_any : Fd P w K mg base 5 a3 fd3 ["deck", "deep"] (sp_any 2)) (D__law_is_integer : DL.Def K mg "_law_is_integer" s__law_is_integer a4 fd4) (G__law_is_integer : Fd P w K mg base 1 a4 fd4 ["thing"] sp_is_integer) (D__law_instead : DL.Def K mg "_law_instead" s__law_instead a5 fd5) (G__law_instead : Fd P w K mg base 1 a5 fd5 ["some", "at", "item"] sp_instead)
    (glen : mg "len" = none) (gtup : mg "tuple" = none) (glist : mg "list" = none) (gisi : mg "isinstance" = none) (gbool : mg "bool" = none) (gstr : mg "str" = none) (gabs : mg "abs" = none) : ∀ n : Nat, Fd P w K mg base (6 + n) a fd ["deck", "thing", "deep"] (sp_bent L k n) := by
  have b__law_draw : Binds K fd1 ["deck", "many"] [] := D__law_draw.F.binds fun _ _ _ _ _ _ us hl => match us, hl with | [_, _], _ => rfl
  have b__law_pick : Binds K fd2 ["deck", "some"] [] := D__law_pick.F.binds fun _ _ _ _ _ _ us hl => match us, hl with | [_, _], _ => rfl
  have b__law_any : Binds K fd3 ["deck", "deep"] [] := D__law_any.F.binds fun _ _ _ _ _ _ us hl => match us, hl with | [_, _], _ => rfl
  have b__law_is_integer : Binds K fd4 ["thing"] [] := D__law_is_integer.F.binds fun _ _ _ _ _ _ us hl => match us, hl with | [_], _ => rfl
  have b__law_instead : Binds K fd5 ["some", "at", "item"] [] := D__law_instead.F.binds fun _ _ _ _ _ _ us hl => match us, hl with | [_, _, _], _ => rfl
  have b__law_bent : Binds K fd ["deck", "thing", "deep"] [] := D__law_bent.F.binds fun _ _ _ _ _ _ us hl => match us, hl with | [_, _, _], _ => rfl
  have step : ∀ (n : Nat) (spx : SpD), Fd P w K mg base (5 + n) a fd ["deck", "thing", "deep"] spx → (n = 0 ∨ ∃ n', n = n' + 1 ∧ spx = sp_bent L k n') → Fd P w K mg base (6 + n) a fd ["deck", "thing", "deep"] (sp_bent L k n) := fun n spx G__law_bent hn => by
    rw [show 6 + n = (5 + n) + 1 by omega]
    refine fd_of D__law_bent.F sc__law_bent (fun m us Q Z h => ?_) (fun cdv A outer s H E m us Qd Zd hr hG tk h => ?_)
    · obtain ⟨d, l, _, _, _, rfl, _⟩ := h
      rfl
    · obtain ⟨d, l, dd, u, e, rfl, hu0, hdd, q⟩ := h
      have hu := hr.units
      refine ⟨_, (dss_cons (ds_if (L2.PW.pt (dw_or (dt_not (dt_val (de_callB cal_isi (pe_callB call_isi (by rfl) gisi (by decide +kernel) (da_cons (de_var (pv 1)) (da_cons (de_ty (n := "tuple") (by rfl) gtup (by decide +kernel)) da_nil)))))) (dw_or (dt_eq hu (de_var (pv 1)) (de_tup da_nil)) (dw_or (dt_eq hu (de_var (pv 2)) de_int) (dw_or1 (dt_eq hu (de_call G__law_draw (hr.mono (by omega)) hG tk (by rfl) D__law_draw.g D__law_draw.F.kp b__law_draw (da_cons (de_var (pv 0)) (da_cons de_int da_nil))) de_int)))))) (dss_cons (ds_set (i := 3) sc__law_bent.nd rfl (.inl rfl) (de_call G__law_draw (hr.mono (by omega)) hG tk (by rfl) D__law_draw.g D__law_draw.F.kp b__law_draw (da_cons (de_var (pv 0)) (da_cons de_int da_nil))))
    (dss_cons (ds_if (dt_val (de_call G__law_is_integer (hr.mono (by omega)) hG tk (by rfl) D__law_is_integer.g D__law_is_integer.F.kp b__law_is_integer (da_cons (de_var (pv 1)) da_nil))) (dss_one (ds_ret (de_call G__law_pick (hr.mono (by omega)) hG tk (by rfl) D__law_pick.g D__law_pick.F.kp b__law_pick (da_cons (de_var (pv 0)) (da_cons (de_lst (da_cons de_int (da_cons (de_neg (de_var (pv 1))) (da_cons (de_star de_int (de_var (pv 1))) (da_cons (de_plus (de_var (pv 1)) de_int) (da_cons (de_callB cal_bool (pe_callTy call_bool1 (by rfl) gbool (by decide +kernel) (da_cons (de_var (pv 1)) da_nil))) (da_cons (de_callB cal_strI (pe_callTy call_str_int (by rfl) gstr (by decide +kernel) (da_cons (de_var (pv 1)) da_nil))) (da_cons (de_tup (da_cons (de_var (pv 1)) da_nil)) (da_cons (de_lst (da_cons (de_var (pv 1)) da_nil)) (da_cons de_non (da_cons (de_star de_int (de_var (pv 1))) da_nil))))))))))) da_nil))))) dss_nil)
    (dss_cons (ds_if (L2.PW.pt (dw_or (dt_eq hu (de_var (pv 3)) de_int) (dw_or1 (dt_not (dt_val (de_callB cal_isi (pe_callB call_isi (by rfl) gisi (by decide +kernel) (da_cons (de_var (pv 1)) (da_cons (de_ty (n := "tuple") (by rfl) gtup (by decide +kernel)) da_nil))))))))) (dss_one (ds_ret (de_call G__law_any (hr.mono (by omega)) hG tk (by rfl) D__law_any.g D__law_any.F.kp b__law_any (da_cons (de_var (pv 0)) (da_cons de_int da_nil))))) dss_nil)
    (dss_cons (ds_if (dt_lt (de_var (pv 3)) de_int) (dss_one (ds_ret (de_callB cal_list (pe_callTy call_list_of (by rfl) glist (by decide +kernel) (da_cons (de_var (pv 1)) da_nil))))) dss_nil)
    (dss_cons (ds_if (dt_lt (de_var (pv 3)) de_int) (dss_one (ds_ret (de_plus (de_var (pv 1)) (de_tup (da_cons (de_call G__law_pick (hr.mono (by omega)) hG tk (by rfl) D__law_pick.g D__law_pick.F.kp b__law_pick (da_cons (de_var (pv 0)) (da_cons (de_lst (da_cons (de_tup da_nil) (da_cons de_int (da_cons (de_tup (da_cons de_int (da_cons de_int (da_cons de_int da_nil)))) (da_cons (de_tup (da_cons (de_tup (da_cons de_int (da_cons de_int (da_cons de_int da_nil)))) da_nil)) (da_cons de_non (da_cons de_bl da_nil))))))) da_nil))) da_nil))))) dss_nil)
    (dss_cons (ds_if (dt_lt (de_var (pv 3)) de_int) (dss_cons (ds_set (i := 4) sc__law_bent.nd rfl (.inl rfl) (de_ne hu (PE.weak (pe_lc (own := [("x", 5)]) (g := (gName 5)) rfl sc__law_bent.nd (di_tup (de_var (pv 1))) (blkOk_by (own := [("x", 5)]) (N := ["deck", "thing", "deep", "way", "is_great", "x", "at"]) (sc := defScope s__law_bent) (by decide +kernel)) (fun _ _ _ _ _ => pg_name (i := 5) sc__law_bent.nd rfl (.inl rfl)) (fun _ _ _ _ _ => pts_one (L2.PW.pt (dw_and (dt_val (de_call G__law_is_integer (hr.mono (by omega)) hG noW_takes (by rfl) D__law_is_integer.g D__law_is_integer.F.kp b__law_is_integer (da_cons (de_var (pv 5)) da_nil))) (dw_and1 (dt_gt (de_callB cal_abs (pe_callB call_abs (by rfl) gabs PyProof.Rows.boot_abs (da_cons (de_var (pv 5)) da_nil))) (de_pow de_int de_int)))))) (fun _ _ _ _ _ => de_int)) (t_lc (tg_name 5))) (de_lst da_nil)))
    (dss_one (ds_ret (de_if (dt_val (de_var (pv 4))) (de_callB cal_list (pe_callTy call_list_of (by rfl) glist (by decide +kernel) (da_cons (de_var (pv 1)) da_nil))) (de_revT (de_var (pv 1))))))) dss_nil)
    (dss_cons (ds_if (dt_lt (de_var (pv 3)) de_int) (dss_one (ds_ret (de_plus (de_var (pv 1)) (de_sl (de_var (pv 1)) do_none (do_some de_int))))) dss_nil)
    (dss_one (ds_ret (de_if (dt_lt (de_var (pv 3)) de_int) (de_sl (de_var (pv 1)) (do_some de_int) do_none) (de_tup (da_cons (de_var (pv 1)) da_nil)))))))))))) dss_nil)
    (dss_cons (ds_set (i := 6) sc__law_bent.nd rfl (.inl rfl) (de_call G__law_draw (hr.mono (by omega)) hG tk (by rfl) D__law_draw.g D__law_draw.F.kp b__law_draw (da_cons (de_var (pv 0)) (da_cons (de_callB cal_len (pe_callB call_len_seq (by rfl) glen PySem.boot_len (da_cons (de_var (pv 1)) da_nil))) da_nil))))
    (dss_one (ds_ret (de_call G__law_instead (hr.mono (by omega)) hG tk (by rfl) D__law_instead.g D__law_instead.F.kp b__law_instead (da_cons (de_var (pv 1)) (da_cons (de_var (pv 6)) (da_cons (de_call G__law_bent (hr.mono (by omega)) hG tk (by rfl) D__law_bent.g D__law_bent.F.kp b__law_bent (da_cons (de_var (pv 0)) (da_cons (de_ix (de_var (pv 1)) (de_var (pv 6)) (fun _ _ => rfl)) (da_cons (de_sub (de_var (pv 2)) de_int) da_nil)))) da_nil)))))))), ?_⟩
      have one : 1 ≤ sizeLine := le_line (by decide)
      have three : 3 ≤ sizeLine := le_line (by decide)
      have six : 6 ≤ sizeLine := le_line (by decide)
      have ten : 10 ≤ sizeLine := le_line (by decide)
      have hB := beT_ge L k dd
      refine dIfS_gen (fun c => c = false → ∃ t ts n', u = .tup (t :: ts) ∧ n = n' + 1) ?_ ?_ ?_
      · intro Q hQ
        simp (config := { maxSteps := 1000000 }) only [dSeq, dIfS, dTest, dOp, dUn, dVar, dC, dTup, dLst, dNil, dCons, dRet, dRetN, dDrop, dSet, dPar, dAsg, dgTup, dgCons, dgNil, dgName, dCB, dNext, dIf, dAnd, dOr, dNot, dNotV, dAndV, dOrV, dCall, dCallK, dRaise, dAug, dSl, dPart, dNoPart, startU_eq, List.map_cons, List.map_nil, List.cons_append, List.nil_append, List.length_cons, List.length_nil, List.replicate, List.getElem?_cons_zero, List.getElem?_cons_succ, List.getElem?_nil, List.set_cons_zero, List.set_cons_succ, Nat.reduceAdd, Nat.reduceSub, ex_uu, ex_bl, ex_tup, ex_lst, ex_int, ex_cons, ex_two, gEq_int, gNe_int, gEq_p2, gNe_p2, gEq_str, ixp0, ixp1, plus_int, star_int, gI_int, gIC_int, ix0, ix1, ix2, ix3, fGcd_int, fIsq_int, fAbs_int, fInt_int, fLen_tup, fLen_lst, fMax2_int, gNeg_int, gFdv, gMod, DL.gSub, gPow, gLt, gLe, gGt, gGe, eq_self, decide_eq_true_eq, Bool.not_eq_true', decide_eq_false_iff_not, true_and, and_true, if_true, if_false, Bool.false_eq_true, Bool.not_true, Bool.not_false]
        cases hu0 with
        | @int _ i hi => exact fIsi_of (b := false) rfl (by decide +kernel) ⟨_, rfl, by rw [if_pos rfl]; exact hQ _ (fun z => Bool.noConfusion z)⟩
        | @tup d' ts hl hts =>
          refine fIsi_of (b := true) rfl (by decide +kernel) ⟨_, rfl, ?_⟩
          rw [if_neg (fun z => Bool.noConfusion z)]
          refine ⟨Nat.zero_le _, (Th.tup hl hts).fl (by omega), rfl, _, rfl, ?_⟩
          cases ts with
          | nil =>
            rw [show ueq (.tup []) (.tup []) = true from rfl, if_pos rfl]
            exact hQ _ (fun z => Bool.noConfusion z)
          | cons t ts =>
            rw [show ueq (.tup (t :: ts)) (.tup []) = false from rfl, if_neg (fun z => Bool.noConfusion z)]
            cases n with
            | zero =>
              rw [if_pos (show ((0 : Nat) : Int) = 0 from rfl)]
              exact hQ _ (fun z => Bool.noConfusion z)
            | succ n' =>
              rw [if_neg (by omega)]
              refine ⟨d, l, 5, e, rfl, by decide, by decide, fun r r0 r1 => (gEq_int _ _ _).mpr ⟨_, rfl, ?_⟩⟩
              exact hQ _ fun _ => ⟨t, ts, n', rfl, rfl⟩
      · intro _
        simp (config := { maxSteps := 1000000 }) only [dSeq, dIfS, dTest, dOp, dUn, dVar, dC, dTup, dLst, dNil, dCons, dRet, dRetN, dDrop, dSet, dPar, dAsg, dgTup, dgCons, dgNil, dgName, dCB, dNext, dIf, dAnd, dOr, dNot, dNotV, dAndV, dOrV, dCall, dCallK, dRaise, dAug, dSl, dPart, dNoPart, startU_eq, List.map_cons, List.map_nil, List.cons_append, List.nil_append, List.length_cons, List.length_nil, List.replicate, List.getElem?_cons_zero, List.getElem?_cons_succ, List.getElem?_nil, List.set_cons_zero, List.set_cons_succ, Nat.reduceAdd, Nat.reduceSub, ex_uu, ex_bl, ex_tup, ex_lst, ex_int, ex_cons, ex_two, gEq_int, gNe_int, gEq_p2, gNe_p2, gEq_str, ixp0, ixp1, plus_int, star_int, gI_int, gIC_int, ix0, ix1, ix2, ix3, fGcd_int, fIsq_int, fAbs_int, fInt_int, fLen_tup, fLen_lst, fMax2_int, gNeg_int, gFdv, gMod, DL.gSub, gPow, gLt, gLe, gGt, gGe, eq_self, decide_eq_true_eq, Bool.not_eq_true', decide_eq_false_iff_not, true_and, and_true, if_true, if_false, Bool.false_eq_true, Bool.not_true, Bool.not_false]
        refine ⟨d, l, 14, e, rfl, by decide, by decide, fun way w0 w1 => ⟨u, rfl, hu0.raw, _, rfl, ?_⟩⟩
        have anyv : sp_any 2 m [.raw (.ref d), .int 2] Qd Zd := ⟨d, l, e, rfl, fun v hv => q v (hv.up (by show 6 ≤ dd + 8; omega) (by show 1954 ≤ beT L k dd; omega))⟩
        cases hu0 with
        | @int _ i hi =>
          rw [if_pos (show isIntU (.int i) = true from rfl)]
          simp (config := { maxSteps := 1000000 }) only [dSeq, dIfS, dTest, dOp, dUn, dVar, dC, dTup, dLst, dNil, dCons, dRet, dRetN, dDrop, dSet, dPar, dAsg, dgTup, dgCons, dgNil, dgName, dCB, dNext, dIf, dAnd, dOr, dNot, dNotV, dAndV, dOrV, dCall, dCallK, dRaise, dAug, dSl, dPart, dNoPart, startU_eq, List.map_cons, List.map_nil, List.cons_append, List.nil_append, List.length_cons, List.length_nil, List.replicate, List.getElem?_cons_zero, List.getElem?_cons_succ, List.getElem?_nil, List.set_cons_zero, List.set_cons_succ, Nat.reduceAdd, Nat.reduceSub, ex_uu, ex_bl, ex_tup, ex_lst, ex_int, ex_cons, ex_two, gEq_int, gNe_int, gEq_p2, gNe_p2, gEq_str, ixp0, ixp1, plus_int, star_int, gI_int, gIC_int, ix0, ix1, ix2, ix3, fGcd_int, fIsq_int, fAbs_int, fInt_int, fLen_tup, fLen_lst, fMax2_int, gNeg_int, gFdv, gMod, DL.gSub, gPow, gLt, gLe, gGt, gGe, eq_self, decide_eq_true_eq, Bool.not_eq_true', decide_eq_false_iff_not, true_and, and_true, if_true, if_false, Bool.false_eq_true, Bool.not_true, Bool.not_false]
          simp only [fBool_int, fStrI_int]
          have b2 : Bd (k + 2) (2 * i) := bd_up _ (bd_mul 2 k (by decide) hi) (by omega)
          have b4 : Bd (k + 3) (4 * i) := bd_up _ (bd_mul 3 k (by decide) hi) (by omega)
          refine ⟨mul_ok 2 k (by decide) hi (by decide) hk (by omega), Nat.lt_of_lt_of_le (PySem.Flt.log2_lt_of hk hi) (by omega), one, one, mul_ok 3 k (by decide) hi (by decide) hk (by omega), ten, d, l, _, e, rfl, by show 0 < 10; decide, by show 10 < 1000; decide, fun v hv => q v ?_⟩
          have li : ∀ j : Int, Bd (k + 3) j → Av (dd + 8) (beT L k dd) (.int j) := fun j hj => (av_int hj (by omega) (by omega)).up (Nat.zero_le _) (by omega)
          have l0 : Av 0 (k + 1) (.int i) := av_int hi hk (by omega)
          simp only [List.mem_cons, List.not_mem_nil, or_false] at hv
          rcases hv with rfl | rfl | rfl | rfl | rfl | rfl | rfl | rfl | rfl | rfl
          · exact li 0 (Nat.two_pow_pos _)
          · exact li _ (bd_up _ (bd_neg hi) (by omega))
          · exact li _ (bd_up _ b2 (by omega))
          · exact li _ (bd_up _ (bd_add k hi (Nat.lt_of_lt_of_le (show (1 : Int).natAbs < 2 ^ 1 by decide) (Nat.pow_le_pow_right (by decide) hk))) (by omega))
          · exact (av_bl _).up (Nat.zero_le _) (by omega)
          · exact (av_strI hi hk).up (Nat.zero_le _) (by omega)
          · exact (av_tup (L := 1) (us := [.int i]) (fun v hv => by rw [List.mem_singleton.mp hv]; exact l0) (by show 1 ≤ 1; decide)).up (by omega) (by omega)
          · exact (av_lst (L := 1) (us := [.int i]) (fun v hv => by rw [List.mem_singleton.mp hv]; exact l0) (by show 1 ≤ 1; decide)).up (by omega) (by omega)
          · exact av_non.up (Nat.zero_le _) (by omega)
          · exact li _ b4
        | @tup d' ts hl hts =>
          have hth : Th L k (d' + 1) (.tup ts) := .tup hl hts
          have rpi : ∀ u ∈ ts, Av d' (thT L k d') u := fun u hu => (hts u hu).rp hk (by omega)
          have hT : beT L k (d' + 1) = 3 + (L + 1) * (thT L k d' + beT L k d' + 40) + thT L k (d' + 1) := rfl
          have hT2 : thT L k (d' + 1) = 3 + (L + 1) * (thT L k d' + 2) := rfl
          have hB' := beT_ge L k d'
          have big : ∀ {dep n : Nat} {us : List U}, (∀ u ∈ us, Av dep n u) → us.length ≤ L + 1 → dep ≤ d' + 2 → n ≤ thT L k d' + 38 → Av (d' + 1 + 8) (beT L k (d' + 1)) (.tup us) ∧ Av (d' + 1 + 8) (beT L k (d' + 1)) (.lst us) := fun {dep n us} h1 h2 h3 h4 => by
            have : (L + 1) * (n + 2) ≤ (L + 1) * (thT L k d' + beT L k d' + 40) := Nat.mul_le_mul_left _ (by omega)
            exact ⟨(av_tup h1 h2).up (by omega) (by omega), (av_lst h1 h2).up (by omega) (by omega)⟩
          have lsl : ts.length ≤ 900 := by omega
          have ls2 : ts.length ≤ sizeLine := le_line (by omega)
          rw [if_neg (show ¬ isIntU (.tup ts) = true from fun z => Bool.noConfusion z)]
          simp (config := { maxSteps := 1000000 }) only [dSeq, dIfS, dTest, dOp, dUn, dVar, dC, dTup, dLst, dNil, dCons, dRet, dRetN, dDrop, dSet, dPar, dAsg, dgTup, dgCons, dgNil, dgName, dCB, dNext, dIf, dAnd, dOr, dNot, dNotV, dAndV, dOrV, dCall, dCallK, dRaise, dAug, dSl, dPart, dNoPart, startU_eq, List.map_cons, List.map_nil, List.cons_append, List.nil_append, List.length_cons, List.length_nil, List.replicate, List.getElem?_cons_zero, List.getElem?_cons_succ, List.getElem?_nil, List.set_cons_zero, List.set_cons_succ, Nat.reduceAdd, Nat.reduceSub, ex_uu, ex_bl, ex_tup, ex_lst, ex_int, ex_cons, ex_two, gEq_int, gNe_int, gEq_p2, gNe_p2, gEq_str, ixp0, ixp1, plus_int, star_int, gI_int, gIC_int, ix0, ix1, ix2, ix3, fGcd_int, fIsq_int, fAbs_int, fInt_int, fLen_tup, fLen_lst, fMax2_int, gNeg_int, gFdv, gMod, DL.gSub, gPow, gLt, gLe, gGt, gGe, eq_self, decide_eq_true_eq, Bool.not_eq_true', decide_eq_false_iff_not, true_and, and_true, if_true, if_false, Bool.false_eq_true, Bool.not_true, Bool.not_false]
          by_cases c0 : way = 0
          · rw [if_pos c0]
            exact anyv
          rw [if_neg c0]
          refine fIsi_of (b := true) rfl (by decide +kernel) ⟨_, rfl, ?_⟩
          rw [if_neg (fun z => Bool.noConfusion z)]
          by_cases c1 : way < 4
          · rw [if_pos c1]
            exact ⟨ts, .inl rfl, q _ (big rpi (by omega) (by omega) (by omega)).2⟩
          rw [if_neg c1]
          by_cases c2 : way < 6
          · rw [if_pos c2]
            refine ⟨Nat.zero_le _, three, three, one, six, d, l, _, e, rfl, by show 0 < 6; decide, by show 6 < 1000; decide, fun v hv => ⟨one, (plus_tup _ _ _).mpr ⟨le_line (by show ts.length + 1 ≤ 1000; omega), q _ (big (dep := d' + 2) (n := thT L k d' + 38) (fun x hx => ?_) (by rw [List.length_append]; show ts.length + 1 ≤ _; omega) (Nat.le_refl _) (Nat.le_refl _)).1⟩⟩⟩
            rcases List.mem_append.mp hx with z | z
            · exact (rpi x z).up (by omega) (by omega)
            · rw [List.mem_singleton.mp z]
              have r1 : Av 0 2 (.int 1) := av_int (k := 1) (by decide) (by decide) (by decide)
              have r3 : Av 1 15 (.tup [.int 1, .int 1, .int 1]) := av_tup (L := 3) (us := [.int 1, .int 1, .int 1]) (fun y hy => by
                simp only [List.mem_cons, List.not_mem_nil, or_false] at hy
                rcases hy with rfl | rfl | rfl <;> exact r1) (by show 3 ≤ 3; decide)
              simp only [List.mem_cons, List.not_mem_nil, or_false] at hv
              rcases hv with rfl | rfl | rfl | rfl | rfl | rfl
              · exact (av_tup (L := 0) (dep := 0) (n := 0) (us := []) (fun y hy => nomatch hy) (by decide)).up (by omega) (by omega)
              · exact (av_int (i := 0) (k := 1) (by decide) (by decide) (by decide)).up (by omega) (by omega)
              · exact r3.up (by omega) (by omega)
              · exact (av_tup (L := 1) (us := [.tup [.int 1, .int 1, .int 1]]) (fun y hy => by rw [List.mem_singleton.mp hy]; exact r3) (by show 1 ≤ 1; decide)).up (by omega) (by omega)
              · exact av_non.up (by omega) (by omega)
              · exact (av_bl true).up (by omega) (by omega)
          rw [if_neg c2]
          by_cases c3 : way < 9
          · rw [if_pos c3]
            simp only [dLc, dItT]
            simp (config := { maxSteps := 1000000 }) only [dSeq, dIfS, dTest, dOp, dUn, dVar, dC, dTup, dLst, dNil, dCons, dRet, dRetN, dDrop, dSet, dPar, dAsg, dgTup, dgCons, dgNil, dgName, dCB, dNext, dIf, dAnd, dOr, dNot, dNotV, dAndV, dOrV, dCall, dCallK, dRaise, dAug, dSl, dPart, dNoPart, startU_eq, List.map_cons, List.map_nil, List.cons_append, List.nil_append, List.length_cons, List.length_nil, List.replicate, List.getElem?_cons_zero, List.getElem?_cons_succ, List.getElem?_nil, List.set_cons_zero, List.set_cons_succ, Nat.reduceAdd, Nat.reduceSub, ex_uu, ex_bl, ex_tup, ex_lst, ex_int, ex_cons, ex_two, gEq_int, gNe_int, gEq_p2, gNe_p2, gEq_str, ixp0, ixp1, plus_int, star_int, gI_int, gIC_int, ix0, ix1, ix2, ix3, fGcd_int, fIsq_int, fAbs_int, fInt_int, fLen_tup, fLen_lst, fMax2_int, gNeg_int, gFdv, gMod, DL.gSub, gPow, gLt, gLe, gGt, gGe, eq_self, decide_eq_true_eq, Bool.not_eq_true', decide_eq_false_iff_not, true_and, and_true, if_true, if_false, Bool.false_eq_true, Bool.not_true, Bool.not_false]
            refine ⟨ls2, fun i acc => ∀ v ∈ acc, v = .int 1, (fun v hv => nomatch hv), ?_, ?_⟩
            · rintro B i v acc hi ha
              have hv := List.mem_of_getElem? hi
              refine ⟨_, rfl, ?_⟩
              simp only [dAnd, dTest, dCall, dCons, dVar, dNil, dOp, dCB, dC]
              refine ⟨_, rfl, v, rfl, (hts v hv).raw, _, rfl, ?_⟩
              have snoc : ∀ x ∈ acc ++ [U.int 1], x = U.int 1 := fun x hx => by
                rcases List.mem_append.mp hx with z | z
                · exact ha x z
                · exact List.mem_singleton.mp z
              cases hts v hv with
              | @int _ j hj =>
                rw [if_pos (show isIntU (.int j) = true from rfl)]
                have cp : CPow 10 6 := ⟨by decide, by decide, by decide⟩
                refine ⟨_, rfl, j, rfl, cp, _, _, rfl, rfl, _, rfl, ?_⟩
                split <;> split <;> first | exact snoc | exact ha
              | @tup _ vs _ _ =>
                rw [if_neg (show ¬ isIntU (.tup vs) = true from fun z => Bool.noConfusion z)]
                exact ha
            · rintro acc ha
              refine ⟨Nat.zero_le _, flat_ones ha, rfl, _, rfl, ?_⟩
              split
              · exact ⟨ts, .inl rfl, q _ (big rpi (by omega) (by omega) (by omega)).2⟩
              · exact ⟨_, rfl, ts, rfl, q _ (big (fun v hv => rpi v (List.mem_reverse.mp hv)) (by rw [List.length_reverse]; omega) (by omega) (by omega)).1⟩
          rw [if_neg c3]
          by_cases c4 : way < 11
          · rw [if_pos c4]
            have c1 : (cutU ts none (some 1)).length ≤ 1 ∧ ∀ v ∈ cutU ts none (some 1), v ∈ ts := by
              rcases Nat.eq_zero_or_pos ts.length with z | z
              · have : ts = [] := List.length_eq_zero_iff.mp z
                subst this
                exact ⟨by decide, fun v hv => nomatch hv⟩
              · have e1 : cutU ts none (some 1) = ts.take 1 := cut_to ts 1 z
                rw [e1]
                exact ⟨by rw [List.length_take]; omega, fun v hv => List.mem_of_mem_take hv⟩
            refine .inr ⟨_, rfl, (plus_tup _ _ _).mpr ⟨le_line (by omega), q _ (big (dep := d') (n := thT L k d') (fun v hv => ?_) (by rw [List.length_append]; omega) (by omega) (by omega)).1⟩⟩
            rcases List.mem_append.mp hv with z | z
            · exact rpi v z
            · exact rpi v (c1.2 v z)
          rw [if_neg c4]
          by_cases c5 : way < 13
          · rw [if_pos c5]
            have c1 : (cutU ts (some 1) none).length ≤ ts.length ∧ ∀ v ∈ cutU ts (some 1) none, v ∈ ts := by
              rcases Nat.eq_zero_or_pos ts.length with z | z
              · have : ts = [] := List.length_eq_zero_iff.mp z
                subst this
                exact ⟨by decide, fun v hv => nomatch hv⟩
              · have e1 : cutU ts (some 1) none = ts.drop 1 := cut_from ts 1 z
                rw [e1]
                exact ⟨by rw [List.length_drop]; omega, fun v hv => List.mem_of_mem_drop hv⟩
            exact .inr ⟨_, rfl, q _ (big (dep := d') (n := thT L k d') (fun v hv => rpi v (c1.2 v hv)) (by omega) (by omega) (by omega)).1⟩
          · rw [if_neg c5]
            have rt := hth.rp hk (by omega)
            have e1 : 1 * (thT L k d' + beT L k d' + 40) ≤ (L + 1) * (thT L k d' + beT L k d' + 40) := Nat.mul_le_mul_right _ (by omega)
            refine ⟨one, q _ ((av_tup (L := 1) (us := [.tup ts]) (fun v hv => by rw [List.mem_singleton.mp hv]; exact rt) (by show 1 ≤ 1; decide)).up (by omega) (by omega))⟩
      · intro hf
        simp (config := { maxSteps := 1000000 }) only [dSeq, dIfS, dTest, dOp, dUn, dVar, dC, dTup, dLst, dNil, dCons, dRet, dRetN, dDrop, dSet, dPar, dAsg, dgTup, dgCons, dgNil, dgName, dCB, dNext, dIf, dAnd, dOr, dNot, dNotV, dAndV, dOrV, dCall, dCallK, dRaise, dAug, dSl, dPart, dNoPart, startU_eq, List.map_cons, List.map_nil, List.cons_append, List.nil_append, List.length_cons, List.length_nil, List.replicate, List.getElem?_cons_zero, List.getElem?_cons_succ, List.getElem?_nil, List.set_cons_zero, List.set_cons_succ, Nat.reduceAdd, Nat.reduceSub, ex_uu, ex_bl, ex_tup, ex_lst, ex_int, ex_cons, ex_two, gEq_int, gNe_int, gEq_p2, gNe_p2, gEq_str, ixp0, ixp1, plus_int, star_int, gI_int, gIC_int, ix0, ix1, ix2, ix3, fGcd_int, fIsq_int, fAbs_int, fInt_int, fLen_tup, fLen_lst, fMax2_int, gNeg_int, gFdv, gMod, DL.gSub, gPow, gLt, gLe, gGt, gGe, eq_self, decide_eq_true_eq, Bool.not_eq_true', decide_eq_false_iff_not, true_and, and_true, if_true, if_false, Bool.false_eq_true, Bool.not_true, Bool.not_false]
        obtain ⟨t, ts, n', rfl, rfl⟩ := hf rfl
        rcases hn with z | ⟨n2, en, rfl⟩
        · cases z
        have e2 : n2 = n' := by omega
        subst e2
        have hth := hu0
        cases hu0 with
        | @tup d' _ hl hts =>
          have hT : beT L k (d' + 1) = 3 + (L + 1) * (thT L k d' + beT L k d' + 40) + thT L k (d' + 1) := rfl
          refine (fLen_tup _ _).mpr ⟨d, l, _, e, rfl, by rw [List.length_cons]; omega, by have := List.length_cons (a := t) (as := ts); omega, fun r r0 r1 => ?_⟩
          obtain ⟨j, rfl⟩ : ∃ j : Nat, r = (j : Int) := ⟨r.toNat, by omega⟩
          have lt : j < (t :: ts).length := by omega
          refine (ix_tup_at _ _ _ (t :: ts)[j] (atI_nat (List.getElem?_eq_getElem lt))).mpr ⟨d, l, d', _, e, by rw [show ((n2 + 1 : Nat) : Int) - 1 = (n2 : Int) by omega], hts _ (List.getElem_mem lt), by omega, fun v hv => ⟨_, j, v, rfl, lt, by omega, q _ ?_⟩⟩
          refine (av_tup (dep := d' + 8) (n := thT L k d' + beT L k d') (fun x hx => ?_) (show ((t :: ts).set j v).length ≤ L by rw [List.length_set]; exact hl)).up (by omega) ?_
          · rcases List.mem_or_eq_of_mem_set hx with z | z
            · exact ((hts x z).rp hk (by omega)).up (by omega) (by omega)
            · rw [z]
              exact hv.up (Nat.le_refl _) (by omega)
          · have : L * (thT L k d' + beT L k d' + 2) ≤ (L + 1) * (thT L k d' + beT L k d' + 40) := Nat.mul_le_mul (by omega) (by omega)
            omega
  intro n
  induction n with
  | zero => exact step 0 (fun _ _ _ _ => False) ⟨fun _ _ _ _ z => z.elim, fun _ _ _ _ _ _ _ _ _ _ _ _ _ _ _ _ _ _ _ _ z => z.elim⟩ (.inl rfl)
  | succ n ih => exact step (n + 1) (sp_bent L k n) (ih.mono (by omega)) (.inr ⟨n, rfl, rfl⟩)
end
end T01
set_option Elab.async false
set_option linter.all false
set_option maxRecDepth 100000
set_option maxHeartbeats 8000000
set_option exponentiation.threshold 10000
--@reprX
namespace T01
open PySem PySem.Spec PyProof.Rows L2 XR DL
open PySem.XK (ExF)
/-! ### what is a number, the law's way -/
theorem isNum_n4 (p q s d : Int) : isNum (n4 p q s d) = (numF p q s d && (decide (q = 0) || leanN d)) := by
  unfold isNum togN
  cases hf : numF p q s d with
  | false =>
    rw [tog_bad (show formN (n4 p q s d) = false from hf)]
    rfl
  | true =>
    rw [tog_ok hf]
    by_cases c : q = 0
    · rw [if_pos c, decide_eq_true c]
      show decide ((sqs (((1 : Int).natAbs : Nat) : Int)).1 = 1) = _
      rw [show (sqs (((1 : Int).natAbs : Nat) : Int)).1 = 1 from sqs_one]
      rfl
    · rw [if_neg c, decide_eq_false c, if_neg (fun z => z.1 rfl)]
      have hd := num_d hf
      show decide ((sqs ((d.natAbs : Nat) : Int)).1 = 1) = (true && (false || leanN d))
      rw [Bool.true_and, Bool.false_or, Bool.eq_iff_iff, decide_eq_true_eq, leanN_true, sqs_lean (by omega) (by omega)]
      exact ⟨fun h => ⟨hd.1, h⟩, fun h => h.2⟩
theorem isNum_form {u : U} (h : formN u = false) : isNum u = false := by
  unfold isNum togN
  rw [tog_bad h]
/-- a number whose ints are bounded -/
structure Nx (p q s d : Int) : Prop where
  f : NumF p q s d
  bp : Bd 300 p
  bq : Bd 300 q
  bs : Bd 300 s
  bd : Bd 40 d
  sq : q ≠ 0 → SqF d.natAbs
theorem num_x {u : U} (h : isNum u = true) (b : ibU u = true) : ∃ p q s d : Int, u = n4 p q s d ∧ Nx p q s d := by
  obtain ⟨p, q, s, d, rfl, hf⟩ := isNum_true h
  rw [isNum_n4, Bool.and_eq_true] at h
  have f := numF_iff.mp hf
  obtain ⟨b1, b⟩ := Bool.and_eq_true_iff.mp (show (ibU (.int p) && ibUs [.int q, .int s, .int d]) = true from b)
  obtain ⟨b2, b⟩ := Bool.and_eq_true_iff.mp (show (ibU (.int q) && ibUs [.int s, .int d]) = true from b)
  obtain ⟨b3, b⟩ := Bool.and_eq_true_iff.mp (show (ibU (.int s) && ibUs [.int d]) = true from b)
  refine ⟨p, q, s, d, rfl, f, ib_int b1, ib_int b2, ib_int b3, ?_, fun q0 => ?_⟩
  · have := (num_d hf).2
    exact Nat.lt_of_le_of_lt this (by decide)
  · have h2 := h.2
    rw [decide_eq_false q0, Bool.false_or] at h2
    exact (leanN_true.mp h2).2
theorem Nx.s0 {p q s d : Int} (h : Nx p q s d) : s ≠ 0 := by
  have := h.f.s1
  omega
theorem sqf_nonSq {d : Int} (h0 : d ≠ 0) (h1 : d ≠ 1) (h : SqF d.natAbs) : NonSq d := by
  rcases Int.lt_or_le d 0 with l | l
  · exact nonSq_neg l
  · obtain ⟨n, rfl⟩ : ∃ n : Nat, d = (n : Int) := ⟨d.toNat, by omega⟩
    rw [Int.natAbs_natCast] at h
    refine nonSq_pos fun k e => ?_
    rcases Nat.lt_or_ge k 2 with m | m
    · have : k = 0 ∨ k = 1 := by omega
      rcases this with rfl | rfl
      · omega
      · omega
    · exact h k m ⟨1, by rw [Nat.mul_one, e]⟩
theorem Nx.norm {u v w e : Int} (h : Nx u v w e) (hz : isZ (n4 u v w e) = false) : u * u - v * v * e ≠ 0 := by
  have nz : n4 u v w e ≠ zU := fun z => by
    have e1 : isZ (n4 u v w e) = true := by rw [z]; rfl
    rw [hz] at e1
    cases e1
  by_cases c : v = 0
  · exact norm_ne (D := 1) (.inl rfl) h.f (.inl c) nz
  · have d2 := h.f.d2 c
    exact norm_ne (D := e) (.inr ⟨d2.1, d2.2.1, d2.2.2, sqf_nonSq d2.1 d2.2.1 (h.sq c)⟩) h.f (.inr rfl) nz
theorem Nx.sz {p q s d u v w e : Int} (h : Nx p q s d) (g : Nx u v w e) : Sz p q s d u v w e := ⟨bd_up _ h.bp (by decide), bd_up _ h.bq (by decide), bd_up _ h.bs (by decide), bd_up _ g.bp (by decide), bd_up _ g.bq (by decide), bd_up _ g.bs (by decide), bd_up _ h.bd (by decide), bd_up _ g.bd (by decide), h.s0, g.s0⟩
theorem Nx.neg {p q s d : Int} (h : Nx p q s d) : Nx (-p) (-q) s d := ⟨⟨h.f.s1, by rw [Int.natAbs_neg, Int.natAbs_neg]; exact h.f.one, fun z => h.f.d1 (by omega), fun z => h.f.d2 (by omega)⟩, bd_neg h.bp, bd_neg h.bq, h.bs, h.bd, fun z => h.sq (by omega)⟩
theorem Nx.sq' {p q s d u v w e : Int} (h : Nx p q s d) (g : Nx u v w e) (hz : isZ (n4 u v w e) = false) : Sq p q s d u v w e := ⟨bd_up _ h.bp (by decide), bd_up _ h.bq (by decide), bd_up _ h.bs (by decide), g.bp, g.bq, g.bs, bd_up _ h.bd (by decide), bd_up _ g.bd (by decide), h.s0, g.norm hz⟩
section
variable {P : Program} {w : World} {K : PySem.W.Frag} {mg : Str → Option Value} {base : Heap}
theorem sc__law_is_number : FnScope ["thing", "x", "p", "q", "s", "d"] ["thing"] (defScope s__law_is_number) := ⟨rfl, rfl, rfl, by decide +kernel, rfl, by decide +kernel, by decide +kernel⟩
def sp__law_is_number : SpD := fun m us Q _ => ∃ u, us = [u] ∧ isX u = true ∧ Q (.bl (isNum u))
theorem isXs_mem : ∀ {us : List U}, isXs us = true → ∀ u ∈ us, isX u = true
  | [], _, u, hu => nomatch hu
  | v :: vs, h, u, hu => by
    obtain ⟨h1, h2⟩ := Bool.and_eq_true_iff.mp (show (isX v && isXs vs) = true from h)
    rcases List.mem_cons.mp hu with z | z
    · rw [z]
      exact h1
    · exact isXs_mem h2 u z
theorem ty_noTup {u : U} (h : notRaw u = true) (g : ∀ ts, u ≠ .tup ts) : ∃ t, tyN u = some t ∧ kitB t "tuple" = some false := by
  cases u <;> first
    | exact absurd rfl (g _)
    | exact ⟨_, rfl, by decide +kernel⟩
    | cases h
theorem tup_or (u : U) : (∃ ts, u = .tup ts) ∨ ∀ ts, u ≠ .tup ts := by
  cases u <;> first
    | exact .inl ⟨_, rfl⟩
    | exact .inr (fun ts z => nomatch z)
theorem form_noTup {u : U} (g : ∀ ts, u ≠ .tup ts) : formN u = false := by
  unfold formN
  split
  · exact absurd rfl (g _)
  · rfl
theorem ok__law_is_number {a a1 a2 a3 : Addr} {fd fd1 fd2 fd3 : FuncData} (D : DL.Def K mg "_law_is_number" s__law_is_number a fd) (D__law_is_integer : DL.Def K mg "_law_is_integer" s__law_is_integer a1 fd1) (G__law_is_integer : Fd P w K mg base 1 a1 fd1 ["thing"] sp_is_integer) (D__law_common : DL.Def K mg "_law_common" s__law_common a2 fd2) (G__law_common : Fd P w K mg base 1 a2 fd2 ["one", "other"] sp__law_common)
    (D__law_is_lean : DL.Def K mg "_law_is_lean" s__law_is_lean a3 fd3) (G__law_is_lean : Fd P w K mg base 1 a3 fd3 ["number"] sp_is_lean) (glen : mg "len" = none) (gisi : mg "isinstance" = none) (gtup : mg "tuple" = none) (gabs : mg "abs" = none) : Fd P w K mg base 2 a fd ["thing"] sp__law_is_number := by
  have b__law_is_integer : Binds K fd1 ["thing"] [] := D__law_is_integer.F.binds fun _ _ _ _ _ _ us hl => match us, hl with | [_], _ => rfl
  have b__law_common : Binds K fd2 ["one", "other"] [] := D__law_common.F.binds fun _ _ _ _ _ _ us hl => match us, hl with | [_, _], _ => rfl
  have b__law_is_lean : Binds K fd3 ["number"] [] := D__law_is_lean.F.binds fun _ _ _ _ _ _ us hl => match us, hl with | [_], _ => rfl
  refine fd_of D.F sc__law_is_number (fun m us Q Z h => ?_) (fun cdv A outer s H E m us Qd Zd hr hG tk h => ?_)
  · obtain ⟨u, rfl, _⟩ := h
    rfl
  · obtain ⟨u, rfl, hx, k⟩ := h
    have hu := hr.units
    refine ⟨_, (dss_cons (ds_if (L2.PW.pt (dw_or (dt_not (dt_val (de_callB cal_isi (pe_callB call_isi (by rfl) gisi (by decide +kernel) (da_cons (de_var (pv 0)) (da_cons (de_ty (n := "tuple") (by rfl) gtup (by decide +kernel)) da_nil)))))) (dw_or (dt_ne hu (de_callB cal_len (pe_callB call_len_seq (by rfl) glen PySem.boot_len (da_cons (de_var (pv 0)) da_nil))) de_int) (dw_or1 (dt_ne hu (PE.weak (pe_lc (own := [("x", 1)]) (g := (gName 1)) rfl sc__law_is_number.nd (di_tup (de_var (pv 0))) (blkOk_by (own := [("x", 1)]) (N := ["thing", "x", "p", "q", "s", "d"]) (sc := defScope s__law_is_number) (by decide +kernel)) (fun _ _ _ _ _ => pg_name (i := 1) sc__law_is_number.nd rfl (.inl rfl)) (fun _ _ _ _ _ => pts_one (dt_not (dt_val (de_call G__law_is_integer (hr.mono (by decide)) hG noW_takes (by rfl) D__law_is_integer.g D__law_is_integer.F.kp b__law_is_integer (da_cons (de_var (pv 1)) da_nil))))) (fun _ _ _ _ _ => de_int)) (t_lc (tg_name 1))) (de_lst da_nil)))))) (dss_one (ds_ret de_bl)) dss_nil)
    (dss_cons (ds_asg (de_var (pv 0)) (dg_tup (n := 4) rfl (dgs_cons (dg_name (pg_name (i := 2) sc__law_is_number.nd rfl (.inl rfl))) (dgs_cons (dg_name (pg_name (i := 3) sc__law_is_number.nd rfl (.inl rfl))) (dgs_cons (dg_name (pg_name (i := 4) sc__law_is_number.nd rfl (.inl rfl))) (dgs_cons (dg_name (pg_name (i := 5) sc__law_is_number.nd rfl (.inl rfl))) dgs_nil))))))
    (dss_cons (ds_if (L2.PW.pt (dw_or (dt_lt (de_var (pv 4)) de_int) (dw_or1 (dt_ne hu (de_call G__law_common (hr.mono (by decide)) hG tk (by rfl) D__law_common.g D__law_common.F.kp b__law_common (da_cons (de_call G__law_common (hr.mono (by decide)) hG tk (by rfl) D__law_common.g D__law_common.F.kp b__law_common (da_cons (de_var (pv 2)) (da_cons (de_var (pv 3)) da_nil))) (da_cons (de_var (pv 4)) da_nil))) de_int)))) (dss_one (ds_ret de_bl)) dss_nil)
    (dss_one (ds_ret (de_if (dt_eq hu (de_var (pv 3)) de_int) (de_eq hu (de_var (pv 5)) de_int) (de_and (de_ne hu (de_var (pv 5)) de_int) (de_and (de_le (de_callB cal_abs (pe_callB call_abs (by rfl) gabs PyProof.Rows.boot_abs (da_cons (de_var (pv 5)) da_nil))) (de_pow de_int de_int)) (de_bool1 (de_call G__law_is_lean (hr.mono (by decide)) hG tk (by rfl) D__law_is_lean.g D__law_is_lean.F.kp b__law_is_lean (da_cons (de_var (pv 5)) da_nil))))))))))), ?_⟩
    refine dIfS_gen (fun c => (c = true → formN u = false) ∧ (c = false → ∃ p q s d : Int, u = n4 p q s d)) ?_ ?_ ?_
    · intro Q hQ
      simp (config := { maxSteps := 1000000 }) only [dSeq, dIfS, dTest, dOp, dUn, dVar, dC, dTup, dLst, dNil, dCons, dRet, dRetN, dDrop, dSet, dPar, dAsg, dgTup, dgCons, dgNil, dgName, dCB, dNext, dIf, dAnd, dOr, dNot, dNotV, dAndV, dOrV, dCall, dCallK, dRaise, dAug, dSl, dPart, dNoPart, startU_eq, List.map_cons, List.map_nil, List.cons_append, List.nil_append, List.length_cons, List.length_nil, List.replicate, List.getElem?_cons_zero, List.getElem?_cons_succ, List.getElem?_nil, List.set_cons_zero, List.set_cons_succ, Nat.reduceAdd, Nat.reduceSub, ex_uu, ex_bl, ex_tup, ex_lst, ex_int, ex_cons, ex_two, gEq_int, gNe_int, gEq_p2, gNe_p2, gEq_str, ixp0, ixp1, plus_int, star_int, gI_int, gIC_int, ix0, ix1, ix2, ix3, fGcd_int, fIsq_int, fAbs_int, fInt_int, fLen_tup, fLen_lst, fMax2_int, gNeg_int, gFdv, gMod, DL.gSub, gPow, gLt, gLe, gGt, gGe, eq_self, decide_eq_true_eq, Bool.not_eq_true', decide_eq_false_iff_not, true_and, and_true, if_true, if_false, Bool.false_eq_true, Bool.not_true, Bool.not_false]
      rcases tup_or u with ⟨ts, rfl⟩ | hno
      · refine fIsi_of (b := true) rfl (by decide +kernel) ⟨_, rfl, ?_⟩
        rw [if_neg (fun z => Bool.noConfusion z)]
        simp (config := { maxSteps := 1000000 }) only [dSeq, dIfS, dTest, dOp, dUn, dVar, dC, dTup, dLst, dNil, dCons, dRet, dRetN, dDrop, dSet, dPar, dAsg, dgTup, dgCons, dgNil, dgName, dCB, dNext, dIf, dAnd, dOr, dNot, dNotV, dAndV, dOrV, dCall, dCallK, dRaise, dAug, dSl, dPart, dNoPart, startU_eq, List.map_cons, List.map_nil, List.cons_append, List.nil_append, List.length_cons, List.length_nil, List.replicate, List.getElem?_cons_zero, List.getElem?_cons_succ, List.getElem?_nil, List.set_cons_zero, List.set_cons_succ, Nat.reduceAdd, Nat.reduceSub, ex_uu, ex_bl, ex_tup, ex_lst, ex_int, ex_cons, ex_two, gEq_int, gNe_int, gEq_p2, gNe_p2, gEq_str, ixp0, ixp1, plus_int, star_int, gI_int, gIC_int, ix0, ix1, ix2, ix3, fGcd_int, fIsq_int, fAbs_int, fInt_int, fLen_tup, fLen_lst, fMax2_int, gNeg_int, gFdv, gMod, DL.gSub, gPow, gLt, gLe, gGt, gGe, eq_self, decide_eq_true_eq, Bool.not_eq_true', decide_eq_false_iff_not, true_and, and_true, if_true, if_false, Bool.false_eq_true, Bool.not_true, Bool.not_false]
        by_cases h4 : ts.length = 4
        · have e4 : ((ts.length : Nat) : Int) = 4 := by omega
          rw [if_neg (by rw [e4]; simp)]
          simp only [dLc, dItT]
          simp (config := { maxSteps := 1000000 }) only [dSeq, dIfS, dTest, dOp, dUn, dVar, dC, dTup, dLst, dNil, dCons, dRet, dRetN, dDrop, dSet, dPar, dAsg, dgTup, dgCons, dgNil, dgName, dCB, dNext, dIf, dAnd, dOr, dNot, dNotV, dAndV, dOrV, dCall, dCallK, dRaise, dAug, dSl, dPart, dNoPart, startU_eq, List.map_cons, List.map_nil, List.cons_append, List.nil_append, List.length_cons, List.length_nil, List.replicate, List.getElem?_cons_zero, List.getElem?_cons_succ, List.getElem?_nil, List.set_cons_zero, List.set_cons_succ, Nat.reduceAdd, Nat.reduceSub, ex_uu, ex_bl, ex_tup, ex_lst, ex_int, ex_cons, ex_two, gEq_int, gNe_int, gEq_p2, gNe_p2, gEq_str, ixp0, ixp1, plus_int, star_int, gI_int, gIC_int, ix0, ix1, ix2, ix3, fGcd_int, fIsq_int, fAbs_int, fInt_int, fLen_tup, fLen_lst, fMax2_int, gNeg_int, gFdv, gMod, DL.gSub, gPow, gLt, gLe, gGt, gGe, eq_self, decide_eq_true_eq, Bool.not_eq_true', decide_eq_false_iff_not, true_and, and_true, if_true, if_false, Bool.false_eq_true, Bool.not_true, Bool.not_false]
          have hm := isXs_mem (show isXs ts = true from hx)
          refine ⟨le_line (by omega), fun i acc => (∀ v ∈ acc, v = .int 1) ∧ (acc = [] ↔ (ts.take i).all isIntU = true), ⟨(fun v hv => nomatch hv), by rw [List.take_zero]; simp⟩, ?_, ?_⟩
          · rintro B i v acc hi ⟨ha, hb⟩
            have hv := List.mem_of_getElem? hi
            refine ⟨_, rfl, ?_⟩
            simp only [dNot, dTest, dCall, dCons, dVar, dNil, dC]
            refine ⟨_, rfl, v, rfl, isX_raw (hm v hv), _, rfl, ?_⟩
            have et : (ts.take (i + 1)).all isIntU = ((ts.take i).all isIntU && isIntU v) := by
              rw [take_succ' hi, List.all_append, List.all_cons, List.all_nil, Bool.and_true]
            cases hiv : isIntU v with
            | true =>
              rw [if_neg (fun z => Bool.noConfusion z)]
              refine ⟨ha, ?_⟩
              rw [et, hiv, Bool.and_true]
              exact hb
            | false =>
              rw [if_pos rfl]
              refine ⟨fun x hx => ?_, ?_⟩
              · rcases List.mem_append.mp hx with z | z
                · exact ha x z
                · exact List.mem_singleton.mp z
              · rw [et, hiv, Bool.and_false]
                simp
          · rintro acc ⟨ha, hb⟩
            rw [List.take_length] at hb
            refine ⟨Nat.zero_le _, flat_ones ha, rfl, _, rfl, ?_⟩
            rw [ueq_lnil]
            cases acc with
            | nil =>
              refine hQ _ ⟨fun z => (by cases z), fun _ => ?_⟩
              obtain ⟨p, q, s, d, rfl⟩ := ints4 h4 (hb.mp rfl)
              exact ⟨p, q, s, d, rfl⟩
            | cons x acc =>
              refine hQ _ ⟨fun _ => ?_, fun z => (by cases z)⟩
              refine form_int ?_
              cases e : ts.all isIntU with
              | false => rfl
              | true => exact absurd (hb.mpr e) (by simp)
        · have e4 : ¬ ((ts.length : Nat) : Int) = 4 := by omega
          rw [if_pos e4]
          exact hQ _ ⟨fun _ => form_len h4, fun z => (by cases z)⟩
      · obtain ⟨t, h1, h2⟩ := ty_noTup (isX_raw hx) hno
        refine fIsi_of h1 h2 ⟨_, rfl, ?_⟩
        rw [if_pos rfl]
        exact hQ _ ⟨fun _ => form_noTup hno, fun z => (by cases z)⟩
    · rintro ⟨h, _⟩
      simp (config := { maxSteps := 1000000 }) only [dSeq, dIfS, dTest, dOp, dUn, dVar, dC, dTup, dLst, dNil, dCons, dRet, dRetN, dDrop, dSet, dPar, dAsg, dgTup, dgCons, dgNil, dgName, dCB, dNext, dIf, dAnd, dOr, dNot, dNotV, dAndV, dOrV, dCall, dCallK, dRaise, dAug, dSl, dPart, dNoPart, startU_eq, List.map_cons, List.map_nil, List.cons_append, List.nil_append, List.length_cons, List.length_nil, List.replicate, List.getElem?_cons_zero, List.getElem?_cons_succ, List.getElem?_nil, List.set_cons_zero, List.set_cons_succ, Nat.reduceAdd, Nat.reduceSub, ex_uu, ex_bl, ex_tup, ex_lst, ex_int, ex_cons, ex_two, gEq_int, gNe_int, gEq_p2, gNe_p2, gEq_str, ixp0, ixp1, plus_int, star_int, gI_int, gIC_int, ix0, ix1, ix2, ix3, fGcd_int, fIsq_int, fAbs_int, fInt_int, fLen_tup, fLen_lst, fMax2_int, gNeg_int, gFdv, gMod, DL.gSub, gPow, gLt, gLe, gGt, gGe, eq_self, decide_eq_true_eq, Bool.not_eq_true', decide_eq_false_iff_not, true_and, and_true, if_true, if_false, Bool.false_eq_true, Bool.not_true, Bool.not_false]
      rw [isNum_form (h rfl)] at k
      exact k
    · rintro ⟨_, h⟩
      obtain ⟨p, q, s, d, rfl⟩ := h rfl
      rw [isNum_n4] at k
      simp (config := { maxSteps := 1000000 }) only [dSeq, dIfS, dTest, dOp, dUn, dVar, dC, dTup, dLst, dNil, dCons, dRet, dRetN, dDrop, dSet, dPar, dAsg, dgTup, dgCons, dgNil, dgName, dCB, dNext, dIf, dAnd, dOr, dNot, dNotV, dAndV, dOrV, dCall, dCallK, dRaise, dAug, dSl, dPart, dNoPart, startU_eq, List.map_cons, List.map_nil, List.cons_append, List.nil_append, List.length_cons, List.length_nil, List.replicate, List.getElem?_cons_zero, List.getElem?_cons_succ, List.getElem?_nil, List.set_cons_zero, List.set_cons_succ, Nat.reduceAdd, Nat.reduceSub, ex_uu, ex_bl, ex_tup, ex_lst, ex_int, ex_cons, ex_two, gEq_int, gNe_int, gEq_p2, gNe_p2, gEq_str, ixp0, ixp1, plus_int, star_int, gI_int, gIC_int, ix0, ix1, ix2, ix3, fGcd_int, fIsq_int, fAbs_int, fInt_int, fLen_tup, fLen_lst, fMax2_int, gNeg_int, gFdv, gMod, DL.gSub, gPow, gLt, gLe, gGt, gGe, eq_self, decide_eq_true_eq, Bool.not_eq_true', decide_eq_false_iff_not, true_and, and_true, if_true, if_false, Bool.false_eq_true, Bool.not_true, Bool.not_false]
      unfold numF at k
      by_cases c1 : s < 1
      · rw [if_pos c1]
        simp only [show ¬ 1 ≤ s by omega, decide_false, Bool.false_and] at k
        exact k
      rw [if_neg c1]
      simp only [show 1 ≤ s by omega, decide_true, Bool.true_and] at k
      refine ⟨p, q, rfl, _, s, rfl, (gNe_int _ _ _).mpr ⟨_, rfl, ?_⟩⟩
      have eg : (((Nat.gcd ((Nat.gcd p.natAbs q.natAbs : Nat) : Int).natAbs s.natAbs : Nat) : Int)) = ((Int.gcd ((Int.gcd p q : Nat) : Int) s : Nat) : Int) := rfl
      rw [eg] at k
      by_cases c2 : ((Int.gcd ((Int.gcd p q : Nat) : Int) s : Nat) : Int) = 1
      · rw [decide_eq_true c2] at k
        rw [decide_eq_true c2, Bool.not_true, if_neg (fun z => Bool.noConfusion z)]
        rw [Bool.true_and] at k
        by_cases c3 : q = 0
        · rw [if_pos c3] at k ⊢
          rw [decide_eq_true c3, Bool.true_or, Bool.and_true] at k
          exact k
        rw [if_neg c3] at k ⊢
        rw [decide_eq_false c3, Bool.false_or] at k
        by_cases c4 : d = 1
        · rw [if_neg (not_not_intro c4)]
          simp only [c4, decide_true, Bool.not_true, Bool.false_and, Bool.and_false] at k
          exact k
        rw [if_pos c4]
        have cp : CPow 10 12 := ⟨by decide, by decide, by decide⟩
        refine ⟨cp, ?_⟩
        have e12 : (10 : Int) ^ Int.toNat 12 = 1000000000000 := by decide
        rw [e12]
        simp only [c4, decide_false, Bool.not_false, Bool.true_and] at k
        by_cases c5 : (if d < 0 then -d else d) ≤ 1000000000000
        · rw [if_pos c5]
          rw [decide_eq_true c5, Bool.and_true] at k
          refine ⟨d, rfl, by rw [abs_nat] at c5; omega, ?_⟩
          by_cases c6 : d = 0
          · have e : leanN d = false := by
              cases e : leanN d with
              | false => rfl
              | true => exact absurd c6 (leanN_true.mp e).1
            rw [e, Bool.and_false] at k
            rw [e]
            exact k
          · rw [decide_eq_false c6, Bool.not_false, Bool.true_and] at k
            exact k
        · rw [if_neg c5]
          rw [decide_eq_false c5, Bool.and_false, Bool.false_and] at k
          exact k
      · rw [decide_eq_false c2] at k
        rw [decide_eq_false c2, Bool.not_false, if_pos rfl]
        rw [Bool.false_and, Bool.false_and] at k
        exact k
def sp__law_together : SpD := fun m us Q _ => ∃ p q s d u v w e : Int, us = [n4 p q s d, n4 u v w e] ∧ Q (.bl (goU (n4 p q s d) (n4 u v w e)))
end
end T01
set_option Elab.async false
set_option linter.all false
set_option maxRecDepth 100000
set_option maxHeartbeats 8000000
set_option exponentiation.threshold 10000
--@reprX
namespace T01
open PySem PySem.Spec PyProof.Rows L2 XR DL
open PySem.XK (ExF)
/-! ### what is due -/
def flags3 : U := .lst [.bl true, .bl false, .bl false]
def badU (u : U) : U := .tup [.str "bad", u, flags3]
def othU (u : U) : U := .tup [.str "other", u, flags3]
def toldU (u : U) : U := .tup [.str "told", u]
def resU (way : Int) (u v : U) : U := if way < 2 then sumU u v else if way < 4 then sumU u (negU v) else if way < 6 then mulU u v else overU u v
def askU (way : Int) (u v : U) : U :=
  if isNum u = false then badU u
  else if isNum v = false ∨ (5 < way ∧ isZ v = true) then badU v
  else if goU u v = false then othU v
  else toldU (resU way u v)
theorem isZ_go {u v : U} (h : isNum u = true) (hz : isZ v = true) (hv : isNum v = true) : goU u v = true := by
  obtain ⟨p, q, s, d, rfl, _⟩ := isNum_true h
  obtain ⟨p', q', s', d', rfl, _⟩ := isNum_true hv
  rw [isZ_n4] at hz
  simp only [Bool.and_eq_true, decide_eq_true_eq] at hz
  show goN q d q' d' = true
  unfold goN
  rw [decide_eq_true hz.2.1]
  simp
section
variable {P0 CB CO : Addr} {m : Mo} {u v : U} {Q : U → Prop} {Z : XQ}
theorem pair_x (hu : isX u = true) (hv : isX v = true) (hP : P0 ∈ m.tabs) {q : Prop} (h1 : isNum u = false → Z CB u) (h2 : isNum u = true → isNum v = false → Z CB v) (h3 : isNum u = true → isNum v = true → goU u v = false → Z CO v) (h4 : isNum u = true → isNum v = true → goU u v = true → q) : pairOk CB CO u v q Z := ⟨h1, h2, h3, h4⟩
end
theorem rp_n4 {p q s d : Int} {k : Nat} (h1 : Bd k p) (h2 : Bd k q) (h3 : Bd k s) (h4 : Bd k d) (hk : 0 < k) (hk2 : k ≤ 1900) : RpX 1 (3 + 4 * (k + 3)) (n4 p q s d) := by
  have i : ∀ x : Int, Bd k x → RpX 0 (k + 1) (.int x) := fun x hx => rpx_int hx hk (by omega)
  refine rpx_tup (L := 4) (dep := 0) (n := k + 1) (fun x hx => ?_) (by show 4 ≤ 4; decide)
  simp only [List.mem_cons, List.not_mem_nil, or_false] at hx
  rcases hx with rfl | rfl | rfl | rfl
  · exact i _ h1
  · exact i _ h2
  · exact i _ h3
  · exact i _ h4
theorem rp_low {p q s d : Int} {k : Nat} (s0 : s ≠ 0) (hp : Bd k p) (hq : Bd k q) (hs : Bd k s) (hd : Bd k d) (hk : 1 ≤ k) (hk2 : k ≤ 1800) : RpX 1 10000 (lowN p q s d) := by
  have h := low4_bd s0 hp hq hs hd hk
  rw [lowN_eq]
  exact (rp_n4 h.1 h.2.1 h.2.2.1 h.2.2.2.1 (by omega) (by omega)).up (Nat.le_refl _) (by omega)
theorem root_bd' {q d e : Int} {k : Nat} (h : Bd k d) (g : Bd k e) : Bd k (rootN q d e) := by
  unfold rootN
  split
  · exact g
  · exact h
theorem rp_sum {p q s d u v w e : Int} (h : Nx p q s d) (g : Nx u v w e) : RpX 1 10000 (sumU (n4 p q s d) (n4 u v w e)) := by
  refine rp_low (k := 700) (Int.mul_ne_zero h.s0 g.s0) ?_ ?_ ?_ ?_ (by decide) (by decide)
  · exact bd_up _ (bd_add 600 (bd_mul 300 300 h.bp g.bs) (bd_mul 300 300 g.bp h.bs)) (by decide)
  · exact bd_up _ (bd_add 600 (bd_mul 300 300 h.bq g.bs) (bd_mul 300 300 g.bq h.bs)) (by decide)
  · exact bd_up _ (bd_mul 300 300 h.bs g.bs) (by decide)
  · exact bd_up _ (root_bd' h.bd g.bd) (by decide)
theorem rp_mul {p q s d u v w e : Int} (h : Nx p q s d) (g : Nx u v w e) : RpX 1 10000 (mulU (n4 p q s d) (n4 u v w e)) := by
  refine rp_low (k := 700) (Int.mul_ne_zero h.s0 g.s0) ?_ ?_ ?_ ?_ (by decide) (by decide)
  · exact bd_up _ (bd_add 640 (bd_up _ (bd_mul 300 300 h.bp g.bp) (by decide)) (bd_mul 600 40 (bd_mul 300 300 h.bq g.bq) (root_bd' h.bd g.bd))) (by decide)
  · exact bd_up _ (bd_add 600 (bd_mul 300 300 h.bp g.bq) (bd_mul 300 300 h.bq g.bp)) (by decide)
  · exact bd_up _ (bd_mul 300 300 h.bs g.bs) (by decide)
  · exact bd_up _ (root_bd' h.bd g.bd) (by decide)
theorem inv_parts {u v w e : Int} (g : Nx u v w e) (hz : isZ (n4 u v w e) = false) : ∃ a b c f : Int, lowN (w * u) (-w * v) (u * u - v * v * e) e = n4 a b c f ∧ Bd 650 a ∧ Bd 650 b ∧ Bd 650 c ∧ Bd 650 f ∧ c ≠ 0 := by
  have b1 : Bd 649 (w * u) := bd_up _ (bd_mul 300 300 g.bs g.bp) (by decide)
  have b2 : Bd 649 (-w * v) := bd_up _ (bd_mul 300 300 (bd_neg g.bs) g.bq) (by decide)
  have b3 : Bd 649 (u * u - v * v * e) := bd_up _ (bd_sub 640 (bd_up _ (bd_mul 300 300 g.bp g.bp) (by decide)) (bd_mul 600 40 (bd_mul 300 300 g.bq g.bq) g.bd)) (by decide)
  have h := low4_bd (g.norm hz) b1 b2 b3 (bd_up _ g.bd (by decide)) (by decide)
  exact ⟨_, _, _, _, lowN_eq _ _ _ _, h.1, h.2.1, h.2.2.1, h.2.2.2.1, by have := h.2.2.2.2; omega⟩
theorem over_parts {p q s d u v w e a b c f : Int} (em : lowN (w * u) (-w * v) (u * u - v * v * e) e = n4 a b c f) : overU (n4 p q s d) (n4 u v w e) = mulN p q s d a b c f := by
  rw [over_mul, em]
  rfl
theorem rp_over {p q s d u v w e : Int} (h : Nx p q s d) (g : Nx u v w e) (hz : isZ (n4 u v w e) = false) : RpX 1 10000 (overU (n4 p q s d) (n4 u v w e)) := by
  obtain ⟨a, b, c, f, em, h1, h2, h3, h4, c0⟩ := inv_parts g hz
  rw [over_parts em]
  refine rp_low (k := 1650) (Int.mul_ne_zero h.s0 c0) ?_ ?_ ?_ ?_ (by decide) (by decide)
  · exact bd_up _ (bd_add 1600 (bd_up _ (bd_mul 300 650 h.bp h1) (by decide)) (bd_mul 950 650 (bd_mul 300 650 h.bq h2) (root_bd' (bd_up _ h.bd (by decide)) h4))) (by decide)
  · exact bd_up _ (bd_add 950 (bd_mul 300 650 h.bp h2) (bd_mul 300 650 h.bq h1)) (by decide)
  · exact bd_up _ (bd_mul 300 650 h.bs h3) (by decide)
  · exact bd_up _ (root_bd' (bd_up _ h.bd (by decide)) h4) (by decide)
/-- what is due can be told -/
theorem rp_ask {way : Int} {u v : U} {dep n : Nat} (hu : Av dep n u) (hv : Av dep n v) (hd : dep ≤ 30) (hn : n ≤ 2000000) (w1 : 1 ≤ dep) (w2 : 10000 ≤ n) : rpOkX (askU way u v) := by
  have rs : ∀ s : String, (Str.ofString s).length ≤ 8 → RpX dep n (.str (Str.ofString s)) := fun s hs => (rpx_str s hs).up (Nat.zero_le _) (by omega)
  have rf : RpX dep n flags3 := (rpx_lst (L := 3) (dep := 0) (n := 5) (us := [.bl true, .bl false, .bl false]) (fun x hx => by
    simp only [List.mem_cons, List.not_mem_nil, or_false] at hx
    rcases hx with rfl | rfl | rfl <;> exact rpx_bl _) (by show 3 ≤ 3; decide)).up (by omega) (by omega)
  have hs : sizeLine = 16777216 := sizeLine_eq
  have three : ∀ (s : String) (x : U), (Str.ofString s).length ≤ 8 → RpX dep n x → rpOkX (.tup [.str (Str.ofString s), x, flags3]) := fun s x hs hx => RpX.ok (rpx_tup (L := 3) (dep := dep) (n := n) (fun y hy => by
    simp only [List.mem_cons, List.not_mem_nil, or_false] at hy
    rcases hy with rfl | rfl | rfl
    · exact rs s hs
    · exact hx
    · exact rf) (by show 3 ≤ 3; decide)) (by omega) (by omega)
  have two : ∀ x : U, RpX dep n x → rpOkX (.tup [.str "told", x]) := fun x hx => RpX.ok (rpx_tup (L := 2) (dep := dep) (n := n) (fun y hy => by
    simp only [List.mem_cons, List.not_mem_nil, or_false] at hy
    rcases hy with rfl | rfl
    · exact rs "told" (by decide)
    · exact hx) (by show 2 ≤ 2; decide)) (by omega) (by omega)
  unfold askU
  split
  · exact three "bad" u (by decide) hu.r
  rename_i c1
  split
  · exact three "bad" v (by decide) hv.r
  rename_i c2
  split
  · exact three "other" v (by decide) hv.r
  have nu : isNum u = true := by
    cases e : isNum u with
    | true => rfl
    | false => exact absurd e c1
  have nv : isNum v = true := by
    cases e : isNum v with
    | true => rfl
    | false => exact absurd (.inl e) c2
  obtain ⟨p, q, s, d, rfl, x1⟩ := num_x nu hu.i
  obtain ⟨p', q', s', d', rfl, x2⟩ := num_x nv hv.i
  refine two _ ?_
  unfold resU
  split
  · exact (rp_sum x1 x2).up w1 w2
  split
  · exact (rp_sum x1 x2.neg).up w1 w2
  split
  · exact (rp_mul x1 x2).up w1 w2
  · refine (rp_over x1 x2 ?_).up w1 w2
    cases e : isZ (n4 p' q' s' d') with
    | false => rfl
    | true => exact absurd (.inr ⟨by omega, e⟩) c2
end T01
set_option Elab.async false
set_option linter.all false
set_option maxRecDepth 100000
set_option maxHeartbeats 8000000
set_option exponentiation.threshold 10000
--@reprX
namespace T01
open PySem PySem.Spec PyProof.Rows L2 XR DL
open PySem.XK (ExF)
/-! ### the square part of an integer -/
theorem sq_unique {f m w l : Nat} (h : f * f * m = w * w * l) (hm : SqF m) (hl : SqF l) (h0 : 0 < f) : f = w ∧ m = l := by
  have g0 : 0 < Nat.gcd f w := Nat.gcd_pos_of_pos_left _ h0
  obtain ⟨a, ha⟩ := Nat.gcd_dvd_left f w
  obtain ⟨b, hb⟩ := Nat.gcd_dvd_right f w
  have co : Nat.Coprime a b := by
    have h1 : Nat.gcd f w * Nat.gcd a b = Nat.gcd f w := by
      have : Nat.gcd (Nat.gcd f w * a) (Nat.gcd f w * b) = Nat.gcd f w * Nat.gcd a b := Nat.gcd_mul_left ..
      rw [← this, ← ha, ← hb]
    exact Nat.eq_of_mul_eq_mul_left g0 (by rw [h1, Nat.mul_one])
  generalize Nat.gcd f w = g at *
  subst ha hb
  have e : a * a * m = b * b * l := by
    have e1 : g * g * (a * a * m) = g * g * (b * b * l) := by
      rw [show g * g * (a * a * m) = g * a * (g * a) * m by grind, h]
      grind
    exact Nat.eq_of_mul_eq_mul_left (Nat.mul_pos g0 g0) e1
  have a0 : a ≠ 0 := fun z => by
    rw [z, Nat.mul_zero] at h0
    omega
  have sq : ∀ {x y u v : Nat}, Nat.Coprime x y → x * x * u = y * y * v → SqF v → x ≠ 0 → x = 1 := fun {x y u v} c h hv x0 => by
    have d : x * x ∣ y * y * v := ⟨u, h.symm⟩
    have c2 : Nat.Coprime (x * x) (y * y) := Nat.Coprime.mul_left (Nat.Coprime.mul_right c c) (Nat.Coprime.mul_right c c)
    have d2 : x * x ∣ v := c2.dvd_of_dvd_mul_left d
    rcases Nat.lt_or_ge x 2 with l | l
    · omega
    · exact absurd d2 (hv x l)
  have ea := sq co e hl a0
  have b0 : b ≠ 0 := fun z => by
    subst z
    rw [Nat.coprime_zero_right] at co
    subst co
    have hm0 : m = 0 := by simpa using e
    exact hm 2 (by decide) ⟨0, hm0⟩
  have eb := sq co.symm e.symm hm b0
  subst ea eb
  exact ⟨rfl, by simpa using e⟩
section
variable {P : Program} {w : World} {K : PySem.W.Frag} {mg : Str → Option Value} {base : Heap}
theorem sc__law_near : FnScope ["deck", "far"] ["deck", "far"] (defScope s__law_near) := ⟨rfl, rfl, rfl, by decide +kernel, rfl, by decide +kernel, by decide +kernel⟩
def sp_near : SpD := fun m us Q _ => ∃ (d l : Addr) (f : Int), m.deck = some (d, l) ∧ us = [.raw (.ref d), .int f] ∧ 0 ≤ f ∧ f ≤ 100000000 ∧ ∀ x : Int, x.natAbs ≤ f.natAbs → Q (.int x)
theorem ok__law_near {a a1 : Addr} {fd fd1 : FuncData} (D : DL.Def K mg "_law_near" s__law_near a fd) (D__law_draw : DL.Def K mg "_law_draw" sDraw a1 fd1) (G__law_draw : Fd P w K mg base 1 a1 fd1 ["deck", "many"] sp_draw) : Fd P w K mg base 2 a fd ["deck", "far"] sp_near := by
  have b__law_draw : Binds K fd1 ["deck", "many"] [] := D__law_draw.F.binds fun _ _ _ _ _ _ us hl => match us, hl with | [_, _], _ => rfl
  refine fd_of D.F sc__law_near (fun m us Q Z h => ?_) (fun cdv A outer s H E m us Qd Zd hr hG tk h => ?_)
  · obtain ⟨_, _, _, _, rfl, _⟩ := h
    rfl
  · obtain ⟨d, l, f, e, rfl, f0, f1, k⟩ := h
    have hu := hr.units
    refine ⟨_, (dss_one (ds_ret (de_sub (de_call G__law_draw (hr.mono (by decide)) hG tk (by rfl) D__law_draw.g D__law_draw.F.kp b__law_draw (da_cons (de_var (pv 0)) (da_cons (de_plus (de_star de_int (de_var (pv 1))) de_int) da_nil))) (de_var (pv 1))))), ?_⟩
    simp (config := { maxSteps := 1000000 }) only [dSeq, dIfS, dTest, dOp, dUn, dVar, dC, dTup, dLst, dNil, dCons, dRet, dRetN, dDrop, dSet, dPar, dAsg, dgTup, dgCons, dgNil, dgName, dCB, dNext, dIf, dAnd, dOr, dNot, dNotV, dAndV, dOrV, dCall, dCallK, dRaise, dAug, dSl, dPart, dNoPart, startU_eq, List.map_cons, List.map_nil, List.cons_append, List.nil_append, List.length_cons, List.length_nil, List.replicate, List.getElem?_cons_zero, List.getElem?_cons_succ, List.getElem?_nil, List.set_cons_zero, List.set_cons_succ, Nat.reduceAdd, Nat.reduceSub, ex_uu, ex_bl, ex_tup, ex_lst, ex_int, ex_cons, ex_two, gEq_int, gNe_int, gEq_p2, gNe_p2, gEq_str, ixp0, ixp1, plus_int, star_int, gI_int, gIC_int, ix0, ix1, ix2, ix3, fGcd_int, fIsq_int, fAbs_int, fInt_int, fLen_tup, fLen_lst, fMax2_int, gNeg_int, gFdv, gMod, DL.gSub, gPow, gLt, gLe, gGt, gGe, eq_self, decide_eq_true_eq, Bool.not_eq_true', decide_eq_false_iff_not, true_and, and_true, if_true, if_false, Bool.false_eq_true, Bool.not_true, Bool.not_false]
    refine ⟨mul_ok 30 30 (Nat.lt_of_le_of_lt (show (2 : Int).natAbs ≤ 2 by decide) (by decide)) (Nat.lt_of_le_of_lt (show f.natAbs ≤ 100000000 by omega) (by decide)) (by decide) (by decide) (by decide), d, l, _, e, rfl, by omega, by omega, fun r r0 r1 => ?_⟩
    simp (config := { maxSteps := 1000000 }) only [dSeq, dIfS, dTest, dOp, dUn, dVar, dC, dTup, dLst, dNil, dCons, dRet, dRetN, dDrop, dSet, dPar, dAsg, dgTup, dgCons, dgNil, dgName, dCB, dNext, dIf, dAnd, dOr, dNot, dNotV, dAndV, dOrV, dCall, dCallK, dRaise, dAug, dSl, dPart, dNoPart, startU_eq, List.map_cons, List.map_nil, List.cons_append, List.nil_append, List.length_cons, List.length_nil, List.replicate, List.getElem?_cons_zero, List.getElem?_cons_succ, List.getElem?_nil, List.set_cons_zero, List.set_cons_succ, Nat.reduceAdd, Nat.reduceSub, ex_uu, ex_bl, ex_tup, ex_lst, ex_int, ex_cons, ex_two, gEq_int, gNe_int, gEq_p2, gNe_p2, gEq_str, ixp0, ixp1, plus_int, star_int, gI_int, gIC_int, ix0, ix1, ix2, ix3, fGcd_int, fIsq_int, fAbs_int, fInt_int, fLen_tup, fLen_lst, fMax2_int, gNeg_int, gFdv, gMod, DL.gSub, gPow, gLt, gLe, gGt, gGe, eq_self, decide_eq_true_eq, Bool.not_eq_true', decide_eq_false_iff_not, true_and, and_true, if_true, if_false, Bool.false_eq_true, Bool.not_true, Bool.not_false]
    exact k _ (by omega)
theorem sc__law_parted : FnScope ["d", "left", "whole", "p"] ["d"] (defScope s__law_parted) := ⟨rfl, rfl, rfl, by decide +kernel, rfl, by decide +kernel, by decide +kernel⟩
def sp_parted : SpD := fun m us Q _ => ∃ d : Int, us = [.int d] ∧ d ≠ 0 ∧ Bd 610 d ∧ ∀ (l : Int) (f : Nat), (f : Int) * f * l = d → 1 ≤ f → l ≠ 0 → SqF l.natAbs → Q (.tup [.int l, .int (f : Int)])
theorem ok__law_parted {a : Addr} {fd : FuncData} (D : DL.Def K mg "_law_parted" s__law_parted a fd) (gabs : mg "abs" = none) (gint : mg "int" = none) : Fd P w K mg base 1 a fd ["d"] sp_parted := by
  refine fd_of D.F sc__law_parted (fun m us Q Z h => ?_) (fun cdv A outer s H E m us Qd Zd hr hG tk h => ?_)
  · obtain ⟨_, rfl, _⟩ := h
    rfl
  · obtain ⟨d, rfl, d0, db, k⟩ := h
    have hu := hr.units
    have two : 2 ≤ sizeLine := le_line (by decide)
    refine ⟨_, (dss_cons (ds_of_par3 (ps_par3 (i := 1) (j := 2) (l := 3) (by rfl) sc__law_parted.nd rfl rfl rfl (by decide) (by decide) (by decide) rfl rfl rfl (da_cons (de_var (pv 0)) (da_cons de_int (da_cons de_int da_nil))) (by rfl)))
    (dss_cons (ds_while (passes_of rfl) (dt_le (de_star (de_var (pv 3)) (de_var (pv 3))) (de_callB cal_abs (pe_callB call_abs (by rfl) gabs PyProof.Rows.boot_abs (da_cons (de_var (pv 1)) da_nil)))) (dss_cons (ds_while (passes_of rfl) (dt_eq hu (de_mod (de_callB cal_int (pe_callTy call_int1 (by rfl) gint (by decide +kernel) (da_cons (de_var (pv 1)) da_nil))) (de_star (de_var (pv 3)) (de_var (pv 3)))) de_int) (dss_one (ds_of_par (ps_par (i := 1) (j := 2) (by rfl) sc__law_parted.nd rfl rfl (by decide) rfl rfl (da_cons (de_fdv (de_var (pv 1)) (de_star (de_var (pv 3)) (de_var (pv 3)))) (da_cons (de_star (de_var (pv 2)) (de_var (pv 3))) da_nil)) (by rfl)))))
    (dss_one (ds_set (i := 3) sc__law_parted.nd rfl (.inl rfl) (de_plus (de_var (pv 3)) de_int)))))
    (dss_one (ds_ret (de_tup (da_cons (de_var (pv 1)) (da_cons (de_var (pv 2)) da_nil))))))), ?_⟩
    simp only [dSeq, dPar3]
    simp (config := { maxSteps := 1000000 }) only [dSeq, dIfS, dTest, dOp, dUn, dVar, dC, dTup, dLst, dNil, dCons, dRet, dRetN, dDrop, dSet, dPar, dAsg, dgTup, dgCons, dgNil, dgName, dCB, dNext, dIf, dAnd, dOr, dNot, dNotV, dAndV, dOrV, dCall, dCallK, dRaise, dAug, dSl, dPart, dNoPart, startU_eq, List.map_cons, List.map_nil, List.cons_append, List.nil_append, List.length_cons, List.length_nil, List.replicate, List.getElem?_cons_zero, List.getElem?_cons_succ, List.getElem?_nil, List.set_cons_zero, List.set_cons_succ, Nat.reduceAdd, Nat.reduceSub, ex_uu, ex_bl, ex_tup, ex_lst, ex_int, ex_cons, ex_two, gEq_int, gNe_int, gEq_p2, gNe_p2, gEq_str, ixp0, ixp1, plus_int, star_int, gI_int, gIC_int, ix0, ix1, ix2, ix3, fGcd_int, fIsq_int, fAbs_int, fInt_int, fLen_tup, fLen_lst, fMax2_int, gNeg_int, gFdv, gMod, DL.gSub, gPow, gLt, gLe, gGt, gGe, eq_self, decide_eq_true_eq, Bool.not_eq_true', decide_eq_false_iff_not, true_and, and_true, if_true, if_false, Bool.false_eq_true, Bool.not_true, Bool.not_false]
    have three : 3 ≤ sizeLine := le_line (by decide)
    have bdl : ∀ (l : Int) (f : Nat), (f : Int) * f * l = d → l ≠ 0 → l.natAbs ≤ d.natAbs ∧ f ≤ d.natAbs ∧ 1 ≤ f := fun l f e l0 => by
      have e2 : f * f * l.natAbs = d.natAbs := by
        rw [← e, Int.natAbs_mul, Int.natAbs_mul, Int.natAbs_natCast]
      have f1 : 1 ≤ f := by
        rcases Nat.eq_zero_or_pos f with z | z
        · rw [z] at e2
          omega
        · exact z
      have l1 : 1 ≤ l.natAbs := by omega
      have h1 : 1 * l.natAbs ≤ f * f * l.natAbs := Nat.mul_le_mul_right _ (Nat.mul_pos f1 f1)
      have h2 : f * 1 ≤ f * f := Nat.mul_le_mul_left _ f1
      have h3 : f * f * 1 ≤ f * f * l.natAbs := Nat.mul_le_mul_left _ l1
      omega
    refine ⟨_, _, _, rfl, ?_⟩
    refine dWhile_in (fun z ρ => ∃ (l : Int) (f p : Nat), ρ = [some (.int d), some (.int l), some (.int (f : Int)), some (.int (p : Int))] ∧ (f : Int) * f * l = d ∧ l ≠ 0 ∧ 2 ≤ p ∧ p ≤ d.natAbs + 2 ∧ z = d.natAbs + 3 - p ∧ ∀ j : Nat, 2 ≤ j → j < p → ¬ j * j ∣ l.natAbs) ⟨_, d, 1, 2, rfl, by omega, d0, by decide, by omega, rfl, fun j a b => by omega⟩ ?_
    rintro z ρ ⟨l, f, p, rfl, hf, l0, p2, pd, rfl, hj⟩
    have bl := bdl l f hf l0
    have sq : ((p : Int) * (p : Int)) = ((p * p : Nat) : Int) := (Int.natCast_mul p p).symm
    have bp : Bd 611 (p : Int) := by
      unfold Bd at db ⊢
      have : (2 : Nat) ^ 611 = 2 ^ 610 + 2 ^ 610 := by rw [Nat.pow_succ, Nat.mul_two]
      have : 4 ≤ (2 : Nat) ^ 610 := by decide
      omega
    have cm := mul_ok 611 611 bp bp (by decide) (by decide) (by decide)
    have pp : p ≤ p * p := Nat.le_mul_of_pos_left p (by omega)
    simp (config := { maxSteps := 1000000 }) only [dSeq, dIfS, dTest, dOp, dUn, dVar, dC, dTup, dLst, dNil, dCons, dRet, dRetN, dDrop, dSet, dPar, dAsg, dgTup, dgCons, dgNil, dgName, dCB, dNext, dIf, dAnd, dOr, dNot, dNotV, dAndV, dOrV, dCall, dCallK, dRaise, dAug, dSl, dPart, dNoPart, startU_eq, List.map_cons, List.map_nil, List.cons_append, List.nil_append, List.length_cons, List.length_nil, List.replicate, List.getElem?_cons_zero, List.getElem?_cons_succ, List.getElem?_nil, List.set_cons_zero, List.set_cons_succ, Nat.reduceAdd, Nat.reduceSub, ex_uu, ex_bl, ex_tup, ex_lst, ex_int, ex_cons, ex_two, gEq_int, gNe_int, gEq_p2, gNe_p2, gEq_str, ixp0, ixp1, plus_int, star_int, gI_int, gIC_int, ix0, ix1, ix2, ix3, fGcd_int, fIsq_int, fAbs_int, fInt_int, fLen_tup, fLen_lst, fMax2_int, gNeg_int, gFdv, gMod, DL.gSub, gPow, gLt, gLe, gGt, gGe, eq_self, decide_eq_true_eq, Bool.not_eq_true', decide_eq_false_iff_not, true_and, and_true, if_true, if_false, Bool.false_eq_true, Bool.not_true, Bool.not_false]
    rw [abs_nat, sq]
    refine ⟨cm, ?_⟩
    by_cases c : ((p * p : Nat) : Int) ≤ (l.natAbs : Int)
    · rw [if_pos c]
      have ple : p ≤ d.natAbs := by omega
      refine dWhile_in (fun z ρ => ∃ (l' : Int) (f' : Nat), ρ = [some (.int d), some (.int l'), some (.int (f' : Int)), some (.int (p : Int))] ∧ (f' : Int) * f' * l' = d ∧ l' ≠ 0 ∧ z = l'.natAbs ∧ ∀ j : Nat, 2 ≤ j → j < p → ¬ j * j ∣ l'.natAbs) ⟨_, l, f, rfl, hf, l0, rfl, hj⟩ ?_
      rintro z ρ ⟨l', f', rfl, hf', l0', rfl, hj'⟩
      have bl' := bdl l' f' hf' l0'
      simp (config := { maxSteps := 1000000 }) only [dSeq, dIfS, dTest, dOp, dUn, dVar, dC, dTup, dLst, dNil, dCons, dRet, dRetN, dDrop, dSet, dPar, dAsg, dgTup, dgCons, dgNil, dgName, dCB, dNext, dIf, dAnd, dOr, dNot, dNotV, dAndV, dOrV, dCall, dCallK, dRaise, dAug, dSl, dPart, dNoPart, startU_eq, List.map_cons, List.map_nil, List.cons_append, List.nil_append, List.length_cons, List.length_nil, List.replicate, List.getElem?_cons_zero, List.getElem?_cons_succ, List.getElem?_nil, List.set_cons_zero, List.set_cons_succ, Nat.reduceAdd, Nat.reduceSub, ex_uu, ex_bl, ex_tup, ex_lst, ex_int, ex_cons, ex_two, gEq_int, gNe_int, gEq_p2, gNe_p2, gEq_str, ixp0, ixp1, plus_int, star_int, gI_int, gIC_int, ix0, ix1, ix2, ix3, fGcd_int, fIsq_int, fAbs_int, fInt_int, fLen_tup, fLen_lst, fMax2_int, gNeg_int, gFdv, gMod, DL.gSub, gPow, gLt, gLe, gGt, gGe, eq_self, decide_eq_true_eq, Bool.not_eq_true', decide_eq_false_iff_not, true_and, and_true, if_true, if_false, Bool.false_eq_true, Bool.not_true, Bool.not_false]
      rw [sq]
      refine ⟨cm, by omega, ?_⟩
      by_cases e : l' % ((p * p : Nat) : Int) = 0
      · rw [if_pos e]
        obtain ⟨t, rfl⟩ := Int.dvd_of_emod_eq_zero e
        have t0 : t ≠ 0 := fun z => l0' (by rw [z, Int.mul_zero])
        have pp0 : ((p * p : Nat) : Int) ≠ 0 := by omega
        have lt : t.natAbs < (((p * p : Nat) : Int) * t).natAbs := by
          rw [Int.natAbs_mul, Int.natAbs_natCast]
          have h4 : 4 ≤ p * p := Nat.mul_le_mul p2 p2
          have h5 : 4 * t.natAbs ≤ p * p * t.natAbs := Nat.mul_le_mul_right _ h4
          omega
        have bpp : Bd 1222 ((p * p : Nat) : Int) := by
          rw [← sq]
          exact bd_mul 611 611 bp bp
        have bf : Bd 610 (f' : Int) := by
          unfold Bd at db ⊢
          rw [Int.natAbs_natCast]
          omega
        refine ⟨cm, ⟨pp0, Nat.lt_of_lt_of_le (PySem.Flt.log2_lt_of (by decide : 0 < 1222) bpp) (by decide)⟩, mul_ok 610 611 bf bp (by decide) (by decide) (by decide), _, lt, t, f' * p, ?_, ?_, t0, rfl, fun j a b d => hj' j a b ?_⟩
        · rw [Int.mul_fdiv_cancel_left _ pp0, Int.natCast_mul]
        · rw [← hf', Int.natCast_mul, Int.natCast_mul]
          grind
        · rw [Int.natAbs_mul]
          exact Nat.dvd_trans d ⟨_, Nat.mul_comm _ _⟩
      · rw [if_neg e]
        have nd : ¬ p * p ∣ l'.natAbs := fun z => e (Int.emod_eq_zero_of_dvd (Int.natAbs_dvd_natAbs.mp (by rw [Int.natAbs_natCast]; exact z)))
        refine ⟨_, by omega, l', f', p + 1, by rw [Int.natCast_add]; rfl, hf', l0', by omega, by omega, rfl, fun j a b => ?_⟩
        rcases Nat.lt_or_ge j p with h | h
        · exact hj' j a h
        · have : j = p := by omega
          subst this
          exact nd
    · rw [if_neg c]
      refine ⟨two, k l f hf bl.2.2 l0 fun q q2 d => ?_⟩
      rcases Nat.lt_or_ge q p with h | h
      · exact hj q q2 h d
      · have h1 : p * p ≤ q * q := Nat.mul_le_mul h h
        have h2 := Nat.le_of_dvd (by omega) d
        omega
/-! ### number_of, root_of -/
/-- the number (p + q root(d)) / s, by the square part of d -/
def nofU (p q s d : Int) : U := if q = 0 then lowN p 0 s 1 else lowN p (q * (sqs ((d.natAbs : Nat) : Int)).1) s (if d < 0 then -(sqs ((d.natAbs : Nat) : Int)).2 else (sqs ((d.natAbs : Nat) : Int)).2)
/-- what raises, what is told -/
def nofQ (CB : Addr) (a b c e : U) (Q : U → Prop) (Z : XQ) : Prop :=
  ((∀ p q s d : Int, a = .int p → b = .int q → c = .int s → e = .int d → s = 0 ∨ d = 0) → Z CB (.tup [a, b, c, e])) ∧
  (∀ p q s d : Int, a = .int p → b = .int q → c = .int s → e = .int d → s ≠ 0 → d ≠ 0 → Bd 300 p ∧ Bd 300 q ∧ Bd 300 s ∧ d.natAbs < 1000000000000000 ∧ Q (nofU p q s d))
theorem isInt_of {u : U} (h : isIntU u = true) : ∃ i, u = .int i := by
  cases u <;> first | exact ⟨_, rfl⟩ | cases h
theorem sc_number_of : FnScope ["p", "q", "s", "d", "thing", "outside", "inside"] ["p", "q", "s", "d"] (defScope s_number_of) := ⟨rfl, rfl, rfl, by decide +kernel, rfl, by decide +kernel, by decide +kernel⟩
def sp_number_of (P0 CB : Addr) : SpD := fun m us Q Z => ∃ a b c e : U, us = [a, b, c, e] ∧ isX a = true ∧ isX b = true ∧ isX c = true ∧ isX e = true ∧ P0 ∈ m.tabs ∧ nofQ CB a b c e Q Z
theorem ok_number_of {a a1 a2 a3 : Addr} {fd fd1 fd2 fd3 : FuncData} {P0 CB fB f c : Addr} (D : DL.Def K mg "number_of" s_number_of a fd) (D_are_whole : DL.Def K mg "are_whole" s_are_whole a1 fd1) (C : CodeAt base mg fd1 c P0) (Wh : WholeAt K mg f) (gall : mg "all" = none) (D_lowest : DL.Def K mg "lowest" s_lowest a2 fd2) (D_square_split : DL.Def K mg "square_split" s_square_split a3 fd3)
    (T : TxtN K mg) {tl : Tok} (hl : mg "LAST_TRIED" = some (.int 100000 tl)) (gabs : mg "abs" = none) (xBadNumber : ExF K CB fB) (gBadNumber : mg "BadNumber" = some (.ref CB)) : Fd P w K mg base 3 a fd ["p", "q", "s", "d"] (sp_number_of P0 CB) := by
  have G_are_whole : Fd P w K mg base 2 a1 fd1 ["things"] (sp_are_whole P0) := ok_are_whole D_are_whole C Wh gall
  have b_are_whole : Binds K fd1 ["things"] [] := D_are_whole.F.binds fun _ _ _ _ _ _ us hl => match us, hl with | [_], _ => rfl
  have G_lowest : Fd P w K mg base 1 a2 fd2 ["p", "q", "s", "d"] sp_lowest := ok_lowest D_lowest T
  have b_lowest : Binds K fd2 ["p", "q", "s", "d"] [] := D_lowest.F.binds fun _ _ _ _ _ _ us hl => match us, hl with | [_, _, _, _], _ => rfl
  have G_square_split : Fd P w K mg base 1 a3 fd3 ["size"] sp_square_split := ok_square_split D_square_split T hl
  have b_square_split : Binds K fd3 ["size"] [] := D_square_split.F.binds fun _ _ _ _ _ _ us hl => match us, hl with | [_], _ => rfl
  refine fd_of D.F sc_number_of (fun m us Q Z h => ?_) (fun cdv A outer s H E m us Qd Zd hr hG tk h => ?_)
  · obtain ⟨_, _, _, _, rfl, _⟩ := h
    rfl
  · obtain ⟨x, y, z, t, rfl, hx, hy, hz, ht, hP, k1, k2⟩ := h
    have hu := hr.units
    have four : 4 ≤ sizeLine := le_line (by decide)
    refine ⟨_, (dss_cons (ds_set (i := 4) sc_number_of.nd rfl (.inl rfl) (de_tup (da_cons (de_var (pv 0)) (da_cons (de_var (pv 1)) (da_cons (de_var (pv 2)) (da_cons (de_var (pv 3)) da_nil))))))
    (dss_cons (ds_if (L2.PW.pt (dw_or (dt_not (dt_val (de_call G_are_whole (hr.mono (by decide)) hG tk (by rfl) D_are_whole.g D_are_whole.F.kp b_are_whole (da_cons (de_var (pv 4)) da_nil)))) (dw_or (dt_eq hu (de_var (pv 2)) de_int) (dw_or1 (dt_eq hu (de_var (pv 3)) de_int))))) (dss_one (ds_raise xBadNumber rfl tk hr (by rfl) gBadNumber (de_var (pv 4)))) dss_nil)
    (dss_cons (ds_if (dt_eq hu (de_var (pv 1)) de_int) (dss_one (ds_ret (de_call G_lowest (hr.mono (by decide)) hG tk (by rfl) D_lowest.g D_lowest.F.kp b_lowest (da_cons (de_var (pv 0)) (da_cons de_int (da_cons (de_var (pv 2)) (da_cons de_int da_nil))))))) dss_nil)
    (dss_cons (ds_asg (de_call G_square_split (hr.mono (by decide)) hG tk (by rfl) D_square_split.g D_square_split.F.kp b_square_split (da_cons (de_callB cal_abs (pe_callB call_abs (by rfl) gabs PyProof.Rows.boot_abs (da_cons (de_var (pv 3)) da_nil))) da_nil)) (dg_tup (n := 2) rfl (dgs_cons (dg_name (pg_name (i := 5) sc_number_of.nd rfl (.inl rfl))) (dgs_cons (dg_name (pg_name (i := 6) sc_number_of.nd rfl (.inl rfl))) dgs_nil))))
    (dss_cons (ds_if (dt_lt (de_var (pv 3)) de_int) (dss_one (ds_set (i := 6) sc_number_of.nd rfl (.inl rfl) (de_neg (de_var (pv 6))))) dss_nil)
    (dss_one (ds_ret (de_call G_lowest (hr.mono (by decide)) hG tk (by rfl) D_lowest.g D_lowest.F.kp b_lowest (da_cons (de_var (pv 0)) (da_cons (de_star (de_var (pv 1)) (de_var (pv 5))) (da_cons (de_var (pv 2)) (da_cons (de_var (pv 6)) da_nil)))))))))))), ?_⟩
    simp only [dSeq]
    simp (config := { maxSteps := 1000000 }) only [dSeq, dIfS, dTest, dOp, dUn, dVar, dC, dTup, dLst, dNil, dCons, dRet, dRetN, dDrop, dSet, dPar, dAsg, dgTup, dgCons, dgNil, dgName, dCB, dNext, dIf, dAnd, dOr, dNot, dNotV, dAndV, dOrV, dCall, dCallK, dRaise, dAug, dSl, dPart, dNoPart, startU_eq, List.map_cons, List.map_nil, List.cons_append, List.nil_append, List.length_cons, List.length_nil, List.replicate, List.getElem?_cons_zero, List.getElem?_cons_succ, List.getElem?_nil, List.set_cons_zero, List.set_cons_succ, Nat.reduceAdd, Nat.reduceSub, ex_uu, ex_bl, ex_tup, ex_lst, ex_int, ex_cons, ex_two, gEq_int, gNe_int, gEq_p2, gNe_p2, gEq_str, ixp0, ixp1, plus_int, star_int, gI_int, gIC_int, ix0, ix1, ix2, ix3, fGcd_int, fIsq_int, fAbs_int, fInt_int, fLen_tup, fLen_lst, fMax2_int, gNeg_int, gFdv, gMod, DL.gSub, gPow, gLt, gLe, gGt, gGe, eq_self, decide_eq_true_eq, Bool.not_eq_true', decide_eq_false_iff_not, true_and, and_true, if_true, if_false, Bool.false_eq_true, Bool.not_true, Bool.not_false]
    refine ⟨four, _, rfl, ?_, hP, _, rfl, ?_⟩
    · simp only [List.all_cons, List.all_nil, isX_raw hx, isX_raw hy, isX_raw hz, isX_raw ht, Bool.and_true]
    cases hw : [x, y, z, t].all isIntU with
    | false =>
      rw [if_pos rfl]
      refine k1 fun p q s d e1 e2 e3 e4 => ?_
      subst e1 e2 e3 e4
      cases hw
    | true =>
      rw [if_neg (fun z => Bool.noConfusion z)]
      obtain ⟨p, q, s, d, e⟩ := ints4 (ts := [x, y, z, t]) rfl hw
      simp only [List.cons.injEq, and_true] at e
      obtain ⟨rfl, rfl, rfl, rfl⟩ := e
      have bad : s = 0 ∨ d = 0 → Zd CB (n4 p q s d) := fun h => k1 fun p' q' s' d' e1 e2 e3 e4 => by
        injection e3 with e3
        injection e4 with e4
        rw [← e3, ← e4]
        exact h
      simp (config := { maxSteps := 1000000 }) only [dSeq, dIfS, dTest, dOp, dUn, dVar, dC, dTup, dLst, dNil, dCons, dRet, dRetN, dDrop, dSet, dPar, dAsg, dgTup, dgCons, dgNil, dgName, dCB, dNext, dIf, dAnd, dOr, dNot, dNotV, dAndV, dOrV, dCall, dCallK, dRaise, dAug, dSl, dPart, dNoPart, startU_eq, List.map_cons, List.map_nil, List.cons_append, List.nil_append, List.length_cons, List.length_nil, List.replicate, List.getElem?_cons_zero, List.getElem?_cons_succ, List.getElem?_nil, List.set_cons_zero, List.set_cons_succ, Nat.reduceAdd, Nat.reduceSub, ex_uu, ex_bl, ex_tup, ex_lst, ex_int, ex_cons, ex_two, gEq_int, gNe_int, gEq_p2, gNe_p2, gEq_str, ixp0, ixp1, plus_int, star_int, gI_int, gIC_int, ix0, ix1, ix2, ix3, fGcd_int, fIsq_int, fAbs_int, fInt_int, fLen_tup, fLen_lst, fMax2_int, gNeg_int, gFdv, gMod, DL.gSub, gPow, gLt, gLe, gGt, gGe, eq_self, decide_eq_true_eq, Bool.not_eq_true', decide_eq_false_iff_not, true_and, and_true, if_true, if_false, Bool.false_eq_true, Bool.not_true, Bool.not_false]
      by_cases c1 : s = 0
      · rw [if_pos c1]
        exact bad (.inl c1)
      rw [if_neg c1]
      by_cases c2 : d = 0
      · rw [if_pos c2]
        exact bad (.inr c2)
      rw [if_neg c2]
      obtain ⟨bp, bq, bs, bd, k⟩ := k2 p q s d rfl rfl rfl rfl c1 c2
      unfold nofU at k
      by_cases c3 : q = 0
      · rw [if_pos c3] at k ⊢
        exact ⟨_, _, _, _, rfl, c1, bd_up _ bs (by decide), k⟩
      rw [if_neg c3] at k ⊢
      rw [abs_nat]
      obtain ⟨f, m', e, hfm, f1, m1, hsq⟩ := sqs_ok (n := d.natAbs) (by omega) bd
      rw [e] at k
      refine ⟨_, rfl, by omega, by omega, ?_⟩
      rw [e]
      have ff : f ≤ d.natAbs := by
        rw [← hfm]
        exact Nat.le_trans (Nat.le_mul_of_pos_left f f1) (Nat.le_mul_of_pos_right _ m1)
      have bf : Bd 50 (f : Int) := Nat.lt_of_le_of_lt (show (f : Int).natAbs ≤ 1000000000000000 by rw [Int.natAbs_natCast]; omega) (by decide)
      have cm := mul_ok 300 50 bq bf (by decide) (by decide) (by decide)
      refine ⟨_, rfl, rfl, _, _, rfl, _, _, rfl, rfl, ?_⟩
      simp (config := { maxSteps := 1000000 }) only [dSeq, dIfS, dTest, dOp, dUn, dVar, dC, dTup, dLst, dNil, dCons, dRet, dRetN, dDrop, dSet, dPar, dAsg, dgTup, dgCons, dgNil, dgName, dCB, dNext, dIf, dAnd, dOr, dNot, dNotV, dAndV, dOrV, dCall, dCallK, dRaise, dAug, dSl, dPart, dNoPart, startU_eq, List.map_cons, List.map_nil, List.cons_append, List.nil_append, List.length_cons, List.length_nil, List.replicate, List.getElem?_cons_zero, List.getElem?_cons_succ, List.getElem?_nil, List.set_cons_zero, List.set_cons_succ, Nat.reduceAdd, Nat.reduceSub, ex_uu, ex_bl, ex_tup, ex_lst, ex_int, ex_cons, ex_two, gEq_int, gNe_int, gEq_p2, gNe_p2, gEq_str, ixp0, ixp1, plus_int, star_int, gI_int, gIC_int, ix0, ix1, ix2, ix3, fGcd_int, fIsq_int, fAbs_int, fInt_int, fLen_tup, fLen_lst, fMax2_int, gNeg_int, gFdv, gMod, DL.gSub, gPow, gLt, gLe, gGt, gGe, eq_self, decide_eq_true_eq, Bool.not_eq_true', decide_eq_false_iff_not, true_and, and_true, if_true, if_false, Bool.false_eq_true, Bool.not_true, Bool.not_false]
      by_cases c4 : d < 0
      · rw [if_pos c4] at k ⊢
        exact ⟨cm, _, _, _, _, rfl, c1, bd_up _ bs (by decide), k⟩
      · rw [if_neg c4] at k ⊢
        exact ⟨cm, _, _, _, _, rfl, c1, bd_up _ bs (by decide), k⟩
/-- root_of's pair in lowest terms -/
def rofU (a b : Int) : U := if a = 0 then n4 0 0 1 1 else nofU 0 1 (if b.fdiv (Int.gcd a b : Nat) < 0 then -b.fdiv (Int.gcd a b : Nat) else b.fdiv (Int.gcd a b : Nat)) (a.fdiv (Int.gcd a b : Nat) * b.fdiv (Int.gcd a b : Nat))
def rofQ (CB : Addr) (x y : U) (Q : U → Prop) (Z : XQ) : Prop :=
  ((∀ a b : Int, x = .int a → y = .int b → b = 0) → Z CB (.tup [x, y])) ∧
  (∀ a b : Int, x = .int a → y = .int b → b ≠ 0 → a.natAbs ≤ 10000000 ∧ b.natAbs ≤ 10000000 ∧ Q (rofU a b))
theorem sc_root_of : FnScope ["top", "bottom", "pair", "divisor"] ["top", "bottom"] (defScope s_root_of) := ⟨rfl, rfl, rfl, by decide +kernel, rfl, by decide +kernel, by decide +kernel⟩
def sp_root_of (P0 CB : Addr) : SpD := fun m us Q Z => ∃ x y : U, us = [x, y] ∧ isX x = true ∧ isX y = true ∧ P0 ∈ m.tabs ∧ rofQ CB x y Q Z
theorem gcd_fdiv {a b : Int} (hb : b ≠ 0) : ∃ g t s : Int, 0 < g ∧ ((Int.gcd a b : Nat) : Int) = g ∧ a = g * t ∧ b = g * s ∧ a.fdiv g = t ∧ b.fdiv g = s ∧ s ≠ 0 ∧ t.natAbs ≤ a.natAbs ∧ s.natAbs ≤ b.natAbs := by
  have g0 : 0 < Int.gcd a b := Int.gcd_pos_of_ne_zero_right _ hb
  obtain ⟨t, ht⟩ := Int.gcd_dvd_left (a := a) (b := b)
  obtain ⟨s, hs⟩ := Int.gcd_dvd_right (a := a) (b := b)
  generalize Int.gcd a b = g at *
  have gn : (g : Int) ≠ 0 := by omega
  refine ⟨g, t, s, by omega, rfl, ht, hs, by rw [ht, Int.mul_fdiv_cancel_left _ gn], by rw [hs, Int.mul_fdiv_cancel_left _ gn], fun z => hb (by rw [hs, z, Int.mul_zero]), ?_, ?_⟩
  · rw [ht, Int.natAbs_mul, Int.natAbs_natCast]
    exact Nat.le_mul_of_pos_left _ g0
  · rw [hs, Int.natAbs_mul, Int.natAbs_natCast]
    exact Nat.le_mul_of_pos_left _ g0
theorem ok_root_of {a a1 a2 z : Addr} {fd fd1 fd2 : FuncData} {P0 CB fB f c : Addr} (D : DL.Def K mg "root_of" s_root_of a fd) (D_are_whole : DL.Def K mg "are_whole" s_are_whole a1 fd1) (C : CodeAt base mg fd1 c P0) (Wh : WholeAt K mg f) (gall : mg "all" = none) (D_number_of : DL.Def K mg "number_of" s_number_of a2 fd2) (G_number_of : Fd P w K mg base 3 a2 fd2 ["p", "q", "s", "d"] (sp_number_of P0 CB))
    (T : TxtN K mg) (gabs : mg "abs" = none) (gz : mg "ZERO" = some (.ref z)) (kz : KTup K z [.int 0, .int 0, .int 1, .int 1]) (xBadNumber : ExF K CB fB) (gBadNumber : mg "BadNumber" = some (.ref CB)) : Fd P w K mg base 4 a fd ["top", "bottom"] (sp_root_of P0 CB) := by
  have G_are_whole : Fd P w K mg base 2 a1 fd1 ["things"] (sp_are_whole P0) := ok_are_whole D_are_whole C Wh gall
  have b_are_whole : Binds K fd1 ["things"] [] := D_are_whole.F.binds fun _ _ _ _ _ _ us hl => match us, hl with | [_], _ => rfl
  have b_number_of : Binds K fd2 ["p", "q", "s", "d"] [] := D_number_of.F.binds fun _ _ _ _ _ _ us hl => match us, hl with | [_, _, _, _], _ => rfl
  refine fd_of D.F sc_root_of (fun m us Q Z h => ?_) (fun cdv A outer s H E m us Qd Zd hr hG tk h => ?_)
  · obtain ⟨_, _, rfl, _⟩ := h
    rfl
  · obtain ⟨x, y, rfl, hx, hy, hP, k1, k2⟩ := h
    have hu := hr.units
    have two : 2 ≤ sizeLine := le_line (by decide)
    refine ⟨_, (dss_cons (ds_set (i := 2) sc_root_of.nd rfl (.inl rfl) (de_tup (da_cons (de_var (pv 0)) (da_cons (de_var (pv 1)) da_nil))))
    (dss_cons (ds_if (L2.PW.pt (dw_or (dt_not (dt_val (de_call G_are_whole (hr.mono (by decide)) hG tk (by rfl) D_are_whole.g D_are_whole.F.kp b_are_whole (da_cons (de_var (pv 2)) da_nil)))) (dw_or1 (dt_eq hu (de_var (pv 1)) de_int)))) (dss_one (ds_raise xBadNumber rfl tk hr (by rfl) gBadNumber (de_var (pv 2)))) dss_nil)
    (dss_cons (ds_if (dt_eq hu (de_var (pv 0)) de_int) (dss_one (ds_ret (de_gtup (by rfl) gz kz))) dss_nil)
    (dss_cons (ds_set (i := 3) sc_root_of.nd rfl (.inl rfl) (de_callB cal_gcd (pe_callBfun cr_gcd (by rfl) T.gcd (da_cons (de_var (pv 0)) (da_cons (de_var (pv 1)) da_nil)))))
    (dss_cons (ds_of_par (ps_par (i := 0) (j := 1) (by rfl) sc_root_of.nd rfl rfl (by decide) rfl rfl (da_cons (de_fdv (de_var (pv 0)) (de_var (pv 3))) (da_cons (de_fdv (de_var (pv 1)) (de_var (pv 3))) da_nil)) (by rfl)))
    (dss_one (ds_ret (de_call G_number_of (hr.mono (by decide)) hG tk (by rfl) D_number_of.g D_number_of.F.kp b_number_of (da_cons de_int (da_cons de_int (da_cons (de_callB cal_abs (pe_callB call_abs (by rfl) gabs PyProof.Rows.boot_abs (da_cons (de_var (pv 1)) da_nil))) (da_cons (de_star (de_var (pv 0)) (de_var (pv 1))) da_nil)))))))))))), ?_⟩
    simp (config := { maxSteps := 1000000 }) only [dSeq, dIfS, dTest, dOp, dUn, dVar, dC, dTup, dLst, dNil, dCons, dRet, dRetN, dDrop, dSet, dPar, dAsg, dgTup, dgCons, dgNil, dgName, dCB, dNext, dIf, dAnd, dOr, dNot, dNotV, dAndV, dOrV, dCall, dCallK, dRaise, dAug, dSl, dPart, dNoPart, startU_eq, List.map_cons, List.map_nil, List.cons_append, List.nil_append, List.length_cons, List.length_nil, List.replicate, List.getElem?_cons_zero, List.getElem?_cons_succ, List.getElem?_nil, List.set_cons_zero, List.set_cons_succ, Nat.reduceAdd, Nat.reduceSub, ex_uu, ex_bl, ex_tup, ex_lst, ex_int, ex_cons, ex_two, gEq_int, gNe_int, gEq_p2, gNe_p2, gEq_str, ixp0, ixp1, plus_int, star_int, gI_int, gIC_int, ix0, ix1, ix2, ix3, fGcd_int, fIsq_int, fAbs_int, fInt_int, fLen_tup, fLen_lst, fMax2_int, gNeg_int, gFdv, gMod, DL.gSub, gPow, gLt, gLe, gGt, gGe, eq_self, decide_eq_true_eq, Bool.not_eq_true', decide_eq_false_iff_not, true_and, and_true, if_true, if_false, Bool.false_eq_true, Bool.not_true, Bool.not_false]
    refine ⟨two, _, rfl, ?_, hP, _, rfl, ?_⟩
    · simp only [List.all_cons, List.all_nil, isX_raw hx, isX_raw hy, Bool.and_true]
    cases hw : [x, y].all isIntU with
    | false =>
      rw [if_pos rfl]
      refine k1 fun p q e1 e2 => ?_
      subst e1 e2
      cases hw
    | true =>
      rw [if_neg (fun z => Bool.noConfusion z)]
      simp only [List.all_cons, List.all_nil, Bool.and_true, Bool.and_eq_true] at hw
      obtain ⟨p, rfl⟩ := isInt_of hw.1
      obtain ⟨q, rfl⟩ := isInt_of hw.2
      simp (config := { maxSteps := 1000000 }) only [dSeq, dIfS, dTest, dOp, dUn, dVar, dC, dTup, dLst, dNil, dCons, dRet, dRetN, dDrop, dSet, dPar, dAsg, dgTup, dgCons, dgNil, dgName, dCB, dNext, dIf, dAnd, dOr, dNot, dNotV, dAndV, dOrV, dCall, dCallK, dRaise, dAug, dSl, dPart, dNoPart, startU_eq, List.map_cons, List.map_nil, List.cons_append, List.nil_append, List.length_cons, List.length_nil, List.replicate, List.getElem?_cons_zero, List.getElem?_cons_succ, List.getElem?_nil, List.set_cons_zero, List.set_cons_succ, Nat.reduceAdd, Nat.reduceSub, ex_uu, ex_bl, ex_tup, ex_lst, ex_int, ex_cons, ex_two, gEq_int, gNe_int, gEq_p2, gNe_p2, gEq_str, ixp0, ixp1, plus_int, star_int, gI_int, gIC_int, ix0, ix1, ix2, ix3, fGcd_int, fIsq_int, fAbs_int, fInt_int, fLen_tup, fLen_lst, fMax2_int, gNeg_int, gFdv, gMod, DL.gSub, gPow, gLt, gLe, gGt, gGe, eq_self, decide_eq_true_eq, Bool.not_eq_true', decide_eq_false_iff_not, true_and, and_true, if_true, if_false, Bool.false_eq_true, Bool.not_true, Bool.not_false]
      by_cases c1 : q = 0
      · rw [if_pos c1]
        refine k1 fun p' q' e1 e2 => ?_
        injection e2 with e2
        rw [← e2]
        exact c1
      rw [if_neg c1]
      obtain ⟨bp, bq, k⟩ := k2 p q rfl rfl c1
      unfold rofU at k
      by_cases c2 : p = 0
      · rw [if_pos c2] at k ⊢
        exact k
      rw [if_neg c2] at k ⊢
      obtain ⟨g, t, s', g0, eg, e1, e2, e3, e4, s0, tb, sb⟩ := gcd_fdiv (a := p) c1
      rw [eg, e3, e4] at k
      have eg' : ((Nat.gcd p.natAbs q.natAbs : Nat) : Int) = g := eg
      rw [eg', e3, e4]
      have bg : Bd 40 g := by
        have h1 : Int.gcd p q ≤ q.natAbs := Nat.gcd_le_right _ (by omega)
        refine Nat.lt_of_le_of_lt (show g.natAbs ≤ 10000000 by omega) (by decide)
      have cf : ∀ i, CFdv i g := fun i => ⟨by omega, Nat.lt_of_lt_of_le (PySem.Flt.log2_lt_of (by decide : 0 < 40) bg) (by decide)⟩
      have sm : ∀ x : Int, x.natAbs ≤ 10000000 → Bd 30 x := fun x hx => Nat.lt_of_le_of_lt hx (by decide)
      refine ⟨cf _, cf _, mul_ok 30 30 (sm _ (by omega)) (sm _ (by omega)) (by decide) (by decide) (by decide), _, _, _, _, rfl, rfl, rfl, rfl, rfl, hP, ?_, ?_⟩
      · intro h
        have := h _ _ _ _ rfl rfl rfl rfl
        have t0 : t ≠ 0 := fun z => c2 (by rw [e1, z, Int.mul_zero])
        rcases this with h | h
        · split at h <;> omega
        · exact absurd h (Int.mul_ne_zero t0 s0)
      · intro p' q' s'' d' f1 f2 f3 f4 _ _
        injection f1 with f1
        injection f2 with f2
        injection f3 with f3
        injection f4 with f4
        subst f1 f2 f3 f4
        refine ⟨by unfold Bd; decide, by unfold Bd; decide, bd_up (a := 30) _ (sm _ (by split <;> omega)) (by decide), ?_, k⟩
        rw [Int.natAbs_mul]
        have : t.natAbs * s'.natAbs ≤ 10000000 * 10000000 := Nat.mul_le_mul (by omega) (by omega)
        omega
theorem sc__law_fraction : FnScope ["top", "bottom"] ["top", "bottom"] (defScope s__law_fraction) := ⟨rfl, rfl, rfl, by decide +kernel, rfl, by decide +kernel, by decide +kernel⟩
def sp__law_fraction : SpD := fun m us Q _ => ∃ a b : Int, us = [.int a, .int b] ∧ b ≠ 0 ∧ Bd 300 b ∧ Q (lowN a 0 b 1)
theorem ok__law_fraction {a a1 : Addr} {fd fd1 : FuncData} (D : DL.Def K mg "_law_fraction" s__law_fraction a fd) (D__law_made : DL.Def K mg "_law_made" s__law_made a1 fd1) (G__law_made : Fd P w K mg base 2 a1 fd1 ["p", "q", "s", "d"] sp__law_made) : Fd P w K mg base 3 a fd ["top", "bottom"] sp__law_fraction := by
  have b__law_made : Binds K fd1 ["p", "q", "s", "d"] [] := D__law_made.F.binds fun _ _ _ _ _ _ us hl => match us, hl with | [_, _, _, _], _ => rfl
  refine fd_of D.F sc__law_fraction (fun m us Q Z h => ?_) (fun cdv A outer s H E m us Qd Zd hr hG tk h => ?_)
  · obtain ⟨_, _, rfl, _⟩ := h
    rfl
  · obtain ⟨x, y, rfl, y0, yb, k⟩ := h
    have hu := hr.units
    refine ⟨_, (dss_one (ds_ret (de_call G__law_made (hr.mono (by decide)) hG tk (by rfl) D__law_made.g D__law_made.F.kp b__law_made (da_cons (de_var (pv 0)) (da_cons de_int (da_cons (de_var (pv 1)) (da_cons de_int da_nil))))))), ?_⟩
    simp (config := { maxSteps := 1000000 }) only [dSeq, dIfS, dTest, dOp, dUn, dVar, dC, dTup, dLst, dNil, dCons, dRet, dRetN, dDrop, dSet, dPar, dAsg, dgTup, dgCons, dgNil, dgName, dCB, dNext, dIf, dAnd, dOr, dNot, dNotV, dAndV, dOrV, dCall, dCallK, dRaise, dAug, dSl, dPart, dNoPart, startU_eq, List.map_cons, List.map_nil, List.cons_append, List.nil_append, List.length_cons, List.length_nil, List.replicate, List.getElem?_cons_zero, List.getElem?_cons_succ, List.getElem?_nil, List.set_cons_zero, List.set_cons_succ, Nat.reduceAdd, Nat.reduceSub, ex_uu, ex_bl, ex_tup, ex_lst, ex_int, ex_cons, ex_two, gEq_int, gNe_int, gEq_p2, gNe_p2, gEq_str, ixp0, ixp1, plus_int, star_int, gI_int, gIC_int, ix0, ix1, ix2, ix3, fGcd_int, fIsq_int, fAbs_int, fInt_int, fLen_tup, fLen_lst, fMax2_int, gNeg_int, gFdv, gMod, DL.gSub, gPow, gLt, gLe, gGt, gGe, eq_self, decide_eq_true_eq, Bool.not_eq_true', decide_eq_false_iff_not, true_and, and_true, if_true, if_false, Bool.false_eq_true, Bool.not_true, Bool.not_false]
    refine ⟨_, _, _, _, rfl, y0, bd_up _ yb (by decide), ?_⟩
    rw [made_low _ _ _ _ y0]
    exact k
end
end T01
set_option Elab.async false
set_option linter.all false
set_option maxRecDepth 100000
set_option maxHeartbeats 8000000
set_option exponentiation.threshold 10000
--@reprX
namespace T01
open PySem PySem.Spec PyProof.Rows L2 XR DL
open PySem.XK (ExF)
/-! ### what is due -/
theorem low_q0 {p s d : Int} : lowN p 0 s d = lowN p 0 s 1 := by
  unfold lowN
  by_cases h : d = 1
  · rw [h]
  · simp only [h, if_false, if_true, Int.add_zero]
theorem low_d1 {p q s : Int} : lowN p q s 1 = lowN (p + q) 0 s 1 := by
  unfold lowN
  simp only [if_true, Int.add_zero]
/-- a number by its square part -/
theorem nof_eq {p q s d l : Int} {f : Nat} (s0 : s ≠ 0) (d0 : d ≠ 0) (db : d.natAbs < 1000000000000000) (h : (f : Int) * f * l = d) (f1 : 1 ≤ f) (l0 : l ≠ 0) (hl : SqF l.natAbs) : nofU p q s d = lowN p (q * f) s l := by
  unfold nofU
  obtain ⟨f', m, e, hfm, f1', m1, hm⟩ := sqs_ok (n := d.natAbs) (by omega) db
  have e2 : f * f * l.natAbs = d.natAbs := by
    rw [← h, Int.natAbs_mul, Int.natAbs_mul, Int.natAbs_natCast]
  obtain ⟨rfl, em⟩ := sq_unique (hfm.trans e2.symm) hm hl f1'
  rw [e]
  by_cases c : q = 0
  · rw [if_pos c, c, Int.zero_mul, low_q0 (d := l)]
  · rw [if_neg c]
    have ff : (0 : Int) < (f' : Int) * f' := Int.mul_pos (by omega) (by omega)
    have el : (if d < 0 then -(m : Int) else (m : Int)) = l := by
      by_cases cd : d < 0
      · rw [if_pos cd]
        have : l < 0 := by
          rcases Int.lt_or_le l 0 with z | z
          · exact z
          · have := Int.mul_nonneg (Int.le_of_lt ff) z
            omega
        omega
      · rw [if_neg cd]
        have : 0 ≤ l := by
          rcases Int.lt_or_le l 0 with z | z
          · have := Int.mul_neg_of_pos_of_neg ff z
            omega
          · exact z
        omega
    show lowN p (q * (f' : Int)) s (if d < 0 then -(m : Int) else (m : Int)) = _
    rw [el]
theorem low_scale {k p q s d : Int} (k0 : 0 < k) (s0 : s ≠ 0) (hd : d = 1 ∨ (d ≠ 0 ∧ d.natAbs ≤ 1000000000000)) : lowN (k * p) (k * q) (k * s) d = lowN p q s d := by
  have ks : k * s ≠ 0 := Int.mul_ne_zero (by omega) s0
  have kr : (k : Rat) ≠ 0 := by
    have : (k : Rat) ≠ ((0 : Int) : Rat) := fun z => by
      have := Rat.intCast_inj.mp z
      omega
    exact this
  have sr : (s : Rat) ≠ 0 := by
    have : (s : Rat) ≠ ((0 : Int) : Rat) := fun z => s0 (Rat.intCast_inj.mp z)
    exact this
  have q1 : ∀ x : Int, ((k * x : Int) : Rat) / ((k * s : Int) : Rat) = (x : Rat) / (s : Rat) := fun x => by
    rw [Rat.intCast_mul, Rat.intCast_mul]
    grind
  by_cases c : d = 1
  · subst c
    rw [low_d1, low_d1 (p := p), ← Int.mul_add]
    have h1 := low_num (D := 1) (p := k * (p + q)) (q := 0) (s := k * s) (d := 1) ks (.inl rfl)
    have h2 := low_num (D := 1) (p := p + q) (q := 0) (s := s) (d := 1) s0 (.inl rfl)
    exact NumD.ext h1.1 h2.1 (by rw [h1.2.1, h2.2.1, q1]) (by rw [h1.2.2, h2.2.2]; grind)
  · rcases hd with z | ⟨z1, z2⟩
    · exact absurd z c
    have h1 := low_num (D := d) (p := k * p) (q := k * q) (s := k * s) (d := d) ks (.inr ⟨rfl, z1, c, z2⟩)
    have h2 := low_num (D := d) (p := p) (q := q) (s := s) (d := d) s0 (.inr ⟨rfl, z1, c, z2⟩)
    exact NumD.ext h1.1 h2.1 (by rw [h1.2.1, h2.2.1, q1]) (by rw [h1.2.2, h2.2.2, q1])
/-- a root by the square part of the product -/
theorem rof_eq {a b l : Int} {f : Nat} (a0 : a ≠ 0) (b0 : b ≠ 0) (ab : a.natAbs ≤ 1000000) (bb : b.natAbs ≤ 1000000) (h : (f : Int) * f * l = a * b) (f1 : 1 ≤ f) (l0 : l ≠ 0) (hl : SqF l.natAbs) : rofU a b = lowN 0 f (b.natAbs : Int) l := by
  unfold rofU
  rw [if_neg a0]
  obtain ⟨g, t, s, g0, eg, e1, e2, e3, e4, s0, tb, sb⟩ := gcd_fdiv (a := a) b0
  rw [eg, e3, e4, abs_nat]
  have t0 : t ≠ 0 := fun z => a0 (by rw [e1, z, Int.mul_zero])
  have ts0 : t * s ≠ 0 := Int.mul_ne_zero t0 s0
  have tsb : (t * s).natAbs ≤ 1000000000000 := by
    rw [Int.natAbs_mul]
    have : t.natAbs * s.natAbs ≤ 1000000 * 1000000 := Nat.mul_le_mul (by omega) (by omega)
    omega
  obtain ⟨f', m, e, hfm, f1', m1, hm⟩ := sqs_ok (n := (t * s).natAbs) (by omega) (by omega)
  -- f = g f', |l| = m
  have e5 : f * f * l.natAbs = (g.natAbs * f') * (g.natAbs * f') * m := by
    have h1 : f * f * l.natAbs = (a * b).natAbs := by rw [← h, Int.natAbs_mul, Int.natAbs_mul, Int.natAbs_natCast]
    rw [h1, e1, e2, show g * t * (g * s) = g * g * (t * s) by grind, Int.natAbs_mul, Int.natAbs_mul, ← hfm]
    grind
  obtain ⟨ef, em⟩ := sq_unique e5 hl hm f1
  have mb : m ≤ 1000000000000 := by
    have : 1 * m ≤ f' * f' * m := Nat.mul_le_mul_right _ (Nat.mul_pos f1' f1')
    omega
  -- the sign
  have hts : (f' : Int) * f' * (if t * s < 0 then -(m : Int) else (m : Int)) = t * s := by
    have e6 : ((f' * f' * m : Nat) : Int) = ((t * s).natAbs : Int) := by rw [hfm]
    rw [Int.natCast_mul, Int.natCast_mul] at e6
    split
    · rw [Int.mul_neg, e6]
      omega
    · rw [e6]
      omega
  have gg : (0 : Int) < g * g := Int.mul_pos g0 g0
  have el : (if t * s < 0 then -(m : Int) else (m : Int)) = l := by
    have e7 : (f : Int) * f * l = g * g * (t * s) := by
      rw [h, e1, e2]
      grind
    have ff : (0 : Int) < (f : Int) * f := Int.mul_pos (by omega) (by omega)
    split
    · rename_i c
      have : l < 0 := by
        rcases Int.lt_or_le l 0 with z | z
        · exact z
        · have h1 := Int.mul_nonneg (Int.le_of_lt ff) z
          have h2 := Int.mul_neg_of_pos_of_neg gg c
          omega
      omega
    · rename_i c
      have : 0 ≤ l := by
        rcases Int.lt_or_le l 0 with z | z
        · have h1 := Int.mul_neg_of_pos_of_neg ff z
          have h2 := Int.mul_nonneg (Int.le_of_lt gg) (show 0 ≤ t * s by omega)
          omega
        · exact z
      omega
  have sn : (s.natAbs : Int) ≠ 0 := by omega
  have em' : m = l.natAbs := em.symm
  rw [nof_eq sn ts0 (by omega) (h := by rw [← el]; exact hts) f1' l0 hl, Int.one_mul]
  have eb : (b.natAbs : Int) = g * (s.natAbs : Int) := by
    rw [e2, Int.natAbs_mul, Int.natCast_mul, Int.natAbs_of_nonneg (Int.le_of_lt g0)]
  have ef' : (f : Int) = g * (f' : Int) := by
    rw [ef, Int.natCast_mul, Int.natAbs_of_nonneg (Int.le_of_lt g0)]
  rw [eb, ef']
  have := low_scale (k := g) (p := 0) (q := (f' : Int)) (s := (s.natAbs : Int)) (d := l) g0 sn (by
    by_cases c : l = 1
    · exact .inl c
    · exact .inr ⟨l0, by omega⟩)
  rw [Int.mul_zero] at this
  exact this.symm
end T01
set_option Elab.async false
set_option linter.all false
set_option maxRecDepth 100000
set_option maxHeartbeats 8000000
set_option exponentiation.threshold 10000
--@reprX
namespace T01
open PySem PySem.Spec PyProof.Rows L2 XR DL
open PySem.XK (ExF)
def badT (ts : List U) : U := .tup [.str "bad", .tup ts, .bl true]
def okT (u : U) : U := .tup [.str "told", u]
/-- ints as they should be -/
inductive Good : List U → U → Prop
  | four {p q s d : Int} : s ≠ 0 → d ≠ 0 → Good [.int p, .int q, .int s, .int d] (nofU p q s d)
  | two {a b : Int} : b ≠ 0 → Good [.int a, .int b] (rofU a b)
inductive Small : List U → Prop
  | four {p q s d : Int} : Bd 300 p → Bd 300 q → Bd 300 s → d.natAbs < 1000000000000000 → Small [.int p, .int q, .int s, .int d]
  | two {a b : Int} : a.natAbs ≤ 1000000 → b.natAbs ≤ 1000000 → Small [.int a, .int b]
def isGood : List U → Bool
  | [.int _, .int _, .int s, .int d] => !decide (s = 0) && !decide (d = 0)
  | [.int _, .int b] => !decide (b = 0)
  | _ => false
def valT : List U → U
  | [.int p, .int q, .int s, .int d] => nofU p q s d
  | [.int a, .int b] => rofU a b
  | _ => .non
theorem good_cases {ts : List U} (h : isGood ts = true) : (∃ p q s d : Int, ts = [.int p, .int q, .int s, .int d] ∧ s ≠ 0 ∧ d ≠ 0) ∨ ∃ a b : Int, ts = [.int a, .int b] ∧ b ≠ 0 := by
  unfold isGood at h
  split at h
  · rename_i p q s d
    simp only [Bool.and_eq_true, Bool.not_eq_true', decide_eq_false_iff_not] at h
    exact .inl ⟨p, q, s, d, rfl, h.1, h.2⟩
  · rename_i a b
    simp only [Bool.not_eq_true', decide_eq_false_iff_not] at h
    exact .inr ⟨a, b, rfl, h⟩
  · cases h
section
variable {P : Program} {w : World} {K : PySem.W.Frag} {mg : Str → Option Value} {base : Heap}
theorem sc__law_asked : FnScope ["some", "way", "e", "p", "q", "s", "d"] ["some", "way"] (defScope s__law_asked) := ⟨rfl, rfl, rfl, by decide +kernel, rfl, by decide +kernel, by decide +kernel⟩
def sp_askT (P0 : Addr) : SpD := fun m us Q _ => ∃ (ts : List U) (way : Int), us = [.tup ts, .int way] ∧ isXs ts = true ∧ (ts.length = 2 ∨ ts.length = 4) ∧ P0 ∈ m.tabs ∧ (isGood ts = true → Small ts) ∧ (isGood ts = false → Q (badT ts)) ∧ (isGood ts = true → Q (okT (valT ts)))
theorem rv4_same (a b c d : U) : rv4 [d, c, b, a] = [a, b, c, d] := rfl
theorem ok__law_asked {a a1 a2 : Addr} {fd fd1 fd2 : FuncData} {P0 CB CS fB : Addr} (D : DL.Def K mg "_law_asked" s__law_asked a fd) (D_number_of : DL.Def K mg "number_of" s_number_of a1 fd1) (G_number_of : Fd P w K mg base 3 a1 fd1 ["p", "q", "s", "d"] (sp_number_of P0 CB)) (D_root_of : DL.Def K mg "root_of" s_root_of a2 fd2) (G_root_of : Fd P w K mg base 4 a2 fd2 ["top", "bottom"] (sp_root_of P0 CB))
    (xBadNumber : ExF K CB fB) (gBadNumber : mg "BadNumber" = some (.ref CB)) (gStepError : mg "StepError" = some (.ref CS)) (i_BadNumber_StepError : PySem.W.kitOne K (.ref CB) (.ref CS) = some true) (m_BadNumber_BadNumber : PySem.W.exmOne K (.ref CB) (.ref CB) = some true)
    (gisi : mg "isinstance" = none) (glen : mg "len" = none) : Fd P w K mg base 6 a fd ["some", "way"] (sp_askT P0) := by
  have b_number_of : Binds K fd1 ["p", "q", "s", "d"] [] := D_number_of.F.binds fun _ _ _ _ _ _ us hl => match us, hl with | [_, _, _, _], _ => rfl
  have k_number_of : KBd K fd1 ["p", "q", "s", "d"] ["d", "s", "q", "p"] 4 rv4 := kbd_of D_number_of.F (fun _ _ _ _ _ _ us hl => match us, hl with | [_, _, _, _], _ => rfl) rv4_vals rv4_rel
  have b_root_of : Binds K fd2 ["top", "bottom"] [] := D_root_of.F.binds fun _ _ _ _ _ _ us hl => match us, hl with | [_, _], _ => rfl
  have k_root_of : KBd K fd2 ["top", "bottom"] ["bottom", "top"] 2 sw2 := kbd_of D_root_of.F (fun _ _ _ _ _ _ us hl => match us, hl with | [_, _], _ => rfl) sw2_vals sw2_rel
  refine fd_of D.F sc__law_asked (fun m us Q Z h => ?_) (fun cdv A outer s H E m us Qd Zd hr hG tk h => ?_)
  · obtain ⟨_, _, rfl, _⟩ := h
    rfl
  · obtain ⟨ts, way, rfl, hx, hl, hP, hs, kb, kt⟩ := h
    have hu := hr.units
    have two : 2 ≤ sizeLine := le_line (by decide)
    refine ⟨_, (dss_one (ds_try (i := 2) (n := "e") (l := [(.ref CB, tsIs1 K 2 "bad" CS)]) rfl rfl sc__law_asked.nd rfl rfl tk (fun W' pn xe tk _ => (dss_cons (ds_if (dt_eq hu (de_callB cal_len (pe_callB call_len_seq (by rfl) glen PySem.boot_len (da_cons (de_var (pv 0)) da_nil))) de_int) (dss_one (ds_ret (de_tup (da_cons de_str (da_cons (de_if (dt_eq hu (de_var (pv 1)) de_int) (de_call G_root_of (hr.mono (by decide)) hG tk (by rfl) D_root_of.g D_root_of.F.kp b_root_of (da_cons (de_ix (de_var (pv 0)) de_int (fun _ _ => rfl)) (da_cons (de_ix (de_var (pv 0)) de_int (fun _ _ => rfl)) da_nil))) (de_callK G_root_of (hr.mono (by decide)) hG tk (by rfl) D_root_of.g D_root_of.F.kp k_root_of (dk_cons (de_ix (de_var (pv 0)) de_int (fun _ _ => rfl)) (dk_cons (de_ix (de_var (pv 0)) de_int (fun _ _ => rfl)) dk_nil)))) da_nil))))) dss_nil)
    (dss_cons (ds_asg (de_var (pv 0)) (dg_tup (n := 4) rfl (dgs_cons (dg_name (pg_name (i := 3) sc__law_asked.nd rfl (.inl rfl))) (dgs_cons (dg_name (pg_name (i := 4) sc__law_asked.nd rfl (.inl rfl))) (dgs_cons (dg_name (pg_name (i := 5) sc__law_asked.nd rfl (.inl rfl))) (dgs_cons (dg_name (pg_name (i := 6) sc__law_asked.nd rfl (.inl rfl))) dgs_nil))))))
    (dss_one (ds_ret (de_tup (da_cons de_str (da_cons (de_if (dt_eq hu (de_var (pv 1)) de_int) (de_call G_number_of (hr.mono (by decide)) hG tk (by rfl) D_number_of.g D_number_of.F.kp b_number_of (da_cons (de_var (pv 3)) (da_cons (de_var (pv 4)) (da_cons (de_var (pv 5)) (da_cons (de_var (pv 6)) da_nil))))) (de_callK G_number_of (hr.mono (by decide)) hG tk (by rfl) D_number_of.g D_number_of.F.kp k_number_of (dk_cons (de_var (pv 6)) (dk_cons (de_var (pv 5)) (dk_cons (de_var (pv 4)) (dk_cons (de_var (pv 3)) dk_nil)))))) da_nil)))))))) (HdA.cons ⟨rfl, by decide, .inl gBadNumber⟩ (fun a oe cls d pn hz hf nB => pss_one (ps_ret (pe_tup (pa_cons pe_str (pa_cons (pe_sf hz hf (pv 2)) (pa_cons (pe_callB (call_isS hz hf) (by rfl) gisi (by decide +kernel) (pa_cons (pv 2) (pa_cons (pe_glob (by rfl) gStepError rfl) pa_nil))) pa_nil)))))) HdA.nil) (HdD.cons (hrd_is1 xBadNumber i_BadNumber_StepError) HdD.nil))), ?_⟩
    simp only [dTry, dHd]
    simp (config := { maxSteps := 1000000 }) only [dSeq, dIfS, dTest, dOp, dUn, dVar, dC, dTup, dLst, dNil, dCons, dRet, dRetN, dDrop, dSet, dPar, dAsg, dgTup, dgCons, dgNil, dgName, dCB, dNext, dIf, dAnd, dOr, dNot, dNotV, dAndV, dOrV, dCall, dCallK, dRaise, dAug, dSl, dPart, dNoPart, startU_eq, List.map_cons, List.map_nil, List.cons_append, List.nil_append, List.length_cons, List.length_nil, List.replicate, List.getElem?_cons_zero, List.getElem?_cons_succ, List.getElem?_nil, List.set_cons_zero, List.set_cons_succ, Nat.reduceAdd, Nat.reduceSub, ex_uu, ex_bl, ex_tup, ex_lst, ex_int, ex_cons, ex_two, gEq_int, gNe_int, gEq_p2, gNe_p2, gEq_str, ixp0, ixp1, plus_int, star_int, gI_int, gIC_int, ix0, ix1, ix2, ix3, fGcd_int, fIsq_int, fAbs_int, fInt_int, fLen_tup, fLen_lst, fMax2_int, gNeg_int, gFdv, gMod, DL.gSub, gPow, gLt, gLe, gGt, gGe, eq_self, decide_eq_true_eq, Bool.not_eq_true', decide_eq_false_iff_not, true_and, and_true, if_true, if_false, Bool.false_eq_true, Bool.not_true, Bool.not_false]
    have hm := isXs_mem hx
    have hb : ∀ x, Qd (.tup [.str "bad", x, .bl true]) → (fun (C : Addr) (x : U) => 2 < 7 ∧ ∃ b, PySem.W.exmOne K (.ref C) (.ref CB) = some b ∧ (b = true → C = CB ∧ Qd (.tup [.str "bad", x, .bl true])) ∧ (b = false → Zd C x)) CB x := fun x hx =>
      ⟨by decide, true, m_BadNumber_BadNumber, fun _ => ⟨rfl, hx⟩, fun z => nomatch z⟩
    rcases hl with hl | hl
    · rw [if_pos (by rw [hl]; rfl)]
      match ts, hl with
      | [x, y], _ =>
        have go : sp_root_of P0 CB m [x, y] (fun v => 2 ≤ sizeLine ∧ Qd (okT v)) (fun C u => 2 < 7 ∧ ∃ b, PySem.W.exmOne K (.ref C) (.ref CB) = some b ∧ (b = true → C = CB ∧ Qd (.tup [.str "bad", u, .bl true])) ∧ (b = false → Zd C u)) := by
          refine ⟨x, y, rfl, hm x (by simp), hm y (by simp), hP, fun h => hb _ (kb ?_), fun p q e1 e2 q0 => ?_⟩
          · cases e : isGood [x, y] with
            | false => rfl
            | true =>
              rcases good_cases e with ⟨_, _, _, _, z, _⟩ | ⟨p, q, z, q0⟩
              · simp at z
              · simp only [List.cons.injEq, and_true] at z
                exact absurd (h p q z.1 z.2) q0
          · subst e1 e2
            have g : isGood [.int p, .int q] = true := by
              show (!decide (q = 0)) = true
              rw [decide_eq_false q0]
              rfl
            cases hs g with
            | two h1 h2 => exact ⟨by omega, by omega, two, kt g⟩
        have i0 : ∀ Q : U → Prop, gIx (.tup [x, y]) (.int 0) Q ↔ Q x := fun Q => ix_tup_at _ _ _ _ rfl
        have i1 : ∀ Q : U → Prop, gIx (.tup [x, y]) (.int 1) Q ↔ Q y := fun Q => ix_tup_at _ _ _ _ rfl
        split
        · exact (i0 _).mpr ((i1 _).mpr go)
        · exact (i1 _).mpr ((i0 _).mpr go)
    · rw [if_neg (by omega)]
      match ts, hl with
      | [x, y, z, t], _ =>
        have go : sp_number_of P0 CB m [x, y, z, t] (fun v => 2 ≤ sizeLine ∧ Qd (okT v)) (fun C u => 2 < 7 ∧ ∃ b, PySem.W.exmOne K (.ref C) (.ref CB) = some b ∧ (b = true → C = CB ∧ Qd (.tup [.str "bad", u, .bl true])) ∧ (b = false → Zd C u)) := by
          refine ⟨x, y, z, t, rfl, hm x (by simp), hm y (by simp), hm z (by simp), hm t (by simp), hP, fun h => hb _ (kb ?_), fun p q s d e1 e2 e3 e4 s0 d0 => ?_⟩
          · cases e : isGood [x, y, z, t] with
            | false => rfl
            | true =>
              rcases good_cases e with ⟨p, q, s, d, z, s0, d0⟩ | ⟨_, _, z, _⟩
              · simp only [List.cons.injEq, and_true] at z
                rcases h p q s d z.1 z.2.1 z.2.2.1 z.2.2.2 with c | c
                · exact absurd c s0
                · exact absurd c d0
              · simp at z
          · subst e1 e2 e3 e4
            have g : isGood [.int p, .int q, .int s, .int d] = true := by
              show (!decide (s = 0) && !decide (d = 0)) = true
              rw [decide_eq_false s0, decide_eq_false d0]
              rfl
            cases hs g with
            | four h1 h2 h3 h4 => exact ⟨h1, h2, h3, h4, two, kt g⟩
        refine ⟨rfl, _, _, rfl, _, _, rfl, _, _, rfl, _, _, rfl, rfl, ?_⟩
        split
        · exact go
        · exact go
theorem sc__law_due : FnScope ["some", "x", "d", "whole", "top", "bottom"] ["some"] (defScope s__law_due) := ⟨rfl, rfl, rfl, by decide +kernel, rfl, by decide +kernel, by decide +kernel⟩
def dueT (ts : List U) (Q : U → Prop) : Prop := (isGood ts = false → Q (badT ts)) ∧ (isGood ts = true → ∀ x, (Small ts → x = valT ts) → Q (okT x))
def sp_dueT : SpD := fun m us Q _ => ∃ ts : List U, us = [.tup ts] ∧ isXs ts = true ∧ ibUs ts = true ∧ (ts.length = 2 ∨ ts.length = 4) ∧ dueT ts Q
theorem rof_zero {b : Int} : rofU 0 b = n4 0 0 1 1 := by
  unfold rofU
  rw [if_pos rfl]
theorem ok__law_due {a a1 a2 a3 : Addr} {fd fd1 fd2 fd3 : FuncData} (D : DL.Def K mg "_law_due" s__law_due a fd) (D__law_is_integer : DL.Def K mg "_law_is_integer" s__law_is_integer a1 fd1) (G__law_is_integer : Fd P w K mg base 1 a1 fd1 ["thing"] sp_is_integer) (D__law_parted : DL.Def K mg "_law_parted" s__law_parted a2 fd2) (G__law_parted : Fd P w K mg base 1 a2 fd2 ["d"] sp_parted)
    (D__law_made : DL.Def K mg "_law_made" s__law_made a3 fd3) (G__law_made : Fd P w K mg base 2 a3 fd3 ["p", "q", "s", "d"] sp__law_made) (glen : mg "len" = none) (gabs : mg "abs" = none) : Fd P w K mg base 3 a fd ["some"] sp_dueT := by
  have b__law_is_integer : Binds K fd1 ["thing"] [] := D__law_is_integer.F.binds fun _ _ _ _ _ _ us hl => match us, hl with | [_], _ => rfl
  have b__law_parted : Binds K fd2 ["d"] [] := D__law_parted.F.binds fun _ _ _ _ _ _ us hl => match us, hl with | [_], _ => rfl
  have b__law_made : Binds K fd3 ["p", "q", "s", "d"] [] := D__law_made.F.binds fun _ _ _ _ _ _ us hl => match us, hl with | [_, _, _, _], _ => rfl
  refine fd_of D.F sc__law_due (fun m us Q Z h => ?_) (fun cdv A outer s H E m us Qd Zd hr hG tk h => ?_)
  · obtain ⟨_, rfl, _⟩ := h
    rfl
  · obtain ⟨ts, rfl, hx, hi, hl, kb, kt⟩ := h
    have hu := hr.units
    have two : 2 ≤ sizeLine := le_line (by decide)
    have three : 3 ≤ sizeLine := le_line (by decide)
    have four : 4 ≤ sizeLine := le_line (by decide)
    have hm := isXs_mem hx
    have hib := ibUs_all.mp hi
    refine ⟨_, (dss_cons (ds_if (L2.PW.pt (dw_or (dt_ne hu (PE.weak (pe_lc (own := [("x", 1)]) (g := (gName 1)) rfl sc__law_due.nd (di_tup (de_var (pv 0))) (blkOk_by (own := [("x", 1)]) (N := ["some", "x", "d", "whole", "top", "bottom"]) (sc := defScope s__law_due) (by decide +kernel)) (fun _ _ _ _ _ => pg_name (i := 1) sc__law_due.nd rfl (.inl rfl)) (fun _ _ _ _ _ => pts_one (dt_not (dt_val (de_call G__law_is_integer (hr.mono (by decide)) hG noW_takes (by rfl) D__law_is_integer.g D__law_is_integer.F.kp b__law_is_integer (da_cons (de_var (pv 1)) da_nil))))) (fun _ _ _ _ _ => de_int)) (t_lc (tg_name 1))) (de_lst da_nil)) (dw_or (dt_eq hu (de_ix (de_var (pv 0)) (de_neg de_int) (fun _ _ => rfl)) de_int) (dw_or1 (L2.PW.pt (dw_and (dt_eq hu (de_callB cal_len (pe_callB call_len_seq (by rfl) glen PySem.boot_len (da_cons (de_var (pv 0)) da_nil))) de_int) (dw_and1 (dt_eq hu (de_ix (de_var (pv 0)) de_int (fun _ _ => rfl)) de_int)))))))) (dss_one (ds_ret (de_tup (da_cons de_str (da_cons (de_var (pv 0)) (da_cons de_bl da_nil)))))) dss_nil)
    (dss_cons (ds_if (dt_eq hu (de_callB cal_len (pe_callB call_len_seq (by rfl) glen PySem.boot_len (da_cons (de_var (pv 0)) da_nil))) de_int) (dss_cons (ds_asg (de_call G__law_parted (hr.mono (by decide)) hG tk (by rfl) D__law_parted.g D__law_parted.F.kp b__law_parted (da_cons (de_ix (de_var (pv 0)) de_int (fun _ _ => rfl)) da_nil)) (dg_tup (n := 2) rfl (dgs_cons (dg_name (pg_name (i := 2) sc__law_due.nd rfl (.inl rfl))) (dgs_cons (dg_name (pg_name (i := 3) sc__law_due.nd rfl (.inl rfl))) dgs_nil))))
    (dss_one (ds_ret (de_tup (da_cons de_str (da_cons (de_call G__law_made (hr.mono (by decide)) hG tk (by rfl) D__law_made.g D__law_made.F.kp b__law_made (da_cons (de_ix (de_var (pv 0)) de_int (fun _ _ => rfl)) (da_cons (de_star (de_ix (de_var (pv 0)) de_int (fun _ _ => rfl)) (de_var (pv 3))) (da_cons (de_ix (de_var (pv 0)) de_int (fun _ _ => rfl)) (da_cons (de_var (pv 2)) da_nil))))) da_nil)))))) dss_nil)
    (dss_cons (ds_asg (de_var (pv 0)) (dg_tup (n := 2) rfl (dgs_cons (dg_name (pg_name (i := 4) sc__law_due.nd rfl (.inl rfl))) (dgs_cons (dg_name (pg_name (i := 5) sc__law_due.nd rfl (.inl rfl))) dgs_nil))))
    (dss_cons (ds_if (dt_eq hu (de_var (pv 4)) de_int) (dss_one (ds_ret (de_tup (da_cons de_str (da_cons (de_tup (da_cons de_int (da_cons de_int (da_cons de_int (da_cons de_int da_nil))))) da_nil))))) dss_nil)
    (dss_cons (ds_asg (de_call G__law_parted (hr.mono (by decide)) hG tk (by rfl) D__law_parted.g D__law_parted.F.kp b__law_parted (da_cons (de_star (de_var (pv 4)) (de_var (pv 5))) da_nil)) (dg_tup (n := 2) rfl (dgs_cons (dg_name (pg_name (i := 2) sc__law_due.nd rfl (.inl rfl))) (dgs_cons (dg_name (pg_name (i := 3) sc__law_due.nd rfl (.inl rfl))) dgs_nil))))
    (dss_one (ds_ret (de_tup (da_cons de_str (da_cons (de_call G__law_made (hr.mono (by decide)) hG tk (by rfl) D__law_made.g D__law_made.F.kp b__law_made (da_cons de_int (da_cons (de_var (pv 3)) (da_cons (de_callB cal_abs (pe_callB call_abs (by rfl) gabs PyProof.Rows.boot_abs (da_cons (de_var (pv 5)) da_nil))) (da_cons (de_var (pv 2)) da_nil))))) da_nil)))))))))), ?_⟩
    refine dIfS_gen (fun c => c = !isGood ts) ?_ ?_ ?_
    · intro Q hQ
      simp only [dOr, dTest, dOp, dAnd]
      simp (config := { maxSteps := 1000000 }) only [dSeq, dIfS, dTest, dOp, dUn, dVar, dC, dTup, dLst, dNil, dCons, dRet, dRetN, dDrop, dSet, dPar, dAsg, dgTup, dgCons, dgNil, dgName, dCB, dNext, dIf, dAnd, dOr, dNot, dNotV, dAndV, dOrV, dCall, dCallK, dRaise, dAug, dSl, dPart, dNoPart, startU_eq, List.map_cons, List.map_nil, List.cons_append, List.nil_append, List.length_cons, List.length_nil, List.replicate, List.getElem?_cons_zero, List.getElem?_cons_succ, List.getElem?_nil, List.set_cons_zero, List.set_cons_succ, Nat.reduceAdd, Nat.reduceSub, ex_uu, ex_bl, ex_tup, ex_lst, ex_int, ex_cons, ex_two, gEq_int, gNe_int, gEq_p2, gNe_p2, gEq_str, ixp0, ixp1, plus_int, star_int, gI_int, gIC_int, ix0, ix1, ix2, ix3, fGcd_int, fIsq_int, fAbs_int, fInt_int, fLen_tup, fLen_lst, fMax2_int, gNeg_int, gFdv, gMod, DL.gSub, gPow, gLt, gLe, gGt, gGe, eq_self, decide_eq_true_eq, Bool.not_eq_true', decide_eq_false_iff_not, true_and, and_true, if_true, if_false, Bool.false_eq_true, Bool.not_true, Bool.not_false]
      simp only [dLc, dItT]
      simp (config := { maxSteps := 1000000 }) only [dSeq, dIfS, dTest, dOp, dUn, dVar, dC, dTup, dLst, dNil, dCons, dRet, dRetN, dDrop, dSet, dPar, dAsg, dgTup, dgCons, dgNil, dgName, dCB, dNext, dIf, dAnd, dOr, dNot, dNotV, dAndV, dOrV, dCall, dCallK, dRaise, dAug, dSl, dPart, dNoPart, startU_eq, List.map_cons, List.map_nil, List.cons_append, List.nil_append, List.length_cons, List.length_nil, List.replicate, List.getElem?_cons_zero, List.getElem?_cons_succ, List.getElem?_nil, List.set_cons_zero, List.set_cons_succ, Nat.reduceAdd, Nat.reduceSub, ex_uu, ex_bl, ex_tup, ex_lst, ex_int, ex_cons, ex_two, gEq_int, gNe_int, gEq_p2, gNe_p2, gEq_str, ixp0, ixp1, plus_int, star_int, gI_int, gIC_int, ix0, ix1, ix2, ix3, fGcd_int, fIsq_int, fAbs_int, fInt_int, fLen_tup, fLen_lst, fMax2_int, gNeg_int, gFdv, gMod, DL.gSub, gPow, gLt, gLe, gGt, gGe, eq_self, decide_eq_true_eq, Bool.not_eq_true', decide_eq_false_iff_not, true_and, and_true, if_true, if_false, Bool.false_eq_true, Bool.not_true, Bool.not_false]
      refine ⟨le_line (by omega), fun i acc => (∀ v ∈ acc, v = .int 1) ∧ (acc = [] ↔ (ts.take i).all isIntU = true), ⟨(fun v hv => nomatch hv), by rw [List.take_zero]; simp⟩, ?_, ?_⟩
      · rintro B i v acc hi ⟨ha, hb⟩
        have hv := List.mem_of_getElem? hi
        refine ⟨_, rfl, ?_⟩
        simp only [dNot, dTest, dCall, dCons, dVar, dNil, dC]
        refine ⟨_, rfl, v, rfl, isX_raw (hm v hv), _, rfl, ?_⟩
        have et : (ts.take (i + 1)).all isIntU = ((ts.take i).all isIntU && isIntU v) := by
          rw [take_succ' hi, List.all_append, List.all_cons, List.all_nil, Bool.and_true]
        cases hiv : isIntU v with
        | true =>
          rw [if_neg (fun z => Bool.noConfusion z)]
          refine ⟨ha, ?_⟩
          rw [et, hiv, Bool.and_true]
          exact hb
        | false =>
          rw [if_pos rfl]
          refine ⟨fun x hx => ?_, ?_⟩
          · rcases List.mem_append.mp hx with z | z
            · exact ha x z
            · exact List.mem_singleton.mp z
          · rw [et, hiv, Bool.and_false]
            simp
      · rintro acc ⟨ha, hb⟩
        rw [List.take_length] at hb
        refine ⟨Nat.zero_le _, flat_ones ha, rfl, _, rfl, ?_⟩
        rw [ueq_lnil]
        have notI : ts.all isIntU = false → isGood ts = false := fun e => by
          cases g : isGood ts with
          | false => rfl
          | true =>
            rcases good_cases g with ⟨p, q, s, d, rfl, _⟩ | ⟨a, b, rfl, _⟩
            · cases e
            · cases e
        cases acc with
        | cons x acc =>
          have e : ts.all isIntU = false := by
            cases e : ts.all isIntU with
            | false => rfl
            | true => exact absurd (hb.mpr e) (by simp)
          rw [show (List.isEmpty (x :: acc)) = false from rfl, if_pos (show (!false) = true from rfl)]
          refine hQ _ ?_
          rw [notI e]
          rfl
        | nil =>
          rw [show (List.isEmpty ([] : List U)) = true from rfl, if_neg (show ¬ (!true) = true from (fun z => Bool.noConfusion z))]
          have hall := hb.mp rfl
          rcases hl with hl | hl
          · match ts, hl, hall with
            | [x, y], _, hall =>
              simp only [List.all_cons, List.all_nil, Bool.and_true, Bool.and_eq_true] at hall
              obtain ⟨p, rfl⟩ := isInt_of hall.1
              obtain ⟨q, rfl⟩ := isInt_of hall.2
              refine (ix_tup_at _ _ _ (.int q) rfl).mpr ((gEq_int _ _ _).mpr ⟨_, rfl, ?_⟩)
              by_cases c : q = 0
              · rw [decide_eq_true c, if_pos rfl]
                refine hQ _ ?_
                show true = !(!decide (q = 0))
                rw [decide_eq_true c]
                rfl
              · rw [decide_eq_false c, if_neg (fun z => Bool.noConfusion z)]
                rw [if_neg (by show ¬ ((2 : Nat) : Int) = 4; decide)]
                refine hQ _ ?_
                show false = !(!decide (q = 0))
                rw [decide_eq_false c]
                rfl
          · obtain ⟨p, q, s, d, rfl⟩ := ints4 hl hall
            refine (ix_tup_at _ _ _ (.int d) rfl).mpr ((gEq_int _ _ _).mpr ⟨_, rfl, ?_⟩)
            by_cases c : d = 0
            · rw [decide_eq_true c, if_pos rfl]
              refine hQ _ ?_
              show true = !(!decide (s = 0) && !decide (d = 0))
              rw [decide_eq_true c]
              simp
            · rw [decide_eq_false c, if_neg (fun z => Bool.noConfusion z)]
              rw [if_pos (by show ((4 : Nat) : Int) = 4; rfl)]
              refine (ix_tup_at _ _ _ (.int s) rfl).mpr ((gEq_int _ _ _).mpr ⟨_, rfl, ?_⟩)
              refine hQ _ ?_
              show decide (s = 0) = !(!decide (s = 0) && !decide (d = 0))
              rw [decide_eq_false c]
              simp
    · intro hg
      have hg' : isGood ts = false := by
        cases e : isGood ts with
        | false => rfl
        | true => rw [e] at hg; cases hg
      simp (config := { maxSteps := 1000000 }) only [dSeq, dIfS, dTest, dOp, dUn, dVar, dC, dTup, dLst, dNil, dCons, dRet, dRetN, dDrop, dSet, dPar, dAsg, dgTup, dgCons, dgNil, dgName, dCB, dNext, dIf, dAnd, dOr, dNot, dNotV, dAndV, dOrV, dCall, dCallK, dRaise, dAug, dSl, dPart, dNoPart, startU_eq, List.map_cons, List.map_nil, List.cons_append, List.nil_append, List.length_cons, List.length_nil, List.replicate, List.getElem?_cons_zero, List.getElem?_cons_succ, List.getElem?_nil, List.set_cons_zero, List.set_cons_succ, Nat.reduceAdd, Nat.reduceSub, ex_uu, ex_bl, ex_tup, ex_lst, ex_int, ex_cons, ex_two, gEq_int, gNe_int, gEq_p2, gNe_p2, gEq_str, ixp0, ixp1, plus_int, star_int, gI_int, gIC_int, ix0, ix1, ix2, ix3, fGcd_int, fIsq_int, fAbs_int, fInt_int, fLen_tup, fLen_lst, fMax2_int, gNeg_int, gFdv, gMod, DL.gSub, gPow, gLt, gLe, gGt, gGe, eq_self, decide_eq_true_eq, Bool.not_eq_true', decide_eq_false_iff_not, true_and, and_true, if_true, if_false, Bool.false_eq_true, Bool.not_true, Bool.not_false]
      exact ⟨three, kb hg'⟩
    · intro hg
      have hg' : isGood ts = true := by
        cases e : isGood ts with
        | true => rfl
        | false => rw [e] at hg; cases hg
      have kt := kt hg'
      simp (config := { maxSteps := 1000000 }) only [dSeq, dIfS, dTest, dOp, dUn, dVar, dC, dTup, dLst, dNil, dCons, dRet, dRetN, dDrop, dSet, dPar, dAsg, dgTup, dgCons, dgNil, dgName, dCB, dNext, dIf, dAnd, dOr, dNot, dNotV, dAndV, dOrV, dCall, dCallK, dRaise, dAug, dSl, dPart, dNoPart, startU_eq, List.map_cons, List.map_nil, List.cons_append, List.nil_append, List.length_cons, List.length_nil, List.replicate, List.getElem?_cons_zero, List.getElem?_cons_succ, List.getElem?_nil, List.set_cons_zero, List.set_cons_succ, Nat.reduceAdd, Nat.reduceSub, ex_uu, ex_bl, ex_tup, ex_lst, ex_int, ex_cons, ex_two, gEq_int, gNe_int, gEq_p2, gNe_p2, gEq_str, ixp0, ixp1, plus_int, star_int, gI_int, gIC_int, ix0, ix1, ix2, ix3, fGcd_int, fIsq_int, fAbs_int, fInt_int, fLen_tup, fLen_lst, fMax2_int, gNeg_int, gFdv, gMod, DL.gSub, gPow, gLt, gLe, gGt, gGe, eq_self, decide_eq_true_eq, Bool.not_eq_true', decide_eq_false_iff_not, true_and, and_true, if_true, if_false, Bool.false_eq_true, Bool.not_true, Bool.not_false]
      rcases good_cases hg' with ⟨p, q, s, d, rfl, s0, d0⟩ | ⟨x, y, rfl, y0⟩
      · rw [if_pos (by show ((4 : Nat) : Int) = 4; rfl)]
        have bp : Bd 300 p := ib_int (hib _ (by simp))
        have bq : Bd 300 q := ib_int (hib (.int q) (by simp))
        have bs : Bd 300 s := ib_int (hib (.int s) (by simp))
        have bd : Bd 300 d := ib_int (hib (.int d) (by simp))
        refine (ix_tup_at _ _ _ (.int d) rfl).mpr ⟨d, rfl, d0, bd_up _ bd (by decide), fun l f e f1 l0 hsq => ?_⟩
        have bf : Bd 300 (f : Int) := by
          have e2 : f * f * l.natAbs = d.natAbs := by rw [← e, Int.natAbs_mul, Int.natAbs_mul, Int.natAbs_natCast]
          have h2 : f * 1 ≤ f * f := Nat.mul_le_mul_left _ f1
          have h3 : f * f * 1 ≤ f * f * l.natAbs := Nat.mul_le_mul_left _ (by omega)
          unfold Bd at bd ⊢
          rw [Int.natAbs_natCast]
          omega
        refine ⟨_, rfl, rfl, _, _, rfl, _, _, rfl, rfl, ?_⟩
        refine (ix_tup_at _ _ _ (.int p) rfl).mpr ((ix_tup_at _ _ _ (.int q) rfl).mpr ?_)
        refine (star_int q (f : Int) _).mpr ⟨mul_ok 300 300 bq bf (by decide) (by decide) (by decide), (ix_tup_at _ _ _ (.int s) rfl).mpr ⟨_, _, _, _, rfl, s0, bd_up _ bs (by decide), ?_⟩⟩
        rw [made_low _ _ _ _ s0]
        refine ⟨two, kt _ fun hs => ?_⟩
        cases hs with
        | four h1 h2 h3 h4 => exact (nof_eq s0 d0 h4 e f1 l0 hsq).symm
      · rw [if_neg (by show ¬ ((2 : Nat) : Int) = 4; decide)]
        have bx : Bd 300 x := ib_int (hib _ (by simp))
        have byy : Bd 300 y := ib_int (hib (.int y) (by simp))
        refine ⟨rfl, _, _, rfl, _, _, rfl, rfl, (gEq_int _ _ _).mpr ⟨_, rfl, ?_⟩⟩
        by_cases x0 : x = 0
        · rw [decide_eq_true x0, if_pos rfl]
          subst x0
          exact ⟨four, two, kt _ fun _ => rof_zero.symm⟩
        · rw [decide_eq_false x0, if_neg (fun z => Bool.noConfusion z)]
          have xy0 : x * y ≠ 0 := Int.mul_ne_zero x0 y0
          refine (star_int x y _).mpr ⟨mul_ok 300 300 bx byy (by decide) (by decide) (by decide), _, rfl, xy0, bd_up _ (bd_mul 300 300 bx byy) (by decide), fun l f e f1 l0 hsq => ?_⟩
          refine ⟨_, rfl, rfl, _, _, rfl, _, _, rfl, rfl, ?_⟩
          refine (fAbs_int y _).mpr ?_
          rw [abs_nat]
          have ya : (y.natAbs : Int) ≠ 0 := by omega
          refine ⟨_, _, _, _, rfl, ya, (show Bd 4000 (y.natAbs : Int) from by
            have := bd_up 4000 byy (by decide)
            unfold Bd at this ⊢
            rw [Int.natAbs_natCast]
            exact this), ?_⟩
          rw [made_low _ _ _ _ ya]
          refine ⟨two, kt _ fun hs => ?_⟩
          cases hs with
          | two h1 h2 => exact (rof_eq x0 y0 h1 h2 e f1 l0 hsq).symm
end
end T01
set_option Elab.async false
set_option linter.all false
set_option maxRecDepth 100000
set_option maxHeartbeats 8000000
set_option exponentiation.threshold 10000
--@reprX
namespace T01
open PySem PySem.Spec PyProof.Rows L2 XR DL
open PySem.XK (ExF)
theorem pickI {m : Mo} {d l : Addr} {F : U → Prop} {Z : XQ} (e : m.deck = some (d, l)) (is : List Int) (h : 0 < is.length ∧ is.length < 1000) (k : ∀ i ∈ is, F (.int i)) : sp_pick m [.raw (.ref d), .lst (is.map .int)] F Z :=
  ⟨d, l, _, e, rfl, by rw [List.length_map]; exact h.1, by rw [List.length_map]; exact h.2, fun u hu => by
    obtain ⟨i, hi, rfl⟩ := List.mem_map.mp hu
    exact k i hi⟩
theorem starB {x y : Int} {F : U → Prop} (hx : Bd 300 x) (hy : Bd 300 y) (h : F (.int (x * y))) : gStar (.int x) (.int y) F := (star_int x y F).mpr ⟨mul_ok 300 300 hx hy (by decide) (by decide) (by decide), h⟩
theorem plus1 {x : Int} {F : U → Prop} (h : F (.int (1 + x))) : gPlus (.int 1) (.int x) F := (plus_int 1 x F).mpr h
theorem nmul {x y : Int} {a b : Nat} (hx : x.natAbs ≤ a) (hy : y.natAbs ≤ b) : (x * y).natAbs ≤ a * b := by
  rw [Int.natAbs_mul]
  exact Nat.mul_le_mul hx hy
theorem bdn {x : Int} {n k : Nat} (h : x.natAbs ≤ n) (hn : n < 2 ^ k := by decide) : Bd k x := Nat.lt_of_le_of_lt h hn
section
variable {P : Program} {w : World} {K : PySem.W.Frag} {mg : Str → Option Value} {base : Heap}
theorem sc__law_wide : FnScope ["deck", "size", "p", "q", "s", "lean", "by", "more"] ["deck"] (defScope s__law_wide) := ⟨rfl, rfl, rfl, by decide +kernel, rfl, by decide +kernel, by decide +kernel⟩
def sp_wide : SpD := fun m us Q _ => ∃ (d l : Addr), m.deck = some (d, l) ∧ us = [.raw (.ref d)] ∧ ∀ p q s e : Int, Bd 110 p → Bd 110 q → Bd 110 s → s ≠ 0 → e ≠ 0 → e.natAbs ≤ 100000000 → Q (.tup [.int p, .int q, .int s, .int e])
theorem ok__law_wide {a a1 a2 a3 : Addr} {fd fd1 fd2 fd3 : FuncData} (D : DL.Def K mg "_law_wide" s__law_wide a fd) (D__law_pick : DL.Def K mg "_law_pick" s__law_pick a1 fd1) (G__law_pick : Fd P w K mg base 2 a1 fd1 ["deck", "some"] sp_pick)
    (D__law_great : DL.Def K mg "_law_great" s__law_great a2 fd2) (G__law_great : Fd P w K mg base 2 a2 fd2 ["deck", "many"] sp_great) (D__law_draw : DL.Def K mg "_law_draw" sDraw a3 fd3) (G__law_draw : Fd P w K mg base 1 a3 fd3 ["deck", "many"] sp_draw) : Fd P w K mg base 3 a fd ["deck"] sp_wide := by
  have b__law_pick : Binds K fd1 ["deck", "some"] [] := D__law_pick.F.binds fun _ _ _ _ _ _ us hl => match us, hl with | [_, _], _ => rfl
  have b__law_great : Binds K fd2 ["deck", "many"] [] := D__law_great.F.binds fun _ _ _ _ _ _ us hl => match us, hl with | [_, _], _ => rfl
  have b__law_draw : Binds K fd3 ["deck", "many"] [] := D__law_draw.F.binds fun _ _ _ _ _ _ us hl => match us, hl with | [_, _], _ => rfl
  refine fd_of D.F sc__law_wide (fun m us Q Z h => ?_) (fun cdv A outer s H E m us Qd Zd hr hG tk h => ?_)
  · obtain ⟨d, l, _, rfl, _⟩ := h
    rfl
  · obtain ⟨d, l, e, rfl, k⟩ := h
    have hu := hr.units
    refine ⟨_, (dss_cons (ds_set (i := 1) sc__law_wide.nd rfl (.inl rfl) (de_call G__law_pick (hr.mono (by decide)) hG tk (by rfl) D__law_pick.g D__law_pick.F.kp b__law_pick (da_cons (de_var (pv 0)) (da_cons (de_lst (da_cons de_int (da_cons de_int (da_cons de_int (da_cons (de_pow de_int de_int) (da_cons (de_pow de_int de_int) da_nil)))))) da_nil))))
    (dss_cons (ds_of_par (ps_par (i := 2) (j := 3) (by rfl) sc__law_wide.nd rfl rfl (by decide) rfl rfl (da_cons (de_star (de_call G__law_great (hr.mono (by decide)) hG tk (by rfl) D__law_great.g D__law_great.F.kp b__law_great (da_cons (de_var (pv 0)) (da_cons (de_var (pv 1)) da_nil))) (de_call G__law_pick (hr.mono (by decide)) hG tk (by rfl) D__law_pick.g D__law_pick.F.kp b__law_pick (da_cons (de_var (pv 0)) (da_cons (de_lst (da_cons de_int (da_cons (de_neg de_int) da_nil))) da_nil)))) (da_cons (de_star (de_call G__law_great (hr.mono (by decide)) hG tk (by rfl) D__law_great.g D__law_great.F.kp b__law_great (da_cons (de_var (pv 0)) (da_cons (de_var (pv 1)) da_nil))) (de_call G__law_pick (hr.mono (by decide)) hG tk (by rfl) D__law_pick.g D__law_pick.F.kp b__law_pick (da_cons (de_var (pv 0)) (da_cons (de_lst (da_cons de_int (da_cons (de_neg de_int) (da_cons de_int da_nil)))) da_nil)))) da_nil)) (by rfl)))
    (dss_cons (ds_set (i := 4) sc__law_wide.nd rfl (.inl rfl) (de_star (de_plus de_int (de_call G__law_great (hr.mono (by decide)) hG tk (by rfl) D__law_great.g D__law_great.F.kp b__law_great (da_cons (de_var (pv 0)) (da_cons (de_call G__law_pick (hr.mono (by decide)) hG tk (by rfl) D__law_pick.g D__law_pick.F.kp b__law_pick (da_cons (de_var (pv 0)) (da_cons (de_lst (da_cons de_int (da_cons de_int (da_cons de_int (da_cons (de_var (pv 1)) da_nil))))) da_nil))) da_nil)))) (de_call G__law_pick (hr.mono (by decide)) hG tk (by rfl) D__law_pick.g D__law_pick.F.kp b__law_pick (da_cons (de_var (pv 0)) (da_cons (de_lst (da_cons de_int (da_cons de_int (da_cons (de_neg de_int) da_nil)))) da_nil)))))
    (dss_cons (ds_of_par (ps_par (i := 5) (j := 6) (by rfl) sc__law_wide.nd rfl rfl (by decide) rfl rfl (da_cons (de_plus de_int (de_call G__law_draw (hr.mono (by decide)) hG tk (by rfl) D__law_draw.g D__law_draw.F.kp b__law_draw (da_cons (de_var (pv 0)) (da_cons (de_call G__law_pick (hr.mono (by decide)) hG tk (by rfl) D__law_pick.g D__law_pick.F.kp b__law_pick (da_cons (de_var (pv 0)) (da_cons (de_lst (da_cons de_int (da_cons de_int (da_cons de_int (da_cons (de_pow de_int de_int) da_nil))))) da_nil))) da_nil)))) (da_cons (de_plus de_int (de_call G__law_draw (hr.mono (by decide)) hG tk (by rfl) D__law_draw.g D__law_draw.F.kp b__law_draw (da_cons (de_var (pv 0)) (da_cons (de_call G__law_pick (hr.mono (by decide)) hG tk (by rfl) D__law_pick.g D__law_pick.F.kp b__law_pick (da_cons (de_var (pv 0)) (da_cons (de_lst (da_cons de_int (da_cons de_int (da_cons de_int da_nil)))) da_nil))) da_nil)))) da_nil)) (by rfl)))
    (dss_cons (ds_set (i := 7) sc__law_wide.nd rfl (.inl rfl) (de_plus de_int (de_call G__law_draw (hr.mono (by decide)) hG tk (by rfl) D__law_draw.g D__law_draw.F.kp b__law_draw (da_cons (de_var (pv 0)) (da_cons de_int da_nil)))))
    (dss_one (ds_ret (de_tup (da_cons (de_star (de_var (pv 2)) (de_var (pv 7))) (da_cons (de_star (de_var (pv 3)) (de_var (pv 7))) (da_cons (de_star (de_var (pv 4)) (de_var (pv 7))) (da_cons (de_star (de_star (de_star (de_var (pv 5)) (de_var (pv 6))) (de_var (pv 6))) (de_call G__law_pick (hr.mono (by decide)) hG tk (by rfl) D__law_pick.g D__law_pick.F.kp b__law_pick (da_cons (de_var (pv 0)) (da_cons (de_lst (da_cons de_int (da_cons de_int (da_cons (de_neg de_int) da_nil)))) da_nil)))) da_nil)))))))))))), ?_⟩
    simp (config := { maxSteps := 1000000 }) only [dSeq, dIfS, dTest, dOp, dUn, dVar, dC, dTup, dLst, dNil, dCons, dRet, dRetN, dDrop, dSet, dPar, dAsg, dgTup, dgCons, dgNil, dgName, dCB, dNext, dIf, dAnd, dOr, dNot, dNotV, dAndV, dOrV, dCall, dCallK, dRaise, dAug, dSl, dPart, dNoPart, startU_eq, List.map_cons, List.map_nil, List.cons_append, List.nil_append, List.length_cons, List.length_nil, List.replicate, List.getElem?_cons_zero, List.getElem?_cons_succ, List.getElem?_nil, List.set_cons_zero, List.set_cons_succ, Nat.reduceAdd, Nat.reduceSub, ex_uu, ex_bl, ex_tup, ex_lst, ex_int, ex_cons, ex_two, gEq_int, gNe_int, gEq_p2, gNe_p2, gEq_str, ixp0, ixp1, plus_int, star_int, gI_int, gIC_int, ix0, ix1, ix2, ix3, fGcd_int, fIsq_int, fAbs_int, fInt_int, fLen_tup, fLen_lst, fMax2_int, gNeg_int, gFdv, gMod, DL.gSub, gPow, gLt, gLe, gGt, gGe, eq_self, decide_eq_true_eq, Bool.not_eq_true', decide_eq_false_iff_not, true_and, and_true, if_true, if_false, Bool.false_eq_true, Bool.not_true, Bool.not_false]
    have two : 2 ≤ sizeLine := le_line (by decide)
    have three : 3 ≤ sizeLine := le_line (by decide)
    have four : 4 ≤ sizeLine := le_line (by decide)
    have five : 5 ≤ sizeLine := le_line (by decide)
    have cp8 : CPow 10 8 := ⟨by decide, by decide, by decide⟩
    have cp29 : CPow 10 29 := ⟨by decide, by decide, by decide⟩
    have cp4 : CPow 10 4 := ⟨by decide, by decide, by decide⟩
    refine ⟨cp8, cp29, five, pickI e [9, 9, 100, 10 ^ Int.toNat 8, 10 ^ Int.toNat 29] (by decide) fun size hs => ?_⟩
    have bs : 1 ≤ size ∧ size ≤ 100000000000000000000000000000 := (by decide : ∀ i ∈ [(9 : Int), 9, 100, 10 ^ Int.toNat 8, 10 ^ Int.toNat 29], 1 ≤ i ∧ i ≤ 100000000000000000000000000000) size hs
    have bsz : Bd 400 size := bdn (n := 100000000000000000000000000000) (by omega)
    refine ⟨d, l, _, e, rfl, by omega, bsz, fun p p0 p1 => ⟨two, pickI e [1, -1] (by decide) fun g hg => ?_⟩⟩
    have g1 : g.natAbs ≤ 1 := (by decide : ∀ i ∈ [(1 : Int), -1], i.natAbs ≤ 1) g hg
    have pb : p.natAbs ≤ 100000000000000000000000000000 := by omega
    refine starB (bdn pb) (bdn g1) ?_
    refine ⟨d, l, _, e, rfl, by omega, bsz, fun q q0 q1 => ⟨three, pickI e [1, -1, 0] (by decide) fun h hh => ?_⟩⟩
    have h1 : h.natAbs ≤ 1 := (by decide : ∀ i ∈ [(1 : Int), -1, 0], i.natAbs ≤ 1) h hh
    have qb : q.natAbs ≤ 100000000000000000000000000000 := by omega
    refine starB (bdn qb) (bdn h1) ?_
    refine ⟨four, pickI e [1, 3, 12, size] ⟨by show 0 < 4; decide, by show 4 < 1000; decide⟩ fun t ht => ?_⟩
    have bt : 1 ≤ t ∧ t ≤ 100000000000000000000000000000 := by
      simp only [List.mem_cons, List.not_mem_nil, or_false] at ht
      omega
    refine ⟨d, l, _, e, rfl, by omega, bdn (n := 100000000000000000000000000000) (by omega), fun r r0 r1 => plus1 ⟨three, pickI e [1, 1, -1] (by decide) fun z hz => ?_⟩⟩
    have z1 : z.natAbs ≤ 1 ∧ z ≠ 0 := (by decide : ∀ i ∈ [(1 : Int), 1, -1], i.natAbs ≤ 1 ∧ i ≠ 0) z hz
    have rb : (1 + r).natAbs ≤ 100000000000000000000000000000 := by omega
    refine starB (bdn rb) (bdn z1.1) ?_
    refine ⟨cp4, four, pickI e [1, 9, 100, 10 ^ Int.toNat 4] (by decide) fun f hf => ?_⟩
    have bf : 1 ≤ f ∧ f ≤ 10000 := (by decide : ∀ i ∈ [(1 : Int), 9, 100, 10 ^ Int.toNat 4], 1 ≤ i ∧ i ≤ 10000) f hf
    refine ⟨d, l, f, e, rfl, by omega, by omega, fun lean l0 l1 => plus1 ⟨three, pickI e [1, 4, 100] (by decide) fun u hu' => ?_⟩⟩
    have bu : 1 ≤ u ∧ u ≤ 100 := (by decide : ∀ i ∈ [(1 : Int), 4, 100], 1 ≤ i ∧ i ≤ 100) u hu'
    refine ⟨d, l, u, e, rfl, by omega, by omega, fun y y0 y1 => plus1 ?_⟩
    refine ⟨d, l, 6, e, rfl, by decide, by decide, fun x x0 x1 => plus1 ?_⟩
    have xb : (1 + x).natAbs ≤ 6 := by omega
    have P1 := nmul pb g1
    have P2 := nmul P1 xb
    have Q1 := nmul qb h1
    have Q2 := nmul Q1 xb
    have R1 := nmul rb z1.1
    have R2 := nmul R1 xb
    have lb : (1 + lean).natAbs ≤ 10000 := by omega
    have yb : (1 + y).natAbs ≤ 100 := by omega
    have D1 := nmul lb yb
    have D2 := nmul D1 yb
    refine starB (bdn P1) (bdn xb) (starB (bdn Q1) (bdn xb) (starB (bdn R1) (bdn xb) ?_))
    refine starB (bdn lb) (bdn yb) (starB (bdn D1) (bdn yb) ⟨three, pickI e [1, 1, -1] (by decide) fun v hv => ?_⟩)
    have v1 : v.natAbs ≤ 1 ∧ v ≠ 0 := (by decide : ∀ i ∈ [(1 : Int), 1, -1], i.natAbs ≤ 1 ∧ i ≠ 0) v hv
    have D3 := nmul D2 v1.1
    refine starB (bdn D2) (bdn v1.1) ⟨four, k _ _ _ _ (bdn P2) (bdn Q2) (bdn R2) ?_ ?_ D3⟩
    · exact Int.mul_ne_zero (Int.mul_ne_zero (by omega) z1.2) (by omega)
    · exact Int.mul_ne_zero (Int.mul_ne_zero (Int.mul_ne_zero (by omega) (by omega)) (by omega)) v1.2
theorem sc__law_for_root : FnScope ["deck", "size", "by", "to"] ["deck"] (defScope s__law_for_root) := ⟨rfl, rfl, rfl, by decide +kernel, rfl, by decide +kernel, by decide +kernel⟩
def sp_for_root : SpD := fun m us Q _ => ∃ (d l : Addr), m.deck = some (d, l) ∧ us = [.raw (.ref d)] ∧ ∀ a b : Int, a.natAbs ≤ 1000000 → b.natAbs ≤ 1000000 → b ≠ 0 → Q (.tup [.int a, .int b])
theorem ok__law_for_root {a a1 a2 a3 : Addr} {fd fd1 fd2 fd3 : FuncData} (D : DL.Def K mg "_law_for_root" s__law_for_root a fd) (D__law_pick : DL.Def K mg "_law_pick" s__law_pick a1 fd1) (G__law_pick : Fd P w K mg base 2 a1 fd1 ["deck", "some"] sp_pick)
    (D__law_near : DL.Def K mg "_law_near" s__law_near a2 fd2) (G__law_near : Fd P w K mg base 2 a2 fd2 ["deck", "far"] sp_near) (D__law_draw : DL.Def K mg "_law_draw" sDraw a3 fd3) (G__law_draw : Fd P w K mg base 1 a3 fd3 ["deck", "many"] sp_draw) : Fd P w K mg base 3 a fd ["deck"] sp_for_root := by
  have b__law_pick : Binds K fd1 ["deck", "some"] [] := D__law_pick.F.binds fun _ _ _ _ _ _ us hl => match us, hl with | [_, _], _ => rfl
  have b__law_near : Binds K fd2 ["deck", "far"] [] := D__law_near.F.binds fun _ _ _ _ _ _ us hl => match us, hl with | [_, _], _ => rfl
  have b__law_draw : Binds K fd3 ["deck", "many"] [] := D__law_draw.F.binds fun _ _ _ _ _ _ us hl => match us, hl with | [_, _], _ => rfl
  refine fd_of D.F sc__law_for_root (fun m us Q Z h => ?_) (fun cdv A outer s H E m us Qd Zd hr hG tk h => ?_)
  · obtain ⟨d, l, _, rfl, _⟩ := h
    rfl
  · obtain ⟨d, l, e, rfl, k⟩ := h
    have hu := hr.units
    refine ⟨_, (dss_cons (ds_set (i := 1) sc__law_for_root.nd rfl (.inl rfl) (de_call G__law_pick (hr.mono (by decide)) hG tk (by rfl) D__law_pick.g D__law_pick.F.kp b__law_pick (da_cons (de_var (pv 0)) (da_cons (de_lst (da_cons de_int (da_cons de_int (da_cons de_int (da_cons de_int da_nil))))) da_nil))))
    (dss_cons (ds_of_par (ps_par (i := 2) (j := 3) (by rfl) sc__law_for_root.nd rfl rfl (by decide) rfl rfl (da_cons (de_plus de_int (de_call G__law_draw (hr.mono (by decide)) hG tk (by rfl) D__law_draw.g D__law_draw.F.kp b__law_draw (da_cons (de_var (pv 0)) (da_cons de_int da_nil)))) (da_cons (de_plus de_int (de_call G__law_draw (hr.mono (by decide)) hG tk (by rfl) D__law_draw.g D__law_draw.F.kp b__law_draw (da_cons (de_var (pv 0)) (da_cons de_int da_nil)))) da_nil)) (by rfl)))
    (dss_one (ds_ret (de_tup (da_cons (de_star (de_star (de_call G__law_near (hr.mono (by decide)) hG tk (by rfl) D__law_near.g D__law_near.F.kp b__law_near (da_cons (de_var (pv 0)) (da_cons (de_var (pv 1)) da_nil))) (de_var (pv 2))) (de_var (pv 2))) (da_cons (de_star (de_star (de_star (de_plus de_int (de_call G__law_draw (hr.mono (by decide)) hG tk (by rfl) D__law_draw.g D__law_draw.F.kp b__law_draw (da_cons (de_var (pv 0)) (da_cons (de_var (pv 1)) da_nil)))) (de_var (pv 3))) (de_var (pv 3))) (de_call G__law_pick (hr.mono (by decide)) hG tk (by rfl) D__law_pick.g D__law_pick.F.kp b__law_pick (da_cons (de_var (pv 0)) (da_cons (de_lst (da_cons de_int (da_cons de_int (da_cons (de_neg de_int) da_nil)))) da_nil)))) da_nil))))))), ?_⟩
    simp (config := { maxSteps := 1000000 }) only [dSeq, dIfS, dTest, dOp, dUn, dVar, dC, dTup, dLst, dNil, dCons, dRet, dRetN, dDrop, dSet, dPar, dAsg, dgTup, dgCons, dgNil, dgName, dCB, dNext, dIf, dAnd, dOr, dNot, dNotV, dAndV, dOrV, dCall, dCallK, dRaise, dAug, dSl, dPart, dNoPart, startU_eq, List.map_cons, List.map_nil, List.cons_append, List.nil_append, List.length_cons, List.length_nil, List.replicate, List.getElem?_cons_zero, List.getElem?_cons_succ, List.getElem?_nil, List.set_cons_zero, List.set_cons_succ, Nat.reduceAdd, Nat.reduceSub, ex_uu, ex_bl, ex_tup, ex_lst, ex_int, ex_cons, ex_two, gEq_int, gNe_int, gEq_p2, gNe_p2, gEq_str, ixp0, ixp1, plus_int, star_int, gI_int, gIC_int, ix0, ix1, ix2, ix3, fGcd_int, fIsq_int, fAbs_int, fInt_int, fLen_tup, fLen_lst, fMax2_int, gNeg_int, gFdv, gMod, DL.gSub, gPow, gLt, gLe, gGt, gGe, eq_self, decide_eq_true_eq, Bool.not_eq_true', decide_eq_false_iff_not, true_and, and_true, if_true, if_false, Bool.false_eq_true, Bool.not_true, Bool.not_false]
    have two : 2 ≤ sizeLine := le_line (by decide)
    have three : 3 ≤ sizeLine := le_line (by decide)
    have four : 4 ≤ sizeLine := le_line (by decide)
    refine ⟨four, pickI e [9, 100, 999, 30] (by decide) fun size hs => ?_⟩
    have bs : 1 ≤ size ∧ size ≤ 999 := (by decide : ∀ i ∈ [(9 : Int), 100, 999, 30], 1 ≤ i ∧ i ≤ 999) size hs
    refine ⟨d, l, 9, e, rfl, by decide, by decide, fun y y0 y1 => plus1 ⟨d, l, 9, e, rfl, by decide, by decide, fun x x0 x1 => plus1 ⟨d, l, size, e, rfl, by omega, by omega, fun z hz => ?_⟩⟩⟩
    have yb : (1 + y).natAbs ≤ 9 := by omega
    have xb : (1 + x).natAbs ≤ 9 := by omega
    have zb : z.natAbs ≤ 999 := by omega
    have Z1 := nmul zb yb
    have Z2 := nmul Z1 yb
    refine starB (bdn zb) (bdn yb) (starB (bdn Z1) (bdn yb) ⟨d, l, size, e, rfl, by omega, by omega, fun r r0 r1 => plus1 ?_⟩)
    have rb : (1 + r).natAbs ≤ 999 := by omega
    have R1 := nmul rb xb
    have R2 := nmul R1 xb
    refine starB (bdn rb) (bdn xb) (starB (bdn R1) (bdn xb) ⟨three, pickI e [1, 1, -1] (by decide) fun v hv => ?_⟩)
    have v1 : v.natAbs ≤ 1 ∧ v ≠ 0 := (by decide : ∀ i ∈ [(1 : Int), 1, -1], i.natAbs ≤ 1 ∧ i ≠ 0) v hv
    have R3 := nmul R2 v1.1
    refine starB (bdn R2) (bdn v1.1) ⟨two, k _ _ (by omega) (by omega) ?_⟩
    exact Int.mul_ne_zero (Int.mul_ne_zero (Int.mul_ne_zero (by omega) (by omega)) (by omega)) v1.2
end
end T01
set_option Elab.async false
set_option linter.all false
set_option maxRecDepth 100000
set_option maxHeartbeats 8000000
set_option exponentiation.threshold 10000
--@reprX
namespace T01
open PySem PySem.Spec PyProof.Rows L2 XR DL
open PySem.XK (ExF)
/-! ### numbers by lean roots -/
theorem low_lean {p q s l : Int} (s0 : s ≠ 0) (l0 : l ≠ 0) (lb : l.natAbs ≤ 1000000000000) (hl : SqF l.natAbs) : NumD l (lowN p q s l) ∧ isNum (lowN p q s l) = true := by
  have hS : Sf l := by
    by_cases c : l = 1
    · exact .inl c
    · exact .inr ((sqs_lean (by omega) (by omega)).mpr hl)
  have hn : NumD l (lowN p q s l) := by
    by_cases c : l = 1
    · subst c
      rw [low_d1]
      exact (low_num s0 (.inl rfl)).1
    · exact (low_num s0 (.inr ⟨rfl, l0, c, lb⟩)).1
  exact ⟨hn, isNum_num hS hn⟩
theorem low_sq {a b l : Int} {f : Nat} (b0 : b ≠ 0) (l0 : l ≠ 0) (lb : l.natAbs ≤ 1000000000000) (h : (f : Int) * f * l = a * b) : mulU (lowN 0 f (b.natAbs : Int) l) (lowN 0 f (b.natAbs : Int) l) = lowN a 0 b 1 := by
  have ba : (b.natAbs : Int) ≠ 0 := by omega
  have br : (b : Rat) ≠ 0 := by
    have : (b : Rat) ≠ ((0 : Int) : Rat) := fun z => b0 (Rat.intCast_inj.mp z)
    exact this
  have bar : ((b.natAbs : Int) : Rat) ≠ 0 := by
    have : ((b.natAbs : Int) : Rat) ≠ ((0 : Int) : Rat) := fun z => ba (Rat.intCast_inj.mp z)
    exact this
  have bb : ((b.natAbs : Int) : Rat) * ((b.natAbs : Int) : Rat) = (b : Rat) * (b : Rat) := by
    rw [← Rat.intCast_mul, ← Rat.intCast_mul, Int.natAbs_mul_self']
  have hr : (((f : Int) : Rat)) * ((f : Int) : Rat) * (l : Rat) = (a : Rat) * (b : Rat) := by
    rw [← Rat.intCast_mul, ← Rat.intCast_mul, ← Rat.intCast_mul, h]
  have h2 := low_num (D := l) (p := a) (q := 0) (s := b) (d := 1) b0 (.inl rfl)
  by_cases c : l = 1
  · subst c
    rw [low_d1, Int.zero_add]
    have h1 := low_num (D := 1) (p := (f : Int)) (q := 0) (s := (b.natAbs : Int)) (d := 1) ba (.inl rfl)
    have h3 := mulU_ok h1.1 h1.1
    refine NumD.ext h3.1 h2.1 ?_ ?_
    · rw [h3.2.1, h1.2.1, h1.2.2, h2.2.1]
      have z : ((0 : Int) : Rat) = 0 := rfl
      rw [z]
      generalize ((b.natAbs : Int) : Rat) = B at *
      generalize ((f : Int) : Rat) = F at *
      have e1 : ((1 : Int) : Rat) = 1 := rfl
      rw [e1] at hr
      grind
    · rw [h3.2.2, h1.2.1, h1.2.2, h2.2.2]
      grind
  · have h1 := low_num (D := l) (p := 0) (q := (f : Int)) (s := (b.natAbs : Int)) (d := l) ba (.inr ⟨rfl, l0, c, lb⟩)
    have h3 := mulU_ok h1.1 h1.1
    refine NumD.ext h3.1 h2.1 ?_ ?_
    · rw [h3.2.1, h1.2.1, h1.2.2, h2.2.1]
      have z : ((0 : Int) : Rat) = 0 := rfl
      rw [z]
      generalize ((b.natAbs : Int) : Rat) = B at *
      generalize ((f : Int) : Rat) = F at *
      generalize (l : Rat) = L at *
      grind
    · rw [h3.2.2, h1.2.1, h1.2.2, h2.2.2]
      have z : ((0 : Int) : Rat) = 0 := rfl
      rw [z]
      grind
/-- an integer's square part, its sign kept -/
theorem parts_of {d : Int} (d0 : d ≠ 0) (db : d.natAbs < 1000000000000000) : ∃ (l : Int) (f : Nat), (f : Int) * f * l = d ∧ 1 ≤ f ∧ l ≠ 0 ∧ SqF l.natAbs ∧ f ≤ d.natAbs ∧ l.natAbs ≤ d.natAbs := by
  obtain ⟨f, m, _, hfm, f1, m1, hm⟩ := sqs_ok (n := d.natAbs) (by omega) db
  have fm : f ≤ d.natAbs ∧ m ≤ d.natAbs := by
    rw [← hfm]
    exact ⟨Nat.le_trans (Nat.le_mul_of_pos_left f f1) (Nat.le_mul_of_pos_right _ m1), Nat.le_mul_of_pos_left m (Nat.mul_pos f1 f1)⟩
  have e : (f : Int) * f * (m : Int) = (d.natAbs : Int) := by
    rw [← hfm, Int.natCast_mul, Int.natCast_mul]
  by_cases c : d < 0
  · refine ⟨-(m : Int), f, ?_, f1, by omega, by rw [Int.natAbs_neg, Int.natAbs_natCast]; exact hm, fm.1, by rw [Int.natAbs_neg, Int.natAbs_natCast]; exact fm.2⟩
    rw [Int.mul_neg, e]
    omega
  · refine ⟨(m : Int), f, ?_, f1, by omega, by rw [Int.natAbs_natCast]; exact hm, fm.1, by rw [Int.natAbs_natCast]; exact fm.2⟩
    rw [e]
    omega
theorem sqf_small {n : Nat} (h : n = 1 ∨ n = 2 ∨ n = 3 ∨ n = 30) : SqF n := fun q h2 d => by
  have q5 : q ≤ 5 := by
    rcases Nat.lt_or_ge q 6 with z | z
    · omega
    · have h36 : 6 * 6 ≤ q * q := Nat.mul_le_mul z z
      have := Nat.le_of_dvd (by omega) d
      omega
  have : q = 2 ∨ q = 3 ∨ q = 4 ∨ q = 5 := by omega
  rcases h with rfl | rfl | rfl | rfl <;> rcases this with rfl | rfl | rfl | rfl <;> exact absurd d (by decide)
theorem isNum_great {p q s d : Int} (q0 : q ≠ 0) (h : 1000000000000 < d.natAbs) : isNum (n4 p q s d) = false := by
  rw [isNum_n4]
  cases e : numF p q s d with
  | false => rfl
  | true =>
    have := (num_d e).2
    omega
theorem isNum_sq {p q s d : Int} (q0 : q ≠ 0) {b : Nat} (b2 : 2 ≤ b) (h : b * b ∣ d.natAbs) : isNum (n4 p q s d) = false := by
  rw [isNum_n4, decide_eq_false q0, Bool.false_or, leanN_false b b2 h, Bool.and_false]
theorem cmB {x y : Int} (hx : Bd 300 x) (hy : Bd 300 y) : CMulW x y := mul_ok 300 300 hx hy (by decide) (by decide) (by decide)
theorem fRpX_n4 {p q s d : Int} {Q : U → Prop} (h : RpX 1 10000 (n4 p q s d)) (k : Q (.str (toP (n4 p q s d)).shown)) : fRpX [n4 p q s d] Q := ⟨_, rfl, .inl ⟨_, rfl⟩, h.ok (by decide) (by decide), k⟩
theorem fRpX_low {p q s d : Int} {Q : U → Prop} (h : RpX 1 10000 (lowN p q s d)) (k : Q (.str (toP (lowN p q s d)).shown)) : fRpX [lowN p q s d] Q := by
  rw [lowN_eq] at h k ⊢
  exact fRpX_n4 h k
theorem fRpX_tupX {us : List U} {Q : U → Prop} (h : rpOkX (.tup us)) (q : Q (.str (toP (.tup us)).shown)) : fRpX [.tup us] Q := ⟨_, rfl, .inl ⟨_, rfl⟩, h, q⟩
theorem isX_n4 (p q s d : Int) : isX (n4 p q s d) = true := rfl
theorem sq_near {y : Int} (h : y = 997 ∨ y = 991 ∨ y = 31 ∨ y = 503) : rofU (y * y) 1 = n4 y 0 1 1 ∧ rofU 1 (y * y) = n4 1 0 y 1 := by
  have one : SqF (1 : Int).natAbs := sqf_small (.inl rfl)
  rcases h with rfl | rfl | rfl | rfl
  · exact ⟨(rof_eq (f := 997) (l := 1) (by decide) (by decide) (by decide) (by decide) (by decide) (by decide) (by decide) one).trans (by rfl), (rof_eq (f := 997) (l := 1) (by decide) (by decide) (by decide) (by decide) (by decide) (by decide) (by decide) one).trans (by rfl)⟩
  · exact ⟨(rof_eq (f := 991) (l := 1) (by decide) (by decide) (by decide) (by decide) (by decide) (by decide) (by decide) one).trans (by rfl), (rof_eq (f := 991) (l := 1) (by decide) (by decide) (by decide) (by decide) (by decide) (by decide) (by decide) one).trans (by rfl)⟩
  · exact ⟨(rof_eq (f := 31) (l := 1) (by decide) (by decide) (by decide) (by decide) (by decide) (by decide) (by decide) one).trans (by rfl), (rof_eq (f := 31) (l := 1) (by decide) (by decide) (by decide) (by decide) (by decide) (by decide) (by decide) one).trans (by rfl)⟩
  · exact ⟨(rof_eq (f := 503) (l := 1) (by decide) (by decide) (by decide) (by decide) (by decide) (by decide) (by decide) one).trans (by rfl), (rof_eq (f := 503) (l := 1) (by decide) (by decide) (by decide) (by decide) (by decide) (by decide) (by decide) one).trans (by rfl)⟩
end T01
set_option Elab.async false
set_option linter.all false
set_option maxRecDepth 100000
set_option maxHeartbeats 8000000
set_option exponentiation.threshold 10000
--@reprX
namespace T01
open PySem PySem.Spec PyProof.Rows L2 XR DL
open PySem.XK (ExF)
section
variable {P : Program} {w : World} {K : PySem.W.Frag} {mg : Str → Option Value} {base : Heap}
theorem sc__law_are_squares_right : FnScope ["deck", "by", "more", "p", "q", "s", "d", "due", "near", "great", "told"] ["deck"] (defScope s__law_are_squares_right) := ⟨rfl, rfl, rfl, by decide +kernel, rfl, by decide +kernel, by decide +kernel⟩
def sp_squares (P0 : Addr) : SpD := fun m us Q _ => ∃ (d l : Addr), m.deck = some (d, l) ∧ us = [.raw (.ref d)] ∧ P0 ∈ m.tabs ∧ Q (.bl true)
theorem ok__law_are_squares_right {a a1 a2 a3 a4 a5 a6 a7 : Addr} {fd fd1 fd2 fd3 fd4 fd5 fd6 fd7 : FuncData} {P0 CB : Addr} (hS : (base.get? sysModules).isSome = true) (D : DL.Def K mg "_law_are_squares_right" s__law_are_squares_right a fd) (D__law_pick : DL.Def K mg "_law_pick" s__law_pick a1 fd1) (G__law_pick : Fd P w K mg base 2 a1 fd1 ["deck", "some"] sp_pick)
    (D__law_near : DL.Def K mg "_law_near" s__law_near a2 fd2) (G__law_near : Fd P w K mg base 2 a2 fd2 ["deck", "far"] sp_near) (D__law_draw : DL.Def K mg "_law_draw" sDraw a3 fd3) (G__law_draw : Fd P w K mg base 1 a3 fd3 ["deck", "many"] sp_draw)
    (D__law_made : DL.Def K mg "_law_made" s__law_made a4 fd4) (G__law_made : Fd P w K mg base 2 a4 fd4 ["p", "q", "s", "d"] sp__law_made) (D_number_of : DL.Def K mg "number_of" s_number_of a5 fd5) (G_number_of : Fd P w K mg base 3 a5 fd5 ["p", "q", "s", "d"] (sp_number_of P0 CB))
    (D_root_of : DL.Def K mg "root_of" s_root_of a6 fd6) (G_root_of : Fd P w K mg base 4 a6 fd6 ["top", "bottom"] (sp_root_of P0 CB)) (D_is_number : DL.Def K mg "is_number" s_is_number a7 fd7) (G_is_number : Fd P w K mg base 5 a7 fd7 ["thing"] (sp_is_number P0))
    (grepr : mg "repr" = none) : Fd P w K mg base 6 a fd ["deck"] (sp_squares P0) := by
  have b__law_pick : Binds K fd1 ["deck", "some"] [] := D__law_pick.F.binds fun _ _ _ _ _ _ us hl => match us, hl with | [_, _], _ => rfl
  have b__law_near : Binds K fd2 ["deck", "far"] [] := D__law_near.F.binds fun _ _ _ _ _ _ us hl => match us, hl with | [_, _], _ => rfl
  have b__law_draw : Binds K fd3 ["deck", "many"] [] := D__law_draw.F.binds fun _ _ _ _ _ _ us hl => match us, hl with | [_, _], _ => rfl
  have b__law_made : Binds K fd4 ["p", "q", "s", "d"] [] := D__law_made.F.binds fun _ _ _ _ _ _ us hl => match us, hl with | [_, _, _, _], _ => rfl
  have b_number_of : Binds K fd5 ["p", "q", "s", "d"] [] := D_number_of.F.binds fun _ _ _ _ _ _ us hl => match us, hl with | [_, _, _, _], _ => rfl
  have b_root_of : Binds K fd6 ["top", "bottom"] [] := D_root_of.F.binds fun _ _ _ _ _ _ us hl => match us, hl with | [_, _], _ => rfl
  have k_root_of : KBd K fd6 ["top", "bottom"] ["bottom", "top"] 2 sw2 := kbd_of D_root_of.F (fun _ _ _ _ _ _ us hl => match us, hl with | [_, _], _ => rfl) sw2_vals sw2_rel
  have b_is_number : Binds K fd7 ["thing"] [] := D_is_number.F.binds fun _ _ _ _ _ _ us hl => match us, hl with | [_], _ => rfl
  refine fd_of D.F sc__law_are_squares_right (fun m us Q Z h => ?_) (fun cdv A outer s H E m us Qd Zd hr hG tk h => ?_)
  · obtain ⟨d, l, _, rfl, _⟩ := h
    rfl
  · obtain ⟨d, l, e, rfl, hP, k⟩ := h
    have hu := hr.units
    refine ⟨_, (dss_cons (ds_set (i := 1) sc__law_are_squares_right.nd rfl (.inl rfl) (de_call G__law_pick (hr.mono (by decide)) hG tk (by rfl) D__law_pick.g D__law_pick.F.kp b__law_pick (da_cons (de_var (pv 0)) (da_cons (de_lst (da_cons de_int (da_cons de_int (da_cons de_int (da_cons (de_if (dt_eq hu (de_call G__law_draw (hr.mono (by decide)) hG tk (by rfl) D__law_draw.g D__law_draw.F.kp b__law_draw (da_cons (de_var (pv 0)) (da_cons de_int da_nil))) de_int) de_int de_int) (da_cons (de_if (dt_eq hu (de_call G__law_draw (hr.mono (by decide)) hG tk (by rfl) D__law_draw.g D__law_draw.F.kp b__law_draw (da_cons (de_var (pv 0)) (da_cons de_int da_nil))) de_int) de_int de_int) da_nil)))))) da_nil))))
    (dss_cons (ds_set (i := 1) sc__law_are_squares_right.nd rfl (.inl rfl) (de_if (dt_eq hu (de_call G__law_draw (hr.mono (by decide)) hG tk (by rfl) D__law_draw.g D__law_draw.F.kp b__law_draw (da_cons (de_var (pv 0)) (da_cons de_int da_nil))) de_int) de_int (de_var (pv 1))))
    (dss_cons (ds_set (i := 2) sc__law_are_squares_right.nd rfl (.inl rfl) (de_call G__law_pick (hr.mono (by decide)) hG tk (by rfl) D__law_pick.g D__law_pick.F.kp b__law_pick (da_cons (de_var (pv 0)) (da_cons (de_if (dt_lt (de_var (pv 1)) de_int) (de_lst (da_cons de_int (da_cons (de_neg de_int) (da_cons de_int (da_cons (de_neg de_int) (da_cons de_int da_nil)))))) (de_lst (da_cons de_int (da_cons (de_neg de_int) da_nil)))) da_nil))))
    (dss_cons (ds_asg (de_tup (da_cons (de_call G__law_near (hr.mono (by decide)) hG tk (by rfl) D__law_near.g D__law_near.F.kp b__law_near (da_cons (de_var (pv 0)) (da_cons de_int da_nil))) (da_cons (de_call G__law_near (hr.mono (by decide)) hG tk (by rfl) D__law_near.g D__law_near.F.kp b__law_near (da_cons (de_var (pv 0)) (da_cons de_int da_nil))) (da_cons (de_plus de_int (de_call G__law_draw (hr.mono (by decide)) hG tk (by rfl) D__law_draw.g D__law_draw.F.kp b__law_draw (da_cons (de_var (pv 0)) (da_cons de_int da_nil)))) (da_cons (de_star (de_star (de_var (pv 1)) (de_var (pv 1))) (de_var (pv 2))) da_nil))))) (dg_tup (n := 4) rfl (dgs_cons (dg_name (pg_name (i := 3) sc__law_are_squares_right.nd rfl (.inl rfl))) (dgs_cons (dg_name (pg_name (i := 4) sc__law_are_squares_right.nd rfl (.inl rfl))) (dgs_cons (dg_name (pg_name (i := 5) sc__law_are_squares_right.nd rfl (.inl rfl))) (dgs_cons (dg_name (pg_name (i := 6) sc__law_are_squares_right.nd rfl (.inl rfl))) dgs_nil))))))
    (dss_cons (ds_set (i := 7) sc__law_are_squares_right.nd rfl (.inl rfl) (de_call G__law_made (hr.mono (by decide)) hG tk (by rfl) D__law_made.g D__law_made.F.kp b__law_made (da_cons (de_var (pv 3)) (da_cons (de_star (de_var (pv 4)) (de_var (pv 1))) (da_cons (de_var (pv 5)) (da_cons (de_var (pv 2)) da_nil))))))
    (dss_cons (ds_if (L2.PW.pt (dw_or (dt_neS (de_callB cal_rpX (pe_callB (call_rpX hS hG hu) (by rfl) grepr (by decide +kernel) (da_cons (de_call G_number_of (hr.mono (by decide)) hG tk (by rfl) D_number_of.g D_number_of.F.kp b_number_of (da_cons (de_var (pv 3)) (da_cons (de_var (pv 4)) (da_cons (de_var (pv 5)) (da_cons (de_var (pv 6)) da_nil))))) da_nil))) (de_callB cal_rpX (pe_callB (call_rpX hS hG hu) (by rfl) grepr (by decide +kernel) (da_cons (de_var (pv 7)) da_nil)))) (dw_or1 (dt_notT (de_call G_is_number (hr.mono (by decide)) hG tk (by rfl) D_is_number.g D_is_number.F.kp b_is_number (da_cons (de_tup (da_cons de_int (da_cons de_int (da_cons de_int (da_cons (de_var (pv 6)) da_nil))))) da_nil)))))) (dss_one (ds_ret de_bl)) dss_nil)
    (dss_cons (ds_set (i := 8) sc__law_are_squares_right.nd rfl (.inl rfl) (de_call G__law_pick (hr.mono (by decide)) hG tk (by rfl) D__law_pick.g D__law_pick.F.kp b__law_pick (da_cons (de_var (pv 0)) (da_cons (de_lst (da_cons de_int (da_cons de_int (da_cons de_int (da_cons de_int da_nil))))) da_nil))))
    (dss_cons (ds_set (i := 9) sc__law_are_squares_right.nd rfl (.inl rfl) (de_call G__law_pick (hr.mono (by decide)) hG tk (by rfl) D__law_pick.g D__law_pick.F.kp b__law_pick (da_cons (de_var (pv 0)) (da_cons (de_lst (da_cons (de_plus (de_pow de_int de_int) de_int) (da_cons (de_sub (de_neg (de_pow de_int de_int)) de_int) (da_cons (de_plus (de_pow de_int de_int) de_int) (da_cons (de_sub (de_neg (de_pow de_int de_int)) de_int) (da_cons (de_plus (de_pow de_int de_int) de_int) da_nil)))))) da_nil))))
    (dss_cons (ds_set (i := 10) sc__law_are_squares_right.nd rfl (.inl rfl) (de_tup (da_cons (de_call G_root_of (hr.mono (by decide)) hG tk (by rfl) D_root_of.g D_root_of.F.kp b_root_of (da_cons (de_star (de_var (pv 8)) (de_var (pv 8))) (da_cons de_int da_nil))) (da_cons (de_callK G_root_of (hr.mono (by decide)) hG tk (by rfl) D_root_of.g D_root_of.F.kp k_root_of (dk_cons (de_star (de_var (pv 8)) (de_var (pv 8))) (dk_cons de_int dk_nil))) (da_cons (de_call G_is_number (hr.mono (by decide)) hG tk (by rfl) D_is_number.g D_is_number.F.kp b_is_number (da_cons (de_tup (da_cons de_int (da_cons de_int (da_cons de_int (da_cons (de_var (pv 9)) da_nil))))) da_nil)) (da_cons (de_call G_is_number (hr.mono (by decide)) hG tk (by rfl) D_is_number.g D_is_number.F.kp b_is_number (da_cons (de_tup (da_cons (de_var (pv 3)) (da_cons de_int (da_cons de_int (da_cons (de_var (pv 9)) da_nil))))) da_nil)) da_nil))))))
    (dss_one (ds_ret (de_eqS (de_callB cal_rpX (pe_callB (call_rpX hS hG hu) (by rfl) grepr (by decide +kernel) (da_cons (de_var (pv 10)) da_nil))) (de_callB cal_rpX (pe_callB (call_rpX hS hG hu) (by rfl) grepr (by decide +kernel) (da_cons (de_tup (da_cons (de_tup (da_cons (de_var (pv 8)) (da_cons de_int (da_cons de_int (da_cons de_int da_nil))))) (da_cons (de_tup (da_cons de_int (da_cons de_int (da_cons (de_var (pv 8)) (da_cons de_int da_nil))))) (da_cons de_bl (da_cons de_bl da_nil))))) da_nil))))))))))))))), ?_⟩
    have two : 2 ≤ sizeLine := le_line (by decide)
    have four : 4 ≤ sizeLine := le_line (by decide)
    have five : 5 ≤ sizeLine := le_line (by decide)
    -- by
    refine seq_gen (fun b : Int => [some (.raw (.ref d)), some (.int b), none, none, none, none, none, none, none, none, none]) (fun b => 2 ≤ b ∧ b ≤ 999983) (fun D' hn ht => ?_) fun b0 hb0 => ?_
    · simp (config := { maxSteps := 1000000 }) only [dSeq, dIfS, dTest, dOp, dUn, dVar, dC, dTup, dLst, dNil, dCons, dRet, dRetN, dDrop, dSet, dPar, dAsg, dgTup, dgCons, dgNil, dgName, dCB, dNext, dIf, dAnd, dOr, dNot, dNotV, dAndV, dOrV, dCall, dCallK, dRaise, dAug, dSl, dPart, dNoPart, startU_eq, List.map_cons, List.map_nil, List.cons_append, List.nil_append, List.length_cons, List.length_nil, List.replicate, List.getElem?_cons_zero, List.getElem?_cons_succ, List.getElem?_nil, List.set_cons_zero, List.set_cons_succ, Nat.reduceAdd, Nat.reduceSub, ex_uu, ex_bl, ex_tup, ex_lst, ex_int, ex_cons, ex_two, gEq_int, gNe_int, gEq_p2, gNe_p2, gEq_str, ixp0, ixp1, plus_int, star_int, gI_int, gIC_int, ix0, ix1, ix2, ix3, fGcd_int, fIsq_int, fAbs_int, fInt_int, fLen_tup, fLen_lst, fMax2_int, gNeg_int, gFdv, gMod, DL.gSub, gPow, gLt, gLe, gGt, gGe, eq_self, decide_eq_true_eq, Bool.not_eq_true', decide_eq_false_iff_not, true_and, and_true, if_true, if_false, Bool.false_eq_true, Bool.not_true, Bool.not_false]
      have fin : ∀ x y : Int, (x = 31607 ∨ x = 2003) → (y = 99991 ∨ y = 10009) → sp_pick m [.raw (.ref d), .lst [.int 10007, .int 1009, .int 4001, .int x, .int y]] (fun u => D'.nx [some (.raw (.ref d)), some u, none, none, none, none, none, none, none, none, none]) Zd := fun x y hx hy => pickI e [10007, 1009, 4001, x, y] ⟨by show 0 < 5; decide, by show 5 < 1000; decide⟩ fun i hi => hn i (by
        simp only [List.mem_cons, List.not_mem_nil, or_false] at hi
        omega)
      refine ⟨d, l, 4, e, rfl, by decide, by decide, fun r r0 r1 => (gEq_int _ _ _).mpr ⟨_, rfl, ?_⟩⟩
      split
      · refine ⟨d, l, 20, e, rfl, by decide, by decide, fun r r0 r1 => (gEq_int _ _ _).mpr ⟨_, rfl, ?_⟩⟩
        split
        · exact ⟨five, fin _ _ (.inl rfl) (.inl rfl)⟩
        · exact ⟨five, fin _ _ (.inl rfl) (.inr rfl)⟩
      · refine ⟨d, l, 20, e, rfl, by decide, by decide, fun r r0 r1 => (gEq_int _ _ _).mpr ⟨_, rfl, ?_⟩⟩
        split
        · exact ⟨five, fin _ _ (.inr rfl) (.inl rfl)⟩
        · exact ⟨five, fin _ _ (.inr rfl) (.inr rfl)⟩
    refine seq_gen (fun b : Int => [some (.raw (.ref d)), some (.int b), none, none, none, none, none, none, none, none, none]) (fun b => 2 ≤ b ∧ b ≤ 999983) (fun D' hn ht => ?_) fun b hb => ?_
    · simp (config := { maxSteps := 1000000 }) only [dSeq, dIfS, dTest, dOp, dUn, dVar, dC, dTup, dLst, dNil, dCons, dRet, dRetN, dDrop, dSet, dPar, dAsg, dgTup, dgCons, dgNil, dgName, dCB, dNext, dIf, dAnd, dOr, dNot, dNotV, dAndV, dOrV, dCall, dCallK, dRaise, dAug, dSl, dPart, dNoPart, startU_eq, List.map_cons, List.map_nil, List.cons_append, List.nil_append, List.length_cons, List.length_nil, List.replicate, List.getElem?_cons_zero, List.getElem?_cons_succ, List.getElem?_nil, List.set_cons_zero, List.set_cons_succ, Nat.reduceAdd, Nat.reduceSub, ex_uu, ex_bl, ex_tup, ex_lst, ex_int, ex_cons, ex_two, gEq_int, gNe_int, gEq_p2, gNe_p2, gEq_str, ixp0, ixp1, plus_int, star_int, gI_int, gIC_int, ix0, ix1, ix2, ix3, fGcd_int, fIsq_int, fAbs_int, fInt_int, fLen_tup, fLen_lst, fMax2_int, gNeg_int, gFdv, gMod, DL.gSub, gPow, gLt, gLe, gGt, gGe, eq_self, decide_eq_true_eq, Bool.not_eq_true', decide_eq_false_iff_not, true_and, and_true, if_true, if_false, Bool.false_eq_true, Bool.not_true, Bool.not_false]
      refine ⟨d, l, 400, e, rfl, by decide, by decide, fun r r0 r1 => (gEq_int _ _ _).mpr ⟨_, rfl, ?_⟩⟩
      split
      · exact hn 999983 ⟨by decide, by decide⟩
      · exact hn b0 hb0
    replace hb : 2 ≤ b ∧ b ≤ 999983 := hb
    -- more
    refine seq_gen (fun x : Int => [some (.raw (.ref d)), some (.int b), some (.int x), none, none, none, none, none, none, none, none]) (fun x => x ≠ 0 ∧ (x.natAbs = 1 ∨ (b < 40000 ∧ (x.natAbs = 2 ∨ x.natAbs = 3 ∨ x.natAbs = 30)))) (fun D' hn ht => ?_) fun x hx => ?_
    · simp (config := { maxSteps := 1000000 }) only [dSeq, dIfS, dTest, dOp, dUn, dVar, dC, dTup, dLst, dNil, dCons, dRet, dRetN, dDrop, dSet, dPar, dAsg, dgTup, dgCons, dgNil, dgName, dCB, dNext, dIf, dAnd, dOr, dNot, dNotV, dAndV, dOrV, dCall, dCallK, dRaise, dAug, dSl, dPart, dNoPart, startU_eq, List.map_cons, List.map_nil, List.cons_append, List.nil_append, List.length_cons, List.length_nil, List.replicate, List.getElem?_cons_zero, List.getElem?_cons_succ, List.getElem?_nil, List.set_cons_zero, List.set_cons_succ, Nat.reduceAdd, Nat.reduceSub, ex_uu, ex_bl, ex_tup, ex_lst, ex_int, ex_cons, ex_two, gEq_int, gNe_int, gEq_p2, gNe_p2, gEq_str, ixp0, ixp1, plus_int, star_int, gI_int, gIC_int, ix0, ix1, ix2, ix3, fGcd_int, fIsq_int, fAbs_int, fInt_int, fLen_tup, fLen_lst, fMax2_int, gNeg_int, gFdv, gMod, DL.gSub, gPow, gLt, gLe, gGt, gGe, eq_self, decide_eq_true_eq, Bool.not_eq_true', decide_eq_false_iff_not, true_and, and_true, if_true, if_false, Bool.false_eq_true, Bool.not_true, Bool.not_false]
      split
      · rename_i hc
        exact ⟨five, pickI e [1, -1, 2, -3, 30] (by decide) fun i hi => hn i (by
          simp only [List.mem_cons, List.not_mem_nil, or_false] at hi
          omega)⟩
      · exact ⟨two, pickI e [1, -1] (by decide) fun i hi => hn i (by
          simp only [List.mem_cons, List.not_mem_nil, or_false] at hi
          omega)⟩
    replace hx : x ≠ 0 ∧ (x.natAbs = 1 ∨ (b < 40000 ∧ (x.natAbs = 2 ∨ x.natAbs = 3 ∨ x.natAbs = 30))) := hx
    have hsq : SqF x.natAbs := sqf_small (by omega)
    have bb : b.natAbs * b.natAbs * x.natAbs ≤ 999983 * 999983 := by
      rcases hx.2 with h1 | ⟨h1, h2⟩
      · rw [h1, Nat.mul_one]
        exact Nat.mul_le_mul (by omega) (by omega)
      · have h3 : b.natAbs * b.natAbs ≤ 40000 * 40000 := Nat.mul_le_mul (by omega) (by omega)
        have h4 : b.natAbs * b.natAbs * x.natAbs ≤ 40000 * 40000 * 30 := Nat.mul_le_mul h3 (by omega)
        omega
    have dn : (b * b * x).natAbs ≤ 999983 * 999983 := by
      rw [Int.natAbs_mul, Int.natAbs_mul]
      exact bb
    have d0 : b * b * x ≠ 0 := Int.mul_ne_zero (Int.mul_ne_zero (by omega) (by omega)) hx.1
    -- the four
    refine seq_gen (fun t : Int × Int × Int => [some (.raw (.ref d)), some (.int b), some (.int x), some (.int t.1), some (.int t.2.1), some (.int t.2.2), some (.int (b * b * x)), none, none, none, none]) (fun t => t.1.natAbs ≤ 40 ∧ t.2.1.natAbs ≤ 9 ∧ 1 ≤ t.2.2 ∧ t.2.2 ≤ 6) (fun D' hn ht => ?_) ?_
    · simp (config := { maxSteps := 1000000 }) only [dSeq, dIfS, dTest, dOp, dUn, dVar, dC, dTup, dLst, dNil, dCons, dRet, dRetN, dDrop, dSet, dPar, dAsg, dgTup, dgCons, dgNil, dgName, dCB, dNext, dIf, dAnd, dOr, dNot, dNotV, dAndV, dOrV, dCall, dCallK, dRaise, dAug, dSl, dPart, dNoPart, startU_eq, List.map_cons, List.map_nil, List.cons_append, List.nil_append, List.length_cons, List.length_nil, List.replicate, List.getElem?_cons_zero, List.getElem?_cons_succ, List.getElem?_nil, List.set_cons_zero, List.set_cons_succ, Nat.reduceAdd, Nat.reduceSub, ex_uu, ex_bl, ex_tup, ex_lst, ex_int, ex_cons, ex_two, gEq_int, gNe_int, gEq_p2, gNe_p2, gEq_str, ixp0, ixp1, plus_int, star_int, gI_int, gIC_int, ix0, ix1, ix2, ix3, fGcd_int, fIsq_int, fAbs_int, fInt_int, fLen_tup, fLen_lst, fMax2_int, gNeg_int, gFdv, gMod, DL.gSub, gPow, gLt, gLe, gGt, gGe, eq_self, decide_eq_true_eq, Bool.not_eq_true', decide_eq_false_iff_not, true_and, and_true, if_true, if_false, Bool.false_eq_true, Bool.not_true, Bool.not_false]
      refine ⟨d, l, 40, e, rfl, by decide, by decide, fun p hp => ⟨d, l, 9, e, rfl, by decide, by decide, fun q hq => ⟨d, l, 6, e, rfl, by decide, by decide, fun s s0 s1 => plus1 ⟨cmB (bdn (n := 999983) (by omega)) (bdn (n := 999983) (by omega)), cmB (bdn (n := 999983 * 999983) (nmul (by omega) (by omega))) (bdn (n := 30) (by omega)), four, ?_⟩⟩⟩⟩
      exact hn (p, q, 1 + s) ⟨(by show p.natAbs ≤ 40; omega), (by show q.natAbs ≤ 9; omega), (by show 1 ≤ 1 + s; omega), (by show 1 + s ≤ 6; omega)⟩
    rintro ⟨p, q, s⟩ ⟨hp, hq, s1, s6⟩
    replace hp : p.natAbs ≤ 40 := hp
    replace hq : q.natAbs ≤ 9 := hq
    replace s1 : 1 ≤ s := s1
    replace s6 : s ≤ 6 := s6
    dsimp only
    have s0 : s ≠ 0 := by omega
    have qb : Bd 60 (q * b) := bdn (n := 9 * 999983) (nmul hq (by omega))
    -- due
    refine seq_stop [some (.raw (.ref d)), some (.int b), some (.int x), some (.int p), some (.int q), some (.int s), some (.int (b * b * x)), some (lowN p (q * b) s x), none, none, none] (fun D' hn ht => ?_) ?_
    · simp (config := { maxSteps := 1000000 }) only [dSeq, dIfS, dTest, dOp, dUn, dVar, dC, dTup, dLst, dNil, dCons, dRet, dRetN, dDrop, dSet, dPar, dAsg, dgTup, dgCons, dgNil, dgName, dCB, dNext, dIf, dAnd, dOr, dNot, dNotV, dAndV, dOrV, dCall, dCallK, dRaise, dAug, dSl, dPart, dNoPart, startU_eq, List.map_cons, List.map_nil, List.cons_append, List.nil_append, List.length_cons, List.length_nil, List.replicate, List.getElem?_cons_zero, List.getElem?_cons_succ, List.getElem?_nil, List.set_cons_zero, List.set_cons_succ, Nat.reduceAdd, Nat.reduceSub, ex_uu, ex_bl, ex_tup, ex_lst, ex_int, ex_cons, ex_two, gEq_int, gNe_int, gEq_p2, gNe_p2, gEq_str, ixp0, ixp1, plus_int, star_int, gI_int, gIC_int, ix0, ix1, ix2, ix3, fGcd_int, fIsq_int, fAbs_int, fInt_int, fLen_tup, fLen_lst, fMax2_int, gNeg_int, gFdv, gMod, DL.gSub, gPow, gLt, gLe, gGt, gGe, eq_self, decide_eq_true_eq, Bool.not_eq_true', decide_eq_false_iff_not, true_and, and_true, if_true, if_false, Bool.false_eq_true, Bool.not_true, Bool.not_false]
      refine ⟨cmB (bdn (n := 9) hq) (bdn (n := 999983) (by omega)), _, _, _, _, rfl, s0, bdn (n := 6) (by omega), ?_⟩
      rw [made_low _ _ _ _ s0]
      exact hn
    have nof : nofU p q s (b * b * x) = lowN p (q * b) s x := by
      have e2 : ((b.natAbs : Nat) : Int) = b := by omega
      have := nof_eq (p := p) (q := q) (s := s) (d := b * b * x) (l := x) (f := b.natAbs) s0 d0 (by omega) (by rw [e2]) (by omega) hx.1 hsq
      rw [e2] at this
      exact this
    have low := low_lean (p := p) (q := q * b) (s := s) (l := x) s0 hx.1 (by omega) hsq
    have rp : RpX 1 10000 (lowN p (q * b) s x) := rp_low (k := 60) s0 (bdn (n := 40) hp) qb (bdn (n := 6) (by omega)) (bdn (n := 30) (by omega)) (by decide) (by decide)
    have no1 : isNum (n4 0 1 1 (b * b * x)) = false := isNum_sq (by decide) (b := b.natAbs) (by omega) (by rw [Int.natAbs_mul, Int.natAbs_mul]; exact ⟨_, rfl⟩)
    refine seq_stop [some (.raw (.ref d)), some (.int b), some (.int x), some (.int p), some (.int q), some (.int s), some (.int (b * b * x)), some (lowN p (q * b) s x), none, none, none] (fun D' hn ht => ?_) ?_
    · simp only [dIfS]
      simp (config := { maxSteps := 1000000 }) only [dSeq, dIfS, dTest, dOp, dUn, dVar, dC, dTup, dLst, dNil, dCons, dRet, dRetN, dDrop, dSet, dPar, dAsg, dgTup, dgCons, dgNil, dgName, dCB, dNext, dIf, dAnd, dOr, dNot, dNotV, dAndV, dOrV, dCall, dCallK, dRaise, dAug, dSl, dPart, dNoPart, startU_eq, List.map_cons, List.map_nil, List.cons_append, List.nil_append, List.length_cons, List.length_nil, List.replicate, List.getElem?_cons_zero, List.getElem?_cons_succ, List.getElem?_nil, List.set_cons_zero, List.set_cons_succ, Nat.reduceAdd, Nat.reduceSub, ex_uu, ex_bl, ex_tup, ex_lst, ex_int, ex_cons, ex_two, gEq_int, gNe_int, gEq_p2, gNe_p2, gEq_str, ixp0, ixp1, plus_int, star_int, gI_int, gIC_int, ix0, ix1, ix2, ix3, fGcd_int, fIsq_int, fAbs_int, fInt_int, fLen_tup, fLen_lst, fMax2_int, gNeg_int, gFdv, gMod, DL.gSub, gPow, gLt, gLe, gGt, gGe, eq_self, decide_eq_true_eq, Bool.not_eq_true', decide_eq_false_iff_not, true_and, and_true, if_true, if_false, Bool.false_eq_true, Bool.not_true, Bool.not_false]
      refine ⟨_, _, _, _, rfl, rfl, rfl, rfl, rfl, hP, fun h => ?_, fun p' q' s' d' e1 e2 e3 e4 _ _ => ?_⟩
      · rcases h _ _ _ _ rfl rfl rfl rfl with z | z
        · exact absurd z s0
        · exact absurd z d0
      injection e1 with e1
      injection e2 with e2
      injection e3 with e3
      injection e4 with e4
      subst e1 e2 e3 e4
      refine ⟨bdn (n := 40) hp, bdn (n := 9) hq, bdn (n := 6) (by omega), by omega, ?_⟩
      rw [nof]
      refine fRpX_low rp (fRpX_low rp ((neS_same _ _).mpr ⟨_, rfl, ?_⟩))
      rw [if_neg (fun z => Bool.noConfusion z)]
      refine ⟨four, _, rfl, isX_okU (isX_n4 _ _ _ _), hP, ?_⟩
      rw [show isNum (.tup [.int 0, .int 1, .int 1, .int (b * b * x)]) = false from no1]
      refine ⟨_, _, rfl, rfl, _, rfl, ?_⟩
      exact hn
    -- near
    refine seq_gen (fun y : Int => [some (.raw (.ref d)), some (.int b), some (.int x), some (.int p), some (.int q), some (.int s), some (.int (b * b * x)), some (lowN p (q * b) s x), some (.int y), none, none]) (fun y => y = 997 ∨ y = 991 ∨ y = 31 ∨ y = 503) (fun D' hn ht => ?_) fun y hy => ?_
    · simp (config := { maxSteps := 1000000 }) only [dSeq, dIfS, dTest, dOp, dUn, dVar, dC, dTup, dLst, dNil, dCons, dRet, dRetN, dDrop, dSet, dPar, dAsg, dgTup, dgCons, dgNil, dgName, dCB, dNext, dIf, dAnd, dOr, dNot, dNotV, dAndV, dOrV, dCall, dCallK, dRaise, dAug, dSl, dPart, dNoPart, startU_eq, List.map_cons, List.map_nil, List.cons_append, List.nil_append, List.length_cons, List.length_nil, List.replicate, List.getElem?_cons_zero, List.getElem?_cons_succ, List.getElem?_nil, List.set_cons_zero, List.set_cons_succ, Nat.reduceAdd, Nat.reduceSub, ex_uu, ex_bl, ex_tup, ex_lst, ex_int, ex_cons, ex_two, gEq_int, gNe_int, gEq_p2, gNe_p2, gEq_str, ixp0, ixp1, plus_int, star_int, gI_int, gIC_int, ix0, ix1, ix2, ix3, fGcd_int, fIsq_int, fAbs_int, fInt_int, fLen_tup, fLen_lst, fMax2_int, gNeg_int, gFdv, gMod, DL.gSub, gPow, gLt, gLe, gGt, gGe, eq_self, decide_eq_true_eq, Bool.not_eq_true', decide_eq_false_iff_not, true_and, and_true, if_true, if_false, Bool.false_eq_true, Bool.not_true, Bool.not_false]
      exact ⟨four, pickI e [997, 991, 31, 503] (by decide) fun i hi => hn i (by
        simp only [List.mem_cons, List.not_mem_nil, or_false] at hi
        exact hi)⟩
    replace hy : y = 997 ∨ y = 991 ∨ y = 31 ∨ y = 503 := hy
    -- great
    refine seq_gen (fun z : Int => [some (.raw (.ref d)), some (.int b), some (.int x), some (.int p), some (.int q), some (.int s), some (.int (b * b * x)), some (lowN p (q * b) s x), some (.int y), some (.int z), none]) (fun z => 1000000000000 < z.natAbs) (fun D' hn ht => ?_) fun z hz => ?_
    · simp (config := { maxSteps := 1000000 }) only [dSeq, dIfS, dTest, dOp, dUn, dVar, dC, dTup, dLst, dNil, dCons, dRet, dRetN, dDrop, dSet, dPar, dAsg, dgTup, dgCons, dgNil, dgName, dCB, dNext, dIf, dAnd, dOr, dNot, dNotV, dAndV, dOrV, dCall, dCallK, dRaise, dAug, dSl, dPart, dNoPart, startU_eq, List.map_cons, List.map_nil, List.cons_append, List.nil_append, List.length_cons, List.length_nil, List.replicate, List.getElem?_cons_zero, List.getElem?_cons_succ, List.getElem?_nil, List.set_cons_zero, List.set_cons_succ, Nat.reduceAdd, Nat.reduceSub, ex_uu, ex_bl, ex_tup, ex_lst, ex_int, ex_cons, ex_two, gEq_int, gNe_int, gEq_p2, gNe_p2, gEq_str, ixp0, ixp1, plus_int, star_int, gI_int, gIC_int, ix0, ix1, ix2, ix3, fGcd_int, fIsq_int, fAbs_int, fInt_int, fLen_tup, fLen_lst, fMax2_int, gNeg_int, gFdv, gMod, DL.gSub, gPow, gLt, gLe, gGt, gGe, eq_self, decide_eq_true_eq, Bool.not_eq_true', decide_eq_false_iff_not, true_and, and_true, if_true, if_false, Bool.false_eq_true, Bool.not_true, Bool.not_false]
      have cp : CPow 10 12 := ⟨by decide, by decide, by decide⟩
      have cp2 : CPow 10 39 := ⟨by decide, by decide, by decide⟩
      exact ⟨cp, cp, cp2, cp2, cp, five, pickI e [10 ^ Int.toNat 12 + 1, -10 ^ Int.toNat 12 - 1, 10 ^ Int.toNat 39 + 3, -10 ^ Int.toNat 39 - 1, 10 ^ Int.toNat 12 + 4] (by decide) fun i hi => hn i ((by decide : ∀ i ∈ [(10 : Int) ^ Int.toNat 12 + 1, -10 ^ Int.toNat 12 - 1, 10 ^ Int.toNat 39 + 3, -10 ^ Int.toNat 39 - 1, 10 ^ Int.toNat 12 + 4], 1000000000000 < i.natAbs) i hi)⟩
    -- told
    obtain ⟨r1, r2⟩ := sq_near hy
    have yb : y.natAbs ≤ 997 := by omega
    have yy : (y * y).natAbs ≤ 997 * 997 := nmul yb yb
    have y0 : y * y ≠ 0 := Int.mul_ne_zero (by omega) (by omega)
    have n1 : isNum (n4 0 1 1 z) = false := isNum_great (by decide) hz
    have n2 : isNum (n4 p 1 1 z) = false := isNum_great (by decide) hz
    have root : ∀ (i j : Int) (F : U → Prop) (Z : XQ), j ≠ 0 → i.natAbs ≤ 10000000 → j.natAbs ≤ 10000000 → F (rofU i j) → sp_root_of P0 CB m [.int i, .int j] F Z := fun i j F Z j0 bi bj hF => ⟨_, _, rfl, rfl, rfl, hP, fun h => absurd (h _ _ rfl rfl) j0, fun a b e1 e2 _ => by
      injection e1 with e1
      injection e2 with e2
      subst e1 e2
      exact ⟨bi, bj, hF⟩⟩
    refine seq_stop [some (.raw (.ref d)), some (.int b), some (.int x), some (.int p), some (.int q), some (.int s), some (.int (b * b * x)), some (lowN p (q * b) s x), some (.int y), some (.int z), some (.tup [n4 y 0 1 1, n4 1 0 y 1, .bl false, .bl false])] (fun D' hn ht => ?_) ?_
    · simp (config := { maxSteps := 1000000 }) only [dSeq, dIfS, dTest, dOp, dUn, dVar, dC, dTup, dLst, dNil, dCons, dRet, dRetN, dDrop, dSet, dPar, dAsg, dgTup, dgCons, dgNil, dgName, dCB, dNext, dIf, dAnd, dOr, dNot, dNotV, dAndV, dOrV, dCall, dCallK, dRaise, dAug, dSl, dPart, dNoPart, startU_eq, List.map_cons, List.map_nil, List.cons_append, List.nil_append, List.length_cons, List.length_nil, List.replicate, List.getElem?_cons_zero, List.getElem?_cons_succ, List.getElem?_nil, List.set_cons_zero, List.set_cons_succ, Nat.reduceAdd, Nat.reduceSub, ex_uu, ex_bl, ex_tup, ex_lst, ex_int, ex_cons, ex_two, gEq_int, gNe_int, gEq_p2, gNe_p2, gEq_str, ixp0, ixp1, plus_int, star_int, gI_int, gIC_int, ix0, ix1, ix2, ix3, fGcd_int, fIsq_int, fAbs_int, fInt_int, fLen_tup, fLen_lst, fMax2_int, gNeg_int, gFdv, gMod, DL.gSub, gPow, gLt, gLe, gGt, gGe, eq_self, decide_eq_true_eq, Bool.not_eq_true', decide_eq_false_iff_not, true_and, and_true, if_true, if_false, Bool.false_eq_true, Bool.not_true, Bool.not_false]
      have cm := cmB (bdn (k := 300) (n := 997) yb) (bdn (k := 300) (n := 997) yb)
      refine ⟨cm, root (y * y) 1 _ _ (by decide) (by omega) (by decide) ?_⟩
      rw [r1]
      refine ⟨cm, ?_⟩
      show sp_root_of P0 CB m [.int 1, .int (y * y)] _ _
      refine root 1 (y * y) _ _ y0 (by decide) (by omega) ?_
      rw [r2]
      refine ⟨four, _, rfl, isX_okU (isX_n4 _ _ _ _), hP, ?_⟩
      rw [show isNum (.tup [.int 0, .int 1, .int 1, .int z]) = false from n1]
      refine ⟨four, _, rfl, isX_okU (isX_n4 _ _ _ _), hP, ?_⟩
      rw [show isNum (.tup [.int p, .int 1, .int 1, .int z]) = false from n2]
      exact ⟨four, hn⟩
    have rpt : rpOkX (.tup [n4 y 0 1 1, n4 1 0 y 1, .bl false, .bl false]) := RpX.ok (rpx_tup (L := 4) (dep := 1) (n := 10000) (fun u hu => by
      simp only [List.mem_cons, List.not_mem_nil, or_false] at hu
      have b1 : ∀ i : Int, i.natAbs ≤ 997 → Bd 10 i := fun i hi => bdn (n := 997) hi
      rcases hu with rfl | rfl | rfl | rfl
      · exact (rp_n4 (b1 _ yb) (b1 _ (by decide)) (b1 _ (by decide)) (b1 _ (by decide)) (by decide) (by decide)).up
      · exact (rp_n4 (b1 _ (by decide)) (b1 _ (by decide)) (b1 _ yb) (b1 _ (by decide)) (by decide) (by decide)).up
      · exact (rpx_bl _).up
      · exact (rpx_bl _).up) (by show 4 ≤ 4; decide)) (by decide) (by decide)
    simp (config := { maxSteps := 1000000 }) only [dSeq, dIfS, dTest, dOp, dUn, dVar, dC, dTup, dLst, dNil, dCons, dRet, dRetN, dDrop, dSet, dPar, dAsg, dgTup, dgCons, dgNil, dgName, dCB, dNext, dIf, dAnd, dOr, dNot, dNotV, dAndV, dOrV, dCall, dCallK, dRaise, dAug, dSl, dPart, dNoPart, startU_eq, List.map_cons, List.map_nil, List.cons_append, List.nil_append, List.length_cons, List.length_nil, List.replicate, List.getElem?_cons_zero, List.getElem?_cons_succ, List.getElem?_nil, List.set_cons_zero, List.set_cons_succ, Nat.reduceAdd, Nat.reduceSub, ex_uu, ex_bl, ex_tup, ex_lst, ex_int, ex_cons, ex_two, gEq_int, gNe_int, gEq_p2, gNe_p2, gEq_str, ixp0, ixp1, plus_int, star_int, gI_int, gIC_int, ix0, ix1, ix2, ix3, fGcd_int, fIsq_int, fAbs_int, fInt_int, fLen_tup, fLen_lst, fMax2_int, gNeg_int, gFdv, gMod, DL.gSub, gPow, gLt, gLe, gGt, gGe, eq_self, decide_eq_true_eq, Bool.not_eq_true', decide_eq_false_iff_not, true_and, and_true, if_true, if_false, Bool.false_eq_true, Bool.not_true, Bool.not_false]
    exact fRpX_tupX rpt ⟨four, four, four, fRpX_tupX rpt ((eqS_same _ _).mpr k)⟩
end
end T01
set_option Elab.async false
set_option linter.all false
set_option maxRecDepth 100000
set_option maxHeartbeats 8000000
set_option exponentiation.threshold 10000
--@reprX
namespace T01
open PySem PySem.Spec PyProof.Rows L2 XR DL
open PySem.XK (ExF)
theorem rng_at {lo : Int} {n i : Nat} {u : U} (h : (rngU lo n)[i]? = some u) : i < n ∧ u = .int (lo + (i : Int)) := by
  have hl := (List.getElem?_eq_some_iff.mp h).1
  rw [rngU_length] at hl
  unfold rngU at h
  rw [List.getElem?_map, List.getElem?_range hl] at h
  exact ⟨hl, (Option.some.inj h).symm⟩
/-- one word alone -/
def id1 {α : Type} (xs : List α) : List α := xs
theorem id1_vals {vs : List V} {ws : List Value} (_ : vs.length = 1) (r : L2.Vals vs ws) : L2.Vals (id1 vs) (id1 ws) := r
theorem id1_rel {K : PySem.W.Frag} {m : Mo} {H : Hp} {vs : List V} {us : List U} (_ : vs.length = 1) (r : RelL K m H vs us) : RelL K m H (id1 vs) (id1 us) := r
theorem dFor_tup {w : WE} {g : WG} {b : WS} {m : Mo} {D : DEnds} {ρ : DL.Env} (p : U → Prop) (I : DL.Env → Prop) (h0 : I ρ) (hw : ∀ Q : U → Prop, (∀ us, (∀ u ∈ us, p u) → Q (.tup us)) → w m ρ Q (D.ex ρ))
    (step : ∀ u ρ', p u → I ρ' → g u ρ' fun ρ2 => b m { D with nx := I, ct := I, bk := D.nx } ρ2) (hend : ∀ ρ', I ρ' → D.nx ρ') : dFor (dItT w) g b m D ρ :=
  hw _ fun us hus => ⟨us, rfl, fun _ => I, h0, fun i u ρ' hi hI => step u ρ' (hus u (List.mem_of_getElem? hi)) hI, hend⟩
/-- what is drawn, as a number -/
theorem wide_num {p q s z : Int} (bp : Bd 110 p) (bq : Bd 110 q) (bs : Bd 110 s) (s0 : s ≠ 0) (z0 : z ≠ 0) (zb : z.natAbs ≤ 100000000) : ∃ P Q S D : Int, nofU p q s z = n4 P Q S D ∧ Bd 160 P ∧ Bd 160 Q ∧ Bd 160 S ∧ Bd 160 D ∧ isNum (n4 P Q S D) = true := by
  obtain ⟨l, f, e, f1, l0, hl, fb, lb⟩ := parts_of z0 (by omega)
  rw [nof_eq s0 z0 (by omega) e f1 l0 hl]
  have low := low_lean (p := p) (q := q * f) (s := s) (l := l) s0 l0 (by omega) hl
  have h := low4_bd (k := 150) (p := p) (q := q * f) (s := s) (d := l) s0 (bd_up _ bp (by decide)) (bd_up _ (bd_mul 110 30 bq (bdn (n := 100000000) (by rw [Int.natAbs_natCast]; omega))) (by decide)) (bd_up _ bs (by decide)) (bdn (n := 100000000) (by omega)) (by decide)
  refine ⟨_, _, _, _, lowN_eq _ _ _ _, bd_up _ h.1 (by decide), bd_up _ h.2.1 (by decide), bd_up _ h.2.2.1 (by decide), bd_up _ h.2.2.2.1 (by decide), ?_⟩
  have := low.2
  rw [lowN_eq] at this
  exact this
theorem ibU_n4 {p q s d : Int} (h1 : Bd 300 p) (h2 : Bd 300 q) (h3 : Bd 300 s) (h4 : Bd 300 d) : ibU (n4 p q s d) = true := by
  refine ibUs_all.mpr fun u hu => ?_
  simp only [List.mem_cons, List.not_mem_nil, or_false] at hu
  rcases hu with rfl | rfl | rfl | rfl
  · exact decide_eq_true h1
  · exact decide_eq_true h2
  · exact decide_eq_true h3
  · exact decide_eq_true h4
theorem nx_of {P Q S D : Int} (h : isNum (n4 P Q S D) = true) (b : ibU (n4 P Q S D) = true) : Nx P Q S D := by
  obtain ⟨p, q, s, d, e, x⟩ := num_x h b
  simp only [n4, U.tup.injEq, List.cons.injEq, U.int.injEq, and_true] at e
  obtain ⟨rfl, rfl, rfl, rfl⟩ := e
  exact x
/-- what is near, as a root -/
theorem near_num {a b : Int} (ab : a.natAbs ≤ 1000000) (bb : b.natAbs ≤ 1000000) (b0 : b ≠ 0) : ∃ P Q S D : Int, rofU a b = n4 P Q S D ∧ Nx P Q S D ∧ isNum (n4 P Q S D) = true ∧ mulU (n4 P Q S D) (n4 P Q S D) = lowN a 0 b 1 ∧ ibU (n4 P Q S D) = true := by
  by_cases a0 : a = 0
  · subst a0
    have hn : isNum (n4 0 0 1 1) = true := isNum_num (D := 1) (.inl rfl) (zU_ok 1)
    have hb : ibU (n4 0 0 1 1) = true := by decide +kernel
    refine ⟨0, 0, 1, 1, rof_zero, nx_of hn hb, hn, ?_, hb⟩
    · have h2 := low_num (D := 1) (p := 0) (q := 0) (s := b) (d := 1) b0 (.inl rfl)
      have z := zU_ok 1
      have h3 := mulU_ok z z
      refine NumD.ext h3.1 h2.1 ?_ ?_
      · rw [h3.2.1, h2.2.1]
        have e1 : vp zU = 0 := by decide +kernel
        have e2 : vq zU = 0 := by decide +kernel
        rw [e1, e2]
        have : ((0 : Int) : Rat) = 0 := rfl
        rw [this]
        grind
      · rw [h3.2.2, h2.2.2]
        have e1 : vp zU = 0 := by decide +kernel
        have e2 : vq zU = 0 := by decide +kernel
        rw [e1, e2]
        have : ((0 : Int) : Rat) = 0 := rfl
        rw [this]
        grind
  · have ab0 : a * b ≠ 0 := Int.mul_ne_zero a0 b0
    have abb : (a * b).natAbs ≤ 1000000 * 1000000 := nmul ab bb
    obtain ⟨l, f, e, f1, l0, hl, fb, lb⟩ := parts_of ab0 (by omega)
    rw [rof_eq a0 b0 ab bb e f1 l0 hl]
    have ba : (b.natAbs : Int) ≠ 0 := by omega
    have low := low_lean (p := 0) (q := f) (s := (b.natAbs : Int)) (l := l) ba l0 (by omega) hl
    have sq := low_sq (a := a) (b := b) b0 l0 (by omega) e
    have h := low4_bd (k := 50) (p := 0) (q := f) (s := (b.natAbs : Int)) (d := l) ba (bdn (n := 0) (by decide)) (bdn (n := 1000000 * 1000000) (by rw [Int.natAbs_natCast]; omega)) (bdn (n := 1000000) (by rw [Int.natAbs_natCast]; omega)) (bdn (n := 1000000 * 1000000) (by omega)) (by decide)
    rw [lowN_eq] at low sq ⊢
    generalize low4 0 (f : Int) (b.natAbs : Int) l = t at *
    have up : ∀ x : Int, Bd (50 + 1) x → Bd 300 x := fun x hx => bd_up _ hx (by decide)
    have hb := ibU_n4 (up _ h.1) (up _ h.2.1) (up _ h.2.2.1) (up _ h.2.2.2.1)
    exact ⟨_, _, _, _, rfl, nx_of low.2 hb, low.2, sq, hb⟩
section
variable {P : Program} {w : World} {K : PySem.W.Frag} {mg : Str → Option Value} {base : Heap}
theorem sc_law : FnScope ["script", "deck", "turn", "some", "number", "near", "told", "wrong", "thing", "at", "odd"] ["script"] (defScope s_law) := ⟨rfl, rfl, rfl, by decide +kernel, rfl, by decide +kernel, by decide +kernel⟩
theorem ok_law {f aD a0 a1 a2 a3 a4 a5 a6 a7 a8 a9 a10 a11 a12 a13 : Addr} {fdL fD f0 f1 f2 f3 f4 f5 f6 f7 f8 f9 f10 f11 f12 f13 : FuncData} {P0 CB CO : Addr} (hS : (base.get? sysModules).isSome = true) (D : DL.Def K mg "law" s_law f fdL) (D__law_deck : DL.Def K mg "_law_deck" sDeck aD fD)
    (D__law_draw : DL.Def K mg "_law_draw" sDraw a0 f0) (G__law_draw : Fd P w K mg base 1 a0 f0 ["deck", "many"] sp_draw)
    (D__law_pick : DL.Def K mg "_law_pick" s__law_pick a1 f1) (G__law_pick : Fd P w K mg base 2 a1 f1 ["deck", "some"] sp_pick)
    (D__law_are_squares_right : DL.Def K mg "_law_are_squares_right" s__law_are_squares_right a2 f2) (G__law_are_squares_right : Fd P w K mg base 6 a2 f2 ["deck"] (sp_squares P0))
    (D__law_wide : DL.Def K mg "_law_wide" s__law_wide a3 f3) (G__law_wide : Fd P w K mg base 3 a3 f3 ["deck"] sp_wide)
    (D__law_due : DL.Def K mg "_law_due" s__law_due a4 f4) (G__law_due : Fd P w K mg base 3 a4 f4 ["some"] sp_dueT)
    (D__law_asked : DL.Def K mg "_law_asked" s__law_asked a5 f5) (G__law_asked : Fd P w K mg base 6 a5 f5 ["some", "way"] (sp_askT P0))
    (D_is_number : DL.Def K mg "is_number" s_is_number a6 f6) (G_is_number : Fd P w K mg base 5 a6 f6 ["thing"] (sp_is_number P0))
    (D__law_for_root : DL.Def K mg "_law_for_root" s__law_for_root a7 f7) (G__law_for_root : Fd P w K mg base 3 a7 f7 ["deck"] sp_for_root)
    (D_times : DL.Def K mg "times" s_times a8 f8) (G_times : Fd P w K mg base 8 a8 f8 ["one", "other"] (sp_pair P0 CB CO mulN))
    (D__law_fraction : DL.Def K mg "_law_fraction" s__law_fraction a9 f9) (G__law_fraction : Fd P w K mg base 3 a9 f9 ["top", "bottom"] sp__law_fraction)
    (D__law_any : DL.Def K mg "_law_any" s__law_any a10 f10) (G__law_any : Fd P w K mg base 5 a10 f10 ["deck", "deep"] (sp_any 2))
    (D__law_instead : DL.Def K mg "_law_instead" s__law_instead a11 f11) (G__law_instead : Fd P w K mg base 1 a11 f11 ["some", "at", "item"] sp_instead)
    (D__law_bent : DL.Def K mg "_law_bent" s__law_bent a12 f12) (G__law_bent : Fd P w K mg base 7 a12 f12 ["deck", "thing", "deep"] (sp_bent 4 200 1))
    (D__law_is_number : DL.Def K mg "_law_is_number" s__law_is_number a13 f13) (G__law_is_number : Fd P w K mg base 2 a13 f13 ["thing"] sp__law_is_number)
    (grepr : mg "repr" = none) (gint : mg "int" = none) (glist : mg "list" = none) (grange : mg "range" = none) : LawFn P w K mg base 9 63 f fdL "script" [P0] := by
  have GD : FnOk P w K mg base CX0 1 aD fD ["script", "seed"] (spDeck K) := ok_deck D__law_deck.F gint glist
  have bD : Binds K fD ["script", "seed"] [] := D__law_deck.F.binds fun _ _ _ _ _ _ us hl => match us, hl with | [_, _], _ => rfl
  have b__law_draw : Binds K f0 ["deck", "many"] [] := D__law_draw.F.binds fun _ _ _ _ _ _ us hl => match us, hl with | [_, _], _ => rfl
  have b__law_pick : Binds K f1 ["deck", "some"] [] := D__law_pick.F.binds fun _ _ _ _ _ _ us hl => match us, hl with | [_, _], _ => rfl
  have b__law_are_squares_right : Binds K f2 ["deck"] [] := D__law_are_squares_right.F.binds fun _ _ _ _ _ _ us hl => match us, hl with | [_], _ => rfl
  have b__law_wide : Binds K f3 ["deck"] [] := D__law_wide.F.binds fun _ _ _ _ _ _ us hl => match us, hl with | [_], _ => rfl
  have b__law_due : Binds K f4 ["some"] [] := D__law_due.F.binds fun _ _ _ _ _ _ us hl => match us, hl with | [_], _ => rfl
  have b__law_asked : Binds K f5 ["some", "way"] [] := D__law_asked.F.binds fun _ _ _ _ _ _ us hl => match us, hl with | [_, _], _ => rfl
  have b_is_number : Binds K f6 ["thing"] [] := D_is_number.F.binds fun _ _ _ _ _ _ us hl => match us, hl with | [_], _ => rfl
  have k_is_number : KBd K f6 ["thing"] ["thing"] 1 id1 := kbd_of D_is_number.F (fun _ _ _ _ _ _ us hl => match us, hl with | [_], _ => rfl) id1_vals id1_rel
  have b__law_for_root : Binds K f7 ["deck"] [] := D__law_for_root.F.binds fun _ _ _ _ _ _ us hl => match us, hl with | [_], _ => rfl
  have b_times : Binds K f8 ["one", "other"] [] := D_times.F.binds fun _ _ _ _ _ _ us hl => match us, hl with | [_, _], _ => rfl
  have b__law_fraction : Binds K f9 ["top", "bottom"] [] := D__law_fraction.F.binds fun _ _ _ _ _ _ us hl => match us, hl with | [_, _], _ => rfl
  have b__law_any : Binds K f10 ["deck", "deep"] [] := D__law_any.F.binds fun _ _ _ _ _ _ us hl => match us, hl with | [_, _], _ => rfl
  have b__law_instead : Binds K f11 ["some", "at", "item"] [] := D__law_instead.F.binds fun _ _ _ _ _ _ us hl => match us, hl with | [_, _, _], _ => rfl
  have b__law_bent : Binds K f12 ["deck", "thing", "deep"] [] := D__law_bent.F.binds fun _ _ _ _ _ _ us hl => match us, hl with | [_, _, _], _ => rfl
  have b__law_is_number : Binds K f13 ["thing"] [] := D__law_is_number.F.binds fun _ _ _ _ _ _ us hl => match us, hl with | [_], _ => rfl
  refine law_of D.F sc_law fun cdv A outer s H sa ns hr hG tk hlen hSc hT => ?_
  have hu := hr.units
  refine ⟨_, pss_cons (ps_set (i := 1) sc_law.nd rfl (.inl rfl) (pe_call GD (hr.mono (by decide)) (by rfl) D__law_deck.g D__law_deck.F.kp bD .nil pass0 (pa_cons (pv 0) (pa_cons pe_int pa_nil))))
    (dss_cons (ds_if (dt_not (dt_val (de_call G__law_are_squares_right (hr.mono (by decide)) hG tk (by rfl) D__law_are_squares_right.g D__law_are_squares_right.F.kp b__law_are_squares_right (da_cons (de_var (pv 1)) da_nil)))) (dss_one (ds_ret de_bl)) dss_nil)
    (dss_cons (ds_for (ps_for (passes_of rfl) rfl (di_range1 (a := .Name "" ⟨0, 0, 0, 0⟩) (pi_range1 (by rfl) grange (da_cons de_int da_nil))) (dg_name (pg_name (i := 2) sc_law.nd rfl (.inl rfl))) (dss_cons (ds_set (i := 3) sc_law.nd rfl (.inl rfl) (de_call G__law_wide (hr.mono (by decide)) hG tk (by rfl) D__law_wide.g D__law_wide.F.kp b__law_wide (da_cons (de_var (pv 1)) da_nil)))
    (dss_cons (ds_set (i := 4) sc_law.nd rfl (.inl rfl) (de_ix (de_call G__law_due (hr.mono (by decide)) hG tk (by rfl) D__law_due.g D__law_due.F.kp b__law_due (da_cons (de_var (pv 3)) da_nil)) de_int (fun _ _ => rfl)))
    (dss_cons (ds_if (L2.PW.pt (dw_or (dt_neS (de_callB cal_rpX (pe_callB (call_rpX hS hG hu) (by rfl) grepr (by decide +kernel) (da_cons (de_tup (da_cons (de_call G__law_asked (hr.mono (by decide)) hG tk (by rfl) D__law_asked.g D__law_asked.F.kp b__law_asked (da_cons (de_var (pv 3)) (da_cons de_int da_nil))) (da_cons (de_call G__law_asked (hr.mono (by decide)) hG tk (by rfl) D__law_asked.g D__law_asked.F.kp b__law_asked (da_cons (de_var (pv 3)) (da_cons de_int da_nil))) da_nil))) da_nil))) (de_callB cal_rpX (pe_callB (call_rpX hS hG hu) (by rfl) grepr (by decide +kernel) (da_cons (de_repT (de_tup (da_cons (de_call G__law_due (hr.mono (by decide)) hG tk (by rfl) D__law_due.g D__law_due.F.kp b__law_due (da_cons (de_var (pv 3)) da_nil)) da_nil)) de_int) da_nil)))) (dw_or1 (dt_notT (de_call G_is_number (hr.mono (by decide)) hG tk (by rfl) D_is_number.g D_is_number.F.kp b_is_number (da_cons (de_var (pv 4)) da_nil)))))) (dss_one (ds_ret de_bl)) dss_nil)
    (dss_cons (ds_set (i := 5) sc_law.nd rfl (.inl rfl) (de_call G__law_for_root (hr.mono (by decide)) hG tk (by rfl) D__law_for_root.g D__law_for_root.F.kp b__law_for_root (da_cons (de_var (pv 1)) da_nil)))
    (dss_cons (ds_set (i := 6) sc_law.nd rfl (.inl rfl) (de_call G__law_asked (hr.mono (by decide)) hG tk (by rfl) D__law_asked.g D__law_asked.F.kp b__law_asked (da_cons (de_var (pv 5)) (da_cons (de_call G__law_draw (hr.mono (by decide)) hG tk (by rfl) D__law_draw.g D__law_draw.F.kp b__law_draw (da_cons (de_var (pv 1)) (da_cons de_int da_nil))) da_nil))))
    (dss_cons (ds_if (L2.PW.pt (dw_or (dt_neS (de_callB cal_rpX (pe_callB (call_rpX hS hG hu) (by rfl) grepr (by decide +kernel) (da_cons (de_var (pv 6)) da_nil))) (de_callB cal_rpX (pe_callB (call_rpX hS hG hu) (by rfl) grepr (by decide +kernel) (da_cons (de_call G__law_due (hr.mono (by decide)) hG tk (by rfl) D__law_due.g D__law_due.F.kp b__law_due (da_cons (de_var (pv 5)) da_nil)) da_nil)))) (dw_or1 (dt_neS (de_callB cal_rpX (pe_callB (call_rpX hS hG hu) (by rfl) grepr (by decide +kernel) (da_cons (de_call G_times (hr.mono (by decide)) hG tk (by rfl) D_times.g D_times.F.kp b_times (da_cons (de_ix (de_var (pv 6)) de_int (fun _ _ => rfl)) (da_cons (de_ix (de_var (pv 6)) de_int (fun _ _ => rfl)) da_nil))) da_nil))) (de_callB cal_rpX (pe_callB (call_rpX hS hG hu) (by rfl) grepr (by decide +kernel) (da_cons (de_call G__law_fraction (hr.mono (by decide)) hG tk (by rfl) D__law_fraction.g D__law_fraction.F.kp b__law_fraction (da_cons (de_ix (de_var (pv 5)) de_int (fun _ _ => rfl)) (da_cons (de_ix (de_var (pv 5)) de_int (fun _ _ => rfl)) da_nil))) da_nil))))))) (dss_one (ds_ret de_bl)) dss_nil)
    (dss_cons (ds_of_par (ps_par (i := 9) (j := 10) (by rfl) sc_law.nd rfl rfl (by decide) rfl rfl (da_cons (de_call G__law_draw (hr.mono (by decide)) hG tk (by rfl) D__law_draw.g D__law_draw.F.kp b__law_draw (da_cons (de_var (pv 1)) (da_cons de_int da_nil))) (da_cons (de_call G__law_pick (hr.mono (by decide)) hG tk (by rfl) D__law_pick.g D__law_pick.F.kp b__law_pick (da_cons (de_var (pv 1)) (da_cons (de_lst (da_cons de_int (da_cons de_non (da_cons de_bl (da_cons de_str (da_cons (de_call G__law_any (hr.mono (by decide)) hG tk (by rfl) D__law_any.g D__law_any.F.kp b__law_any (da_cons (de_var (pv 1)) (da_cons de_int da_nil))) (da_cons (de_tup (da_cons de_int da_nil)) (da_cons (de_lst (da_cons de_int da_nil)) da_nil)))))))) da_nil))) da_nil)) (by rfl)))
    (dss_cons (ds_for (ps_for (passes_of rfl) rfl (di_tup (de_tup (da_cons (de_call G__law_instead (hr.mono (by decide)) hG tk (by rfl) D__law_instead.g D__law_instead.F.kp b__law_instead (da_cons (de_var (pv 3)) (da_cons (de_var (pv 9)) (da_cons (de_var (pv 10)) da_nil)))) (da_cons (de_call G__law_instead (hr.mono (by decide)) hG tk (by rfl) D__law_instead.g D__law_instead.F.kp b__law_instead (da_cons (de_var (pv 5)) (da_cons (de_call G__law_draw (hr.mono (by decide)) hG tk (by rfl) D__law_draw.g D__law_draw.F.kp b__law_draw (da_cons (de_var (pv 1)) (da_cons de_int da_nil))) (da_cons (de_var (pv 10)) da_nil)))) (da_cons (de_tup (da_cons (de_var (pv 10)) (da_cons (de_var (pv 10)) da_nil))) da_nil))))) (dg_name (pg_name (i := 7) sc_law.nd rfl (.inl rfl))) (dss_one (ds_if (L2.PW.pt (dw_and (dt_eq hu (de_ix (de_call G__law_due (hr.mono (by decide)) hG tk (by rfl) D__law_due.g D__law_due.F.kp b__law_due (da_cons (de_var (pv 7)) da_nil)) de_int (fun _ _ => rfl)) de_str) (dw_and1 (dt_neS (de_callB cal_rpX (pe_callB (call_rpX hS hG hu) (by rfl) grepr (by decide +kernel) (da_cons (de_call G__law_asked (hr.mono (by decide)) hG tk (by rfl) D__law_asked.g D__law_asked.F.kp b__law_asked (da_cons (de_var (pv 7)) (da_cons (de_call G__law_draw (hr.mono (by decide)) hG tk (by rfl) D__law_draw.g D__law_draw.F.kp b__law_draw (da_cons (de_var (pv 1)) (da_cons de_int da_nil))) da_nil))) da_nil))) (de_callB cal_rpX (pe_callB (call_rpX hS hG hu) (by rfl) grepr (by decide +kernel) (da_cons (de_call G__law_due (hr.mono (by decide)) hG tk (by rfl) D__law_due.g D__law_due.F.kp b__law_due (da_cons (de_var (pv 7)) da_nil)) da_nil))))))) (dss_one (ds_ret de_bl)) dss_nil))))
    (dss_one (ds_for (ps_for (passes_of rfl) rfl (di_tup (de_tup (da_cons (de_call G__law_bent (hr.mono (by decide)) hG tk (by rfl) D__law_bent.g D__law_bent.F.kp b__law_bent (da_cons (de_var (pv 1)) (da_cons (de_var (pv 4)) (da_cons de_int da_nil)))) (da_cons (de_var (pv 3)) (da_cons (de_call G__law_any (hr.mono (by decide)) hG tk (by rfl) D__law_any.g D__law_any.F.kp b__law_any (da_cons (de_var (pv 1)) (da_cons de_int da_nil))) (da_cons (de_plus (de_sl (de_var (pv 4)) do_none (do_some de_int)) (de_tup (da_cons (de_var (pv 10)) da_nil))) da_nil)))))) (dg_name (pg_name (i := 8) sc_law.nd rfl (.inl rfl))) (dss_one (ds_if (dt_neS (de_callB cal_rpX (pe_callB (call_rpX hS hG hu) (by rfl) grepr (by decide +kernel) (da_cons (de_tup (da_cons (de_call G_is_number (hr.mono (by decide)) hG tk (by rfl) D_is_number.g D_is_number.F.kp b_is_number (da_cons (de_var (pv 8)) da_nil)) (da_cons (de_callK G_is_number (hr.mono (by decide)) hG tk (by rfl) D_is_number.g D_is_number.F.kp k_is_number (dk_cons (de_var (pv 8)) dk_nil)) da_nil))) da_nil))) (de_callB cal_rpX (pe_callB (call_rpX hS hG hu) (by rfl) grepr (by decide +kernel) (da_cons (de_repT (de_tup (da_cons (de_call G__law_is_number (hr.mono (by decide)) hG tk (by rfl) D__law_is_number.g D__law_is_number.F.kp b__law_is_number (da_cons (de_var (pv 8)) da_nil)) da_nil)) de_int) da_nil)))) (dss_one (ds_ret de_bl)) dss_nil)))))))))))))))
    (dss_one (ds_ret de_bl)))), ?_⟩
  refine ⟨_, rfl, sa, ns, _, rfl, hSc, hlen, by decide, by decide, fun d l H' hd hl hne DA sm => ?_⟩
  refine law_go (tabs := [P0]) [some (.raw (.ref sa)), some (.raw (.ref d)), none, none, none, none, none, none, none, none, none] DA (fun b hb => ?_) rfl ?_
  · obtain ⟨ps, e, z⟩ := hT b hb
    exact ⟨ps, sm _ _ e, z⟩
  · have hP : P0 ∈ [P0] := List.mem_singleton.mpr rfl
    have one : 1 ≤ sizeLine := le_line (by decide)
    have two : 2 ≤ sizeLine := le_line (by decide)
    have three : 3 ≤ sizeLine := le_line (by decide)
    have four : 4 ≤ sizeLine := le_line (by decide)
    have seven : 7 ≤ sizeLine := le_line (by decide)
    have hsz : sizeLine = 16777216 := sizeLine_eq
    refine seq_stop [some (.raw (.ref sa)), some (.raw (.ref d)), none, none, none, none, none, none, none, none, none] (fun D' hn ht => ?_) ?_
    · simp only [dIfS]
      simp (config := { maxSteps := 1000000 }) only [dSeq, dIfS, dTest, dOp, dUn, dVar, dC, dTup, dLst, dNil, dCons, dRet, dRetN, dDrop, dSet, dPar, dAsg, dgTup, dgCons, dgNil, dgName, dCB, dNext, dIf, dAnd, dOr, dNot, dNotV, dAndV, dOrV, dCall, dCallK, dRaise, dAug, dSl, dPart, dNoPart, startU_eq, List.map_cons, List.map_nil, List.cons_append, List.nil_append, List.length_cons, List.length_nil, List.replicate, List.getElem?_cons_zero, List.getElem?_cons_succ, List.getElem?_nil, List.set_cons_zero, List.set_cons_succ, Nat.reduceAdd, Nat.reduceSub, ex_uu, ex_bl, ex_tup, ex_lst, ex_int, ex_cons, ex_two, gEq_int, gNe_int, gEq_p2, gNe_p2, gEq_str, ixp0, ixp1, plus_int, star_int, gI_int, gIC_int, ix0, ix1, ix2, ix3, fGcd_int, fIsq_int, fAbs_int, fInt_int, fLen_tup, fLen_lst, fMax2_int, gNeg_int, gFdv, gMod, DL.gSub, gPow, gLt, gLe, gGt, gGe, eq_self, decide_eq_true_eq, Bool.not_eq_true', decide_eq_false_iff_not, true_and, and_true, if_true, if_false, Bool.false_eq_true, Bool.not_true, Bool.not_false]
      refine ⟨d, l, rfl, rfl, hP, _, rfl, ?_⟩
      rw [if_neg (fun z => Bool.noConfusion z)]
      exact hn
    refine dFor_r1 (by decide) (by decide) (fun i ρ => ∃ o2 o3 o4 o5 o6 o7 o8 o9 o10 : Option U, ρ = [some (.raw (.ref sa)), some (.raw (.ref d)), o2, o3, o4, o5, o6, o7, o8, o9, o10]) ⟨_, _, _, _, _, _, _, _, _, rfl⟩ ?_ (fun ρ _ => rfl)
    rintro i u ρ' hi ⟨o2', o3, o4, o5, o6, o7, o8, o9, o10, rfl⟩
    -- some
    refine seq_gen (fun v : Int × Int × Int × Int => [some (.raw (.ref sa)), some (.raw (.ref d)), some u, some (.tup [.int v.1, .int v.2.1, .int v.2.2.1, .int v.2.2.2]), o4, o5, o6, o7, o8, o9, o10]) (fun v => Bd 110 v.1 ∧ Bd 110 v.2.1 ∧ Bd 110 v.2.2.1 ∧ v.2.2.1 ≠ 0 ∧ v.2.2.2 ≠ 0 ∧ v.2.2.2.natAbs ≤ 100000000) (fun D' hn ht => ?_) ?_
    · simp (config := { maxSteps := 1000000 }) only [dSeq, dIfS, dTest, dOp, dUn, dVar, dC, dTup, dLst, dNil, dCons, dRet, dRetN, dDrop, dSet, dPar, dAsg, dgTup, dgCons, dgNil, dgName, dCB, dNext, dIf, dAnd, dOr, dNot, dNotV, dAndV, dOrV, dCall, dCallK, dRaise, dAug, dSl, dPart, dNoPart, startU_eq, List.map_cons, List.map_nil, List.cons_append, List.nil_append, List.length_cons, List.length_nil, List.replicate, List.getElem?_cons_zero, List.getElem?_cons_succ, List.getElem?_nil, List.set_cons_zero, List.set_cons_succ, Nat.reduceAdd, Nat.reduceSub, ex_uu, ex_bl, ex_tup, ex_lst, ex_int, ex_cons, ex_two, gEq_int, gNe_int, gEq_p2, gNe_p2, gEq_str, ixp0, ixp1, plus_int, star_int, gI_int, gIC_int, ix0, ix1, ix2, ix3, fGcd_int, fIsq_int, fAbs_int, fInt_int, fLen_tup, fLen_lst, fMax2_int, gNeg_int, gFdv, gMod, DL.gSub, gPow, gLt, gLe, gGt, gGe, eq_self, decide_eq_true_eq, Bool.not_eq_true', decide_eq_false_iff_not, true_and, and_true, if_true, if_false, Bool.false_eq_true, Bool.not_true, Bool.not_false]
      exact ⟨d, l, rfl, rfl, fun p q t z h1 h2 h3 h4 h5 h6 => hn (p, q, t, z) ⟨h1, h2, h3, h4, h5, h6⟩⟩
    rintro ⟨p, q, t, z⟩ ⟨bp, bq, bt, t0, z0, zb⟩
    replace bp : Bd 110 p := bp
    replace bq : Bd 110 q := bq
    replace bt : Bd 110 t := bt
    replace t0 : t ≠ 0 := t0
    replace z0 : z ≠ 0 := z0
    replace zb : z.natAbs ≤ 100000000 := zb
    dsimp only
    obtain ⟨P', Q', S', W', eN, nP, nQ, nS, nD, nN⟩ := wide_num bp bq bt t0 z0 zb
    have gd : isGood [.int p, .int q, .int t, .int z] = true := by
      show (!decide (t = 0) && !decide (z = 0)) = true
      rw [decide_eq_false t0, decide_eq_false z0]
      rfl
    have sm4 : Small [.int p, .int q, .int t, .int z] := .four (bd_up _ bp (by decide)) (bd_up _ bq (by decide)) (bd_up _ bt (by decide)) (by omega)
    have ai : ∀ i : Int, Bd 110 i → Av 6 2000 (.int i) := fun i hi => (av_int hi (by decide) (by decide)).up
    have avS : ∀ u ∈ [U.int p, U.int q, U.int t, U.int z], Av 6 2000 u := fun u hu => by
      simp only [List.mem_cons, List.not_mem_nil, or_false] at hu
      rcases hu with rfl | rfl | rfl | rfl
      · exact ai _ bp
      · exact ai _ bq
      · exact ai _ bt
      · exact ai _ (bdn (n := 100000000) zb)
    have xsOf : ∀ ts : List U, (∀ u ∈ ts, Av 6 2000 u) → isXs ts = true ∧ ibUs ts = true := fun ts h => ⟨(rpxs (fun u hu => (h u hu).r)).1, ibUs_all.mpr fun u hu => (h u hu).i⟩
    have dueS : ∀ (Q : U → Prop) (Z : XQ), Q (okT (n4 P' Q' S' W')) → sp_dueT { deck := some (d, l), ban := [], tabs := [P0] } [.tup [.int p, .int q, .int t, .int z]] Q Z := fun Q Z hQ => ⟨_, rfl, (xsOf _ avS).1, (xsOf _ avS).2, .inr rfl, (fun h => by rw [gd] at h; cases h), fun _ v hv => by
      rw [hv sm4]
      show Q (okT (nofU p q t z))
      rw [eN]
      exact hQ⟩
    have askS : ∀ (way : Int) (Q : U → Prop) (Z : XQ), Q (okT (n4 P' Q' S' W')) → sp_askT P0 { deck := some (d, l), ban := [], tabs := [P0] } [.tup [.int p, .int q, .int t, .int z], .int way] Q Z := fun way Q Z hQ => ⟨_, _, rfl, (xsOf _ avS).1, .inr rfl, hP, fun _ => sm4, (fun h => by rw [gd] at h; cases h), fun _ => by
      show Q (okT (nofU p q t z))
      rw [eN]
      exact hQ⟩
    -- number
    refine seq_stop [some (.raw (.ref sa)), some (.raw (.ref d)), some u, some (.tup [.int p, .int q, .int t, .int z]), some (n4 P' Q' S' W'), o5, o6, o7, o8, o9, o10] (fun D' hn ht => ?_) ?_
    · simp (config := { maxSteps := 1000000 }) only [dSeq, dIfS, dTest, dOp, dUn, dVar, dC, dTup, dLst, dNil, dCons, dRet, dRetN, dDrop, dSet, dPar, dAsg, dgTup, dgCons, dgNil, dgName, dCB, dNext, dIf, dAnd, dOr, dNot, dNotV, dAndV, dOrV, dCall, dCallK, dRaise, dAug, dSl, dPart, dNoPart, startU_eq, List.map_cons, List.map_nil, List.cons_append, List.nil_append, List.length_cons, List.length_nil, List.replicate, List.getElem?_cons_zero, List.getElem?_cons_succ, List.getElem?_nil, List.set_cons_zero, List.set_cons_succ, Nat.reduceAdd, Nat.reduceSub, ex_uu, ex_bl, ex_tup, ex_lst, ex_int, ex_cons, ex_two, gEq_int, gNe_int, gEq_p2, gNe_p2, gEq_str, ixp0, ixp1, plus_int, star_int, gI_int, gIC_int, ix0, ix1, ix2, ix3, fGcd_int, fIsq_int, fAbs_int, fInt_int, fLen_tup, fLen_lst, fMax2_int, gNeg_int, gFdv, gMod, DL.gSub, gPow, gLt, gLe, gGt, gGe, eq_self, decide_eq_true_eq, Bool.not_eq_true', decide_eq_false_iff_not, true_and, and_true, if_true, if_false, Bool.false_eq_true, Bool.not_true, Bool.not_false]
      refine dueS _ _ ?_
      exact (ix_tup_at _ _ _ (n4 P' Q' S' W') rfl).mpr hn
    have rpN : RpX 1 10000 (n4 P' Q' S' W') := (rp_n4 nP nQ nS nD (by decide) (by decide)).up
    have rpK : ∀ v : U, RpX 1 10000 v → RpX 2 40000 (okT v) := fun v hv => (rpx_tup (L := 2) (dep := 1) (n := 10000) (fun y hy => by
      simp only [List.mem_cons, List.not_mem_nil, or_false] at hy
      rcases hy with rfl | rfl
      · exact (rpx_str "told" (n := 8) (by decide)).up
      · exact hv) (by show 2 ≤ 2; decide)).up
    have rpB : ∀ ts : List U, ts.length ≤ 4 → (∀ u ∈ ts, Av 6 2000 u) → rpOkX (badT ts) := fun ts hl h => RpX.ok (rpx_tup (L := 3) (dep := 7) (n := 20000) (fun y hy => by
      simp only [List.mem_cons, List.not_mem_nil, or_false] at hy
      rcases hy with rfl | rfl | rfl
      · exact (rpx_str "bad" (n := 8) (by decide)).up
      · exact (rpx_tup (L := 4) (dep := 6) (n := 2000) (fun u hu => (h u hu).r) hl).up
      · exact (rpx_bl _).up) (by show 3 ≤ 3; decide)) (by decide) (by omega)
    -- asked twice
    refine seq_stop [some (.raw (.ref sa)), some (.raw (.ref d)), some u, some (.tup [.int p, .int q, .int t, .int z]), some (n4 P' Q' S' W'), o5, o6, o7, o8, o9, o10] (fun D' hn ht => ?_) ?_
    · have rp2 : rpOkX (.tup [okT (n4 P' Q' S' W'), okT (n4 P' Q' S' W')]) := RpX.ok (rpx_tup (L := 2) (dep := 2) (n := 40000) (fun y hy => by
        simp only [List.mem_cons, List.not_mem_nil, or_false] at hy
        rcases hy with rfl | rfl <;> exact rpK _ rpN) (by show 2 ≤ 2; decide)) (by decide) (by omega)
      simp only [dIfS, dOr, dTest]
      simp (config := { maxSteps := 1000000 }) only [dSeq, dIfS, dTest, dOp, dUn, dVar, dC, dTup, dLst, dNil, dCons, dRet, dRetN, dDrop, dSet, dPar, dAsg, dgTup, dgCons, dgNil, dgName, dCB, dNext, dIf, dAnd, dOr, dNot, dNotV, dAndV, dOrV, dCall, dCallK, dRaise, dAug, dSl, dPart, dNoPart, startU_eq, List.map_cons, List.map_nil, List.cons_append, List.nil_append, List.length_cons, List.length_nil, List.replicate, List.getElem?_cons_zero, List.getElem?_cons_succ, List.getElem?_nil, List.set_cons_zero, List.set_cons_succ, Nat.reduceAdd, Nat.reduceSub, ex_uu, ex_bl, ex_tup, ex_lst, ex_int, ex_cons, ex_two, gEq_int, gNe_int, gEq_p2, gNe_p2, gEq_str, ixp0, ixp1, plus_int, star_int, gI_int, gIC_int, ix0, ix1, ix2, ix3, fGcd_int, fIsq_int, fAbs_int, fInt_int, fLen_tup, fLen_lst, fMax2_int, gNeg_int, gFdv, gMod, DL.gSub, gPow, gLt, gLe, gGt, gGe, eq_self, decide_eq_true_eq, Bool.not_eq_true', decide_eq_false_iff_not, true_and, and_true, if_true, if_false, Bool.false_eq_true, Bool.not_true, Bool.not_false]
      refine askS 0 _ _ (askS 1 _ _ ⟨two, fRpX_tupX rp2 (dueS _ _ ⟨one, _, _, rfl, rfl, by simp, by decide, by decide, by show 1 ≤ 1000; decide, ?_⟩)⟩)
      show fRpX [.tup [okT (n4 P' Q' S' W'), okT (n4 P' Q' S' W')]] _
      refine fRpX_tupX rp2 ((neS_same _ _).mpr ⟨_, rfl, ?_⟩)
      rw [if_neg (fun z => Bool.noConfusion z)]
      refine ⟨_, rfl, isX_okU (isX_n4 _ _ _ _), hP, ?_⟩
      rw [nN]
      refine ⟨_, _, rfl, rfl, _, rfl, ?_⟩
      exact hn
    -- near
    refine seq_gen (fun v : Int × Int => [some (.raw (.ref sa)), some (.raw (.ref d)), some u, some (.tup [.int p, .int q, .int t, .int z]), some (n4 P' Q' S' W'), some (.tup [.int v.1, .int v.2]), o6, o7, o8, o9, o10]) (fun v => v.1.natAbs ≤ 1000000 ∧ v.2.natAbs ≤ 1000000 ∧ v.2 ≠ 0) (fun D' hn ht => ?_) ?_
    · simp (config := { maxSteps := 1000000 }) only [dSeq, dIfS, dTest, dOp, dUn, dVar, dC, dTup, dLst, dNil, dCons, dRet, dRetN, dDrop, dSet, dPar, dAsg, dgTup, dgCons, dgNil, dgName, dCB, dNext, dIf, dAnd, dOr, dNot, dNotV, dAndV, dOrV, dCall, dCallK, dRaise, dAug, dSl, dPart, dNoPart, startU_eq, List.map_cons, List.map_nil, List.cons_append, List.nil_append, List.length_cons, List.length_nil, List.replicate, List.getElem?_cons_zero, List.getElem?_cons_succ, List.getElem?_nil, List.set_cons_zero, List.set_cons_succ, Nat.reduceAdd, Nat.reduceSub, ex_uu, ex_bl, ex_tup, ex_lst, ex_int, ex_cons, ex_two, gEq_int, gNe_int, gEq_p2, gNe_p2, gEq_str, ixp0, ixp1, plus_int, star_int, gI_int, gIC_int, ix0, ix1, ix2, ix3, fGcd_int, fIsq_int, fAbs_int, fInt_int, fLen_tup, fLen_lst, fMax2_int, gNeg_int, gFdv, gMod, DL.gSub, gPow, gLt, gLe, gGt, gGe, eq_self, decide_eq_true_eq, Bool.not_eq_true', decide_eq_false_iff_not, true_and, and_true, if_true, if_false, Bool.false_eq_true, Bool.not_true, Bool.not_false]
      exact ⟨d, l, rfl, rfl, fun a b h1 h2 h3 => hn (a, b) ⟨h1, h2, h3⟩⟩
    rintro ⟨x, y⟩ ⟨xb, yb, y0⟩
    replace xb : x.natAbs ≤ 1000000 := xb
    replace yb : y.natAbs ≤ 1000000 := yb
    replace y0 : y ≠ 0 := y0
    dsimp only
    obtain ⟨P2, Q2, S2, D2, eR, xR, nR, sqR, ibR⟩ := near_num xb yb y0
    have gd2 : isGood [.int x, .int y] = true := by
      show (!decide (y = 0)) = true
      rw [decide_eq_false y0]
      rfl
    have sm2 : Small [.int x, .int y] := .two xb yb
    have avR : ∀ u ∈ [U.int x, U.int y], Av 6 2000 u := fun u hu => by
      simp only [List.mem_cons, List.not_mem_nil, or_false] at hu
      rcases hu with rfl | rfl
      · exact ai _ (bdn (n := 1000000) xb)
      · exact ai _ (bdn (n := 1000000) yb)
    -- told
    refine seq_stop [some (.raw (.ref sa)), some (.raw (.ref d)), some u, some (.tup [.int p, .int q, .int t, .int z]), some (n4 P' Q' S' W'), some (.tup [.int x, .int y]), some (okT (n4 P2 Q2 S2 D2)), o7, o8, o9, o10] (fun D' hn ht => ?_) ?_
    · simp (config := { maxSteps := 1000000 }) only [dSeq, dIfS, dTest, dOp, dUn, dVar, dC, dTup, dLst, dNil, dCons, dRet, dRetN, dDrop, dSet, dPar, dAsg, dgTup, dgCons, dgNil, dgName, dCB, dNext, dIf, dAnd, dOr, dNot, dNotV, dAndV, dOrV, dCall, dCallK, dRaise, dAug, dSl, dPart, dNoPart, startU_eq, List.map_cons, List.map_nil, List.cons_append, List.nil_append, List.length_cons, List.length_nil, List.replicate, List.getElem?_cons_zero, List.getElem?_cons_succ, List.getElem?_nil, List.set_cons_zero, List.set_cons_succ, Nat.reduceAdd, Nat.reduceSub, ex_uu, ex_bl, ex_tup, ex_lst, ex_int, ex_cons, ex_two, gEq_int, gNe_int, gEq_p2, gNe_p2, gEq_str, ixp0, ixp1, plus_int, star_int, gI_int, gIC_int, ix0, ix1, ix2, ix3, fGcd_int, fIsq_int, fAbs_int, fInt_int, fLen_tup, fLen_lst, fMax2_int, gNeg_int, gFdv, gMod, DL.gSub, gPow, gLt, gLe, gGt, gGe, eq_self, decide_eq_true_eq, Bool.not_eq_true', decide_eq_false_iff_not, true_and, and_true, if_true, if_false, Bool.false_eq_true, Bool.not_true, Bool.not_false]
      refine ⟨d, l, 2, rfl, rfl, by decide, by decide, fun way w0 w1 => ?_⟩
      refine ⟨_, _, rfl, (xsOf _ avR).1, .inl rfl, hP, fun _ => sm2, (fun h => by rw [gd2] at h; cases h), fun _ => ?_⟩
      rw [show valT [.int x, .int y] = rofU x y from rfl, eR]
      exact hn
    have rpR : RpX 1 10000 (n4 P2 Q2 S2 D2) := (rp_n4 xR.bp xR.bq xR.bs (bd_up _ xR.bd (by decide)) (by decide) (by decide)).up
    refine seq_stop [some (.raw (.ref sa)), some (.raw (.ref d)), some u, some (.tup [.int p, .int q, .int t, .int z]), some (n4 P' Q' S' W'), some (.tup [.int x, .int y]), some (okT (n4 P2 Q2 S2 D2)), o7, o8, o9, o10] (fun D' hn ht => ?_) ?_
    · have rpF : RpX 1 10000 (lowN x 0 y 1) := rp_low (k := 40) y0 (bdn (n := 1000000) xb) (bdn (n := 0) (by decide)) (bdn (n := 1000000) yb) (bdn (n := 1) (by decide)) (by decide) (by decide)
      have rpT : rpOkX (okT (n4 P2 Q2 S2 D2)) := RpX.ok (rpK _ rpR) (by decide) (by omega)
      simp only [dIfS, dOr, dTest]
      simp (config := { maxSteps := 1000000 }) only [dSeq, dIfS, dTest, dOp, dUn, dVar, dC, dTup, dLst, dNil, dCons, dRet, dRetN, dDrop, dSet, dPar, dAsg, dgTup, dgCons, dgNil, dgName, dCB, dNext, dIf, dAnd, dOr, dNot, dNotV, dAndV, dOrV, dCall, dCallK, dRaise, dAug, dSl, dPart, dNoPart, startU_eq, List.map_cons, List.map_nil, List.cons_append, List.nil_append, List.length_cons, List.length_nil, List.replicate, List.getElem?_cons_zero, List.getElem?_cons_succ, List.getElem?_nil, List.set_cons_zero, List.set_cons_succ, Nat.reduceAdd, Nat.reduceSub, ex_uu, ex_bl, ex_tup, ex_lst, ex_int, ex_cons, ex_two, gEq_int, gNe_int, gEq_p2, gNe_p2, gEq_str, ixp0, ixp1, plus_int, star_int, gI_int, gIC_int, ix0, ix1, ix2, ix3, fGcd_int, fIsq_int, fAbs_int, fInt_int, fLen_tup, fLen_lst, fMax2_int, gNeg_int, gFdv, gMod, DL.gSub, gPow, gLt, gLe, gGt, gGe, eq_self, decide_eq_true_eq, Bool.not_eq_true', decide_eq_false_iff_not, true_and, and_true, if_true, if_false, Bool.false_eq_true, Bool.not_true, Bool.not_false]
      refine fRpX_tupX rpT ⟨_, rfl, (xsOf _ avR).1, (xsOf _ avR).2, .inl rfl, (fun h => by rw [gd2] at h; cases h), fun _ v hv => ?_⟩
      rw [hv sm2, show valT [.int x, .int y] = rofU x y from rfl, eR]
      refine fRpX_tupX rpT ((neS_same _ _).mpr ⟨_, rfl, ?_⟩)
      rw [if_neg (fun z => Bool.noConfusion z)]
      refine (ix_tup_at _ _ _ (n4 P2 Q2 S2 D2) rfl).mpr ((ix_tup_at _ _ _ (n4 P2 Q2 S2 D2) rfl).mpr ?_)
      have goR : goU (n4 P2 Q2 S2 D2) (n4 P2 Q2 S2 D2) = true := by
        show goN Q2 D2 Q2 D2 = true
        unfold goN
        simp
      refine ⟨_, _, rfl, isX_okU (isX_n4 _ _ _ _), isX_okU (isX_n4 _ _ _ _), hP, (fun h => by rw [nR] at h; cases h), (fun _ h => by rw [nR] at h; cases h), (fun _ _ h => by rw [goR] at h; cases h), fun _ _ _ => ⟨P2, Q2, S2, D2, P2, Q2, S2, D2, rfl, rfl, xR.sz xR, ?_⟩⟩
      rw [show mulN P2 Q2 S2 D2 P2 Q2 S2 D2 = lowN x 0 y 1 from sqR]
      refine fRpX_low rpF ⟨_, _, rfl, y0, bdn (n := 1000000) yb, fRpX_low rpF ((neS_same _ _).mpr ⟨_, rfl, ?_⟩)⟩
      rw [if_neg (fun z => Bool.noConfusion z)]
      exact hn
    -- at, odd
    refine seq_gen (fun v : Nat × U => [some (.raw (.ref sa)), some (.raw (.ref d)), some u, some (.tup [.int p, .int q, .int t, .int z]), some (n4 P' Q' S' W'), some (.tup [.int x, .int y]), some (okT (n4 P2 Q2 S2 D2)), o7, o8, some (.int (v.1 : Int)), some v.2]) (fun v => v.1 < 4 ∧ Av 6 2000 v.2) (fun D' hn ht => ?_) ?_
    · simp (config := { maxSteps := 1000000 }) only [dSeq, dIfS, dTest, dOp, dUn, dVar, dC, dTup, dLst, dNil, dCons, dRet, dRetN, dDrop, dSet, dPar, dAsg, dgTup, dgCons, dgNil, dgName, dCB, dNext, dIf, dAnd, dOr, dNot, dNotV, dAndV, dOrV, dCall, dCallK, dRaise, dAug, dSl, dPart, dNoPart, startU_eq, List.map_cons, List.map_nil, List.cons_append, List.nil_append, List.length_cons, List.length_nil, List.replicate, List.getElem?_cons_zero, List.getElem?_cons_succ, List.getElem?_nil, List.set_cons_zero, List.set_cons_succ, Nat.reduceAdd, Nat.reduceSub, ex_uu, ex_bl, ex_tup, ex_lst, ex_int, ex_cons, ex_two, gEq_int, gNe_int, gEq_p2, gNe_p2, gEq_str, ixp0, ixp1, plus_int, star_int, gI_int, gIC_int, ix0, ix1, ix2, ix3, fGcd_int, fIsq_int, fAbs_int, fInt_int, fLen_tup, fLen_lst, fMax2_int, gNeg_int, gFdv, gMod, DL.gSub, gPow, gLt, gLe, gGt, gGe, eq_self, decide_eq_true_eq, Bool.not_eq_true', decide_eq_false_iff_not, true_and, and_true, if_true, if_false, Bool.false_eq_true, Bool.not_true, Bool.not_false]
      refine ⟨d, l, 4, rfl, rfl, by decide, by decide, fun r r0 r1 => ⟨d, l, rfl, rfl, fun v hv => ⟨one, one, seven, d, l, _, rfl, rfl, by show 0 < 7; decide, by show 7 < 1000; decide, fun o ho => ?_⟩⟩⟩
      obtain ⟨j, rfl⟩ : ∃ j : Nat, r = (j : Int) := ⟨r.toNat, by omega⟩
      refine hn (j, o) ⟨(by show j < 4; omega), ?_⟩
      simp only [List.mem_cons, List.not_mem_nil, or_false] at ho
      rcases ho with rfl | rfl | rfl | rfl | rfl | rfl | rfl
      · exact ai _ (bdn (n := 0) (by decide))
      · exact av_non.up
      · exact (av_bl _).up
      · exact (av_str "1" (n := 8) (by decide)).up
      · exact hv.up (by decide) (by decide)
      · exact (av_tup (L := 1) (us := [.int 1]) (dep := 0) (n := 120) (fun v hv => by rw [List.mem_singleton.mp hv]; exact (av_int (k := 110) (by decide) (by decide) (by decide)).up) (by show 1 ≤ 1; decide)).up
      · exact (av_lst (L := 1) (us := [.int 2]) (dep := 0) (n := 120) (fun v hv => by rw [List.mem_singleton.mp hv]; exact (av_int (k := 110) (by decide) (by decide) (by decide)).up) (by show 1 ≤ 1; decide)).up
    rintro ⟨at', odd⟩ ⟨hat, hodd⟩
    replace hat : at' < 4 := hat
    replace hodd : Av 6 2000 odd := hodd
    dsimp only
    -- wrong
    refine seq_gen (fun v : Option U => [some (.raw (.ref sa)), some (.raw (.ref d)), some u, some (.tup [.int p, .int q, .int t, .int z]), some (n4 P' Q' S' W'), some (.tup [.int x, .int y]), some (okT (n4 P2 Q2 S2 D2)), v, o8, some (.int (at' : Int)), some odd]) (fun _ => True) (fun D' hn ht => ?_) ?_
    · refine dFor_tup (fun u => ∃ ts, u = .tup ts ∧ (ts.length = 2 ∨ ts.length = 4) ∧ ∀ v ∈ ts, Av 6 2000 v) (fun ρ => ∃ v : Option U, ρ = [some (.raw (.ref sa)), some (.raw (.ref d)), some u, some (.tup [.int p, .int q, .int t, .int z]), some (n4 P' Q' S' W'), some (.tup [.int x, .int y]), some (okT (n4 P2 Q2 S2 D2)), v, o8, some (.int (at' : Int)), some odd]) ⟨_, rfl⟩ ?_ ?_ ?_
      · intro Q hQ
        have setAv : ∀ (ts : List U) (i : Nat), (∀ u ∈ ts, Av 6 2000 u) → ∀ u ∈ ts.set i odd, Av 6 2000 u := fun ts i h u hu => by
          rcases List.mem_or_eq_of_mem_set hu with z | z
          · exact h u z
          · rw [z]
            exact hodd
        simp (config := { maxSteps := 1000000 }) only [dSeq, dIfS, dTest, dOp, dUn, dVar, dC, dTup, dLst, dNil, dCons, dRet, dRetN, dDrop, dSet, dPar, dAsg, dgTup, dgCons, dgNil, dgName, dCB, dNext, dIf, dAnd, dOr, dNot, dNotV, dAndV, dOrV, dCall, dCallK, dRaise, dAug, dSl, dPart, dNoPart, startU_eq, List.map_cons, List.map_nil, List.cons_append, List.nil_append, List.length_cons, List.length_nil, List.replicate, List.getElem?_cons_zero, List.getElem?_cons_succ, List.getElem?_nil, List.set_cons_zero, List.set_cons_succ, Nat.reduceAdd, Nat.reduceSub, ex_uu, ex_bl, ex_tup, ex_lst, ex_int, ex_cons, ex_two, gEq_int, gNe_int, gEq_p2, gNe_p2, gEq_str, ixp0, ixp1, plus_int, star_int, gI_int, gIC_int, ix0, ix1, ix2, ix3, fGcd_int, fIsq_int, fAbs_int, fInt_int, fLen_tup, fLen_lst, fMax2_int, gNeg_int, gFdv, gMod, DL.gSub, gPow, gLt, gLe, gGt, gGe, eq_self, decide_eq_true_eq, Bool.not_eq_true', decide_eq_false_iff_not, true_and, and_true, if_true, if_false, Bool.false_eq_true, Bool.not_true, Bool.not_false]
        refine ⟨_, at', _, rfl, by show at' < 4; exact hat, by show 4 ≤ 900; decide, d, l, 2, rfl, rfl, by decide, by decide, fun r r0 r1 => ?_⟩
        obtain ⟨j, rfl⟩ : ∃ j : Nat, r = (j : Int) := ⟨r.toNat, by omega⟩
        refine ⟨_, j, _, rfl, by show j < 2; omega, by show 2 ≤ 900; decide, two, three, hQ _ fun u hu => ?_⟩
        simp only [List.mem_cons, List.not_mem_nil, or_false] at hu
        rcases hu with rfl | rfl | rfl
        · exact ⟨_, rfl, .inr (by rw [List.length_set]; rfl), setAv _ _ avS⟩
        · exact ⟨_, rfl, .inl (by rw [List.length_set]; rfl), setAv _ _ avR⟩
        · refine ⟨_, rfl, .inl rfl, fun v hv => ?_⟩
          simp only [List.mem_cons, List.not_mem_nil, or_false] at hv
          rcases hv with rfl | rfl <;> exact hodd
      · rintro w' ρ' ⟨ts, rfl, hl, hav⟩ ⟨v, rfl⟩
        simp only [dIfS, dAnd, dTest]
        simp (config := { maxSteps := 1000000 }) only [dSeq, dIfS, dTest, dOp, dUn, dVar, dC, dTup, dLst, dNil, dCons, dRet, dRetN, dDrop, dSet, dPar, dAsg, dgTup, dgCons, dgNil, dgName, dCB, dNext, dIf, dAnd, dOr, dNot, dNotV, dAndV, dOrV, dCall, dCallK, dRaise, dAug, dSl, dPart, dNoPart, startU_eq, List.map_cons, List.map_nil, List.cons_append, List.nil_append, List.length_cons, List.length_nil, List.replicate, List.getElem?_cons_zero, List.getElem?_cons_succ, List.getElem?_nil, List.set_cons_zero, List.set_cons_succ, Nat.reduceAdd, Nat.reduceSub, ex_uu, ex_bl, ex_tup, ex_lst, ex_int, ex_cons, ex_two, gEq_int, gNe_int, gEq_p2, gNe_p2, gEq_str, ixp0, ixp1, plus_int, star_int, gI_int, gIC_int, ix0, ix1, ix2, ix3, fGcd_int, fIsq_int, fAbs_int, fInt_int, fLen_tup, fLen_lst, fMax2_int, gNeg_int, gFdv, gMod, DL.gSub, gPow, gLt, gLe, gGt, gGe, eq_self, decide_eq_true_eq, Bool.not_eq_true', decide_eq_false_iff_not, true_and, and_true, if_true, if_false, Bool.false_eq_true, Bool.not_true, Bool.not_false]
        have hx2 := xsOf ts hav
        have rpb : rpOkX (badT ts) := rpB ts (by omega) hav
        have dueW : ∀ (Q : U → Prop) (Z : XQ), (isGood ts = false → Q (badT ts)) → (isGood ts = true → ∀ x, Q (okT x)) → sp_dueT { deck := some (d, l), ban := [], tabs := [P0] } [.tup ts] Q Z := fun Q Z h1 h2 => ⟨_, rfl, hx2.1, hx2.2, hl, h1, fun g x _ => h2 g x⟩
        refine dueW _ _ (fun g => ?_) (fun g x => ?_)
        · refine (ix_tup_at _ _ _ (.str "bad") rfl).mpr ((gEq_str _ _ _).mpr ⟨by decide +kernel, by decide +kernel, _, rfl, ?_⟩)
          rw [if_pos (by decide)]
          refine ⟨d, l, 2, rfl, rfl, by decide, by decide, fun way w0 w1 => ⟨_, _, rfl, hx2.1, hl, hP, (fun h => by rw [g] at h; cases h), (fun _ => fRpX_tupX rpb (dueW _ _ (fun _ => fRpX_tupX rpb ((neS_same _ _).mpr ⟨_, rfl, ?_⟩)) (fun g' => by rw [g] at g'; cases g'))), (fun h => by rw [g] at h; cases h)⟩⟩
          rw [if_neg (fun z => Bool.noConfusion z)]
          exact ⟨_, rfl⟩
        · refine (ix_tup_at _ _ _ (.str "told") rfl).mpr ((gEq_str _ _ _).mpr ⟨by decide +kernel, by decide +kernel, _, rfl, ?_⟩)
          rw [if_neg (by decide)]
          exact ⟨_, rfl⟩
      · rintro ρ' ⟨v, rfl⟩
        exact hn v trivial
    intro v _
    -- thing
    refine dFor_tup (fun u => isX u = true) (fun ρ => ∃ v8 : Option U, ρ = [some (.raw (.ref sa)), some (.raw (.ref d)), some u, some (.tup [.int p, .int q, .int t, .int z]), some (n4 P' Q' S' W'), some (.tup [.int x, .int y]), some (okT (n4 P2 Q2 S2 D2)), v, v8, some (.int (at' : Int)), some odd]) ⟨_, rfl⟩ ?_ ?_ ?_
    · intro Q hQ
      simp (config := { maxSteps := 1000000 }) only [dSeq, dIfS, dTest, dOp, dUn, dVar, dC, dTup, dLst, dNil, dCons, dRet, dRetN, dDrop, dSet, dPar, dAsg, dgTup, dgCons, dgNil, dgName, dCB, dNext, dIf, dAnd, dOr, dNot, dNotV, dAndV, dOrV, dCall, dCallK, dRaise, dAug, dSl, dPart, dNoPart, startU_eq, List.map_cons, List.map_nil, List.cons_append, List.nil_append, List.length_cons, List.length_nil, List.replicate, List.getElem?_cons_zero, List.getElem?_cons_succ, List.getElem?_nil, List.set_cons_zero, List.set_cons_succ, Nat.reduceAdd, Nat.reduceSub, ex_uu, ex_bl, ex_tup, ex_lst, ex_int, ex_cons, ex_two, gEq_int, gNe_int, gEq_p2, gNe_p2, gEq_str, ixp0, ixp1, plus_int, star_int, gI_int, gIC_int, ix0, ix1, ix2, ix3, fGcd_int, fIsq_int, fAbs_int, fInt_int, fLen_tup, fLen_lst, fMax2_int, gNeg_int, gFdv, gMod, DL.gSub, gPow, gLt, gLe, gGt, gGe, eq_self, decide_eq_true_eq, Bool.not_eq_true', decide_eq_false_iff_not, true_and, and_true, if_true, if_false, Bool.false_eq_true, Bool.not_true, Bool.not_false]
      have thN : Th 4 200 1 (n4 P' Q' S' W') := .tup (by show 4 ≤ 4; decide) fun u hu => by
        have up : ∀ i : Int, Bd 160 i → Th 4 200 0 (.int i) := fun i hi => .int (bd_up _ hi (by decide))
        simp only [List.mem_cons, List.not_mem_nil, or_false] at hu
        rcases hu with rfl | rfl | rfl | rfl
        · exact up _ nP
        · exact up _ nQ
        · exact up _ nS
        · exact up _ nD
      refine ⟨d, l, 1, _, rfl, rfl, thN, by decide, fun v1 hv1 => ⟨d, l, rfl, rfl, fun v2 hv2 => ?_⟩⟩
      refine .inr ⟨_, rfl, one, (plus_tup _ _ _).mpr ?_⟩
      have ec : cutU [U.int P', .int Q', .int S', .int W'] none (some 3) = [.int P', .int Q', .int S'] := cut_to [U.int P', .int Q', .int S', .int W'] 3 (by show 3 ≤ 4; decide)
      rw [ec]
      refine ⟨four, four, hQ _ fun u hu => ?_⟩
      simp only [List.mem_cons, List.not_mem_nil, or_false] at hu
      rcases hu with rfl | rfl | rfl | rfl
      · exact hv1.r.x
      · rfl
      · exact hv2.r.x
      · show (isX odd && true) = true
        rw [hodd.r.x]
        rfl
    · rintro w' ρ' hx ⟨v8, rfl⟩
      simp only [dIfS, dTest]
      simp (config := { maxSteps := 1000000 }) only [dSeq, dIfS, dTest, dOp, dUn, dVar, dC, dTup, dLst, dNil, dCons, dRet, dRetN, dDrop, dSet, dPar, dAsg, dgTup, dgCons, dgNil, dgName, dCB, dNext, dIf, dAnd, dOr, dNot, dNotV, dAndV, dOrV, dCall, dCallK, dRaise, dAug, dSl, dPart, dNoPart, startU_eq, List.map_cons, List.map_nil, List.cons_append, List.nil_append, List.length_cons, List.length_nil, List.replicate, List.getElem?_cons_zero, List.getElem?_cons_succ, List.getElem?_nil, List.set_cons_zero, List.set_cons_succ, Nat.reduceAdd, Nat.reduceSub, ex_uu, ex_bl, ex_tup, ex_lst, ex_int, ex_cons, ex_two, gEq_int, gNe_int, gEq_p2, gNe_p2, gEq_str, ixp0, ixp1, plus_int, star_int, gI_int, gIC_int, ix0, ix1, ix2, ix3, fGcd_int, fIsq_int, fAbs_int, fInt_int, fLen_tup, fLen_lst, fMax2_int, gNeg_int, gFdv, gMod, DL.gSub, gPow, gLt, gLe, gGt, gGe, eq_self, decide_eq_true_eq, Bool.not_eq_true', decide_eq_false_iff_not, true_and, and_true, if_true, if_false, Bool.false_eq_true, Bool.not_true, Bool.not_false]
      have rpb : rpOkX (.tup [.bl (isNum w'), .bl (isNum w')]) := RpX.ok (rpx_tup (L := 2) (dep := 0) (n := 5) (fun y hy => by
        simp only [List.mem_cons, List.not_mem_nil, or_false] at hy
        rcases hy with rfl | rfl <;> exact rpx_bl _) (by show 2 ≤ 2; decide)) (by decide) (by omega)
      refine ⟨_, rfl, isX_okU hx, hP, ⟨_, rfl, isX_okU hx, hP, two, fRpX_tupX rpb ⟨_, rfl, hx, one, _, _, rfl, rfl, by simp, by decide, by decide, by show 1 ≤ 1000; decide, ?_⟩⟩⟩
      show fRpX [.tup [.bl (isNum w'), .bl (isNum w')]] _
      refine fRpX_tupX rpb ((neS_same _ _).mpr ⟨_, rfl, ?_⟩)
      rw [if_neg (fun z => Bool.noConfusion z)]
      exact ⟨_, rfl⟩
    · rintro ρ' ⟨v8, rfl⟩
      exact ⟨_, _, _, _, _, _, _, _, _, rfl⟩
end
end T01
set_option Elab.async false
set_option linter.all false
set_option maxRecDepth 100000
set_option maxHeartbeats 0
namespace T01
open PySem PySem.Spec PyProof.Rows L2 XR DL
open PySem.XK (ExF)
section
variable {K : PySem.W.Frag}
theorem exf_ok {C fI : Addr} (h : hexB K C fI = true)
    (hf : ∃ (oc : Value) (od : Option Addr) (qual : Str) (kV doc pm : Value) (an : Option Addr) (cdv ct : Value) (osl : Array (Option Value)) (p1 p2 q1 q2 q3 q4 : Pos),
      K.lookup fI = some ⟨oc, od, .func (PySem.W.fnOf "__init__" qual (PySem.XK.xA p1 p2) (PySem.XK.xB q1 q2 q3 q4) PySem.XK.xS .none kV doc pm an cdv ct), osl⟩ ∧ PySem.W.codeIn K cdv qual = true) : ExF K C fI := by
  obtain ⟨x, y⟩ := He.ba h
  obtain ⟨a1, x⟩ := He.ba x
  obtain ⟨a2, x⟩ := He.ba x
  obtain ⟨a3, x⟩ := He.ba x
  obtain ⟨a4, x⟩ := He.ba x
  obtain ⟨a5, x⟩ := He.ba x
  obtain ⟨a6, x⟩ := He.ba x
  obtain ⟨a7, x⟩ := He.ba x
  obtain ⟨a8, a9⟩ := He.ba x
  obtain ⟨b1, y⟩ := He.ba y
  obtain ⟨b2, y⟩ := He.ba y
  obtain ⟨b3, y⟩ := He.ba y
  obtain ⟨b4, y⟩ := He.ba y
  obtain ⟨b5, y⟩ := He.ba y
  obtain ⟨b6, b7⟩ := He.ba y
  exact ⟨a1, a2, He.eqO_ok a3, He.eqO_ok a4, He.eqO_ok a5, He.eqO_ok a6, a7, He.eqO_ok a8, of_decide_eq_true a9, b1, of_decide_eq_true b2, of_decide_eq_true b3, He.eqO_ok b4, of_decide_eq_true b5, He.eqO_ok b6, of_decide_eq_true b7, hf⟩
theorem no_dfl {dV : Value} (h : DflV K dV []) : dV = .none := by
  rcases h with ⟨_, e⟩ | ⟨e, _⟩
  · exact e
  · exact absurd rfl e
theorem init_ok (c : He.SaysD fa fn K) {x q : Str} {st : Stmt} (hm : dI x q st ∈ fn) (hs : ∃ (p1 p2 q1 q2 q3 q4 : Pos), defArgs st = PySem.XK.xA p1 p2 ∧ defBody st = PySem.XK.xB q1 q2 q3 q4 ∧ defScope st = PySem.XK.xS) :
    ∃ (oc : Value) (od : Option Addr) (qual : Str) (kV doc pm : Value) (an : Option Addr) (cdv ct : Value) (osl : Array (Option Value)) (p1 p2 q1 q2 q3 q4 : Pos),
      K.lookup (hI K x) = some ⟨oc, od, .func (PySem.W.fnOf "__init__" qual (PySem.XK.xA p1 p2) (PySem.XK.xB q1 q2 q3 q4) PySem.XK.xS .none kV doc pm an cdv ct), osl⟩ ∧ PySem.W.codeIn K cdv qual = true := by
  obtain ⟨fd, F⟩ := c.defs hm
  obtain ⟨oc, od, dV, kV, doc, pm, an, cdv, ct, osl, rfl, lk, hcd, dv, _⟩ := F.ex
  obtain ⟨p1, p2, q1, q2, q3, q4, e1, e2, e3⟩ := hs
  have ed : dV = .none := no_dfl dv
  subst ed
  have lk2 : K.lookup (hI K x) = some ⟨oc, od, .func (PySem.W.fnOf "__init__" q (defArgs st) (defBody st) (defScope st) .none kV doc pm an cdv ct), osl⟩ := lk
  rw [e1, e2, e3] at lk2
  exact ⟨oc, od, q, kV, doc, pm, an, cdv, ct, osl, p1, p2, q1, q2, q3, q4, lk2, hcd⟩
theorem fun_of {x qual : Str} {st : Stmt} {f : Addr} {fd : FuncData} (F : FunD K x qual (defArgs st) (defBody st) (defScope st) [] [] f fd) : Fun K x qual st f fd := by
  obtain ⟨oc, od, dV, kV, doc, pm, an, cdv, ct, osl, rfl, lk, hcd, dv, _⟩ := F.ex
  have ed : dV = .none := no_dfl dv
  subst ed
  exact ⟨⟨oc, od, kV, doc, pm, an, cdv, ct, osl, rfl, lk, hcd⟩, F.kp⟩
theorem ktup_ok {x : Str} {is : List Int} (h : He.tupB K x (is.map He.Dv.int) = true) : KTup K (He.ga K x) (is.map U.int) := by
  have s := He.tupB_ok h (fun _ => none)
  have e : (is.map He.Dv.int).map (He.Dv.v K) = is.map V.int := by
    rw [List.map_map]
    rfl
  rw [e] at s
  rcases s with (z | ⟨o, z⟩) | z
  · cases z
  · cases z
  · exact ⟨is.map V.int, z, fun m H => RelL.ints is⟩
theorem whole_ok {mg : Str → Option Value} {f : Addr} {fd : FuncData} {st : Stmt} (F : Fun K "is_whole" "is_whole" st f fd) (g : mg "is_whole" = some (.ref f)) (h1 : mg "isinstance" = none) (h2 : mg "int" = none) (h3 : mg "bool" = none)
    (hs : ∃ (p1 a1 a2 a3 a4 b1 b2 b3 b4 c d e : Pos), defArgs st = wArgs p1 ∧ defBody st = wBody a1 a2 a3 a4 b1 b2 b3 b4 c d e ∧ defScope st = wScope) : WholeAt K mg f := by
  obtain ⟨oc, od, kV, doc, pm, an, cdv, ct, osl, rfl, lk, hcd⟩ := F.ex
  obtain ⟨p1, a1, a2, a3, a4, b1, b2, b3, b4, c, d, e, e1, e2, e3⟩ := hs
  rw [e1, e2, e3] at lk
  exact ⟨g, F.kp, h1, h2, h3, oc, od, osl, "is_whole", kV, doc, pm, cdv, ct, an, p1, a1, a2, a3, a4, b1, b2, b3, b4, c, d, e, lk, hcd⟩
end
theorem facts {w : World} {h : Heap} {mg : Str → Option Value} {f : Addr} {K : PySem.W.Frag} (X : K.In h) (G : h.Ns mainGlobals mg) (hfa : mg ("law" : Str) = some (.ref f)) (c : He.SaysX fa fn [] tf exB w h K) : LawAt PySem.Challenge.rw_twicestep_k01_numbers_of_any_values w 9 63 "script" mg f h := by
  have cd : He.SaysD fa fn K := c.t.d
  have fr : ∀ x, x ∈ freeN → mg x = none := fun x hx => He.free_ok X G (cd.facts (List.mem_append_left _ (List.mem_append_right _ (List.mem_map_of_mem hx))))
  have gl : ∀ x, x ∈ gloN → mg x = some (.ref (He.ga K x)) := fun x hx => He.glo_ok X G (cd.facts (List.mem_append_left _ (List.mem_append_left _ (List.mem_map_of_mem hx))))
  have more := c.more
  unfold exB at more
  obtain ⟨errB, more⟩ := He.ba more
  obtain ⟨imp_gcd, more⟩ := He.ba more
  obtain ⟨imp_isqrt, more⟩ := He.ba more
  have con_ZERO := more
  have errR : ∀ x, x ∈ errN → rowB K x = true := fun x hx => List.all_eq_true.mp errB x hx
  have gException : mg "Exception" = none := fr _ (by decide +kernel)
  have gabs : mg "abs" = none := fr _ (by decide +kernel)
  have gall : mg "all" = none := fr _ (by decide +kernel)
  have gbool : mg "bool" = none := fr _ (by decide +kernel)
  have gint : mg "int" = none := fr _ (by decide +kernel)
  have gisi : mg "isinstance" = none := fr _ (by decide +kernel)
  have glen : mg "len" = none := fr _ (by decide +kernel)
  have glist : mg "list" = none := fr _ (by decide +kernel)
  have gmax : mg "max" = none := fr _ (by decide +kernel)
  have grange : mg "range" = none := fr _ (by decide +kernel)
  have grepr : mg "repr" = none := fr _ (by decide +kernel)
  have gstr : mg "str" = none := fr _ (by decide +kernel)
  have gtup : mg "tuple" = none := fr _ (by decide +kernel)
  have i_gcd : mg "gcd" = some (.builtin "math.gcd") := PySem.W.mg_of X G (He.eqO_ok imp_gcd)
  have i_isqrt : mg "isqrt" = some (.builtin "math.isqrt") := PySem.W.mg_of X G (He.eqO_ok imp_isqrt)
  have T : TxtN K mg := ⟨i_gcd, i_isqrt⟩
  obtain ⟨t_LAST_TRIED, h_LAST_TRIED⟩ := He.int_ok X G (cd.facts (f := He.Fa.int "LAST_TRIED" 100000) (List.mem_append_right _ (List.mem_of_getElem? (i := 0) rfl)))
  obtain ⟨t_LARGEST_ROOT, h_LARGEST_ROOT⟩ := He.int_ok X G (cd.facts (f := He.Fa.int "LARGEST_ROOT" 1000000000000) (List.mem_append_right _ (List.mem_of_getElem? (i := 1) rfl)))
  have g_ZERO : mg "ZERO" = some (.ref (He.ga K "ZERO")) := gl _ (by decide +kernel)
  have k_ZERO : KTup K (He.ga K "ZERO") [.int 0, .int 0, .int 1, .int 1] := ktup_ok (is := [0, 0, 1, 1]) con_ZERO
  have gStepError : mg "StepError" = some (.ref (hA K "StepError")) := gl _ (by decide +kernel)
  have gBadNumber : mg "BadNumber" = some (.ref (hA K "BadNumber")) := gl _ (by decide +kernel)
  have rBadNumber := He.ba (errR "BadNumber" (by decide +kernel))
  have xBadNumber : ExF K (hA K "BadNumber") (hI K "BadNumber") := exf_ok rBadNumber.1 (init_ok cd (x := "BadNumber") (q := "BadNumber.__init__") (st := ini_BadNumber) (List.mem_of_getElem? (show fn[0]? = some _ from rfl)) ⟨_, _, _, _, _, _, rfl, rfl, rfl⟩)
  have i_BadNumber_StepError : PySem.W.kitOne K (.ref (hA K "BadNumber")) (.ref (hA K "StepError")) = some true := of_decide_eq_true (He.ba rBadNumber.2).1
  have gOtherRoot : mg "OtherRoot" = some (.ref (hA K "OtherRoot")) := gl _ (by decide +kernel)
  have rOtherRoot := He.ba (errR "OtherRoot" (by decide +kernel))
  have xOtherRoot : ExF K (hA K "OtherRoot") (hI K "OtherRoot") := exf_ok rOtherRoot.1 (init_ok cd (x := "OtherRoot") (q := "OtherRoot.__init__") (st := ini_OtherRoot) (List.mem_of_getElem? (show fn[1]? = some _ from rfl)) ⟨_, _, _, _, _, _, rfl, rfl, rfl⟩)
  have i_OtherRoot_StepError : PySem.W.kitOne K (.ref (hA K "OtherRoot")) (.ref (hA K "StepError")) = some true := of_decide_eq_true (He.ba rOtherRoot.2).1
  have q_BadNumber_BadNumber := He.ba (List.all_eq_true.mp (He.ba rBadNumber.2).2 "BadNumber" (by decide +kernel))
  have i_BadNumber_BadNumber : PySem.W.kitOne K (.ref (hA K "BadNumber")) (.ref (hA K "BadNumber")) = some true := of_decide_eq_true q_BadNumber_BadNumber.1
  have m_BadNumber_BadNumber : PySem.W.exmOne K (.ref (hA K "BadNumber")) (.ref (hA K "BadNumber")) = some true := of_decide_eq_true q_BadNumber_BadNumber.2
  have q_BadNumber_OtherRoot := He.ba (List.all_eq_true.mp (He.ba rBadNumber.2).2 "OtherRoot" (by decide +kernel))
  have i_BadNumber_OtherRoot : PySem.W.kitOne K (.ref (hA K "BadNumber")) (.ref (hA K "OtherRoot")) = some false := of_decide_eq_true q_BadNumber_OtherRoot.1
  have m_BadNumber_OtherRoot : PySem.W.exmOne K (.ref (hA K "BadNumber")) (.ref (hA K "OtherRoot")) = some false := of_decide_eq_true q_BadNumber_OtherRoot.2
  have q_OtherRoot_BadNumber := He.ba (List.all_eq_true.mp (He.ba rOtherRoot.2).2 "BadNumber" (by decide +kernel))
  have i_OtherRoot_BadNumber : PySem.W.kitOne K (.ref (hA K "OtherRoot")) (.ref (hA K "BadNumber")) = some false := of_decide_eq_true q_OtherRoot_BadNumber.1
  have m_OtherRoot_BadNumber : PySem.W.exmOne K (.ref (hA K "OtherRoot")) (.ref (hA K "BadNumber")) = some false := of_decide_eq_true q_OtherRoot_BadNumber.2
  have q_OtherRoot_OtherRoot := He.ba (List.all_eq_true.mp (He.ba rOtherRoot.2).2 "OtherRoot" (by decide +kernel))
  have i_OtherRoot_OtherRoot : PySem.W.kitOne K (.ref (hA K "OtherRoot")) (.ref (hA K "OtherRoot")) = some true := of_decide_eq_true q_OtherRoot_OtherRoot.1
  have m_OtherRoot_OtherRoot : PySem.W.exmOne K (.ref (hA K "OtherRoot")) (.ref (hA K "OtherRoot")) = some true := of_decide_eq_true q_OtherRoot_OtherRoot.2
  obtain ⟨fd_is_whole, F_is_whole⟩ : ∃ fd, Fun K "is_whole" "is_whole" s_is_whole (He.ga K "is_whole") fd := by
    obtain ⟨fd, F⟩ := cd.defs (d := dD "is_whole" "is_whole" s_is_whole) (List.mem_of_getElem? (show fn[2]? = some _ from rfl))
    exact ⟨fd, fun_of F⟩
  have e_is_whole : mg "is_whole" = some (.ref (He.ga K "is_whole")) := gl _ (by decide +kernel)
  have D_is_whole : DL.Def K mg "is_whole" s_is_whole (He.ga K "is_whole") fd_is_whole := ⟨F_is_whole, e_is_whole⟩
  obtain ⟨fd_are_whole, F_are_whole⟩ : ∃ fd, Fun K "are_whole" "are_whole" s_are_whole (He.ga K "are_whole") fd := by
    obtain ⟨fd, F⟩ := cd.defs (d := dD "are_whole" "are_whole" s_are_whole) (List.mem_of_getElem? (show fn[3]? = some _ from rfl))
    exact ⟨fd, fun_of F⟩
  have e_are_whole : mg "are_whole" = some (.ref (He.ga K "are_whole")) := gl _ (by decide +kernel)
  have D_are_whole : DL.Def K mg "are_whole" s_are_whole (He.ga K "are_whole") fd_are_whole := ⟨F_are_whole, e_are_whole⟩
  obtain ⟨fd_square_split, F_square_split⟩ : ∃ fd, Fun K "square_split" "square_split" s_square_split (He.ga K "square_split") fd := by
    obtain ⟨fd, F⟩ := cd.defs (d := dD "square_split" "square_split" s_square_split) (List.mem_of_getElem? (show fn[4]? = some _ from rfl))
    exact ⟨fd, fun_of F⟩
  have e_square_split : mg "square_split" = some (.ref (He.ga K "square_split")) := gl _ (by decide +kernel)
  have D_square_split : DL.Def K mg "square_split" s_square_split (He.ga K "square_split") fd_square_split := ⟨F_square_split, e_square_split⟩
  obtain ⟨fd_is_square_free, F_is_square_free⟩ : ∃ fd, Fun K "is_square_free" "is_square_free" s_is_square_free (He.ga K "is_square_free") fd := by
    obtain ⟨fd, F⟩ := cd.defs (d := dD "is_square_free" "is_square_free" s_is_square_free) (List.mem_of_getElem? (show fn[5]? = some _ from rfl))
    exact ⟨fd, fun_of F⟩
  have e_is_square_free : mg "is_square_free" = some (.ref (He.ga K "is_square_free")) := gl _ (by decide +kernel)
  have D_is_square_free : DL.Def K mg "is_square_free" s_is_square_free (He.ga K "is_square_free") fd_is_square_free := ⟨F_is_square_free, e_is_square_free⟩
  obtain ⟨fd_lowest, F_lowest⟩ : ∃ fd, Fun K "lowest" "lowest" s_lowest (He.ga K "lowest") fd := by
    obtain ⟨fd, F⟩ := cd.defs (d := dD "lowest" "lowest" s_lowest) (List.mem_of_getElem? (show fn[6]? = some _ from rfl))
    exact ⟨fd, fun_of F⟩
  have e_lowest : mg "lowest" = some (.ref (He.ga K "lowest")) := gl _ (by decide +kernel)
  have D_lowest : DL.Def K mg "lowest" s_lowest (He.ga K "lowest") fd_lowest := ⟨F_lowest, e_lowest⟩
  obtain ⟨fd_is_fraction, F_is_fraction⟩ : ∃ fd, Fun K "is_fraction" "is_fraction" s_is_fraction (He.ga K "is_fraction") fd := by
    obtain ⟨fd, F⟩ := cd.defs (d := dD "is_fraction" "is_fraction" s_is_fraction) (List.mem_of_getElem? (show fn[7]? = some _ from rfl))
    exact ⟨fd, fun_of F⟩
  have e_is_fraction : mg "is_fraction" = some (.ref (He.ga K "is_fraction")) := gl _ (by decide +kernel)
  have D_is_fraction : DL.Def K mg "is_fraction" s_is_fraction (He.ga K "is_fraction") fd_is_fraction := ⟨F_is_fraction, e_is_fraction⟩
  obtain ⟨fd_go_together, F_go_together⟩ : ∃ fd, Fun K "go_together" "go_together" s_go_together (He.ga K "go_together") fd := by
    obtain ⟨fd, F⟩ := cd.defs (d := dD "go_together" "go_together" s_go_together) (List.mem_of_getElem? (show fn[8]? = some _ from rfl))
    exact ⟨fd, fun_of F⟩
  have e_go_together : mg "go_together" = some (.ref (He.ga K "go_together")) := gl _ (by decide +kernel)
  have D_go_together : DL.Def K mg "go_together" s_go_together (He.ga K "go_together") fd_go_together := ⟨F_go_together, e_go_together⟩
  obtain ⟨fd_common_root, F_common_root⟩ : ∃ fd, Fun K "common_root" "common_root" s_common_root (He.ga K "common_root") fd := by
    obtain ⟨fd, F⟩ := cd.defs (d := dD "common_root" "common_root" s_common_root) (List.mem_of_getElem? (show fn[9]? = some _ from rfl))
    exact ⟨fd, fun_of F⟩
  have e_common_root : mg "common_root" = some (.ref (He.ga K "common_root")) := gl _ (by decide +kernel)
  have D_common_root : DL.Def K mg "common_root" s_common_root (He.ga K "common_root") fd_common_root := ⟨F_common_root, e_common_root⟩
  obtain ⟨fd_product_of, F_product_of⟩ : ∃ fd, Fun K "product_of" "product_of" s_product_of (He.ga K "product_of") fd := by
    obtain ⟨fd, F⟩ := cd.defs (d := dD "product_of" "product_of" s_product_of) (List.mem_of_getElem? (show fn[10]? = some _ from rfl))
    exact ⟨fd, fun_of F⟩
  have e_product_of : mg "product_of" = some (.ref (He.ga K "product_of")) := gl _ (by decide +kernel)
  have D_product_of : DL.Def K mg "product_of" s_product_of (He.ga K "product_of") fd_product_of := ⟨F_product_of, e_product_of⟩
  obtain ⟨fd_is_number, F_is_number⟩ : ∃ fd, Fun K "is_number" "is_number" s_is_number (He.ga K "is_number") fd := by
    obtain ⟨fd, F⟩ := cd.defs (d := dD "is_number" "is_number" s_is_number) (List.mem_of_getElem? (show fn[11]? = some _ from rfl))
    exact ⟨fd, fun_of F⟩
  have e_is_number : mg "is_number" = some (.ref (He.ga K "is_number")) := gl _ (by decide +kernel)
  have D_is_number : DL.Def K mg "is_number" s_is_number (He.ga K "is_number") fd_is_number := ⟨F_is_number, e_is_number⟩
  obtain ⟨fd_are_together, F_are_together⟩ : ∃ fd, Fun K "are_together" "are_together" s_are_together (He.ga K "are_together") fd := by
    obtain ⟨fd, F⟩ := cd.defs (d := dD "are_together" "are_together" s_are_together) (List.mem_of_getElem? (show fn[12]? = some _ from rfl))
    exact ⟨fd, fun_of F⟩
  have e_are_together : mg "are_together" = some (.ref (He.ga K "are_together")) := gl _ (by decide +kernel)
  have D_are_together : DL.Def K mg "are_together" s_are_together (He.ga K "are_together") fd_are_together := ⟨F_are_together, e_are_together⟩
  obtain ⟨fd_has_form, F_has_form⟩ : ∃ fd, Fun K "has_form" "has_form" s_has_form (He.ga K "has_form") fd := by
    obtain ⟨fd, F⟩ := cd.defs (d := dD "has_form" "has_form" s_has_form) (List.mem_of_getElem? (show fn[13]? = some _ from rfl))
    exact ⟨fd, fun_of F⟩
  have e_has_form : mg "has_form" = some (.ref (He.ga K "has_form")) := gl _ (by decide +kernel)
  have D_has_form : DL.Def K mg "has_form" s_has_form (He.ga K "has_form") fd_has_form := ⟨F_has_form, e_has_form⟩
  obtain ⟨fd_number_of, F_number_of⟩ : ∃ fd, Fun K "number_of" "number_of" s_number_of (He.ga K "number_of") fd := by
    obtain ⟨fd, F⟩ := cd.defs (d := dD "number_of" "number_of" s_number_of) (List.mem_of_getElem? (show fn[14]? = some _ from rfl))
    exact ⟨fd, fun_of F⟩
  have e_number_of : mg "number_of" = some (.ref (He.ga K "number_of")) := gl _ (by decide +kernel)
  have D_number_of : DL.Def K mg "number_of" s_number_of (He.ga K "number_of") fd_number_of := ⟨F_number_of, e_number_of⟩
  obtain ⟨fd_times, F_times⟩ : ∃ fd, Fun K "times" "times" s_times (He.ga K "times") fd := by
    obtain ⟨fd, F⟩ := cd.defs (d := dD "times" "times" s_times) (List.mem_of_getElem? (show fn[15]? = some _ from rfl))
    exact ⟨fd, fun_of F⟩
  have e_times : mg "times" = some (.ref (He.ga K "times")) := gl _ (by decide +kernel)
  have D_times : DL.Def K mg "times" s_times (He.ga K "times") fd_times := ⟨F_times, e_times⟩
  obtain ⟨fd_check_pair, F_check_pair⟩ : ∃ fd, Fun K "check_pair" "check_pair" s_check_pair (He.ga K "check_pair") fd := by
    obtain ⟨fd, F⟩ := cd.defs (d := dD "check_pair" "check_pair" s_check_pair) (List.mem_of_getElem? (show fn[16]? = some _ from rfl))
    exact ⟨fd, fun_of F⟩
  have e_check_pair : mg "check_pair" = some (.ref (He.ga K "check_pair")) := gl _ (by decide +kernel)
  have D_check_pair : DL.Def K mg "check_pair" s_check_pair (He.ga K "check_pair") fd_check_pair := ⟨F_check_pair, e_check_pair⟩
  obtain ⟨fd_check_number, F_check_number⟩ : ∃ fd, Fun K "check_number" "check_number" s_check_number (He.ga K "check_number") fd := by
    obtain ⟨fd, F⟩ := cd.defs (d := dD "check_number" "check_number" s_check_number) (List.mem_of_getElem? (show fn[17]? = some _ from rfl))
    exact ⟨fd, fun_of F⟩
  have e_check_number : mg "check_number" = some (.ref (He.ga K "check_number")) := gl _ (by decide +kernel)
  have D_check_number : DL.Def K mg "check_number" s_check_number (He.ga K "check_number") fd_check_number := ⟨F_check_number, e_check_number⟩
  obtain ⟨fd_root_of, F_root_of⟩ : ∃ fd, Fun K "root_of" "root_of" s_root_of (He.ga K "root_of") fd := by
    obtain ⟨fd, F⟩ := cd.defs (d := dD "root_of" "root_of" s_root_of) (List.mem_of_getElem? (show fn[18]? = some _ from rfl))
    exact ⟨fd, fun_of F⟩
  have e_root_of : mg "root_of" = some (.ref (He.ga K "root_of")) := gl _ (by decide +kernel)
  have D_root_of : DL.Def K mg "root_of" s_root_of (He.ga K "root_of") fd_root_of := ⟨F_root_of, e_root_of⟩
  obtain ⟨fd__law_deck, F__law_deck⟩ : ∃ fd, Fun K "_law_deck" "_law_deck" sDeck (He.ga K "_law_deck") fd := by
    obtain ⟨fd, F⟩ := cd.defs (d := dD "_law_deck" "_law_deck" sDeck) (List.mem_of_getElem? (show fn[19]? = some _ from rfl))
    exact ⟨fd, fun_of F⟩
  have e__law_deck : mg "_law_deck" = some (.ref (He.ga K "_law_deck")) := gl _ (by decide +kernel)
  have D__law_deck : DL.Def K mg "_law_deck" sDeck (He.ga K "_law_deck") fd__law_deck := ⟨F__law_deck, e__law_deck⟩
  obtain ⟨fd__law_draw, F__law_draw⟩ : ∃ fd, Fun K "_law_draw" "_law_draw" sDraw (He.ga K "_law_draw") fd := by
    obtain ⟨fd, F⟩ := cd.defs (d := dD "_law_draw" "_law_draw" sDraw) (List.mem_of_getElem? (show fn[20]? = some _ from rfl))
    exact ⟨fd, fun_of F⟩
  have e__law_draw : mg "_law_draw" = some (.ref (He.ga K "_law_draw")) := gl _ (by decide +kernel)
  have D__law_draw : DL.Def K mg "_law_draw" sDraw (He.ga K "_law_draw") fd__law_draw := ⟨F__law_draw, e__law_draw⟩
  obtain ⟨fd__law_great, F__law_great⟩ : ∃ fd, Fun K "_law_great" "_law_great" s__law_great (He.ga K "_law_great") fd := by
    obtain ⟨fd, F⟩ := cd.defs (d := dD "_law_great" "_law_great" s__law_great) (List.mem_of_getElem? (show fn[21]? = some _ from rfl))
    exact ⟨fd, fun_of F⟩
  have e__law_great : mg "_law_great" = some (.ref (He.ga K "_law_great")) := gl _ (by decide +kernel)
  have D__law_great : DL.Def K mg "_law_great" s__law_great (He.ga K "_law_great") fd__law_great := ⟨F__law_great, e__law_great⟩
  obtain ⟨fd__law_pick, F__law_pick⟩ : ∃ fd, Fun K "_law_pick" "_law_pick" s__law_pick (He.ga K "_law_pick") fd := by
    obtain ⟨fd, F⟩ := cd.defs (d := dD "_law_pick" "_law_pick" s__law_pick) (List.mem_of_getElem? (show fn[22]? = some _ from rfl))
    exact ⟨fd, fun_of F⟩
  have e__law_pick : mg "_law_pick" = some (.ref (He.ga K "_law_pick")) := gl _ (by decide +kernel)
  have D__law_pick : DL.Def K mg "_law_pick" s__law_pick (He.ga K "_law_pick") fd__law_pick := ⟨F__law_pick, e__law_pick⟩
  obtain ⟨fd__law_near, F__law_near⟩ : ∃ fd, Fun K "_law_near" "_law_near" s__law_near (He.ga K "_law_near") fd := by
    obtain ⟨fd, F⟩ := cd.defs (d := dD "_law_near" "_law_near" s__law_near) (List.mem_of_getElem? (show fn[23]? = some _ from rfl))
    exact ⟨fd, fun_of F⟩
  have e__law_near : mg "_law_near" = some (.ref (He.ga K "_law_near")) := gl _ (by decide +kernel)
  have D__law_near : DL.Def K mg "_law_near" s__law_near (He.ga K "_law_near") fd__law_near := ⟨F__law_near, e__law_near⟩
  obtain ⟨fd__law_common, F__law_common⟩ : ∃ fd, Fun K "_law_common" "_law_common" s__law_common (He.ga K "_law_common") fd := by
    obtain ⟨fd, F⟩ := cd.defs (d := dD "_law_common" "_law_common" s__law_common) (List.mem_of_getElem? (show fn[24]? = some _ from rfl))
    exact ⟨fd, fun_of F⟩
  have e__law_common : mg "_law_common" = some (.ref (He.ga K "_law_common")) := gl _ (by decide +kernel)
  have D__law_common : DL.Def K mg "_law_common" s__law_common (He.ga K "_law_common") fd__law_common := ⟨F__law_common, e__law_common⟩
  obtain ⟨fd__law_is_integer, F__law_is_integer⟩ : ∃ fd, Fun K "_law_is_integer" "_law_is_integer" s__law_is_integer (He.ga K "_law_is_integer") fd := by
    obtain ⟨fd, F⟩ := cd.defs (d := dD "_law_is_integer" "_law_is_integer" s__law_is_integer) (List.mem_of_getElem? (show fn[25]? = some _ from rfl))
    exact ⟨fd, fun_of F⟩
  have e__law_is_integer : mg "_law_is_integer" = some (.ref (He.ga K "_law_is_integer")) := gl _ (by decide +kernel)
  have D__law_is_integer : DL.Def K mg "_law_is_integer" s__law_is_integer (He.ga K "_law_is_integer") fd__law_is_integer := ⟨F__law_is_integer, e__law_is_integer⟩
  obtain ⟨fd__law_is_lean, F__law_is_lean⟩ : ∃ fd, Fun K "_law_is_lean" "_law_is_lean" s__law_is_lean (He.ga K "_law_is_lean") fd := by
    obtain ⟨fd, F⟩ := cd.defs (d := dD "_law_is_lean" "_law_is_lean" s__law_is_lean) (List.mem_of_getElem? (show fn[26]? = some _ from rfl))
    exact ⟨fd, fun_of F⟩
  have e__law_is_lean : mg "_law_is_lean" = some (.ref (He.ga K "_law_is_lean")) := gl _ (by decide +kernel)
  have D__law_is_lean : DL.Def K mg "_law_is_lean" s__law_is_lean (He.ga K "_law_is_lean") fd__law_is_lean := ⟨F__law_is_lean, e__law_is_lean⟩
  obtain ⟨fd__law_any, F__law_any⟩ : ∃ fd, Fun K "_law_any" "_law_any" s__law_any (He.ga K "_law_any") fd := by
    obtain ⟨fd, F⟩ := cd.defs (d := dD "_law_any" "_law_any" s__law_any) (List.mem_of_getElem? (show fn[27]? = some _ from rfl))
    exact ⟨fd, fun_of F⟩
  have e__law_any : mg "_law_any" = some (.ref (He.ga K "_law_any")) := gl _ (by decide +kernel)
  have D__law_any : DL.Def K mg "_law_any" s__law_any (He.ga K "_law_any") fd__law_any := ⟨F__law_any, e__law_any⟩
  obtain ⟨fd__law_instead, F__law_instead⟩ : ∃ fd, Fun K "_law_instead" "_law_instead" s__law_instead (He.ga K "_law_instead") fd := by
    obtain ⟨fd, F⟩ := cd.defs (d := dD "_law_instead" "_law_instead" s__law_instead) (List.mem_of_getElem? (show fn[28]? = some _ from rfl))
    exact ⟨fd, fun_of F⟩
  have e__law_instead : mg "_law_instead" = some (.ref (He.ga K "_law_instead")) := gl _ (by decide +kernel)
  have D__law_instead : DL.Def K mg "_law_instead" s__law_instead (He.ga K "_law_instead") fd__law_instead := ⟨F__law_instead, e__law_instead⟩
  obtain ⟨fd__law_bent, F__law_bent⟩ : ∃ fd, Fun K "_law_bent" "_law_bent" s__law_bent (He.ga K "_law_bent") fd := by
    obtain ⟨fd, F⟩ := cd.defs (d := dD "_law_bent" "_law_bent" s__law_bent) (List.mem_of_getElem? (show fn[29]? = some _ from rfl))
    exact ⟨fd, fun_of F⟩
  have e__law_bent : mg "_law_bent" = some (.ref (He.ga K "_law_bent")) := gl _ (by decide +kernel)
  have D__law_bent : DL.Def K mg "_law_bent" s__law_bent (He.ga K "_law_bent") fd__law_bent := ⟨F__law_bent, e__law_bent⟩
  obtain ⟨fd__law_parted, F__law_parted⟩ : ∃ fd, Fun K "_law_parted" "_law_parted" s__law_parted (He.ga K "_law_parted") fd := by
    obtain ⟨fd, F⟩ := cd.defs (d := dD "_law_parted" "_law_parted" s__law_parted) (List.mem_of_getElem? (show fn[30]? = some _ from rfl))
    exact ⟨fd, fun_of F⟩
  have e__law_parted : mg "_law_parted" = some (.ref (He.ga K "_law_parted")) := gl _ (by decide +kernel)
  have D__law_parted : DL.Def K mg "_law_parted" s__law_parted (He.ga K "_law_parted") fd__law_parted := ⟨F__law_parted, e__law_parted⟩
  obtain ⟨fd__law_made, F__law_made⟩ : ∃ fd, Fun K "_law_made" "_law_made" s__law_made (He.ga K "_law_made") fd := by
    obtain ⟨fd, F⟩ := cd.defs (d := dD "_law_made" "_law_made" s__law_made) (List.mem_of_getElem? (show fn[31]? = some _ from rfl))
    exact ⟨fd, fun_of F⟩
  have e__law_made : mg "_law_made" = some (.ref (He.ga K "_law_made")) := gl _ (by decide +kernel)
  have D__law_made : DL.Def K mg "_law_made" s__law_made (He.ga K "_law_made") fd__law_made := ⟨F__law_made, e__law_made⟩
  obtain ⟨fd__law_fraction, F__law_fraction⟩ : ∃ fd, Fun K "_law_fraction" "_law_fraction" s__law_fraction (He.ga K "_law_fraction") fd := by
    obtain ⟨fd, F⟩ := cd.defs (d := dD "_law_fraction" "_law_fraction" s__law_fraction) (List.mem_of_getElem? (show fn[32]? = some _ from rfl))
    exact ⟨fd, fun_of F⟩
  have e__law_fraction : mg "_law_fraction" = some (.ref (He.ga K "_law_fraction")) := gl _ (by decide +kernel)
  have D__law_fraction : DL.Def K mg "_law_fraction" s__law_fraction (He.ga K "_law_fraction") fd__law_fraction := ⟨F__law_fraction, e__law_fraction⟩
  obtain ⟨fd__law_is_number, F__law_is_number⟩ : ∃ fd, Fun K "_law_is_number" "_law_is_number" s__law_is_number (He.ga K "_law_is_number") fd := by
    obtain ⟨fd, F⟩ := cd.defs (d := dD "_law_is_number" "_law_is_number" s__law_is_number) (List.mem_of_getElem? (show fn[33]? = some _ from rfl))
    exact ⟨fd, fun_of F⟩
  have e__law_is_number : mg "_law_is_number" = some (.ref (He.ga K "_law_is_number")) := gl _ (by decide +kernel)
  have D__law_is_number : DL.Def K mg "_law_is_number" s__law_is_number (He.ga K "_law_is_number") fd__law_is_number := ⟨F__law_is_number, e__law_is_number⟩
  obtain ⟨fd__law_asked, F__law_asked⟩ : ∃ fd, Fun K "_law_asked" "_law_asked" s__law_asked (He.ga K "_law_asked") fd := by
    obtain ⟨fd, F⟩ := cd.defs (d := dD "_law_asked" "_law_asked" s__law_asked) (List.mem_of_getElem? (show fn[34]? = some _ from rfl))
    exact ⟨fd, fun_of F⟩
  have e__law_asked : mg "_law_asked" = some (.ref (He.ga K "_law_asked")) := gl _ (by decide +kernel)
  have D__law_asked : DL.Def K mg "_law_asked" s__law_asked (He.ga K "_law_asked") fd__law_asked := ⟨F__law_asked, e__law_asked⟩
  obtain ⟨fd__law_due, F__law_due⟩ : ∃ fd, Fun K "_law_due" "_law_due" s__law_due (He.ga K "_law_due") fd := by
    obtain ⟨fd, F⟩ := cd.defs (d := dD "_law_due" "_law_due" s__law_due) (List.mem_of_getElem? (show fn[35]? = some _ from rfl))
    exact ⟨fd, fun_of F⟩
  have e__law_due : mg "_law_due" = some (.ref (He.ga K "_law_due")) := gl _ (by decide +kernel)
  have D__law_due : DL.Def K mg "_law_due" s__law_due (He.ga K "_law_due") fd__law_due := ⟨F__law_due, e__law_due⟩
  obtain ⟨fd__law_wide, F__law_wide⟩ : ∃ fd, Fun K "_law_wide" "_law_wide" s__law_wide (He.ga K "_law_wide") fd := by
    obtain ⟨fd, F⟩ := cd.defs (d := dD "_law_wide" "_law_wide" s__law_wide) (List.mem_of_getElem? (show fn[36]? = some _ from rfl))
    exact ⟨fd, fun_of F⟩
  have e__law_wide : mg "_law_wide" = some (.ref (He.ga K "_law_wide")) := gl _ (by decide +kernel)
  have D__law_wide : DL.Def K mg "_law_wide" s__law_wide (He.ga K "_law_wide") fd__law_wide := ⟨F__law_wide, e__law_wide⟩
  obtain ⟨fd__law_are_squares_right, F__law_are_squares_right⟩ : ∃ fd, Fun K "_law_are_squares_right" "_law_are_squares_right" s__law_are_squares_right (He.ga K "_law_are_squares_right") fd := by
    obtain ⟨fd, F⟩ := cd.defs (d := dD "_law_are_squares_right" "_law_are_squares_right" s__law_are_squares_right) (List.mem_of_getElem? (show fn[37]? = some _ from rfl))
    exact ⟨fd, fun_of F⟩
  have e__law_are_squares_right : mg "_law_are_squares_right" = some (.ref (He.ga K "_law_are_squares_right")) := gl _ (by decide +kernel)
  have D__law_are_squares_right : DL.Def K mg "_law_are_squares_right" s__law_are_squares_right (He.ga K "_law_are_squares_right") fd__law_are_squares_right := ⟨F__law_are_squares_right, e__law_are_squares_right⟩
  obtain ⟨fd__law_for_root, F__law_for_root⟩ : ∃ fd, Fun K "_law_for_root" "_law_for_root" s__law_for_root (He.ga K "_law_for_root") fd := by
    obtain ⟨fd, F⟩ := cd.defs (d := dD "_law_for_root" "_law_for_root" s__law_for_root) (List.mem_of_getElem? (show fn[38]? = some _ from rfl))
    exact ⟨fd, fun_of F⟩
  have e__law_for_root : mg "_law_for_root" = some (.ref (He.ga K "_law_for_root")) := gl _ (by decide +kernel)
  have D__law_for_root : DL.Def K mg "_law_for_root" s__law_for_root (He.ga K "_law_for_root") fd__law_for_root := ⟨F__law_for_root, e__law_for_root⟩
  obtain ⟨fd_law, F_law⟩ : ∃ fd, Fun K "law" "law" s_law (He.ga K "law") fd := by
    obtain ⟨fd, F⟩ := cd.defs (d := dD "law" "law" s_law) (List.mem_of_getElem? (show fn[39]? = some _ from rfl))
    exact ⟨fd, fun_of F⟩
  have e_law : mg "law" = some (.ref (He.ga K "law")) := gl _ (by decide +kernel)
  have D_law : DL.Def K mg "law" s_law (He.ga K "law") fd_law := ⟨F_law, e_law⟩
  have Wh : WholeAt K mg (He.ga K "is_whole") := whole_ok F_is_whole e_is_whole gisi gint gbool ⟨_, _, _, _, _, _, _, _, _, _, _, _, rfl, rfl, rfl⟩
  have hc : fd_are_whole.code = .ref (He.cT K ("are_whole", none)).1 := by
    obtain ⟨oc, od, kV, doc, pm, an, cdv, ct, osl, e, lk, hcd⟩ := F_are_whole.ex
    obtain ⟨c, ec⟩ := He.codeIn_ref hcd
    have e2 : fd_are_whole.code = .ref c := by rw [e]; exact ec
    have e3 : He.codeOf K ("are_whole", none) = c := He.codeOf_eq (fd := fd_are_whole) lk e2
    rw [e2]
    exact congrArg Value.ref e3.symm
  have hd := c.hd ("are_whole", none) (by decide +kernel)
  have law_b : ∀ (s : Shared) (u : Value), BindsTo s fd_law ⟨[u], []⟩ [("script", u)] := fun s u => by
    obtain ⟨oc, od, kV, doc, pm, an, cdv, ct, osl, rfl, _, _⟩ := F_law.ex
    exact .of_eq rfl
  have ef := hfa.symm.trans e_law
  cases ef
  refine ⟨K, fd_law, [He.cT K ("are_whole", none)], X, fun p hp => ?_, fun p hp => ?_, fun p hp => ?_, law_b, fun base Kb Gb TB hS => ?_⟩
  · rw [List.mem_singleton.mp hp]
    exact c.empty _ (by decide +kernel)
  · rw [List.mem_singleton.mp hp]
    exact c.out _ (by decide +kernel)
  · rw [List.mem_singleton.mp hp]
    exact PySem.W.codeHd_of_K X hd
  have C : CodeAt base mg fd_are_whole (He.cT K ("are_whole", none)).1 (He.cT K ("are_whole", none)).2 := ⟨hc, TB _ (List.mem_singleton.mpr rfl)⟩
  have G_are_whole := ok_are_whole (P := (PySem.Challenge.rw_twicestep_k01_numbers_of_any_values).prog) (w := w) (base := base) (P0 := (He.cT K ("are_whole", none)).2) D_are_whole C Wh gall
  have G_square_split := ok_square_split (P := (PySem.Challenge.rw_twicestep_k01_numbers_of_any_values).prog) (w := w) (base := base) D_square_split T h_LAST_TRIED
  have G_is_square_free := ok_is_square_free (P := (PySem.Challenge.rw_twicestep_k01_numbers_of_any_values).prog) (w := w) (base := base) D_is_square_free D_square_split T gabs h_LAST_TRIED
  have G_lowest := ok_lowest (P := (PySem.Challenge.rw_twicestep_k01_numbers_of_any_values).prog) (w := w) (base := base) D_lowest T
  have G_is_fraction := ok_is_fraction (P := (PySem.Challenge.rw_twicestep_k01_numbers_of_any_values).prog) (w := w) (base := base) D_is_fraction
  have G_go_together := ok_go_together (P := (PySem.Challenge.rw_twicestep_k01_numbers_of_any_values).prog) (w := w) (base := base) D_go_together D_is_fraction
  have G_common_root := ok_common_root (P := (PySem.Challenge.rw_twicestep_k01_numbers_of_any_values).prog) (w := w) (base := base) D_common_root D_is_fraction
  have G_product_of := ok_product_of (P := (PySem.Challenge.rw_twicestep_k01_numbers_of_any_values).prog) (w := w) (base := base) D_product_of D_common_root D_lowest D_is_fraction T
  have G_has_form := ok_has_form (P := (PySem.Challenge.rw_twicestep_k01_numbers_of_any_values).prog) (w := w) (base := base) (P0 := (He.cT K ("are_whole", none)).2) D_has_form D_are_whole C Wh gall T glen gtup gabs h_LARGEST_ROOT
  have G_number_of := ok_number_of (P := (PySem.Challenge.rw_twicestep_k01_numbers_of_any_values).prog) (w := w) (base := base) (P0 := (He.cT K ("are_whole", none)).2) D_number_of D_are_whole C Wh gall D_lowest D_square_split T h_LAST_TRIED gabs xBadNumber gBadNumber
  have G_root_of := ok_root_of (P := (PySem.Challenge.rw_twicestep_k01_numbers_of_any_values).prog) (w := w) (base := base) (P0 := (He.cT K ("are_whole", none)).2) D_root_of D_are_whole C Wh gall D_number_of G_number_of T gabs g_ZERO k_ZERO xBadNumber gBadNumber
  have G__law_draw := ok__law_draw (P := (PySem.Challenge.rw_twicestep_k01_numbers_of_any_values).prog) (w := w) (base := base) D__law_draw gint gmax
  have G__law_great := ok__law_great (P := (PySem.Challenge.rw_twicestep_k01_numbers_of_any_values).prog) (w := w) (base := base) D__law_great D__law_draw gint gmax
  have G__law_pick := ok__law_pick (P := (PySem.Challenge.rw_twicestep_k01_numbers_of_any_values).prog) (w := w) (base := base) D__law_pick D__law_draw gint gmax glen
  have G__law_near := ok__law_near (P := (PySem.Challenge.rw_twicestep_k01_numbers_of_any_values).prog) (w := w) (base := base) D__law_near D__law_draw G__law_draw
  have G__law_common := ok__law_common (P := (PySem.Challenge.rw_twicestep_k01_numbers_of_any_values).prog) (w := w) (base := base) D__law_common gabs gint
  have G__law_is_integer := ok__law_is_integer (P := (PySem.Challenge.rw_twicestep_k01_numbers_of_any_values).prog) (w := w) (base := base) D__law_is_integer gisi gint gbool
  have G__law_is_lean := ok__law_is_lean (P := (PySem.Challenge.rw_twicestep_k01_numbers_of_any_values).prog) (w := w) (base := base) D__law_is_lean gabs gint
  have G__law_any := ok__law_any (P := (PySem.Challenge.rw_twicestep_k01_numbers_of_any_values).prog) (w := w) (base := base) D__law_any D__law_draw D__law_pick G__law_draw G__law_pick glen gtup grange
  have G__law_instead := ok__law_instead (P := (PySem.Challenge.rw_twicestep_k01_numbers_of_any_values).prog) (w := w) (base := base) D__law_instead
  have G__law_bent := ok__law_bent (P := (PySem.Challenge.rw_twicestep_k01_numbers_of_any_values).prog) (w := w) (base := base) (L := 4) (k := 200) (by decide) (by decide) (by decide) D__law_bent D__law_draw G__law_draw D__law_pick G__law_pick D__law_any (G__law_any 2) D__law_is_integer G__law_is_integer D__law_instead G__law_instead glen gtup glist gisi gbool gstr gabs
  have G__law_parted := ok__law_parted (P := (PySem.Challenge.rw_twicestep_k01_numbers_of_any_values).prog) (w := w) (base := base) D__law_parted gabs gint
  have G__law_made := ok__law_made (P := (PySem.Challenge.rw_twicestep_k01_numbers_of_any_values).prog) (w := w) (base := base) D__law_made D__law_common gabs gint
  have G__law_fraction := ok__law_fraction (P := (PySem.Challenge.rw_twicestep_k01_numbers_of_any_values).prog) (w := w) (base := base) D__law_fraction D__law_made G__law_made
  have G__law_is_number := ok__law_is_number (P := (PySem.Challenge.rw_twicestep_k01_numbers_of_any_values).prog) (w := w) (base := base) D__law_is_number D__law_is_integer G__law_is_integer D__law_common G__law_common D__law_is_lean G__law_is_lean glen gisi gtup gabs
  have G__law_asked := ok__law_asked (P := (PySem.Challenge.rw_twicestep_k01_numbers_of_any_values).prog) (w := w) (base := base) (P0 := (He.cT K ("are_whole", none)).2) D__law_asked D_number_of G_number_of D_root_of G_root_of xBadNumber gBadNumber gStepError i_BadNumber_StepError m_BadNumber_BadNumber gisi glen
  have G__law_due := ok__law_due (P := (PySem.Challenge.rw_twicestep_k01_numbers_of_any_values).prog) (w := w) (base := base) D__law_due D__law_is_integer G__law_is_integer D__law_parted G__law_parted D__law_made G__law_made glen gabs
  have G__law_wide := ok__law_wide (P := (PySem.Challenge.rw_twicestep_k01_numbers_of_any_values).prog) (w := w) (base := base) D__law_wide D__law_pick G__law_pick D__law_great G__law_great D__law_draw G__law_draw
  have G__law_for_root := ok__law_for_root (P := (PySem.Challenge.rw_twicestep_k01_numbers_of_any_values).prog) (w := w) (base := base) D__law_for_root D__law_pick G__law_pick D__law_near G__law_near D__law_draw G__law_draw
  have G_are_together := ok_are_together (P := (PySem.Challenge.rw_twicestep_k01_numbers_of_any_values).prog) (w := w) (base := base) (P0 := (He.cT K ("are_whole", none)).2) D_are_together D_has_form G_has_form D_is_square_free G_is_square_free
  have G_is_number := ok_is_number (P := (PySem.Challenge.rw_twicestep_k01_numbers_of_any_values).prog) (w := w) (base := base) (P0 := (He.cT K ("are_whole", none)).2) D_is_number D_are_together G_are_together
  have G_check_number := ok_check_number (P := (PySem.Challenge.rw_twicestep_k01_numbers_of_any_values).prog) (w := w) (base := base) (P0 := (He.cT K ("are_whole", none)).2) D_check_number D_is_number G_is_number xBadNumber gBadNumber
  have G__law_are_squares_right := ok__law_are_squares_right (P := (PySem.Challenge.rw_twicestep_k01_numbers_of_any_values).prog) (w := w) (base := base) (P0 := (He.cT K ("are_whole", none)).2) hS D__law_are_squares_right D__law_pick G__law_pick D__law_near G__law_near D__law_draw G__law_draw D__law_made G__law_made D_number_of G_number_of D_root_of G_root_of D_is_number G_is_number grepr
  have G_check_pair := ok_check_pair_0 (P := (PySem.Challenge.rw_twicestep_k01_numbers_of_any_values).prog) (w := w) (base := base) F_check_pair D_check_number G_check_number D_go_together D_is_fraction xOtherRoot gOtherRoot
  have G_times := ok_times (P := (PySem.Challenge.rw_twicestep_k01_numbers_of_any_values).prog) (w := w) (base := base) (P0 := (He.cT K ("are_whole", none)).2) D_times D_check_pair G_check_pair D_product_of G_product_of
  exact ok_law (P := (PySem.Challenge.rw_twicestep_k01_numbers_of_any_values).prog) (w := w) (base := base) (P0 := (He.cT K ("are_whole", none)).2) (CB := hA K "BadNumber") (CO := hA K "OtherRoot") hS D_law D__law_deck D__law_draw G__law_draw D__law_pick G__law_pick D__law_are_squares_right G__law_are_squares_right D__law_wide G__law_wide D__law_due G__law_due D__law_asked G__law_asked D_is_number G_is_number D__law_for_root G__law_for_root D_times G_times D__law_fraction G__law_fraction D__law_any (G__law_any 2) D__law_instead G__law_instead D__law_bent (G__law_bent 1) D__law_is_number G__law_is_number grepr gint glist grange
end T01
open PySem PySem.W PySem.Calls PyProof.Rows
theorem PySem.Challenge.cw_twicestep_k01_numbers_of_any_values_holds : PySem.Challenge.rw_twicestep_k01_numbers_of_any_values.Holds := by
  w_on; o_law
  refine HandSHeadRun.head_imp (r := OpenLaw.row PySem.Challenge.rw_twicestep_k01_numbers_of_any_values) (q := T01.qv) (H := T01.hk) (ob := T01.ob) (M := 6000) (loose := T01.looseN) (d := HandSHeadRun.topDef (OpenLaw.row PySem.Challenge.rw_twicestep_k01_numbers_of_any_values).prog 49) (kwd := []) T01.ob_eq T01.run
    (by kernel_rfl) (by kernel_rfl) (by kernel_rfl) (by rfl) (by first | assumption | decide +kernel) (by decide +kernel) ⟨rfl, rfl, rfl, rfl, rfl, by decide +kernel⟩ ?hw ?hc
  case hw => w_witness2
  case hc =>
    refine DL.law_walk (l := PySem.Challenge.rw_twicestep_k01_numbers_of_any_values) (n := 63) (k := 9) (x := "script") rfl (by decide) (by kernel_rfl) ⟨rfl, by decide, by decide⟩ (by kernel_rfl) ?F
    intro w mg fa h Y G hmg0
    obtain ⟨K, KX, c⟩ := Y
    have hmg : mg ("law" : PySem.Str) = some (.ref fa) := by
      have e : (HandSHeadRun.topDef (OpenLaw.row PySem.Challenge.rw_twicestep_k01_numbers_of_any_values).prog 49).name = ("law" : PySem.Str) := by kernel_rfl
      rw [← e]
      exact hmg0
    exact T01.facts KX G hmg c
