import PyProof.Rows.All
import Wide.All
import OpenK.AllK
import Wide.FinOn
import HandS.ForExc
import HandS.ExcInit
import HandS.ExcIs
import HandS.IsInst
import HandS.TryMany
import HandS.ExcField
import KE.KExcInit
import PyProof.InstStoreFacts
import HandS.ExcValue
import KE.KExcIs
import HandS.HotCalls
import HandS.ForMost
import HandS.Walk
import KE.GoesEnum
import KE.GoesMore
import HandS.Style
import HandS.Flow
import PySem.Challenge.RW_twicestep_k54_verdicts_of_named_rules
import KE.KStateDown
import Lean
import HandS.Head0
import HandS.Head1
import HandS.Head2
import HandS.Head3
import HandS.HeadEnd
import HandS.HeadHook1
import HandS.HeadHook2
import HandS.HeadHook3
import HandS.HeadHook4
import HandS.Conv
import HandS.AnyAll
import HandS.Wide
import HandS.TupAny
import HandS.Gcd
import PyProof.ReprRoads
import HandS.Rev
import HandS.Comp
import HandS.Zip
import PyProof.MaxThree
import HandS.Deep
import PyProof.FitsInt
import HandS.EndTab
import HandS.Iter
import HandS.NoneIn
import HandS.Star
set_option Elab.async false
set_option linter.all false
set_option maxRecDepth 100000
set_option maxHeartbeats 4000000
namespace PySem
namespace XK
open PySem PySem.Spec PyProof.Rows PySem.Calls
open PySem.HandSPX (excO)
section
variable {M : Model} {A : Around} {E : Value → Shared → Prop} {h : Heap} {g : Array GenState} {dr : Drawn} {tk : Nat} {os : OsState}
  {prog : Program} {w : World} {R : Result → Shared → Prop}
  {nm qn : Str} {C N : Addr} {bs bm bB : List Value} {hd : Bool} {sn : List Str} {sb : List Value} {ab : Bool} {col : Option Bool} {dd : Option Addr}
  {m0 m1 m2 m3 m5 : Option Value} {B nw ini : String}
/-- the check ahead of the maker, keywords or not -/
theorem xcheck (F : ExcBaseFacts B nw ini bB) (hT : ∀ X : String, bm.contains (.type X) = bB.contains (.type X))
    {rest : List Value} {kw : List (Str × Value)} {Q : Unit → Shared → Prop}
    (hC : h.get? C = some (excClassObj nm qn C N bs bm hd sn sb ab col dd m0 m1 m2 m3 m5 nw))
    (hq : Q () ⟨h, g, dr, tk, os⟩) :
    wpAny M A (checkBuiltinCall nw ⟨.ref C :: rest, kw⟩) Q E ⟨h, g, dr, tk, os⟩ := by
  have z1 : (Value.ref C :: bm).contains (.type B) = true := by
    rw [List.contains_cons, hT, F.hasB, Bool.or_true]
  have z2 := F.noStar
  simp only [checkBuiltinCall, F.newKind, F.newSplit, F.newRow]
  repeat (first
    | refine wpAny_loadPart_at hC ?_
    | (refine wpAny_isSubtype_exc hC ?_
       rw [z1])
    | refine wpAny_staticBase_exc hC ?_
    | refine wpAny_madeBy_exc hC ?_
    | simp only [bne_self_eq_false, Bool.false_eq_true, if_false]
    | wp_step)
  exact hq
end
section
variable {A : Around} {E : Value → Shared → Prop} {h : Heap} {g : Array GenState} {dr : Drawn} {tk : Nat} {os : OsState}
  {prog : Program} {w : World} {R : Result → Shared → Prop}
  {nm qn : Str} {C N : Addr} {bs bm bB : List Value} {hd : Bool} {sn : List Str} {sb : List Value} {ab : Bool} {col : Option Bool} {dd : Option Addr}
  {m0 m1 m2 m3 m5 : Option Value} {B nw ini : String}
/-- the maker: a tuple of the positional values, then the exception's object -/
theorem xnew (F : ExcBaseFacts B nw ini bB) (hT : ∀ X : String, bm.contains (.type X) = bB.contains (.type X))
    {rest : List Value} {kw : List (Str × Value)} (hz : rest.length ≤ sizeLine)
    (hC : h.get? C = some (excClassObj nm qn C N bs bm hd sn sb ab col dd m0 m1 m2 m3 m5 nw))
    (hq : R (.ok (.ret (.ref (h.objs.size + 1))))
      ⟨(h.push (W.kdv_tup rest)).push (excO C h.objs.size), g, dr, tk, os⟩) :
    codeAny (model prog w) A (.builtin nw ⟨.ref C :: rest, kw⟩) R ⟨h, g, dr, tk, os⟩ := by
  have y0 := F.ends
  have y1 : (Value.ref C :: bm).contains (.type B) = true := by
    rw [List.contains_cons, hT, F.hasB, Bool.or_true]
  have y2 : (Value.ref C :: bm).contains (.type "AttributeError") = false := by
    rw [List.contains_cons, hT, F.noAttr]
    rfl
  have y3 : (Value.ref C :: bm).contains (.type "NameError") = false := by
    rw [List.contains_cons, hT, F.noName]
    rfl
  refine codeAny_builtinAt F.entry ?_
  unfold Builtin.«BaseException.__new__»
  refine wpAt_bind ?_
  show wpAt _ _ _ (stack >>= _) _ _ _
  refine wpAt_bind (wpAt_stack fun p below => wpAt_of_wpAny ?_)
  wp_walk
  refine wpAt_of_wpAny ?_
  rw [F.owner]
  repeat (first
    | with_reducible refine wpAny_madeHere_exc F.canon hC ?_
    | with_reducible refine wpAny_loadPart_at hC ?_
    | (with_reducible refine wpAny_isSubtype_exc hC ?_
       first | rw [y1] | rw [y2] | rw [y3])
    | wp_step)
  show R _ _
  rw [Heap.size_push]
  exact hq
/-- type.__call__: the maker, then the class's own __init__ -/
theorem xtype (F : ExcBaseFacts B nw ini bB) (hT : ∀ X : String, bm.contains (.type X) = bB.contains (.type X))
    {rest : List Value} {kw : List (Str × Value)} {fI : Addr} {Q : Fin → Shared → Prop} (hz : rest.length ≤ sizeLine)
    (hC : h.get? C = some (excClassObj nm qn C N bs bm hd sn sb ab col dd m0 m1 m2 m3 m5 nw))
    (hi : W.Looks (model prog w) h (typeLookup (.ref C) "__init__") (some (.ref fI)))
    (hb : ∀ self, W.Looks (model prog w) h (bindSpecial (.ref fI) self) (.ref fI, [self]))
    (hq : codeAny (model prog w) A (.call (.ref fI) ⟨.ref (h.objs.size + 1) :: rest, kw⟩)
      (fun r s' => match r with
        | .ok (.ret v) => v = .none ∧ Q (.done (.ret (.ref (h.objs.size + 1)))) s'
        | .ok _ => False
        | .error e => E e s')
      ⟨(h.push (W.kdv_tup rest)).push (excO C h.objs.size), g, dr, tk, os⟩) :
    wpAny (model prog w) A (Builtin.«type.__call__» ⟨.ref C :: rest, kw⟩) Q E ⟨h, g, dr, tk, os⟩ := by
  repeat (first
    | with_reducible refine wpAny_loadPart_at hC ?_
    | with_reducible refine wpAny_madeBy_exc hC ?_
    | wp_step)
  refine codeAny_call_builtin_code (Code.quiet_builtin _ F.quiet) (xcheck F hT hC ?_)
  refine xnew F hT hz hC ?_
  show wpAny _ _ _ _ _ _
  have k1 : ∀ b o, h.get? b = some o → ((h.push (W.kdv_tup rest)).push (excO C h.objs.size)).get? b = some o :=
    fun b o e => Heap.get?_push_of_some _ (Heap.get?_push_of_some _ e)
  have hC1 := k1 _ _ hC
  have at1 : ((h.push (W.kdv_tup rest)).push (excO C h.objs.size)).get? (h.objs.size + 1) = some (excO C h.objs.size) := by heap_get
  have own : (Value.ref C :: bm).contains (.ref C) = true := by simp
  have hi1 := hi.keeps k1
  have hb1 := (hb (.ref (h.objs.size + 1))).keeps k1
  unfold isInstance
  repeat (first
    | with_reducible refine wpAny_loadPart_at at1 ?_
    | (with_reducible refine wpAny_isSubtype_exc hC1 ?_
       rw [own])
    | wp_step)
  show wpAny _ _ (typeLookup (.ref C) _) _ _ _
  refine hi1.at ?_
  refine wpAny_holding (wpAny_bind (hb1.at ?_))
  refine wpAny_bind (wpAny_call (codeAny_mono hq fun r s' z => ?_))
  rcases r with e | (v | _ | _ | _) <;> first | exact z | exact z.elim | skip
  obtain ⟨rfl, z⟩ := z
  first
    | exact wpAny_pure (wpAny_pure z)
    | (wp_walk; exact z)
theorem xcall (F : ExcBaseFacts B nw ini bB) (hT : ∀ X : String, bm.contains (.type X) = bB.contains (.type X))
    {rest : List Value} {kw : List (Str × Value)} {fI : Addr} (hz : rest.length ≤ sizeLine)
    (hC : h.get? C = some (excClassObj nm qn C N bs bm hd sn sb ab col dd m0 m1 m2 m3 m5 nw))
    (hi : W.Looks (model prog w) h (typeLookup (.ref C) "__init__") (some (.ref fI)))
    (hb : ∀ self, W.Looks (model prog w) h (bindSpecial (.ref fI) self) (.ref fI, [self]))
    (hq : codeAny (model prog w) (A.under (.builtin "type.__call__" ⟨.ref C :: rest, kw⟩)) (.call (.ref fI) ⟨.ref (h.objs.size + 1) :: rest, kw⟩)
      (W.InitBack (h.objs.size + 1) R) ⟨(h.push (W.kdv_tup rest)).push (excO C h.objs.size), g, dr, tk, os⟩) :
    codeAny (model prog w) A (.call (.ref C) ⟨rest, kw⟩) R ⟨h, g, dr, tk, os⟩ := by
  have f1 := tc_lookup
  have f2 := tc_bind (.ref C)
  have hTy : (⟨h, g, dr, tk, os⟩ : Shared).TypeIs (.ref C) "type" := ⟨_, hC, rfl⟩
  refine codeAny_of_tree ?_
  show wpAny _ _ (callAny (.ref C) _) _ _ _
  repeat (any_goals (first
    | assumption
    | with_reducible refine wpAny_loadPart_at hC ?_
    | wp_step))
  refine ⟨rfl, ?_⟩
  refine codeAny_call_builtin_at (Code.quiet_builtin _ (by decide +kernel)) entry_typeCall (wpAny_check_type_call_sub hC (xtype F hT hz hC hi hb ?_))
  refine codeAny_mono hq fun r s' z => ?_
  rcases r with e | (v | _ | _ | _) <;> exact z
end
end XK
end PySem
set_option Elab.async false
set_option linter.all false
set_option maxRecDepth 100000
set_option maxHeartbeats 4000000
namespace PySem
namespace XK
open PySem PySem.W PySem.Calls PyProof.Rows PySem.HandSPX Builtin Builtin.ObjectAttr
abbrev bmE : List Value := [.type "Exception", .type "BaseException", .type "object"]
def xA (p1 p2 : Pos) : Arguments := { posonlyargs := [], args := [{ arg := "self", annotation := none, pos := p1 }, { arg := "thing", annotation := none, pos := p2 }], vararg := none, kwonlyargs := [], kw_defaults := [], kwarg := none, defaults := [] }
def xB (q1 q2 q3 q4 : Pos) : List Stmt := [.Assign [.Attribute (.Name "self" q1) "thing" q2] (.Name "thing" q3) q4]
def xS : Scope := { kind := .function, names := [(PySem.Str.ofString "self", .local), (PySem.Str.ofString "thing", .local)], isGenerator := false, isCoroutine := false, more := [] }
/-- what is told of an error's class at C and of its __init__ at fI -/
structure ExF (K : Frag) (C fI : Addr) : Prop where
  ini : excInitIn K C bmE "Exception.__new__" = true
  ov : excOver K C bmE = true
  sa : findIn K (.ref C) "__setattr__" = some (some (.builtin "object.__setattr__"))
  ga : findIn K (.ref C) "__getattribute__" = some (some (.builtin "BaseException.__getattribute__"))
  gg : findIn K (.ref C) "__getattr__" = some none
  no : findIn K (.ref C) "thing" = some none
  hd : hasDictIn K C = true
  ic : findIn K (.ref C) "__init__" = some (some (.ref fI))
  ti : typeIn K (.ref fI) = some (.type "function")
  kc : keepIn K (.ref C) = true
  ex : subIn K (.ref C) (.type "BaseException") = some true
  ty : typeIn K (.ref C) = some (.type "type")
  cl : findIn K (.ref C) "__class__" = some (some (.builtin "object.__class__"))
  mo : mroIn K C (.type "object") = some true
  dn : specialIn K (.builtin "object.__class__") "__get__" = some (some (.builtin "getset_descriptor.__get__"))
  dt : takesIn K (.builtin "object.__class__") = some true
  fn : ∃ (oc : Value) (od : Option Addr) (qual : Str) (kV doc pm : Value) (an : Option Addr) (cdv ct : Value) (osl : Array (Option Value)) (p1 p2 q1 q2 q3 q4 : Pos),
    K.lookup fI = some ⟨oc, od, .func (fnOf "__init__" qual (xA p1 p2) (xB q1 q2 q3 q4) xS .none kV doc pm an cdv ct), osl⟩ ∧ codeIn K cdv qual = true
/-- the map of an error's own dict -/
def thingM (v : Value) : Str → Option Value := fun y => if y = "thing" then some v else none
section
variable {prog : Program} {w : World} {A : Around} {E : Value → Shared → Prop} {R : Result → Shared → Prop} {s : Shared} {K : Frag} {C fI : Addr}
theorem xld {M : Model} {name : Str} {scope : Scope} {L a : Addr} {cd : Value} {m : Str → Option Value} {x : Str} {pos : Pos} {v : Value} {Q : Value → Shared → Prop}
    (hn : s.heap.Ns L m) (hv : m x = some v) (h : Q v s)
    (hk : scope.kind = .function := by rfl) (hl : (envOfC name scope L a cd).kindOf x = some .local := by rfl) (hd : (x == ("__debug__" : Str)) = false := by decide) :
    wpAny M A (eval (.Name x pos) (envOfC name scope L a cd)) Q E s :=
  wpAny_Name (wpAny_loadName_local hk hl hn hv h) hd
/-- the attribute of an error that has no dict yet -/
theorem xstore {x : Addr} {fv : Array Value} {v : Value} {Q : Unit → Shared → Prop} (T : ExF K C fI) (X : K.In s.heap) (hx : s.heap.get? x = some { cls := .ref C, data := .fields fv })
    (hq : ∀ h' tk dx, (∀ b o, b ≠ x → s.heap.get? b = some o → h'.get? b = some o) → s.heap.objs.size ≤ dx → dx ≠ x →
      h'.get? x = some { cls := .ref C, dict := some dx, data := .fields fv } → h'.Ns1 dx (thingM v) → Q () { s with heap := h', toks := tk }) :
    wpAny (model prog w) A (setAttr (.ref x) "thing" v) Q E s := by
  obtain ⟨cd, hcd, hh⟩ := any_some T.hd
  obtain ⟨hp, g, d, t, os⟩ := s
  have I : InstAt hp x { cls := .ref C, data := .fields fv } C none := ⟨hx, rfl, rfl, trivial⟩
  have hcls : Looks (model prog w) hp (classData C) cd := looks_clsIn X hcd
  have hxs : x ≠ hp.objs.size := Nat.ne_of_lt (Heap.lt_size hx)
  refine set_plain X I T.sa ?_
  refine osa_openX F.store_Exception X I T.ov (r := none) (by unfold takerIn; rw [T.no]; rfl) fun b => ?_
  show wpAny _ _ (storeInOwnDict (.ref x) (.ref C) (.str "thing" t) "thing" v b) _ _ _
  obtain ⟨nm, bs, mro, ns, qn, hd, sn, sb, ab, col, del⟩ := cd
  dsimp only at hh
  subst hh
  unfold storeInOwnDict ownDictForStores
  repeat (first
    | with_reducible refine store_in_new ?_ ?_
    | with_reducible refine wpAny_loadPart_at hx ?_
    | with_reducible refine hcls.at ?_
    | wp_step)
  · exact ⟨_, #[], _, (Heap.get?_update_ne _ _ _ _ hxs.symm).trans (Heap.get?_push_at rfl rfl), rfl, fun e he => absurd he (by simp), fun _ => rfl⟩
  · intro h' tk' hn' hs
    have hx1 : (hp.push { cls := .type "dict", data := .dict #[] }).get? x = some { cls := .ref C, data := .fields fv } :=
      Heap.get?_push_of_some _ hx
    refine hq h' tk' hp.objs.size (fun c o hc ho => ?_) (Nat.le_refl _) hxs.symm ?_ hn'
    · exact (hs.2 c (Nat.ne_of_lt (Heap.lt_size ho))).trans ((Heap.get?_update_ne _ _ _ _ hc).trans (Heap.get?_push_of_some _ ho))
    · exact (hs.2 x hxs).trans (Heap.get?_update_self _ hx1 rfl)
/-- what stands behind the making of an error at x: its dict at dx -/
structure XEnd (h h' : Heap) (x C dx t0 : Addr) (v : Value) : Prop where
  keep : ∀ b o, b ≠ x → h.get? b = some o → h'.get? b = some o
  big : h.objs.size ≤ dx
  ne : dx ≠ x
  ob : h'.get? x = some { cls := .ref C, dict := some dx, data := .fields #[.ref t0, .none, .none, .none, .bool false, .none] }
  ns : h'.Ns1 dx (thingM v)
theorem xinit (T : ExF K C fI) {args : Args} {x t0 : Addr} {v : Value} (X : K.In s.heap) (hlim : s.heap.NoLimit) (hx : s.heap.get? x = some (excO C t0)) (hroom : A.depth < recursionLimit)
    (ha : args = ⟨[.ref x, v], []⟩ ∨ args = ⟨[.ref x], [("thing", v)]⟩)
    (hq : ∀ h' tk dx, XEnd s.heap h' x C dx t0 v → R (.ok (.ret .none)) { s with heap := h', toks := tk }) :
    codeAny (model prog w) A (.call (.ref fI) args) R s := by
  obtain ⟨oc, od, qual, kV, doc, pm, an, cdv, ct, osl, p1, p2, q1, q2, q3, q4, ho, hcd⟩ := T.fn
  have hb : BindsTo s (fnOf "__init__" qual (xA p1 p2) (xB q1 q2 q3 q4) xS .none kV doc pm an cdv ct) args [("self", .ref x), ("thing", v)] := by
    rcases ha with rfl | rfl
    · exact BindsTo.of_eq (by first | rfl | with_unfolding_all rfl)
    · exact BindsTo.of_eq (by first | rfl | with_unfolding_all rfl)
  refine Att.call_fn (binds := [("self", .ref x), ("thing", v)]) X hlim ho hcd hroom hb (by first | rfl | decide | with_unfolding_all rfl) (fun s1 IC => ?_) rfl rfl rfl
  obtain ⟨h1, t1, rfl⟩ := IC.toInCall.same
  have k : ∀ b o, s.heap.get? b = some o → h1.get? b = some o := IC.toInCall.keep
  have hn := IC.toInCall.ns
  show wpAny _ _ (execs _ _) _ _ _
  refine wpAny_execs_cons (plainObj_wpAny_Assign_Attribute ?_)
  refine xld (v := v) hn (by first | rfl | with_unfolding_all rfl | kernel_rfl) (xld (v := .ref x) hn (by first | rfl | with_unfolding_all rfl | kernel_rfl) ?_)
  refine xstore T (X.keeps k) (k _ _ hx) fun h3 t3 dx k3 big ne at3 ns3 => ?_
  have z : s.heap.objs.size < h1.objs.size := hn.lt
  exact wpAny_execs_nil (hq h3 t3 dx ⟨fun b o hb e => k3 b o hb (k b o e), Nat.le_of_lt (Nat.lt_of_lt_of_le z big), ne, at3, ns3⟩)
/-- an error that has been made: at e, its dict at d -/
structure XMade (h h' : Heap) (e C d : Addr) (v : Value) : Prop where
  keep : ∀ b o, h.get? b = some o → h'.get? b = some o
  new : h.objs.size ≤ e
  big : h.objs.size ≤ d
  ne : d ≠ e
  ob : ∃ t0 : Addr, h'.get? e = some { cls := .ref C, dict := some d, data := .fields #[.ref t0, .none, .none, .none, .bool false, .none] }
  ns : h'.Ns1 d (thingM v)
theorem xmade (T : ExF K C fI) {args : Args} {v : Value} (X : K.In s.heap) (hlim : s.heap.NoLimit) (hroom : A.depth + 1 < recursionLimit)
    (ha : args = ⟨[v], []⟩ ∨ args = ⟨[], [("thing", v)]⟩)
    (hq : ∀ h' tk e d, XMade s.heap h' e C d v → R (.ok (.ret (.ref e))) { s with heap := h', toks := tk }) :
    codeAny (model prog w) A (.call (.ref C) args) R s := by
  obtain ⟨nm, N', qn, bs, bm, hdct, sn, sub, ab, col, dd, k0, k1, k2, k3, k5, hC, hT⟩ := excInit_of X T.ini
  obtain ⟨hp, g, dr, tk, os⟩ := s
  obtain ⟨rest, kw⟩ := args
  have hz : rest.length ≤ sizeLine := by
    rcases ha with e | e <;> cases e
    · show 1 ≤ sizeLine
      rw [sizeLine_eq]
      decide
    · exact Nat.zero_le _
  have k : ∀ b o, hp.get? b = some o → ((hp.push (kdv_tup rest)).push (excO C hp.objs.size)).get? b = some o :=
    fun b o e => Heap.get?_push_of_some _ (Heap.get?_push_of_some _ e)
  have at1 : ((hp.push (kdv_tup rest)).push (excO C hp.objs.size)).get? (hp.objs.size + 1) = some (excO C hp.objs.size) := by heap_get
  refine xcall F.excBase_Exception hT hz hC (looks_findIn X T.ic) (fun self => bind_fn X self T.ti) ?_
  refine xinit (v := v) (s := ⟨(hp.push (kdv_tup rest)).push (excO C hp.objs.size), g, dr, tk, os⟩) T (X.keeps k) (hlim.keeps k) at1 ?_ ?_ fun h' tk' dx Z => ?_
  · have e : (A.under (.builtin "type.__call__" ⟨.ref C :: rest, kw⟩)).depth = A.depth + 1 := L2.make_depth
    rw [e]
    exact hroom
  · rcases ha with e | e <;> cases e
    · exact .inl rfl
    · exact .inr rfl
  · have z : hp.objs.size ≤ dx := by
      have q := Z.big
      have q2 : ((hp.push (kdv_tup rest)).push (excO C hp.objs.size)).objs.size = hp.objs.size + 1 + 1 := by rw [Heap.size_push, Heap.size_push]
      have q3 : ((hp.push (kdv_tup rest)).push (excO C hp.objs.size)).objs.size ≤ dx := q
      omega
    exact ⟨rfl, hq h' tk' (hp.objs.size + 1) dx ⟨fun b o e => Z.keep b o (Nat.ne_of_lt (Nat.lt_succ_of_lt (Heap.lt_size e))) (k b o e), Nat.le_succ _, z, Z.ne, ⟨_, Z.ob⟩, Z.ns⟩⟩
end
end XK
end PySem
set_option Elab.async false
set_option linter.all false
set_option maxRecDepth 100000
set_option maxHeartbeats 4000000
namespace XR
open PySem PySem.Spec PyProof.Rows L2
open PySem.XK (ExF thingM XMade xmade)
/-- an exception's object stands at a, as it is -/
def exq (a : Addr) (oe : Obj) : HO := .ext fun h => h.get? a = some oe
theorem exq_ok {P : Program} {w : World} {H : Hp} {h : Heap} {a : Addr} {oe : Obj} (e : h.get? a = some oe) : ObjOk P w H h a (exq a oe) :=
  ⟨e, ⟨oe, e⟩, fun _ _ z k => k _ z⟩
theorem exq_get {P : Program} {w : World} {H : Hp} {h : Heap} {a : Addr} {oe : Obj} (hok : HOk P w H h) (e : H a = some (exq a oe)) : h.get? a = some oe :=
  (show ObjOk P w H h a (.ext fun h => h.get? a = some oe) from hok a _ e).1
/-- of the class at C, its own dict at d -/
structure ErrO (C d : Addr) (oe : Obj) : Prop where
  cls : oe.cls = .ref C
  dict : oe.dict = some d
  data : ∃ vs, oe.data = .fields vs
/-- an error of the class at C that carries v stands at a -/
def Err (H : Hp) (a C : Addr) (v : V) : Prop := ∃ d oe, H a = some (exq a oe) ∧ ErrO C d oe ∧ H d = some (.xd [(("thing" : Str), v)])
theorem relO_thing {v : V} {u : Value} (r : RelV v u) (f : Str) : RelO (List.lookup f [(("thing" : Str), v)]) (thingM u f) := by
  unfold thingM
  by_cases hw : f = "thing"
  · subst hw
    rw [if_pos rfl]
    have q : List.lookup ("thing" : Str) [(("thing" : Str), v)] = some v := by simp [List.lookup]
    rw [q]
    exact r
  · rw [if_neg hw]
    have qw : (f == ("thing" : Str)) = false := by simpa using hw
    have q2 : List.lookup f [(("thing" : Str), v)] = none := by simp [List.lookup, qw]
    rw [q2]
    trivial
/-- C(e): a new error, its dict new too -/
def tExv (C : Addr) (t : TA) : TE := fun σ H Q => t σ H fun vs H1 => ∃ v, vs = [v] ∧ ∀ a d oe, H1 a = none → H1 d = none → d ≠ a → ErrO C d oe →
  Q (.ref a) (upd (upd H1 d (.xd [(("thing" : Str), v)])) a (exq a oe))
section
variable {X : Cx} {C fI : Addr} {x : Str} {p pos : Pos} {e : Expr} {t : TA} {k : Nat} {kn : Str} {kp : Pos}
/-- behind a made error: the dict is tracked, the object stands apart -/
theorem exv_inv {pins : List (Addr × Obj)} {σ : L2.St} {H1 : Hp} {hp h' : Heap} {g : Array GenState} {dr : Drawn} {tk tk' : Nat} {os : OsState} {a d : Addr} {v : V} {u : Value}
    (I1 : Inv X pins σ H1 ⟨hp, g, dr, tk, os⟩) (Z : XMade hp h' a C d u) (r : RelV v u) :
    ∃ G oe, (∀ b o, G.get? b = some o → h'.get? b = some o) ∧ G.get? a = none ∧ h'.get? a = some oe ∧ ErrO C d oe ∧
      (∃ t0 : Addr, oe.data = .fields #[.ref t0, .none, .none, .none, .bool false, .none]) ∧
      Inv X pins σ (upd H1 d (.xd [(("thing" : Str), v)])) ⟨G, g, dr, tk', os⟩ ∧ H1 a = none ∧ H1 d = none := by
  obtain ⟨t0, hob⟩ := Z.ob
  obtain ⟨G, g1, g2⟩ := restrict h' fun b => decide (b ≠ a)
  have gk : ∀ b, b ≠ a → G.get? b = h'.get? b := fun b hb => g1 b (decide_eq_true hb)
  have ge : G.get? a = none := g2 a (by simp)
  have sub : ∀ b o, G.get? b = some o → h'.get? b = some o := fun b o q => by
    by_cases hb : b = a
    · rw [hb, ge] at q
      cases q
    · exact (gk b hb).symm.trans q
  have old : ∀ b o, hp.get? b = some o → G.get? b = some o := fun b o q =>
    (gk b (Nat.ne_of_lt (Nat.lt_of_lt_of_le (Heap.lt_size q) Z.new))).trans (Z.keep b o q)
  have ob : ObjOk X.prog X.w (upd H1 d (.xd [(("thing" : Str), v)])) G d (.xd [(("thing" : Str), v)]) :=
    ⟨_, Z.ns.at (fun o q => (gk d Z.ne).trans q), fun f => relO_thing r f⟩
  exact ⟨G, _, sub, ge, hob, ⟨rfl, rfl, ⟨_, rfl⟩⟩, ⟨t0, rfl⟩, I1.laid (t' := tk') old Z.big ob, I1.hok.fresh Z.new, I1.hok.fresh Z.big⟩
theorem exv_run {pins : List (Addr × Obj)} {σ : L2.St} {H1 : Hp} {s1 : Shared} {Q : VK} {args : List Value} {kw : List (Str × Value)} {v : V} {u : Value} (T : ExF X.K C fI) (hr : Room k X.A)
    (I1 : Inv X pins σ H1 s1) (r : RelV v u) (ha : (⟨args, kw⟩ : Args) = ⟨[u], []⟩ ∨ (⟨args, kw⟩ : Args) = ⟨[], [("thing", u)]⟩)
    (q : ∀ a d oe, H1 a = none → H1 d = none → d ≠ a → ErrO C d oe → Q (.ref a) (upd (upd H1 d (.xd [(("thing" : Str), v)])) a (exq a oe))) :
    wpAny (model X.prog X.w) X.A (call (.ref C) args kw) (EP X pins σ Q) X.xe s1 := by
  have hlim := I1.nolimit
  have hK := I1.kIn
  obtain ⟨hp, g, dr, tk, os⟩ := s1
  refine wpAny_call (xmade T hK hlim (by have := hr.dp; omega) ha fun h' tk' a d Z => ?_)
  obtain ⟨G, oe, sub, ge, hob, EO, _, J, na, nd⟩ := exv_inv (tk' := tk') I1 Z r
  have na2 : upd H1 d (.xd [(("thing" : Str), v)]) a = none := by
    rw [upd_ne (Ne.symm Z.ne)]
    exact na
  exact ⟨.ref a, _, J.laidN (h' := h') (t' := tk') sub ge na2 (exq_ok hob), rfl, q a d oe na nd Z.ne EO⟩
theorem pe_exv (T : ExF X.K C fI) (hr : Room k X.A) (hg : Gl X x) (hm : X.mg x = some (.ref C)) (ha : PA X [e] t)
    (hdb : (x == ("__debug__" : Str)) = false := by decide) (he : starEach (e :: []) X.env = (false, eval e X.env) :: starEach [] X.env := by rfl)
    (hpl : (backTo pos (starEach [] X.env)).any (·.1) = false := by rfl) : PE X (.Call (.Name x p) [e] [] pos) (tExv C t) := by
  refine ⟨fun pins s σ H Q I h => ?_⟩
  refine wpAny_Call_Name_kw (ld_glob I hg hm ?_ hdb)
  refine PySem.W.callWith_K (h₀ := X.base) I.ok.mod.kin T.kc (thn (ha.run pos pins s σ H _ I h) fun us s1 ⟨vs, H1, I1, r, v, ev, q⟩ => ⟨I1.kIn, ?_⟩) he hpl
  subst ev
  obtain ⟨u, rfl, r1⟩ : ∃ u, us = [u] ∧ RelV v u := by
    cases r with
    | cons rv rn =>
      cases rn
      exact ⟨_, rfl, rv⟩
  exact exv_run T hr I1 r1 (.inl rfl) q
/-- C(thing=e) -/
theorem pe_exvK (T : ExF X.K C fI) (hr : Room k X.A) (hg : Gl X x) (hm : X.mg x = some (.ref C)) (ha : PK X [⟨some "thing", e, kp⟩] t)
    (hdb : (x == ("__debug__" : Str)) = false := by decide)
    (hall : (backToKw pos (keywordEach [⟨some "thing", e, kp⟩] X.env)).all (·.1.isSome) = true := by rfl)
    (hks : (backToKw pos (keywordEach [⟨some "thing", e, kp⟩] X.env)).filterMap (·.1) = [("thing" : Str)] := by rfl)
    (hpl : ((backTo pos (starEach [] X.env)).any (·.1) || (backToKw pos (keywordEach [⟨some "thing", e, kp⟩] X.env)).any (·.1.isNone)) = false := by rfl) :
    PE X (.Call (.Name x p) [] [⟨some "thing", e, kp⟩] pos) (tExv C t) := by
  refine ⟨fun pins s σ H Q I h => ?_⟩
  refine wpAny_Call_Name_kw (ld_glob I hg hm ?_ hdb)
  refine PySem.W.callWith_KW0 (h₀ := X.base) I.ok.mod.kin T.kc hall (thn (ha.run pos pins s σ H _ I h) fun us s1 ⟨vs, H1, I1, r, v, ev, q⟩ => ⟨I1.kIn, ?_⟩) hpl
  subst ev
  obtain ⟨u, rfl, r1⟩ : ∃ u, us = [u] ∧ RelV v u := by
    cases r with
    | cons rv rn =>
      cases rn
      exact ⟨_, rfl, rv⟩
  rw [hks]
  exact exv_run T hr I1 r1 (.inr rfl) q
/-- raise C(e), raise C(thing=e): the error's dict is tracked -/
def tExr (C : Addr) (t : TA) : L2.St → Hp → XK → Prop := fun σ H Q => t σ H fun vs H1 => ∃ v, vs = [v] ∧ ∀ d, H1 d = none → Q (.ref C) (some d) (upd H1 d (.xd [(("thing" : Str), v)]))
theorem exr_run {pins : List (Addr × Obj)} {σ : L2.St} {H1 : Hp} {s1 : Shared} {Q : XK} {args : List Value} {kw : List (Str × Value)} {v : V} {u : Value} (T : ExF X.K C fI) (hr : Room k X.A)
    (I1 : Inv X pins σ H1 s1) (r : RelV v u) (ha : (⟨args, kw⟩ : Args) = ⟨[u], []⟩ ∨ (⟨args, kw⟩ : Args) = ⟨[], [("thing", u)]⟩)
    (q : ∀ d, H1 d = none → Q (.ref C) (some d) (upd H1 d (.xd [(("thing" : Str), v)]))) :
    wpAny (model X.prog X.w) X.A (call (.ref C) args kw) (MkP X pins σ Q) X.xe s1 := by
  have hlim := I1.nolimit
  have hK := I1.kIn
  obtain ⟨hp, g, dr, tk, os⟩ := s1
  refine wpAny_call (xmade T hK hlim (by have := hr.dp; omega) ha fun h' tk' a d Z => ?_)
  obtain ⟨G, oe, sub, ge, hob, EO, ⟨t0, hdat⟩, J, na, nd⟩ := exv_inv (tk' := tk') I1 Z r
  refine ⟨a, oe, _, ⟨G, g, dr, tk', os⟩, _, .ref C, some d, rfl, J, sub, ge, hob, ⟨EO.cls, EO.dict⟩, hdat, rfl, ?_, rfl, I1.bare, raises_own T.ex T.ty, q d nd⟩
  rw [upd_ne (Ne.symm Z.ne)]
  exact na
theorem pmk_exv (T : ExF X.K C fI) (hr : Room k X.A) (hg : Gl X x) (hm : X.mg x = some (.ref C)) (ha : PA X [e] t)
    (hdb : (x == ("__debug__" : Str)) = false := by decide) (he : starEach (e :: []) X.env = (false, eval e X.env) :: starEach [] X.env := by rfl)
    (hpl : (backTo pos (starEach [] X.env)).any (·.1) = false := by rfl) : PMk X (.Call (.Name x p) [e] [] pos) (tExr C t) := by
  intro pins s σ H Q I h
  refine wpAny_Call_Name_kw (ld_glob I hg hm ?_ hdb)
  refine PySem.W.callWith_K (h₀ := X.base) I.ok.mod.kin T.kc (thn (ha.run pos pins s σ H _ I h) fun us s1 ⟨vs, H1, I1, r, v, ev, q⟩ => ⟨I1.kIn, ?_⟩) he hpl
  subst ev
  obtain ⟨u, rfl, r1⟩ : ∃ u, us = [u] ∧ RelV v u := by
    cases r with
    | cons rv rn =>
      cases rn
      exact ⟨_, rfl, rv⟩
  exact exr_run T hr I1 r1 (.inl rfl) q
theorem pmk_exvK (T : ExF X.K C fI) (hr : Room k X.A) (hg : Gl X x) (hm : X.mg x = some (.ref C)) (ha : PK X [⟨some "thing", e, kp⟩] t)
    (hdb : (x == ("__debug__" : Str)) = false := by decide)
    (hall : (backToKw pos (keywordEach [⟨some "thing", e, kp⟩] X.env)).all (·.1.isSome) = true := by rfl)
    (hks : (backToKw pos (keywordEach [⟨some "thing", e, kp⟩] X.env)).filterMap (·.1) = [("thing" : Str)] := by rfl)
    (hpl : ((backTo pos (starEach [] X.env)).any (·.1) || (backToKw pos (keywordEach [⟨some "thing", e, kp⟩] X.env)).any (·.1.isNone)) = false := by rfl) :
    PMk X (.Call (.Name x p) [] [⟨some "thing", e, kp⟩] pos) (tExr C t) := by
  intro pins s σ H Q I h
  refine wpAny_Call_Name_kw (ld_glob I hg hm ?_ hdb)
  refine PySem.W.callWith_KW0 (h₀ := X.base) I.ok.mod.kin T.kc hall (thn (ha.run pos pins s σ H _ I h) fun us s1 ⟨vs, H1, I1, r, v, ev, q⟩ => ⟨I1.kIn, ?_⟩) hpl
  subst ev
  obtain ⟨u, rfl, r1⟩ : ∃ u, us = [u] ∧ RelV v u := by
    cases r with
    | cons rv rn =>
      cases rn
      exact ⟨_, rfl, rv⟩
  rw [hks]
  exact exr_run T hr I1 r1 (.inr rfl) q
end
end XR
set_option Elab.async false
set_option linter.all false
set_option maxRecDepth 100000
set_option maxHeartbeats 4000000
namespace XR
open PySem PySem.Spec PyProof.Rows L2
open PySem.XK (ExF)
section
variable {X : Cx} {C fI a d : Addr} {oe : Obj} {v : V} {pins : List (Addr × Obj)} {σ : L2.St} {H : Hp} {s : Shared}
/-- what the library's rules ask of such an object -/
theorem err_inst (hok : HOk X.prog X.w H s.heap) (ha : s.heap.get? a = some oe) (EO : ErrO C d oe) (ed : H d = some (.xd [(("thing" : Str), v)])) :
    ∃ od u, PySem.W.InstAt s.heap a oe C (some od) ∧ PySem.W.lookIn "thing" od = some (some u) ∧ RelV v u := by
  have hx : ObjOk X.prog X.w H s.heap d (.xd [(("thing" : Str), v)]) := hok d _ ed
  obtain ⟨mA, hns, hr⟩ := hx
  obtain ⟨od, ho, hl⟩ := lookIn_ns hns
  have l : List.lookup ("thing" : Str) [(("thing" : Str), v)] = some v := by simp [List.lookup]
  obtain ⟨u, hu, ru⟩ := RelO.some_of (v := v) (o := mA "thing") (by rw [← l]; exact hr "thing")
  obtain ⟨vs, hd⟩ := EO.data
  refine ⟨od, u, ⟨ha, EO.cls, ?_, ?_⟩, by rw [hl, hu], ru⟩
  · unfold PySem.W.notCls
    rw [hd] <;> rfl
  · rw [EO.dict]
    exact ho
theorem err_read {A : Around} {E : Value → Shared → Prop} {ex : Bool} {Q : Value → Shared → Prop} (T : ExF X.K C fI) (hK : X.K.In s.heap) (hok : HOk X.prog X.w H s.heap) (ha : s.heap.get? a = some oe) (EO : ErrO C d oe)
    (ed : H d = some (.xd [(("thing" : Str), v)])) (h : ∀ u, RelV v u → Q u { s with toks := s.toks + 1 }) :
    wpAny (model X.prog X.w) A (getAttr (.ref a) "thing" ex) Q E s := by
  obtain ⟨od, u, J, hl, ru⟩ := err_inst hok ha EO ed
  exact HandSPX.exc_get hK J T.ga T.gg T.ex (PySem.W.findObj_own T.hd T.no rfl hl) (handed_of ru) (h u ru)
theorem err_is {A : Around} {E : Value → Shared → Prop} {c : Value} {b : Bool} {Q : Value → Shared → Prop} (T : ExF X.K C fI) (hK : X.K.In s.heap) (hok : HOk X.prog X.w H s.heap) (ha : s.heap.get? a = some oe) (EO : ErrO C d oe)
    (ed : H d = some (.xd [(("thing" : Str), v)])) (e : PySem.W.kitOne X.K (.ref C) c = some b) (h : ∀ tk, Q (.bool b) { s with toks := tk }) :
    wpAny (model X.prog X.w) A (call (.builtin "isinstance") [.ref a, c]) Q E s := by
  obtain ⟨od, u, J, hl, ru⟩ := err_inst hok ha EO ed
  obtain ⟨cd, hcd, _⟩ := PySem.W.any_some T.hd
  exact PySem.W.kia_one (PySem.W.kitx_exc (by rw [hcd]; rfl) T.ga T.gg T.ex T.cl T.dn T.dt T.mo) hK J e (fun z => nomatch z) h
theorem err_isT {A : Around} {E : Value → Shared → Prop} {tp : Addr} {dd : Option Addr} {its : List Value} {n : Nat} {sl : Array (Option Value)} {b : Bool} {Q : Value → Shared → Prop} (T : ExF X.K C fI) (hK : X.K.In s.heap) (hok : HOk X.prog X.w H s.heap) (ha : s.heap.get? a = some oe) (EO : ErrO C d oe)
    (ed : H d = some (.xd [(("thing" : Str), v)])) (htp : s.heap.get? tp = some ⟨.type "tuple", dd, .seq its.toArray n, sl⟩) (e : PySem.W.kitAny X.K (.ref C) its = some b) (h : ∀ tk, Q (.bool b) { s with toks := tk }) :
    wpAny (model X.prog X.w) A (call (.builtin "isinstance") [.ref a, .ref tp]) Q E s := by
  obtain ⟨od, u, J, hl, ru⟩ := err_inst hok ha EO ed
  obtain ⟨cd, hcd, _⟩ := PySem.W.any_some T.hd
  exact PySem.W.kia_tup (PySem.W.kitx_exc (by rw [hcd]; rfl) T.ga T.gg T.ex T.cl T.dn T.dt T.mo) hK J htp e (fun z => nomatch z) h
end
/-- an error that is tracked, its facts beside it -/
def ErrK (K : PySem.W.Frag) (H : Hp) (a C : Addr) (v : V) : Prop := ∃ fI d oe, ExF K C fI ∧ ErrO C d oe ∧ H a = some (exq a oe) ∧ H d = some (.xd [(("thing" : Str), v)])
/-- e.thing -/
def tEf (K : PySem.W.Frag) (te : TE) : TE := fun σ H Q => te σ H fun x H1 => ∃ a C v, x = .ref a ∧ ErrK K H1 a C v ∧ Q v H1
/-- isinstance(e, c), isinstance(e, (c, ..)) -/
def rIsX (K : PySem.W.Frag) : List V → Hp → VK → Prop := fun xs H Q => ∃ (a C : Addr) (v c : V) (u : Value) (b : Bool), xs = [.ref a, c] ∧ ErrK K H a C v ∧ ClsV c u ∧ PySem.W.kitOne K (.ref C) u = some b ∧ Q (.bl b) H
def rIsXT (K : PySem.W.Frag) : List V → Hp → VK → Prop := fun xs H Q => ∃ (a C tp : Addr) (v : V) (cs : List V) (us : List Value) (b : Bool), xs = [.ref a, .ref tp] ∧ ErrK K H a C v ∧ H tp = some (.tup cs) ∧ Paired ClsV cs us ∧
  PySem.W.kitAny K (.ref C) us = some b ∧ Q (.bl b) H
section
variable {X : Cx} {e : Expr} {te : TE} {pos : Pos}
theorem pe_ef (he : PE X e te) (hb : attributeBase e "thing" X.env (eval e X.env) = eval e X.env := by rfl) : PE X (.Attribute e "thing" pos) (tEf X.K te) := by
  refine ⟨fun pins s σ H Q I h => ?_⟩
  refine attr_of hb (thn (he.run pins s σ H _ I h) fun u s1 hh => ?_)
  obtain ⟨x, H1, I1, rx, a, C, v, ex, ⟨fI, d, oe, T, EO, ea, ed⟩, q⟩ := hh
  subst ex
  obtain rfl : u = Value.ref a := rx
  exact err_read T I1.kIn I1.hok (exq_get I1.hok ea) EO ed fun u ru => ⟨v, H1, I1.tok _, ru, q⟩
theorem call_isX : CallR X (.builtin "isinstance") (rIsX X.K) := by
  intro pins s σ H xs us Q I r h
  obtain ⟨a, C, v, c, u, b, rfl, ⟨fI, d, oe, T, EO, ea, ed⟩, k, e, q⟩ := h
  obtain ⟨u1, u2, rfl, r1, r2⟩ := vals2 r
  obtain rfl : u1 = Value.ref a := r1
  have e2 := k.eq r2
  subst e2
  exact err_is T I.kIn I.hok (exq_get I.hok ea) EO ed e fun tk => ⟨.bl b, H, I.tok tk, rfl, q⟩
theorem call_isXT : CallR X (.builtin "isinstance") (rIsXT X.K) := by
  intro pins s σ H xs us Q I r h
  obtain ⟨a, C, tp, v, cs, ws, b, rfl, ⟨fI, d, oe, T, EO, ea, ed⟩, hT, k, e, q⟩ := h
  obtain ⟨u1, u2, rfl, r1, r2⟩ := vals2 r
  obtain rfl : u1 = Value.ref a := r1
  obtain rfl : u2 = Value.ref tp := r2
  obtain ⟨_, its, rv, o, h1, h2, n, h3⟩ := (show ObjOk X.prog X.w H s.heap tp (.tup cs) from I.hok tp _ hT)
  have e3 := ClsV.all k rv
  subst e3
  obtain ⟨oc, od, dt, sl⟩ := o
  simp only at h2 h3
  subst h2 h3
  exact err_isT T I.kIn I.hok (exq_get I.hok ea) EO ed h1 e fun tk => ⟨.bl b, H, I.tok tk, rfl, q⟩
end
/-! ### in an except suite: the error that it holds -/
/-- e.thing -/
def tSf (K : PySem.W.Frag) (a : Addr) (cls : Value) (d : Option Addr) (te : TE) : TE := fun σ H Q => te σ H fun x H1 => x = .ref a ∧ ∃ C fI dd v, cls = .ref C ∧ d = some dd ∧ ExF K C fI ∧ H1 dd = some (.xd [(("thing" : Str), v)]) ∧ Q v H1
/-- isinstance(e, c) -/
def rIsS (K : PySem.W.Frag) (a : Addr) (cls : Value) (d : Option Addr) : List V → Hp → VK → Prop := fun xs H Q => ∃ (C fI dd : Addr) (v c : V) (u : Value) (b : Bool), xs = [.ref a, c] ∧ cls = .ref C ∧ d = some dd ∧ ExF K C fI ∧
  H dd = some (.xd [(("thing" : Str), v)]) ∧ ClsV c u ∧ PySem.W.kitOne K (.ref C) u = some b ∧ Q (.bl b) H
section
variable {X : Cx} {a : Addr} {oe : Obj} {cls : Value} {d : Option Addr} {pn : List (Addr × Obj)} {e : Expr} {te : TE} {pos : Pos}
theorem pe_sf (hz : Zc cls d oe) (hf : ∃ vs, oe.data = .fields vs) (he : PE (X.suite a ((a, oe) :: pn)) e te)
    (hb : attributeBase e "thing" X.env (eval e X.env) = eval e X.env := by rfl) : PE (X.suite a ((a, oe) :: pn)) (.Attribute e "thing" pos) (tSf X.K a cls d te) := by
  refine ⟨fun pins s σ H Q I h => ?_⟩
  refine attr_of hb (thn (he.run pins s σ H _ I h) fun u s1 hh => ?_)
  obtain ⟨x, H1, I1, rx, ex, C, fI, dd, v, ec, edd, T, ed, q⟩ := hh
  subst ex
  obtain rfl : u = Value.ref a := rx
  subst ec
  subst edd
  have pa := (I1.pin (a, oe) (List.mem_append_left _ List.mem_cons_self)).1
  exact err_read (X := X) T I1.kIn I1.hok pa ⟨hz.1, hz.2, hf⟩ ed fun u ru => ⟨v, H1, I1.tok _, ru, q⟩
theorem call_isS (hz : Zc cls d oe) (hf : ∃ vs, oe.data = .fields vs) : CallR (X.suite a ((a, oe) :: pn)) (.builtin "isinstance") (rIsS X.K a cls d) := by
  intro pins s σ H xs us Q I r h
  obtain ⟨C, fI, dd, v, c, u, b, rfl, ec, edd, T, ed, k, e, q⟩ := h
  obtain ⟨u1, u2, rfl, r1, r2⟩ := vals2 r
  obtain rfl : u1 = Value.ref a := r1
  subst ec
  subst edd
  have e2 := k.eq r2
  subst e2
  have pa := (I.pin (a, oe) (List.mem_append_left _ List.mem_cons_self)).1
  exact err_is (X := X) T I.kIn I.hok pa ⟨hz.1, hz.2, hf⟩ ed e fun tk => ⟨.bl b, H, I.tok tk, rfl, q⟩
end
end XR
set_option Elab.async false
set_option linter.all false
set_option maxRecDepth 100000
set_option maxHeartbeats 4000000
namespace XR
open PySem PySem.Spec PyProof.Rows L2
open PySem.XK (ExF)
/-- the ways out of a suite: the clause's name goes -/
def goE (i : Nat) (D : Ends) : Ends := { nx := fun σ H => D.nx (σ.set i none) H, rt := D.rt, bk := fun σ H => D.bk (σ.set i none) H, ct := fun σ H => D.ct (σ.set i none) H }
/-- what the clauses, each with a name in slot i, wish of an exception of the body, one behind the other -/
def wMa (K : PySem.W.Frag) (Wout : WX) (i : Nat) (D : Ends) : List (Value × (Addr → Value → Option Addr → TS)) → WX
  | [] => Wout
  | (c, ts) :: r => fun cls d σ H => ∃ b, PySem.W.exmOne K cls c = some b ∧ (b = true → ∀ a, H a = none → ts a cls d (goE i D) (σ.set i (some (.ref a))) H) ∧ (b = false → wMa K Wout i D r cls d σ H)
inductive HdA (X : Cx) (n : Str) : List ExceptHandler → List (Value × (Addr → Value → Option Addr → TS)) → Prop
  | nil : HdA X n [] []
  | cons {x : Str} {c : Value} {ts : Addr → Value → Option Addr → TS} {b₀ : Stmt} {su : List Stmt} {np pos' : Pos} {hds : List ExceptHandler} {l : List (Value × (Addr → Value → Option Addr → TS))}
      (hc : Names X x c)
      (hs : ∀ (a : Addr) (oe : Obj) (cls : Value) (d : Option Addr) (pn : List (Addr × Obj)), Zc cls d oe → (∃ vs, oe.data = .fields vs) → X.base.get? a = none → PSs (X.suite a ((a, oe) :: pn)) (b₀ :: su) (ts a cls d))
      (r : HdA X n hds l) : HdA X n (.ExceptHandler (some (.Name x np)) (some n) (b₀ :: su) pos' :: hds) ((c, ts) :: l)
section
variable {X : Cx} {n : Str} {i : Nat} {body : List Stmt} {h₀ : ExceptHandler} {hds : List ExceptHandler} {l : List (Value × (Addr → Value → Option Addr → TS))} {pos : Pos} {tb : WX → TS} {Wout : WX}
theorem ps_try_ma (hs : X.stack = X.env :: X.outer) (hf : X.env.frame = some X.env.locals) (hN : X.N.Nodup) (hi : X.N[i]? = some n) (hln : X.env.kindOf n = some .local) (tk : Takes X Wout)
    (hb : ∀ (W : WX) (pn : List (Addr × Obj)) (xe : Value → Shared → Prop), Takes (X.tr pn xe) W → PassesOwn (model X.prog X.w) X.A X.env xe → PSs (X.tr pn xe) body (tb W))
    (hh : HdA X n (h₀ :: hds) l) : PS X (.Try body (h₀ :: hds) [] [] pos) (fun D σ H => tb (wMa X.K Wout i D l) D σ H) := by
  refine ⟨fun pins s σ H D I h => ?_⟩
  have ok := I.ok
  have fr : X.A.frames = some (X.env :: X.outer) := by
    rw [ok.frames, hs]
  have lc : Loc X.env.scope n := .inl hln
  refine wpAny_Try_except ?_
  refine wpAny_mono ((hb (wMa X.K Wout i D l) (X.pn ++ pins)
    (fun e sA => wpAny (model X.prog X.w) X.A (noteFrame e X.env) (fun _ sB => wpAny (model X.prog X.w) X.A (setFlight e none)
      (fun _ sC => wpAny (model X.prog X.w) X.A (handleBy e X.env (h₀ :: hds)) (SP X pins D) X.xe sC) X.xe sB) X.xe sA)
    (fun u sX xx => ?_) PassesOwn.looking).run [] s σ H D (I.toTry _) h) (fun f sY fin => ?_) (fun _ _ z => z)
  · obtain ⟨a, B, sI, pq, σ', H', cls, d, rfl, J', nb, up, sky, na, os, ag, w⟩ := xx
    have J : Inv X pins σ' H' sI := J'.ofTry ok
    have sky2 : Sky B (X.env :: X.outer) a (Zc cls d) X.env.locals sX.heap := by
      rw [← hs]
      exact sky
    show wpAny (model X.prog X.w) X.A (noteFrame (.ref a) X.env) _ _ _
    refine Sky.land Zc.steady fr hf sky2 fun hL flL upL => ?_
    have JL : Inv X pins σ' H' { sX with heap := hL } := J.landed nb flL.1 (up.trans upL) os ag
    obtain ⟨oL, vL, eL, zL, dL⟩ := flL.there
    have notFrame : a ∉ frs (X.env :: X.outer) := fun hm => by
      obtain ⟨_, o', e', hnf⟩ := flL.2.2.1.mem hm
      rw [eL] at e'
      cases e'
      exact hnf _ dL
    have nL : a ≠ X.env.locals := fun z => notFrame (List.mem_filterMap.mpr ⟨X.env, List.mem_cons_self, by rw [hf, z]⟩)
    have nF : a ∉ X.fs := fun hm => by
      obtain ⟨e, he, q⟩ := List.mem_filterMap.mp hm
      exact notFrame (List.mem_filterMap.mpr ⟨e, List.mem_cons_of_mem _ he, q⟩)
    have nB : X.base.get? a = none := by
      cases q : X.base.get? a with
      | none => rfl
      | some o =>
        have z := nb a o (J.bk a o q) (by rw [hs]; exact notFrame)
        rw [flL.2.1] at z
        cases z
    have SL := JL.suite eL dL na nL nF
    have go : ∀ {hk : List ExceptHandler} {lk : List (Value × (Addr → Value → Option Addr → TS))}, HdA X n hk lk → wMa X.K Wout i D lk cls d σ' H' →
        wpAny (model X.prog X.w) X.A (handleBy (.ref a) X.env hk) (SP X pins D) X.xe { sX with heap := hL } := by
      intro hk lk z
      induction z with
      | nil =>
        intro w
        refine wpAny_handleBy_nil ?_
        obtain ⟨k1, k2, k3, oe, vs, T, oT, ts', he, hz, hd, h1, hr⟩ := id flL
        unfold PySem.passOn
        refine wpAny_bind (wpAny_field he hd h1 ?_)
        rw [if_neg (show ¬ ((Value.ref T == Value.none) = true) from by simp)]
        have out : wpAny (model X.prog X.w) X.A (setFlight (.ref a) X.env.frame)
            (fun _ s4 => wpAny (model X.prog X.w) X.A (throw (.ref a) : Sem Flow) (SP X pins D) X.xe s4) X.xe { sX with heap := hL } := by
          rw [hf]
          refine HandSPX.setFlight_upZ flL fun h4 hh4 up4 => wpAny_throw (tk _ _ ?_)
          exact ⟨a, B, sI, pins, σ', H', cls, d, rfl, J, nb, (up.trans upL).trans up4, .inr (.inr (by rw [hs]; exact hh4)), na, os, ag, w⟩
        first
          | exact wpAny_bind (wpAny_pure (wpAny_bind out))
          | exact wpAny_bind out
      | @cons x c ts b₁ su np pos' hds2 l2 hc hsu r ih =>
        intro w
        obtain ⟨b, hb1, yes, no⟩ := w
        refine wpAny_handleBy_cons (codeAny_handlers_test ?_) (by intro q; cases q)
        have LT : PySem.W.Looks (model X.prog X.w) hL (typeOf (.ref a)) cls := fun A Q E s k q => wpAny_typeOf_ref (k _ _ eL) (by rw [zL.1]; exact q)
        have LM := PySem.W.exm_one (M := model X.prog X.w) (JL.kIn) LT hb1
        have test : ∀ {Q : Value → Shared → Prop} {E : Value → Shared → Prop}, Q c { sX with heap := hL } →
            wpAny (model X.prog X.w) (X.A.mark (some (.ref a))) (eval (.Name x np) X.env) Q E { sX with heap := hL } := fun {Q E} q => by
          obtain ⟨g1, g2, m1 | ⟨m1, m2, m3⟩⟩ := hc
          · exact ld_glob (X := X.suite a ((a, oL) :: (X.pn ++ pins))) SL g1 m1 q g2
          · exact ld_blt (X := X.suite a ((a, oL) :: (X.pn ++ pins))) SL g1 m1 m2 q m3 g2
        refine test (LM.here ?_)
        cases b with
        | true =>
          refine codeAny_handlers_suite_as ?_
          refine HandSPX.lands_againZ flL fun h4 fl4 up4 => ?_
          have J4 : Inv X pins σ' H' { sX with heap := h4 } := J.landed nb fl4.1 ((up.trans upL).trans up4) os ag
          obtain ⟨o4, v4, e4, z4, d4⟩ := fl4.there
          have S4 := J4.suite e4 d4 na nL nF
          refine store_ok (X := X.suite a ((a, o4) :: (X.pn ++ pins))) (v := .ref a) S4 hN hi lc rfl (fun s5 S5 => ?_) (.inr hln)
          refine wpAny_mono ((hsu a o4 cls d (X.pn ++ pins) z4 ⟨_, d4⟩ nB).run [] s5 _ H' _ S5 (yes rfl a na)) (fun f s6 hsp => ?_) (fun _ _ z => False.elim z)
          have fin : ∀ {σ6 : L2.St} {H6 : Hp} {Q : Shared → Prop}, Inv (X.suite a ((a, o4) :: (X.pn ++ pins))) [] σ6 H6 s6 → (∀ s7, Inv X pins (σ6.set i none) H6 s7 → Q s7) →
              wpAny (model X.prog X.w) X.A (do bindName X.env n .none; unbindBehindTheSuite X.env n pos') (fun _ s7 => Q s7) X.xe s6 :=
            fun {σ6 H6 Q} S6 hq => gone_ok (S6.unsuite ok) hN hi hln hq
          cases f with
          | next =>
            obtain ⟨σ6, H6, S6, q6⟩ := hsp
            exact fin S6 fun s7 J7 => ⟨_, _, J7, q6⟩
          | brk =>
            obtain ⟨σ6, H6, S6, q6⟩ := hsp
            exact fin S6 fun s7 J7 => ⟨_, _, J7, q6⟩
          | cont =>
            obtain ⟨σ6, H6, S6, q6⟩ := hsp
            exact fin S6 fun s7 J7 => ⟨_, _, J7, q6⟩
          | ret u =>
            obtain ⟨v6, σ6, H6, S6, r6, q6⟩ := hsp
            exact fin S6 fun s7 J7 => ⟨_, _, _, J7, r6, q6⟩
        | false =>
          show wpAny _ X.A (handleBy (.ref a) X.env hds2) _ _ _
          exact ih (no rfl)
    exact go hh w
  · cases f with
    | next =>
      obtain ⟨σ', H', J', q⟩ := fin
      exact wpAny_execs_nil ⟨σ', H', J'.ofTry ok, q⟩
    | brk =>
      obtain ⟨σ', H', J', q⟩ := fin
      exact ⟨σ', H', J'.ofTry ok, q⟩
    | cont =>
      obtain ⟨σ', H', J', q⟩ := fin
      exact ⟨σ', H', J'.ofTry ok, q⟩
    | ret u =>
      obtain ⟨v, σ', H', J', r, q⟩ := fin
      exact ⟨v, σ', H', J'.ofTry ok, r, q⟩
end
end XR
set_option Elab.async false
set_option linter.all false
set_option maxRecDepth 100000
set_option maxHeartbeats 4000000
namespace XR
open PySem PySem.Spec PyProof.Rows L2 L2H
/-- a def that may run while an exception is handled, too -/
structure FnC (P : Program) (w : World) (K : PySem.W.Frag) (mg : Str → Option Value) (base : Heap) (k : Nat) (f : Addr) (fd : FuncData) (ps : List Str) (sp : Sp) : Prop where
  len : ∀ vs H Q E, sp vs H Q E → vs.length = ps.length
  run : ∀ (A : Around) (outer : List Env) (s : Shared) (H : Hp) (args : Args) (us : List Value) (vs : List V) (Q : VK) (E : XK), RoomH k A → Env0 P w K mg base A outer s H → BindsTo s fd args (ps.zip us) → Vals vs us → sp vs H Q E →
    codeAny (model P w) A (.call (.ref f) args) (CR CX0 outer P w H s Q E) s
theorem FnC.ok {P : Program} {w : World} {K : PySem.W.Frag} {mg : Str → Option Value} {base : Heap} {k : Nat} {f : Addr} {fd : FuncData} {ps : List Str} {sp : Sp} (F : FnC P w K mg base k f fd ps sp) : FnOk P w K mg base CX0 k f fd ps sp :=
  ⟨F.len, fun A outer s H args us vs Q E hr => F.run A outer s H args us vs Q E (roomH_of hr)⟩
/-- an object of the base that stands still through every call -/
theorem base_pin {P : Program} {w : World} {K : PySem.W.Frag} {mg : Str → Option Value} {base : Heap} {A : Around} {outer : List Env} {s : Shared} {H : Hp} (e0 : Env0 P w K mg base A outer s H) : ∃ p, PinOk outer H s p := by
  obtain ⟨o, es, ep, e, hd, _⟩ := e0.mod.glob
  obtain ⟨q, n⟩ := e0.bs _ o e
  refine ⟨(mainGlobals, o), q, n, fun hm => ?_, fun v z => ?_⟩
  · have z := (e0.funs.mem hm).1
    rw [e] at z
    cases z
  · have z2 : o.data = .cell v := z
    rw [hd] at z2
    cases z2
theorem fnc_of {P : Program} {w : World} {K : PySem.W.Frag} {mg : Str → Option Value} {base : Heap} {k : Nat} {f : Addr} {x qual : Str} {st : Stmt} {fd : FuncData} {N ps : List Str} {sp : Sp} (F : Fun K x qual st f fd) (S : FnScope N ps (defScope st))
    (len : ∀ vs H Q E, sp vs H Q E → vs.length = ps.length)
    (hbody : ∀ (cdv : Value) (A : Around) (outer : List Env) (s : Shared) (H : Hp) (vs : List V) (Q : VK) (E : XK) (p : Addr × Obj), RoomH k (A.deeper (envOfC qual (defScope st) s.heap.objs.size f cdv)) → sp vs H Q E →
      ∃ t, PSs (cxH CX0 P w K mg base N qual (defScope st) f cdv A outer s H E p) (defBody st) t ∧ t { nx := fun _ H' => Q .non H', rt := Q } (L2.start N vs) H) :
    FnC P w K mg base (k + 1) f fd ps sp := by
  obtain ⟨oc, od, kV, doc, pm, an, cdv, ct, osl, rfl, lk, hcd⟩ := F.ex
  refine ⟨len, fun A outer s H args us vs Q E hr e0 hb r hsp => ?_⟩
  obtain ⟨p, hp⟩ := base_pin e0
  have hl := len _ _ _ _ hsp
  have KX : K.In s.heap := e0.mod.kin.keeps fun b o e => (e0.bs b o e).1
  have lim : s.heap.NoLimit := e0.mod.nolimit.keeps fun b o e => (e0.bs b o e).1
  have kinds : ∀ y ∈ ps.zip us, (defScope st).names.lookup y.1 = some .local ∨
      ((defScope st).names.lookup y.1 = some .cell ∧ ((cellsFrom (s.heap.objs.size + 1) (defScope st).names []).lookup y.1).isSome = true) := fun ⟨n, v⟩ hy => by
    rcases S.par n (List.of_mem_zip hy).1 with q | q
    · exact .inl q
    · exact .inr ⟨q, PySem.W.cellsFrom_some _ _ _ (.inl q)⟩
  refine codeAny_call_function hr.depth (KX _ _ lk) rfl S.co S.gen rfl (PySem.W.codeRec_of KX hcd) (hb _ _ _ _ ?_)
  refine wpAny_newFunctionEnv_cells S.kind kinds fun env he s1 ic => ?_
  subst he
  refine ⟨lim.keeps ic.toInCall.keep, codeAny_func ?_⟩
  obtain ⟨t, ht, hq⟩ := hbody cdv A outer s H vs Q E p (hr.deeper _) hsp
  have I := inv_startH (CX := CX0) (E := E) S hp e0 hl r ic
  refine wpAny_mono (ht.run [] s1 (L2.start N vs) H _ I hq) (fun fl s' hs => ?_) fun e s' hs => hs
  have out : ∀ {σ' : L2.St} {H' : Hp} {v : V} {u : Value}, Inv (cxH CX0 P w K mg base N qual (defScope st) f cdv A outer s H E p) [] σ' H' s' → RelV v u → Q v H' → CE outer P w H s Q u s' :=
    fun {σ' H' v u} J rv q => ⟨v, H', J.os, J.bare, J.base, J.hok, rv, q⟩
  cases fl with
  | ret u =>
    obtain ⟨v, σ', H', J, rv, q⟩ := hs
    exact out J rv q
  | next =>
    obtain ⟨σ', H', J, q⟩ := hs
    exact out (v := V.non) (u := Value.none) J rfl q
  | brk =>
    obtain ⟨_, _, _, q⟩ := hs
    exact q.elim
  | cont =>
    obtain ⟨_, _, _, q⟩ := hs
    exact q.elim
/-- f(e), e the error that the suite holds: it is tracked through the call -/
def tHc (a : Addr) (cls : Value) (d : Option Addr) (sp : Sp) (t : TA) : TE := fun σ H Q => t σ H fun vs H1 => vs = [.ref a] ∧ H1 a = none ∧
  ∀ oe : Obj, oe.cls = cls → oe.dict = d → (∃ fv, oe.data = .fields fv) → sp [.ref a] (upd H1 a (exq a oe)) (fun v H2 => H2 a = some (exq a oe) ∧ Q v (delH H2 a)) E0
theorem exq_own {a x : Addr} {oe : Obj} : exq a oe ≠ .own x := fun z => by
  have z' : HO.ext _ = HO.own x := z
  cases z'
section
variable {X : Cx} {a : Addr} {oe : Obj} {cls : Value} {d : Option Addr} {pn : List (Addr × Obj)} {k : Nat} {f : Addr} {fd : FuncData} {ps : List Str} {sp : Sp} {x : Str} {p pos : Pos} {e : Expr} {t : TA}
theorem pe_hc (hz : Zc cls d oe) (hf : ∃ vs, oe.data = .fields vs) (nB : X.base.get? a = none) (F : FnC X.prog X.w X.K X.mg X.base k f fd ps sp) (hr : RoomH k (X.suite a ((a, oe) :: pn)).A) (hg : Gl (X.suite a ((a, oe) :: pn)) x) (hm : X.mg x = some (.ref f)) (hk : PySem.W.keepIn X.K (.ref f) = true) (hb : Binds X.K fd ps [])
    (ha : PA (X.suite a ((a, oe) :: pn)) [e] t) (hdb : (x == ("__debug__" : Str)) = false := by decide)
    (hst : starEach [e] X.env = (false, eval e X.env) :: starEach [] X.env := by rfl) :
    PE (X.suite a ((a, oe) :: pn)) (.Call (.Name x p) [e] [] pos) (tHc a cls d sp t) := by
  refine ⟨fun pins s σ H Q I h => ?_⟩
  refine wpAny_Call_Name_kw (ld_glob I hg hm ?_ hdb)
  refine PySem.W.callWith_K (h₀ := X.base) I.ok.mod.kin hk (thn (ha.run pos pins s σ H _ I h) fun us s1 ⟨vs, H1, I1, r, ev, _, hall⟩ => ⟨I1.kIn, ?_⟩) hst (by rfl)
  subst ev
  have hsp := hall oe hz.1 hz.2 hf
  cases r with
  | cons ry rn =>
  cases rn
  cases ry
  obtain ⟨pg, pf, pL, pF, pc⟩ := I1.pin (a, oe) (List.mem_append_left _ List.mem_cons_self)
  have nst : a ∉ frs (X.suite a ((a, oe) :: pn)).stack := fun hm => (List.mem_cons.mp (I1.stkSub a hm)).elim pL pF
  have e0 := I1.env0
  have e1 : Env0 X.prog X.w X.K X.mg X.base (X.suite a ((a, oe) :: pn)).A (X.suite a ((a, oe) :: pn)).stack s1 (upd H1 a (exq a oe)) := by
    refine ⟨e0.frames, e0.mod, fun b o q => ?_, e0.bsz, e0.funs, fun b hb => ?_, ?_, e0.bare⟩
    · have ne : b ≠ a := fun z => by
        rw [z, nB] at q
        cases q
      rw [upd_ne ne]
      exact e0.bs b o q
    · have ne : b ≠ a := fun z => nst (by rw [← z]; exact hb)
      rw [upd_ne ne]
      exact e0.frf b hb
    · exact I1.hok.laidN (fun _ _ q => q) pf (exq_ok pg)
  have b := hb s1 [.ref a] I1.kIn (by rw [List.append_nil]; exact (F.len _ _ _ _ hsp))
  rw [List.append_nil] at b
  refine wpAny_call (codeAny_mono (F.run _ _ s1 _ ⟨[.ref a], []⟩ [.ref a] [.ref a] _ E0 hr e1 b (.cons rfl .nil) hsp) fun r s' hq => ?_)
  cases r with
  | error z => exact False.elim hq
  | ok fl =>
    cases fl with
    | next => exact False.elim hq
    | brk => exact False.elim hq
    | cont => exact False.elim hq
    | ret u =>
      obtain ⟨v, H2, os2, bare2, un, hok2, rv, ea, q⟩ := hq
      have at2 := exq_get hok2 ea
      have U : Un (frs (X.suite a ((a, oe) :: pn)).stack) [] H1 (delH H2 a) s1.heap s'.heap := {
        keep := fun b o z n hb hx => by
          by_cases hba : b = a
          · rw [hba] at z ⊢
            rw [pg] at z
            cases z
            exact at2
          · exact un.keep b o z (by rw [upd_ne hba]; exact n) hb hx
        slot := fun b o z n hb hx => by
          have hba : b ≠ a := fun y => nst (by rw [← y]; exact hb)
          exact un.slot b o z (by rw [upd_ne hba]; exact n) hb hx
        free := fun b o z n hx => by
          by_cases hba : b = a
          · rw [hba, delH_same]
          · rw [delH_ne hba]
            exact un.free b o z (by rw [upd_ne hba]; exact n) hx
        there := fun b o z hx => un.there b o z hx
        tups := fun b xs z => by
          have hba : b ≠ a := ne_of_none z pf
          rw [delH_ne hba]
          exact un.tups b xs (by rw [upd_ne hba]; exact z)
        frzs := fun b o y z => by
          have hba : b ≠ a := ne_of_none z pf
          rw [delH_ne hba]
          exact un.frzs b o y (by rw [upd_ne hba]; exact z)
        tbls := fun b qs z => by
          have hba : b ≠ a := ne_of_none z pf
          rw [delH_ne hba]
          exact un.tbls b qs (by rw [upd_ne hba]; exact z) }
      have hok3 : HOk X.prog X.w (delH H2 a) s'.heap := fun b o z => by
        have hba : b ≠ a := fun y => by
          rw [y, delH_same] at z
          cases z
        rw [delH_ne hba] at z
        refine (hok2 b o z).stay (fun _ _ _ y => y) (fun c y => ?_) fun c xs y => ?_
        · rw [delH_ne (fun w => by rw [w, ea] at y; exact exq_own (Option.some.inj y))]
          exact y
        · rw [delH_ne (fun w => by
            rw [w, ea] at y
            have y2 : HO.ext _ = HO.tup xs := Option.some.inj y
            cases y2)]
          exact y
      exact ⟨v, delH H2 a, I1.call' (ch := []) os2 U hok3 bare2 (fun b z => absurd z (by simp)), rv, q⟩
end
end XR
set_option Elab.async false
set_option linter.all false
set_option maxRecDepth 100000
set_option maxHeartbeats 4000000
namespace PySem
theorem meets_enum1 {v : Value} {o : Obj} {H : Heap → Prop} (B : Begins v o H) :
    Meets (Builtin.«enumerate.__new__» ⟨[.type "enumerate", v], []⟩) (fun _ R s => H s.heap ∧
      R (.ok (.ret (.ref (s.heap.push o).objs.size)))
        { s with heap := (s.heap.push o).push { cls := .type "enumerate", data := .fields #[.none, .bool false, .ref s.heap.objs.size, rawInt 0, .none, .none] } }) :=
  .of_wp fun prog w A R s h => by
    obtain ⟨hp, g, d, tk, os⟩ := s
    obtain ⟨h1, h⟩ := h
    have sb := sub_enumerate
    have q1 : ∀ {A' : Around} {E : Value → Shared → Prop} {Q : Value → Shared → Prop}, Q (.ref hp.objs.size) ⟨hp.push o, g, d, tk, os⟩ → wpAny (model prog w) A' (pyIter v) Q E ⟨hp, g, d, tk, os⟩ :=
      fun q => B.iter prog w _ _ ⟨hp, g, d, tk, os⟩ _ h1 q
    wp_walk using q1
    refine wpAny_stack_any fun st => wpAny_pure ?_
    split
    · rename_i c _ _ _ _ _
      cases (c == Value.type "enumerate") <;> (wp_walk using q1) <;> exact ⟨_, rfl, h⟩
    · wp_walk using q1
      exact ⟨_, rfl, h⟩
section
variable {prog : Program} {w : World} {A : Around} {E : Value → Shared → Prop} {s : Shared}
/-- enumerate(v): its two new cells -/
theorem enum_begins1 {v : Value} {o : Obj} {H : Heap → Prop} {Q : Value → Shared → Prop} (B : Begins v o H) (h1 : H s.heap)
    (h : ∀ h', IsEnum h' (s.heap.objs.size + 1) s.heap.objs.size 0 .none → h'.get? s.heap.objs.size = some o → h'.objs.size = s.heap.objs.size + 2 →
      (∀ b o, s.heap.get? b = some o → h'.get? b = some o) → Q (.ref (s.heap.objs.size + 1)) { s with heap := h' }) :
    wpAny (model prog w) A (call (.type "enumerate") [v]) Q E s := by
  refine callType_new F.called_enumerate (by decide) (F.typeCall_enumerate_1 _) (F.newCall_enumerate_1 _) (fun obj => F.args_object_init_2 obj _) F.entry_enumerate_new
    (meets_enum1 B) ⟨h1, ?_⟩
  have hz : (s.heap.push o).objs.size = s.heap.objs.size + 1 := Heap.size_push ..
  show _ ∧ _
  rw [hz]
  have he : IsEnum ((s.heap.push o).push { cls := .type "enumerate", data := .fields #[.none, .bool false, .ref s.heap.objs.size, rawInt 0, .none, .none] }) (s.heap.objs.size + 1) s.heap.objs.size 0 .none := by
    have z := Heap.get?_push_size (s.heap.push o) (o := { cls := .type "enumerate", data := .fields #[.none, .bool false, .ref s.heap.objs.size, rawInt 0, .none, .none] }) rfl
    rw [hz] at z
    exact z
  refine ⟨⟨_, he, rfl⟩, h _ he (Heap.get?_push_of_some _ (Heap.get?_push_size _ B.free)) ?_ fun b o x => Heap.get?_push_of_some _ (Heap.get?_push_of_some _ x)⟩
  rw [Heap.size_push, hz]
end
end PySem
namespace XR
open PySem PySem.Spec PyProof.Rows L2
/-- a tuple's items with their places -/
def IteT (K : PySem.W.Frag) (a : Addr) : It :=
  ⟨fun i H => ∃ (xs : List V) (x : V), SqT K H a xs ∧ xs[i]? = some x,
   fun i H v H' => ∃ T x, v = .ref T ∧ H T = none ∧ H' = upd H T (.tup [.int (i : Nat), x]) ∧ ∀ xs, SqT K H a xs → xs[i]? = some x,
   fun i H => ∃ xs : List V, SqT K H a xs ∧ xs.length = i⟩
theorem turn_enumT {P : Program} {w : World} {K : PySem.W.Frag} {elts : List Expr} {kk : Nat} {tpos : Pos} (a e it : Addr) :
    Turn P w K (.Tuple elts kk tpos) (IteT K a) [e, it] e (fun i h => (∃ old, IsEnum h e it ((i : Nat) : Int) old) ∧ h.IsTupleIter it a i ∧ e ≠ it) where
  mem := by simp
  obj := fun i h st b hb => by
    obtain ⟨⟨old, he⟩, ⟨o, ho, hc, hd⟩, _⟩ := st
    have e' : b = e ∨ b = it := by simpa using hb
    rcases e' with z | z
    · rw [z]
      exact ⟨_, he, fun v q => nomatch q⟩
    · rw [z]
      exact ⟨o, ho, fun v q => by rw [hd] at q; cases q⟩
  keep := fun i h h' st k => by
    obtain ⟨⟨old, he⟩, hi, hne⟩ := st
    exact ⟨⟨old, k e (by simp) _ he⟩, hi.at fun o q => k it (by simp) o q, hne⟩
  item := by
    intro X hP hw hK hc i pins s σ H E I hf st hg
    subst hP hw hK
    obtain ⟨⟨old, he⟩, hit, hne⟩ := st
    obtain ⟨xs, x, hq, hx⟩ := hg
    obtain ⟨its, rv, p, hz⟩ := I.tuple hq
    obtain ⟨u, hu, ru⟩ := rv.get hx
    have p2 : s.heap.IsTuple a its.toArray := p
    have hel : e < s.heap.objs.size := Heap.lt_size he
    have hil : it < s.heap.objs.size := by
      obtain ⟨_, q, _⟩ := hit
      exact Heap.lt_size q
    have nai : a ≠ it := fun z => by
      obtain ⟨o1, e1, c1, _⟩ := hit
      obtain ⟨o2, e2, c2, _⟩ := p2
      rw [z, e1] at e2
      cases e2
      rw [c1] at c2
      exact absurd c2 (by decide)
    have nea : e ∉ [it, a] := fun z => by
      have z' : e = it ∨ e = a := by simpa using z
      rcases z' with z' | z'
      · exact hne z'
      · obtain ⟨o2, e2, c2, _⟩ := p2
        have he2 : s.heap.get? e = some _ := he
        rw [z', e2] at he2
        cases he2
        have c3 : Value.type "enumerate" = Value.type "tuple" := c2
        exact absurd c3 (by decide)
    have lt : i < its.toArray.size := by
      have q := (List.getElem?_eq_some_iff.mp hu).1
      simpa using q
    refine wpAny_pyNext_enum_itemD (Draws.tuple (A := X.A.in1) (I.ok.hd hc) it a nai its.toArray) he ⟨hit, p2⟩ lt hne nea fun y h' tk hy ho hst' hT hsz hk => ?_
    have ey : y = u := by
      have hy2 : its.toArray[i]? = some y := hy
      have hu2 : its.toArray[i]? = some u := by simpa using hu
      rw [hu2] at hy2
      exact (Option.some.inj hy2).symm
    subst ey
    refine ⟨_, rfl, wpAny_letOwnedTupleGo_enum (s := { s with heap := h', toks := tk + 1 }) ho fun h'' he' sb => ?_⟩
    have hT2 : h''.get? s.heap.objs.size = some { cls := .type "tuple", data := .seq #[.int i tk, y] } := (sb.2 _ (Nat.ne_of_gt hel)).trans hT
    have new : ObjOk X.prog X.w (upd H s.heap.objs.size (.tup [.int (i : Nat), x])) h'' s.heap.objs.size (.tup [.int (i : Nat), x]) :=
      ⟨by show 2 ≤ sizeLine; decide, [.int i tk, y], .cons ⟨_, rfl⟩ (.cons ru .nil), ⟨_, hT2, rfl, _, rfl⟩⟩
    have I1 : Inv X pins σ (upd H s.heap.objs.size (.tup [.int (i : Nat), x])) { s with heap := h'', toks := tk + 1 } :=
      I.turnedNew (ch := [e, it]) (fun b ob hb q => (sb.2 b (fun z => hb (by simp [z]))).trans (hk b ob (fun z => hb (by simp [z])) (fun z => hb (by simp [z])) q)) hf (Nat.le_refl _) new
    refine ⟨.ref s.heap.objs.size, _, I1, rfl, ⟨_, x, rfl, I.hok.fresh (Nat.le_refl _), rfl, fun ys hy => by rw [I.tuple_inj hy hq]; exact hx⟩, ⟨⟨y, ?_⟩, hst'.1.at fun o q => (sb.2 it (Ne.symm hne)).trans q, hne⟩, fun b hb => ?_⟩
    · have e1 : ((i + 1 : Nat) : Int) = (i : Int) + 1 := by omega
      rw [e1]
      exact he'
    · have hb' : b < s.heap.objs.size := by
        have e' : b = e ∨ b = it := by simpa using hb
        rcases e' with z | z
        · rw [z]
          exact hel
        · rw [z]
          exact hil
      rw [upd_ne (Nat.ne_of_lt hb')]
      exact (hf b hb).1
  done := by
    intro X hP hw hK hc i pins s σ H E I hf st hg
    subst hP hw hK
    obtain ⟨⟨old, he⟩, hit, hne⟩ := st
    obtain ⟨xs, hq, hx⟩ := hg
    obtain ⟨its, rv, p, hz⟩ := I.tuple hq
    have p2 : s.heap.IsTuple a its.toArray := p
    obtain ⟨f0, f1, f2, f3, f4, f5⟩ := hf it (by simp)
    have hl := rv.length
    have nai : a ≠ it := fun z => by
      obtain ⟨o1, e1, c1, _⟩ := hit
      obtain ⟨o2, e2, c2, _⟩ := p2
      rw [z, e1] at e2
      cases e2
      rw [c1] at c2
      exact absurd c2 (by decide)
    have sz : its.toArray.size = i := by
      rw [← hx, hl]
      simp
    refine wpAny_pyNext_enum_endD (Draws.tuple (A := X.A.in1) (I.ok.hd hc) it a nai its.toArray) he ⟨?_, p2⟩ fun h' eb => ⟨rfl, I.turned (t' := s.toks) (fun b o hb q => eb b o hb q) f0 f1 f3 f4 f5⟩
    rw [sz]
    exact hit
  self := fun A i s Q E st h => by
    obtain ⟨⟨_, he⟩, _⟩ := st
    exact wpAny_pyIter_enum he h
/-- enumerate(x), x a list or a tuple -/
def iEnumX (K : PySem.W.Frag) (ta : TA) : TI := fun σ H R => ta σ H fun vs H1 => ∃ a xs, vs = [.ref a] ∧ ((SqL K H1 a xs ∧ R (Ite K a) H1) ∨ (SqT K H1 a xs ∧ R (IteT K a) H1))
theorem pi_enumX {X : Cx} {e : Expr} {ta : TA} {p pos tpos : Pos} {elts : List Expr} {kk : Nat} (hg : Gl X "enumerate") (hm : X.mg "enumerate" = none) (ha : PA X [e] ta) (hs : starEach [e] X.env = [(false, eval e X.env)] := by rfl) :
    PI X (.Tuple elts kk tpos) (.Call (.Name "enumerate" p) [e] [] pos) (iEnumX X.K ta) := by
  refine ⟨fun pins s σ H R I h => ?_⟩
  refine Call_ (ld_blt I hg hm boot_enumerate (PyProof.Rows.callWith_type1 (thn (ha.run pos pins s σ H _ I h) fun us s1 ⟨vs, H1, I1, r1, a, xs, ex, hq⟩ => ?_) hs rfl))
  subst ex
  cases r1 with
  | cons r rr =>
    cases rr
    cases r
    have fin : ∀ b ∈ [s1.heap.objs.size + 1, s1.heap.objs.size], s1.heap.objs.size ≤ b := fun b hb => by
      have e' : b = s1.heap.objs.size + 1 ∨ b = s1.heap.objs.size := by simpa using hb
      rcases e' with z | z
      · rw [z]
        exact Nat.le_add_right _ _
      · rw [z]
        exact Nat.le_refl _
    rcases hq with ⟨hq, q⟩ | ⟨hq, q⟩
    · obtain ⟨its, rv, p', hz⟩ := I1.list hq
      refine enum_begins1 (begins_list a its.toArray) p'.isList fun h' he hit hsz hk => wpAny_pyIter_enum he ?_
      have I2 : Inv X pins σ H1 { s1 with heap := h' } := I1.kept (t' := s1.toks) hk
      exact ⟨s1.heap.objs.size + 1, [s1.heap.objs.size + 1, s1.heap.objs.size], _, _, H1, rfl, I2, turn_enum a (s1.heap.objs.size + 1) s1.heap.objs.size,
        ⟨⟨.none, he⟩, ⟨_, hit, rfl, rfl⟩, Nat.succ_ne_self _⟩, fun b hb => I1.fpOk (fin b hb) (I1.hok.fresh (fin b hb)), q⟩
    · obtain ⟨its, rv, p', hz⟩ := I1.tuple hq
      have p2 : s1.heap.IsTuple a its.toArray := p'
      refine enum_begins1 (begins_tuple a its.toArray) p2 fun h' he hit hsz hk => wpAny_pyIter_enum he ?_
      have I2 : Inv X pins σ H1 { s1 with heap := h' } := I1.kept (t' := s1.toks) hk
      exact ⟨s1.heap.objs.size + 1, [s1.heap.objs.size + 1, s1.heap.objs.size], _, _, H1, rfl, I2, turn_enumT a (s1.heap.objs.size + 1) s1.heap.objs.size,
        ⟨⟨.none, he⟩, ⟨_, hit, rfl, rfl⟩, Nat.succ_ne_self _⟩, fun b hb => I1.fpOk (fin b hb) (I1.hok.fresh (fin b hb)), q⟩
theorem walk_enumT {K : PySem.W.Frag} {a : Addr} {xs : List V} : Walk (IteT K a) xs.length (fun H => SqT K H a xs) (YPair (fun i => some (.int (i : Nat))) (fun i => xs[i]?)) :=
  ⟨fun i H hi h => ⟨xs, xs[i], h, by simp [hi]⟩, fun H h => ⟨xs, h, rfl⟩, fun i H x H' hi h ⟨T, y, e1, e2, e3, e4⟩ => ⟨T, _, y, e1, e2, e3, rfl, e4 xs h⟩⟩
end XR
set_option Elab.async false
set_option linter.all false
set_option maxRecDepth 100000
set_option maxHeartbeats 0
namespace DL
end DL
namespace T54
open PySem PySem.Spec PyProof.Rows L2 XR DL
open PySem.XK (ExF)
open PySem.W (excInitIn excOver findIn hasDictIn typeIn keepIn subIn mroIn specialIn takesIn kitOne exmOne)
def top (i : Nat) : Stmt := PySem.Challenge.pw_twicestep_k54_verdicts_of_named_rules.main.body.getD i (.Pass ⟨0, 0, 0, 0⟩)
abbrev sDeck : Stmt := top 24
abbrev sDraw : Stmt := top 25
abbrev s__law_pick : Stmt := top 26
abbrev s_are_whole : Stmt := top 6
abbrev s_is_fraction_pair : Stmt := top 8
abbrev s_is_parameter : Stmt := top 12
abbrev s_check_parameters : Stmt := top 13
abbrev s_check_divisor : Stmt := top 14
abbrev s_is_whole_sum : Stmt := top 22
abbrev s_steady_verdict : Stmt := top 15
abbrev s_hermite_verdict : Stmt := top 16
abbrev s_bessel_verdict : Stmt := top 17
abbrev s_laguerre_verdict : Stmt := top 19
abbrev s_gegenbauer_verdict : Stmt := top 18
abbrev s_charlier_verdict : Stmt := top 20
abbrev s_meixner_verdict : Stmt := top 21
abbrev s__law_common : Stmt := top 27
abbrev s__law_pair : Stmt := top 28
abbrev s__law_is_whole : Stmt := top 29
abbrev s__law_named_verdict : Stmt := top 30
abbrev s__law_parameter : Stmt := top 31
abbrev s__law_near : Stmt := top 32
abbrev s_law : Stmt := top 33
/-! ### the head: facts by names -/
def hA (K : PySem.W.Frag) (x : Str) : Addr := He.ga K x
def hI (K : PySem.W.Frag) (x : Str) : Addr := He.ma K (He.ga K x) "__init__"
/-- one class of errors, but for its __init__ -/
def hexB (K : PySem.W.Frag) (C fI : Addr) : Bool :=
  (excInitIn K C PySem.XK.bmE "Exception.__new__" && (excOver K C PySem.XK.bmE && (He.eqO (findIn K (.ref C) "__setattr__") (some (some (.builtin "object.__setattr__"))) &&
    (He.eqO (findIn K (.ref C) "__getattribute__") (some (some (.builtin "BaseException.__getattribute__"))) && (He.eqO (findIn K (.ref C) "__getattr__") (some none) &&
    (He.eqO (findIn K (.ref C) "thing") (some none) && (hasDictIn K C && (He.eqO (findIn K (.ref C) "__init__") (some (some (.ref fI))) && decide (typeIn K (.ref fI) = some (.type "function")))))))))) &&
  (keepIn K (.ref C) && (decide (subIn K (.ref C) (.type "BaseException") = some true) && (decide (typeIn K (.ref C) = some (.type "type")) && (He.eqO (findIn K (.ref C) "__class__") (some (some (.builtin "object.__class__"))) &&
    (decide (mroIn K C (.type "object") = some true) && (He.eqO (specialIn K (.builtin "object.__class__") "__get__") (some (some (.builtin "getset_descriptor.__get__"))) && decide (takesIn K (.builtin "object.__class__") = some true)))))))
def errN : List Str := (["BadParameter"] : List Str)
def rowB (K : PySem.W.Frag) (x : Str) : Bool := hexB K (hA K x) (hI K x) && (decide (kitOne K (.ref (hA K x)) (.ref (hA K "StepError")) = some true) &&
  (errN.all fun y => decide (kitOne K (.ref (hA K x)) (.ref (hA K y)) = some (decide (x = y))) && decide (exmOne K (.ref (hA K x)) (.ref (hA K y)) = some (decide (x = y)))))
def exB (K : PySem.W.Frag) : Bool := ((errN.all fun x => rowB K x) && He.eqO (PySem.W.nsIn K mainGlobals "gcd") (some (some (.builtin "math.gcd"))))
abbrev s_is_whole : Stmt := top 5
abbrev ini_BadParameter : Stmt := inClass (top 3) 0
def dI (x q : Str) (st : Stmt) : He.DefD := ⟨(x, some "__init__"), "__init__", q, defArgs st, defBody st, defScope st, [], []⟩
def dD (g x : Str) (st : Stmt) : He.DefD := ⟨(g, none), x, x, defArgs st, defBody st, defScope st, [], []⟩
def fn : List He.DefD := ([dI "BadParameter" "BadParameter.__init__" ini_BadParameter, dD "is_whole" "is_whole" s_is_whole, dD "are_whole" "are_whole" s_are_whole, dD "is_fraction_pair" "is_fraction_pair" s_is_fraction_pair, dD "is_parameter" "is_parameter" s_is_parameter, dD "check_parameters" "check_parameters" s_check_parameters, dD "check_divisor" "check_divisor" s_check_divisor, dD "steady_verdict" "steady_verdict" s_steady_verdict, dD "hermite_verdict" "hermite_verdict" s_hermite_verdict, dD "bessel_verdict" "bessel_verdict" s_bessel_verdict, dD "gegenbauer_verdict" "gegenbauer_verdict" s_gegenbauer_verdict, dD "laguerre_verdict" "laguerre_verdict" s_laguerre_verdict, dD "charlier_verdict" "charlier_verdict" s_charlier_verdict, dD "meixner_verdict" "meixner_verdict" s_meixner_verdict, dD "is_whole_sum" "is_whole_sum" s_is_whole_sum, dD "_law_deck" "_law_deck" sDeck, dD "_law_draw" "_law_draw" sDraw, dD "_law_pick" "_law_pick" s__law_pick, dD "_law_common" "_law_common" s__law_common, dD "_law_pair" "_law_pair" s__law_pair, dD "_law_is_whole" "_law_is_whole" s__law_is_whole, dD "_law_named_verdict" "_law_named_verdict" s__law_named_verdict, dD "_law_parameter" "_law_parameter" s__law_parameter, dD "_law_near" "_law_near" s__law_near, dD "law" "law" s_law] : List He.DefD)
def looseN : List Str := (["StepError", "BadParameter", "is_whole", "are_whole", "is_fraction_pair", "is_parameter", "check_parameters", "check_divisor", "steady_verdict", "hermite_verdict", "bessel_verdict", "gegenbauer_verdict", "laguerre_verdict", "charlier_verdict", "meixner_verdict", "is_whole_sum", "_law_deck", "_law_draw", "_law_pick", "_law_common", "_law_pair", "_law_is_whole", "_law_named_verdict", "_law_parameter", "_law_near", "LARGEST_BOTTOM", "LARGEST_TOP"] : List Str)
def gloN : List Str := (["StepError", "BadParameter", "is_whole", "are_whole", "is_fraction_pair", "is_parameter", "check_parameters", "check_divisor", "steady_verdict", "hermite_verdict", "bessel_verdict", "gegenbauer_verdict", "laguerre_verdict", "charlier_verdict", "meixner_verdict", "is_whole_sum", "_law_deck", "_law_draw", "_law_pick", "_law_common", "_law_pair", "_law_is_whole", "_law_named_verdict", "_law_parameter", "_law_near", "law"] : List Str)
def freeN : List Str := (["Exception", "abs", "all", "bool", "int", "isinstance", "len", "list", "max", "range", "repr", "tuple"] : List Str)
def fa : List He.Fa := (gloN.map He.Fa.glo ++ freeN.map He.Fa.free) ++ [He.Fa.int "LARGEST_BOTTOM" 12, He.Fa.int "LARGEST_TOP" 40]
def tf : List He.Defn := [("are_whole", none)]
abbrev R : PySem.W.OpenRow := PySem.W.OpenLaw.row PySem.Challenge.rw_twicestep_k54_verdicts_of_named_rules
abbrev qv : Program := PySem.W.view R.prog [0, 33]
abbrev hk : PySem.W.Hook := He.hookX 5 fa fn [] tf exB
def ob (s : PySem.W.SharedT) : He.AlX := He.obsX 5 fa fn [] tf exB (HandSHeadRun.getT s)
theorem ob_eq (s : PySem.W.SharedT) : ob s = hk.obs s.abs := He.obsX_eq (HandSHeadRun.getT_eq s)
theorem run (w : World) : HandSHeadRun.RunEqI R qv hk ob 6000 looseN w := by
  unfold HandSHeadRun.RunEqI
  kernel_rfl
end T54
set_option Elab.async false
set_option linter.all false
set_option maxRecDepth 100000
set_option maxHeartbeats 2000000
/-! the law's deck: a dict with a list of ints and two ints -/
namespace DL
open PySem PySem.Spec PyProof.Rows L2 XR
def kL : Key := Sum.inr ("cells" : Str)
def kM : Key := Sum.inr ("mixed" : Str)
def kD : Key := Sum.inr ("draws" : Str)
def deckL (l : Addr) (m n : Int) : List (Key × V) := [(kL, .ref l), (kM, .int m), (kD, .int n)]
def DeckAt (H : Hp) (d l : Addr) : Prop := ∃ (m n : Int) (ns : List Int), H d = some (.dK (deckL l m n)) ∧ H l = some (.lst (ns.map V.int)) ∧ ns.length ≤ 63 ∧ 0 ≤ m ∧ m < 2147483648
/-- all but the deck is as it was -/
def Dk (d l : Addr) (H H' : Hp) : Prop := ∀ b o, H b = some o → b ≠ d → b ≠ l → H' b = some o
theorem Dk.refl (d l : Addr) (H : Hp) : Dk d l H H := fun _ _ h _ _ => h
theorem Dk.trans {d l : Addr} {H H1 H2 : Hp} (a : Dk d l H H1) (b : Dk d l H1 H2) : Dk d l H H2 := fun c o h h1 h2 => b c o (a c o h h1 h2) h1 h2
theorem Dk.of_same {d l : Addr} {H H' : Hp} (a : Same H H') : Dk d l H H' := fun c o h _ _ => a c o h
theorem same_new {H : Hp} {p : Addr} {o : HO} (h : H p = none) : Same H (upd H p o) := fun b u e => by
  rw [upd_ne (ne_of_none e h)]
  exact e
end DL
set_option Elab.async false
set_option linter.all false
set_option maxRecDepth 100000
set_option maxHeartbeats 4000000
/-! the data layer: what expressions do to data, the heap left out -/
namespace DL
open PySem PySem.Spec PyProof.Rows L2 XR
open PySem.XK (ExF)
inductive U where
  | non | bl (b : Bool) | int (i : Int) | str (x : Str) | tup (us : List U) | lst (us : List U) | raw (v : V)
abbrev Env := List (Option U)
/-- the deck and its list, where there is one; lists that are being made -/
structure Mo where
  deck : Option (Addr × Addr)
  ban : List Addr
  tabs : List Addr
def okD : Option (Addr × Addr) → Addr → Prop
  | none, _ => True
  | some p, a => a ≠ p.1 ∧ a ≠ p.2
def invD : Option (Addr × Addr) → Hp → Prop
  | none, _ => True
  | some p, H => DeckAt H p.1 p.2
def okS (m : Mo) (a : Addr) : Prop := okD m.deck a ∧ a ∉ m.tabs
def okA (m : Mo) (a : Addr) : Prop := okS m a ∧ a ∉ m.ban
/-- the deck stands, the lists in the making, the tables of code objects (they grow) -/
def invM (m : Mo) (H : Hp) : Prop := invD m.deck H ∧ (∀ b ∈ m.ban, H b ≠ none) ∧ ∀ b ∈ m.tabs, GxR.TabG H b
def stpM (m : Mo) (H H' : Hp) : Prop := ∀ b o, H b = some o → okS m b → H' b = some o
/-- a tuple that is tracked, or one of the module's -/
def TupR (K : PySem.W.Frag) (m : Mo) (H : Hp) (a : Addr) (vs : List V) : Prop := (okA m a ∧ Rd H a (.tup vs)) ∨
  ∃ (o : Obj) (its : Array Value) (n : Nat), K.lookup a = some o ∧ o.cls = .type "tuple" ∧ o.data = .seq its n ∧ its.size ≤ sizeLine ∧ Vals vs its.toList
mutual
inductive Rel (K : PySem.W.Frag) (m : Mo) (H : Hp) : V → U → Prop
  | non : Rel K m H .non .non
  | bl (b : Bool) : Rel K m H (.bl b) (.bl b)
  | int (i : Int) : Rel K m H (.int i) (.int i)
  | str (x : Str) : Rel K m H (.str x) (.str x)
  | tup {a : Addr} {vs : List V} {us : List U} : TupR K m H a vs → RelL K m H vs us → Rel K m H (.ref a) (.tup us)
  | lst {a : Addr} {vs : List V} {us : List U} : okA m a → H a = some (.lst vs) → RelL K m H vs us → Rel K m H (.ref a) (.lst us)
  | raw (v : V) : Rel K m H v (.raw v)
inductive RelL (K : PySem.W.Frag) (m : Mo) (H : Hp) : List V → List U → Prop
  | nil : RelL K m H [] []
  | cons {v : V} {u : U} {vs : List V} {us : List U} : Rel K m H v u → RelL K m H vs us → RelL K m H (v :: vs) (u :: us)
end
section
variable {K : PySem.W.Frag} {m : Mo} {H H' H1 H2 : Hp}
theorem stp_refl : stpM m H H := fun _ _ h _ => h
theorem stp_trans (a : stpM m H H1) (b : stpM m H1 H2) : stpM m H H2 := fun c o h k => b c o (a c o h k) k
theorem stp_same (a : Same H H') : stpM m H H' := fun c o h _ => a c o h
theorem stp_new {p : Addr} {o : HO} (h : H p = none) : stpM m H (upd H p o) := stp_same (same_new h)
theorem invD_new {dk : Option (Addr × Addr)} {p : Addr} {o : HO} (i1 : invD dk H) (h : okD dk p) : invD dk (upd H p o) := by
  cases dk with
  | none => trivial
  | some d =>
    obtain ⟨a, b, ns, h1, h2, z⟩ := i1
    exact ⟨a, b, ns, by rw [upd_ne (Ne.symm h.1)]; exact h1, by rw [upd_ne (Ne.symm h.2)]; exact h2, z⟩
theorem okD_new {dk : Option (Addr × Addr)} {p : Addr} (i1 : invD dk H) (h : H p = none) : okD dk p := by
  cases dk with
  | none => trivial
  | some d =>
    obtain ⟨a, b, ns, h1, h2, z⟩ := i1
    exact ⟨(ne_of_none h1 h).symm, (ne_of_none h2 h).symm⟩
theorem tab_ne {p b : Addr} (t : GxR.TabG H b) (h : H p = none) : b ≠ p := by
  obtain ⟨ps, e, _⟩ := t
  exact ne_of_none e h
theorem tab_upd {p b : Addr} {o : HO} (t : GxR.TabG H b) (h : b ≠ p) : GxR.TabG (upd H p o) b := by
  obtain ⟨ps, e, z⟩ := t
  exact ⟨ps, by rw [upd_ne h]; exact e, z⟩
theorem ok_new {p : Addr} (i : invM m H) (h : H p = none) : okA m p := ⟨⟨okD_new i.1 h, fun z => tab_ne (i.2.2 p z) h rfl⟩, fun hb => i.2.1 p hb h⟩
/-- a write at a place that is neither the deck's nor a table -/
theorem inv_upd {p : Addr} {o : HO} (i : invM m H) (k : okS m p) : invM m (upd H p o) := by
  refine ⟨invD_new i.1 k.1, fun b hb => ?_, fun b hb => tab_upd (i.2.2 b hb) fun z => k.2 (z ▸ hb)⟩
  by_cases e : b = p
  · subst e
    rw [upd_same]
    exact fun z => nomatch z
  · rw [upd_ne e]
    exact i.2.1 b hb
theorem inv_new {p : Addr} {o : HO} (i : invM m H) (h : H p = none) : invM m (upd H p o) := inv_upd i (ok_new i h).1
theorem TupR.sq {a : Addr} {vs : List V} (t : TupR K m H a vs) : SqT K H a vs := by
  rcases t with ⟨_, h⟩ | h
  · exact .inl h
  · exact .inr h
theorem TupR.step {a : Addr} {xs : List V} (s : stpM m H H') (t : TupR K m H a xs) : TupR K m H' a xs := by
  rcases t with ⟨k, h | ⟨o, h⟩⟩ | h
  · exact .inl ⟨k, .inl (s _ _ h k.1)⟩
  · exact .inl ⟨k, .inr ⟨o, s _ _ h k.1⟩⟩
  · exact .inr h
mutual
theorem Rel.step (s : stpM m H H') : ∀ {v : V} {u : U}, Rel K m H v u → Rel K m H' v u
  | _, _, .non => .non
  | _, _, .bl b => .bl b
  | _, _, .int i => .int i
  | _, _, .str x => .str x
  | _, _, .tup h r => .tup (TupR.step s h) (RelL.step s r)
  | _, _, .lst k h r => .lst k (s _ _ h k.1) (RelL.step s r)
  | _, _, .raw v => .raw v
theorem RelL.step (s : stpM m H H') : ∀ {vs : List V} {us : List U}, RelL K m H vs us → RelL K m H' vs us
  | _, _, .nil => .nil
  | _, _, .cons h r => .cons (Rel.step s h) (RelL.step s r)
end
theorem RelL.len : ∀ {vs : List V} {us : List U}, RelL K m H vs us → vs.length = us.length
  | _, _, .nil => rfl
  | _, _, .cons _ r => congrArg (· + 1) (RelL.len r)
theorem RelL.get : ∀ {vs : List V} {us : List U} {i : Nat} {u : U}, RelL K m H vs us → us[i]? = some u → ∃ v, vs[i]? = some v ∧ Rel K m H v u
  | _, _, i, _, .nil, e => by simp at e
  | _, _, 0, _, .cons h _, e => by
    simp at e
    exact ⟨_, rfl, e ▸ h⟩
  | _, _, i + 1, u, .cons _ r, e => by
    obtain ⟨v, h1, h2⟩ := RelL.get (i := i) (u := u) r (by simpa using e)
    exact ⟨v, by simpa using h1, h2⟩
theorem RelL.getV : ∀ {vs : List V} {us : List U} {i : Nat} {v : V}, RelL K m H vs us → vs[i]? = some v → ∃ u, us[i]? = some u ∧ Rel K m H v u
  | _, _, i, _, .nil, e => by simp at e
  | _, _, 0, _, .cons h _, e => by
    simp at e
    exact ⟨_, rfl, e ▸ h⟩
  | _, _, i + 1, v, .cons _ r, e => by
    obtain ⟨u, h1, h2⟩ := RelL.getV (i := i) (v := v) r (by simpa using e)
    exact ⟨u, by simpa using h1, h2⟩
theorem RelL.append : ∀ {vs ws : List V} {us ts : List U}, RelL K m H vs us → RelL K m H ws ts → RelL K m H (vs ++ ws) (us ++ ts)
  | _, _, _, _, .nil, s => s
  | _, _, _, _, .cons h r, s => .cons h (RelL.append r s)
theorem RelL.take : ∀ {vs : List V} {us : List U} (n : Nat), RelL K m H vs us → RelL K m H (vs.take n) (us.take n)
  | _, _, 0, _ => .nil
  | _, _, _ + 1, .nil => .nil
  | _, _, n + 1, .cons h r => .cons h (RelL.take n r)
theorem RelL.drop : ∀ {vs : List V} {us : List U} (n : Nat), RelL K m H vs us → RelL K m H (vs.drop n) (us.drop n)
  | _, _, 0, r => r
  | _, _, _ + 1, .nil => .nil
  | _, _, n + 1, .cons _ r => RelL.drop n r
theorem RelL.rev : ∀ {vs : List V} {us : List U}, RelL K m H vs us → RelL K m H vs.reverse us.reverse
  | _, _, .nil => .nil
  | _, _, .cons h r => by
    rw [List.reverse_cons, List.reverse_cons]
    exact RelL.append (RelL.rev r) (.cons h .nil)
theorem RelL.ints {m : Mo} {H : Hp} : ∀ ns : List Int, RelL K m H (ns.map V.int) (ns.map U.int)
  | [] => .nil
  | n :: r => .cons (.int n) (RelL.ints r)
/-- the slots -/
def RelS (K : PySem.W.Frag) (m : Mo) (H : Hp) (σ : L2.St) (ρ : Env) : Prop := σ.length = ρ.length ∧ ∀ (i : Nat) (u : U), ρ[i]? = some (some u) → ∃ v, σ[i]? = some (some v) ∧ Rel K m H v u
theorem RelS.step {σ : L2.St} {ρ : Env} (s : stpM m H H') (r : RelS K m H σ ρ) : RelS K m H' σ ρ := ⟨r.1, fun i u e => by
  obtain ⟨v, h1, h2⟩ := r.2 i u e
  exact ⟨v, h1, Rel.step s h2⟩⟩
theorem RelS.set {σ : L2.St} {ρ : Env} {v : V} {u : U} (r : RelS K m H σ ρ) (i : Nat) (h : Rel K m H v u) : RelS K m H (σ.set i (some v)) (ρ.set i (some u)) := ⟨by rw [List.length_set, List.length_set]; exact r.1, fun j w e => by
  by_cases q : i = j
  · subst q
    by_cases l : i < ρ.length
    · rw [List.getElem?_set_self l] at e
      have l2 : i < σ.length := by rw [r.1]; exact l
      have e2 : u = w := Option.some.inj (Option.some.inj e)
      exact ⟨v, List.getElem?_set_self l2, e2 ▸ h⟩
    · have z : (ρ.set i (some u)).length ≤ i := by rw [List.length_set]; omega
      rw [List.getElem?_eq_none_iff.mpr z] at e
      cases e
  · rw [List.getElem?_set_ne q] at e ⊢
    exact r.2 j w e⟩
end
/-! ### judgements -/
/-- a wish about exceptions: the class, the thing -/
abbrev XQ := Addr → U → Prop
abbrev WE := Mo → Env → (U → Prop) → XQ → Prop
abbrev WT := Mo → Env → (Bool → Prop) → XQ → Prop
abbrev WA := Mo → Env → (List U → Prop) → XQ → Prop
def xdO (v : V) : HO := .xd [(("thing" : Str), v)]
def Cont (K : PySem.W.Frag) (m : Mo) (H : Hp) (Q : U → Prop) (Q' : VK) : Prop := ∀ (u : U) (v : V) (H' : Hp), Q u → stpM m H H' → invM m H' → Rel K m H' v u → Q' v H'
def ContT (m : Mo) (H : Hp) (Q : Bool → Prop) (Q' : Bool → Hp → Prop) : Prop := ∀ (b : Bool) (H' : Hp), Q b → stpM m H H' → invM m H' → Q' b H'
def ContA (K : PySem.W.Frag) (m : Mo) (H : Hp) (Q : List U → Prop) (Q' : List V → Hp → Prop) : Prop := ∀ (us : List U) (vs : List V) (H' : Hp), Q us → stpM m H H' → invM m H' → RelL K m H' vs us → Q' vs H'
/-- an exception's way: C its class, d its own dict -/
def ContE (K : PySem.W.Frag) (m : Mo) (H : Hp) (X : XQ) (E : XK) : Prop := ∀ (C : Addr) (u : U) (v : V) (d : Addr) (H' : Hp), X C u → stpM m H H' → invM m H' → Rel K m H' v u → okA m d → H' d = some (xdO v) → E (.ref C) (some d) H'
/-- what an expression stands in -/
structure GE (K : PySem.W.Frag) (m : Mo) (W : WX) (σ : L2.St) (H : Hp) (ρ : Env) (X : XQ) : Prop where
  iv : invM m H
  rs : RelS K m H σ ρ
  cx : ContE K m H X fun c d H' => W c d σ H'
def tE (K : PySem.W.Frag) (W : WX) (w : WE) : TE := fun σ H Q' => ∃ m ρ Q X, GE K m W σ H ρ X ∧ w m ρ Q X ∧ Cont K m H Q Q'
def tT (K : PySem.W.Frag) (W : WX) (w : WT) : TT := fun σ H Q' => ∃ m ρ Q X, GE K m W σ H ρ X ∧ w m ρ Q X ∧ ContT m H Q Q'
def tA (K : PySem.W.Frag) (W : WX) (w : WA) : TA := fun σ H Q' => ∃ m ρ Q X, GE K m W σ H ρ X ∧ w m ρ Q X ∧ ContA K m H Q Q'
abbrev DE (X : Cx) (W : WX) (e : Expr) (w : WE) : Prop := PE X e (tE X.K W w)
abbrev DT (X : Cx) (W : WX) (e : Expr) (w : WT) : Prop := PT X e (tT X.K W w)
abbrev DW (X : Cx) (W : WX) (e : Expr) (w : WT) : Prop := PW X e (tT X.K W w)
abbrev DA (X : Cx) (W : WX) (es : List Expr) (w : WA) : Prop := PA X es (tA X.K W w)
structure DEnds where
  nx : Env → Prop
  rt : U → Prop
  ex : Env → XQ
  bk : Env → Prop := fun _ => False
  ct : Env → Prop := fun _ => False
abbrev WS := Mo → DEnds → Env → Prop
structure ContS (K : PySem.W.Frag) (m : Mo) (W : WX) (H : Hp) (DD : DEnds) (D : Ends) : Prop where
  nx : ∀ ρ σ H', DD.nx ρ → stpM m H H' → invM m H' → RelS K m H' σ ρ → D.nx σ H'
  rt : Cont K m H DD.rt D.rt
  ex : ∀ ρ σ H', stpM m H H' → RelS K m H' σ ρ → ContE K m H' (DD.ex ρ) fun c d H2 => W c d σ H2
  bk : ∀ ρ σ H', DD.bk ρ → stpM m H H' → invM m H' → RelS K m H' σ ρ → D.bk σ H'
  ct : ∀ ρ σ H', DD.ct ρ → stpM m H H' → invM m H' → RelS K m H' σ ρ → D.ct σ H'
def tS (K : PySem.W.Frag) (W : WX) (w : WS) : TS := fun D σ H => ∃ m ρ DD, invM m H ∧ RelS K m H σ ρ ∧ w m DD ρ ∧ ContS K m W H DD D
abbrev DS (X : Cx) (W : WX) (st : Stmt) (w : WS) : Prop := PS X st (tS X.K W w)
abbrev DSs (X : Cx) (W : WX) (st : List Stmt) (w : WS) : Prop := PSs X st (tS X.K W w)
abbrev WG := U → Env → (Env → Prop) → Prop
abbrev WGs := List U → Env → (Env → Prop) → Prop
def tG (K : PySem.W.Frag) (w : WG) : TG := fun v σ H Q' => ∃ m u ρ Q, invM m H ∧ RelS K m H σ ρ ∧ Rel K m H v u ∧ w u ρ Q ∧ ∀ ρ' σ' H', Q ρ' → stpM m H H' → invM m H' → RelS K m H' σ' ρ' → Q' σ' H'
def tGs (K : PySem.W.Frag) (w : WGs) : TGs := fun vs σ H Q' => ∃ m us ρ Q, invM m H ∧ RelS K m H σ ρ ∧ RelL K m H vs us ∧ w us ρ Q ∧ ∀ ρ' σ' H', Q ρ' → stpM m H H' → invM m H' → RelS K m H' σ' ρ' → Q' σ' H'
abbrev DG (X : Cx) (e : Expr) (w : WG) : Prop := PG X e (tG X.K w)
abbrev DGs (X : Cx) (es : List Expr) (w : WGs) : Prop := PGs X es (tGs X.K w)
section
variable {K : PySem.W.Frag} {m : Mo} {H H' : Hp} {X : Cx} {W : WX}
theorem PE.weak {e : Expr} {t t' : TE} (h : PE X e t) (k : ∀ σ H Q, t' σ H Q → t σ H Q) : PE X e t' := ⟨fun pins s σ H Q I q => h.run pins s σ H Q I (k _ _ _ q)⟩
theorem PT.weak {e : Expr} {t t' : TT} (h : PT X e t) (k : ∀ σ H Q, t' σ H Q → t σ H Q) : PT X e t' := ⟨fun pins s σ H Q I q => h.run pins s σ H Q I (k _ _ _ q)⟩
theorem PW.weak {e : Expr} {t t' : TT} (h : PW X e t) (k : ∀ σ H Q, t' σ H Q → t σ H Q) : PW X e t' := ⟨fun wh pins s σ H Q I q => h.run wh pins s σ H Q I (k _ _ _ q)⟩
theorem PA.weak {e : List Expr} {t t' : TA} (h : PA X e t) (k : ∀ σ H Q, t' σ H Q → t σ H Q) : PA X e t' := ⟨fun pos pins s σ H Q I q => h.run pos pins s σ H Q I (k _ _ _ q)⟩
theorem PS.weak {e : Stmt} {t t' : TS} (h : PS X e t) (k : ∀ D σ H, t' D σ H → t D σ H) : PS X e t' := ⟨fun pins s σ H D I q => h.run pins s σ H D I (k _ _ _ q)⟩
theorem PSs.weak {e : List Stmt} {t t' : TS} (h : PSs X e t) (k : ∀ D σ H, t' D σ H → t D σ H) : PSs X e t' := ⟨fun pins s σ H D I q => h.run pins s σ H D I (k _ _ _ q)⟩
theorem PG.weak {e : Expr} {t t' : TG} (h : PG X e t) (k : ∀ v σ H Q, t' v σ H Q → t v σ H Q) : PG X e t' := ⟨fun pins s σ H v u Q I r q => h.run pins s σ H v u Q I r (k _ _ _ _ q)⟩
theorem PGs.weak {e : List Expr} {t t' : TGs} (h : PGs X e t) (k : ∀ v σ H Q, t' v σ H Q → t v σ H Q) : PGs X e t' := ⟨fun pins s σ H v u Q I r q => h.run pins s σ H v u Q I r (k _ _ _ _ q)⟩
theorem Cont.here {Q : U → Prop} {Q' : VK} {u : U} {v : V} (c : Cont K m H Q Q') (i : invM m H) (q : Q u) (r : Rel K m H v u) : Q' v H := c u v H q stp_refl i r
theorem Cont.step {Q : U → Prop} {Q' : VK} (c : Cont K m H Q Q') (s : stpM m H H') : Cont K m H' Q Q' := fun u v H2 q s2 i r => c u v H2 q (stp_trans s s2) i r
theorem ContT.step {Q : Bool → Prop} {Q' : Bool → Hp → Prop} (c : ContT m H Q Q') (s : stpM m H H') : ContT m H' Q Q' := fun u H2 q s2 i => c u H2 q (stp_trans s s2) i
theorem ContA.step {Q : List U → Prop} {Q' : List V → Hp → Prop} (c : ContA K m H Q Q') (s : stpM m H H') : ContA K m H' Q Q' := fun u v H2 q s2 i r => c u v H2 q (stp_trans s s2) i r
theorem ContE.step {Q : XQ} {E : XK} (c : ContE K m H Q E) (s : stpM m H H') : ContE K m H' Q E := fun C u v d H2 q s2 i r k e => c C u v d H2 q (stp_trans s s2) i r k e
theorem ContS.step {DD : DEnds} {D : Ends} (c : ContS K m W H DD D) (s : stpM m H H') : ContS K m W H' DD D :=
  ⟨fun ρ σ H2 q s2 i r => c.nx ρ σ H2 q (stp_trans s s2) i r, c.rt.step s, fun ρ σ H2 s2 r => c.ex ρ σ H2 (stp_trans s s2) r, fun ρ σ H2 q s2 i r => c.bk ρ σ H2 q (stp_trans s s2) i r, fun ρ σ H2 q s2 i r => c.ct ρ σ H2 q (stp_trans s s2) i r⟩
theorem GE.step {σ : L2.St} {ρ : Env} {Z : XQ} (g : GE K m W σ H ρ Z) (s : stpM m H H') (i : invM m H') : GE K m W σ H' ρ Z := ⟨i, RelS.step s g.rs, g.cx.step s⟩
theorem ContS.ge {DD : DEnds} {D : Ends} {σ : L2.St} {ρ : Env} (c : ContS K m W H DD D) (i : invM m H) (r : RelS K m H σ ρ) : GE K m W σ H ρ (DD.ex ρ) := ⟨i, r, c.ex ρ σ H stp_refl r⟩
/-! ### names, constants -/
def dVar (i : Nat) : WE := fun _ ρ Q _ => ∃ u, ρ[i]? = some (some u) ∧ Q u
def dC (u : U) : WE := fun _ _ Q _ => Q u
theorem de_var {i : Nat} {e : Expr} (h : PE X e (tVar i)) : DE X W e (dVar i) := PE.weak h fun σ H Q' ⟨m, ρ, Q, Z, g, ⟨u, e, q⟩, c⟩ => by
  obtain ⟨v, h1, h2⟩ := g.rs.2 i u e
  exact ⟨v, h1, c.here g.iv q h2⟩
theorem de_c {v : V} {u : U} {e : Expr} (h : PE X e (tC v)) (r : ∀ m H, invM m H → Rel X.K m H v u) : DE X W e (dC u) := PE.weak h fun σ H Q' ⟨m, ρ, Q, Z, g, q, c⟩ => c.here g.iv q (r m H g.iv)
theorem de_int {i : Int} {j pos} : DE X W (.Constant (.int i) j pos) (dC (.int i)) := de_c pe_int fun _ _ _ => .int i
theorem de_bl {i : Bool} {j pos} : DE X W (.Constant (.bool i) j pos) (dC (.bl i)) := de_c pe_bl fun _ _ _ => .bl i
theorem de_non {j pos} : DE X W (.Constant .none j pos) (dC .non) := de_c pe_non fun _ _ _ => .non
theorem de_str {i : Str} {j pos} : DE X W (.Constant (.str i) j pos) (dC (.str i)) := de_c pe_str fun _ _ _ => .str i
/-! ### operations -/
abbrev W2 := U → U → (U → Prop) → Prop
abbrev W1 := U → (U → Prop) → Prop
def OpD (K : PySem.W.Frag) (r : R2) (g : W2) : Prop := ∀ (m : Mo) (x y : V) (a b : U) (H : Hp) (Q : U → Prop) (Q' : VK), invM m H → Rel K m H x a → Rel K m H y b → g a b Q → Cont K m H Q Q' → r x y H Q'
def dOp (g : W2) (wa wb : WE) : WE := fun m ρ Q Z => wa m ρ (fun x => wb m ρ (fun y => g x y Q) Z) Z
theorem t_op {r : R2} {g : W2} {wa wb : WE} (hg : OpD K r g) (σ : L2.St) (H : Hp) (Q' : VK) (h : tE K W (dOp g wa wb) σ H Q') : tOp r (tE K W wa) (tE K W wb) σ H Q' := by
  obtain ⟨m, ρ, Q, Z, ge, q, c⟩ := h
  exact ⟨m, ρ, _, Z, ge, q, fun x v H1 q1 s1 i1 r1 => ⟨m, ρ, _, Z, ge.step s1 i1, q1, fun y v2 H2 q2 s2 i2 r2 => hg m v v2 x y H2 Q Q' i2 (Rel.step s2 r1) r2 q2 (c.step (stp_trans s1 s2))⟩⟩
theorem de_op {op : Operator} {r : R2} {g : W2} {a b : Expr} {wa wb : WE} {pos : Pos} (ho : OpR X (binaryOp op) r) (hg : OpD X.K r g) (ha : DE X W a wa) (hb : DE X W b wb) : DE X W (.BinOp a op b pos) (dOp g wa wb) := PE.weak (pe_op ho ha hb) (t_op hg)
theorem de_cmp {op : CmpOp} {r : R2} {g : W2} {a b : Expr} {wa wb : WE} {pos : Pos} (ho : OpR X (compareOp op) r) (hg : OpD X.K r g) (ha : DE X W a wa) (hb : DE X W b wb) (hm : behindInMarks op b = false) : DE X W (.Compare a [op] [b] pos) (dOp g wa wb) := PE.weak (pe_cmpR ho ha hb hm) (t_op hg)
def dTest (w : WE) : WT := fun m ρ Q Z => w m ρ (fun u => ∃ b, u = .bl b ∧ Q b) Z
theorem rel_bl {v : V} {b : Bool} (r : Rel K m H v (.bl b)) : v = .bl b := by cases r; rfl
theorem rel_int {v : V} {i : Int} (r : Rel K m H v (.int i)) : v = .int i := by cases r; rfl
theorem rel_str {v : V} {i : Str} (r : Rel K m H v (.str i)) : v = .str i := by cases r; rfl
theorem rel_non {v : V} (r : Rel K m H v .non) : v = .non := by cases r; rfl
theorem rel_tup {v : V} {us : List U} (r : Rel K m H v (.tup us)) : ∃ a vs, v = .ref a ∧ TupR K m H a vs ∧ SqT K H a vs ∧ RelL K m H vs us := by
  cases r with
  | tup h r => exact ⟨_, _, rfl, h, h.sq, r⟩
theorem rel_lst {v : V} {us : List U} (r : Rel K m H v (.lst us)) : ∃ a vs, v = .ref a ∧ okA m a ∧ H a = some (.lst vs) ∧ RelL K m H vs us := by
  cases r with
  | lst k h r => exact ⟨_, _, rfl, k, h, r⟩
theorem dt_cmp {op : CmpOp} {r : R2} {g : W2} {a b : Expr} {wa wb : WE} {pos : Pos} (ho : OpR X (compareOp op) r) (hg : OpD X.K r g) (ha : DE X W a wa) (hb : DE X W b wb) (hm : behindInMarks op b = false) : DT X W (.Compare a [op] [b] pos) (dTest (dOp g wa wb)) :=
  PT.weak (pt_cmpR ho ha hb hm) fun σ H Q' h => by
    obtain ⟨m, ρ, Q, Z, ge, q, c⟩ := h
    exact t_op hg σ H _ ⟨m, ρ, _, Z, ge, q, fun x v H1 ⟨b, e, q1⟩ s1 i1 r1 => ⟨b, rel_bl (e ▸ r1), c b H1 q1 s1 i1⟩⟩
theorem dt_val {e : Expr} {w : WE} (h : DE X W e w) (he : ∀ whole, isTrue e X.env whole = (do let v ← whole; standAt e.pos; holding [v] (truthy v)) := by intro _; rfl) : DT X W e (dTest w) :=
  PT.weak (pt_val h he) fun σ H Q' h => by
    obtain ⟨m, ρ, Q, Z, ge, q, c⟩ := h
    exact ⟨m, ρ, _, Z, ge, q, fun x v H1 ⟨b, e, q1⟩ s1 i1 r1 => ⟨b, rel_bl (e ▸ r1), c b H1 q1 s1 i1⟩⟩
def dNot (w : WT) : WT := fun m ρ Q Z => w m ρ (fun b => Q (!b)) Z
def dAnd (w u : WT) : WT := fun m ρ Q Z => w m ρ (fun b => if b = true then u m ρ Q Z else Q false) Z
def dOr (w u : WT) : WT := fun m ρ Q Z => w m ρ (fun b => if b = true then Q true else u m ρ Q Z) Z
theorem dt_not {a : Expr} {w : WT} {pos : Pos} (ha : DT X W a w) : DT X W (.UnaryOp .Not a pos) (dNot w) := PT.weak (pt_not ha) fun σ H Q' ⟨m, ρ, Q, Z, ge, q, c⟩ =>
  ⟨m, ρ, _, Z, ge, q, fun b H1 q1 s1 i1 => c _ H1 q1 s1 i1⟩
theorem dw_and1 {a : Expr} {w : WT} {pos : Pos} (ha : DT X W a w) : DW X W (.BoolOp .And [a] pos) w := pw_and1 ha
theorem dw_or1 {a : Expr} {w : WT} {pos : Pos} (ha : DT X W a w) : DW X W (.BoolOp .Or [a] pos) w := pw_or1 ha
theorem dw_and {a b : Expr} {rest : List Expr} {w u : WT} {pos : Pos} (ha : DT X W a w) (hb : DW X W (.BoolOp .And (b :: rest) pos) u) : DW X W (.BoolOp .And (a :: b :: rest) pos) (dAnd w u) := PW.weak (pw_and ha hb) fun σ H Q' ⟨m, ρ, Q, Z, ge, q, c⟩ =>
  ⟨m, ρ, _, Z, ge, q, fun b H1 q1 s1 i1 => by
    cases b with
    | true => exact ⟨m, ρ, Q, Z, ge.step s1 i1, q1, c.step s1⟩
    | false => exact c _ H1 q1 s1 i1⟩
theorem dw_or {a b : Expr} {rest : List Expr} {w u : WT} {pos : Pos} (ha : DT X W a w) (hb : DW X W (.BoolOp .Or (b :: rest) pos) u) : DW X W (.BoolOp .Or (a :: b :: rest) pos) (dOr w u) := PW.weak (pw_or ha hb) fun σ H Q' ⟨m, ρ, Q, Z, ge, q, c⟩ =>
  ⟨m, ρ, _, Z, ge, q, fun b H1 q1 s1 i1 => by
    cases b with
    | false => exact ⟨m, ρ, Q, Z, ge.step s1 i1, q1, c.step s1⟩
    | true => exact c _ H1 q1 s1 i1⟩
/-- bools as values -/
def dNotV (w : WE) : WE := fun m ρ Q Z => w m ρ (fun u => ∃ b, u = .bl b ∧ Q (.bl (!b))) Z
def dAndV (w u : WE) : WE := fun m ρ Q Z => w m ρ (fun x => ∃ b, x = .bl b ∧ if b = true then u m ρ Q Z else Q (.bl false)) Z
def dOrV (w u : WE) : WE := fun m ρ Q Z => w m ρ (fun x => ∃ b, x = .bl b ∧ if b = true then Q (.bl true) else u m ρ Q Z) Z
theorem de_not {a : Expr} {w : WE} {pos : Pos} (ha : DE X W a w) : DE X W (.UnaryOp .Not a pos) (dNotV w) := PE.weak (pe_not ha) fun σ H Q' ⟨m, ρ, Q, Z, ge, q, c⟩ =>
  ⟨m, ρ, _, Z, ge, q, fun x v H1 ⟨b, e, q1⟩ s1 i1 r1 => ⟨b, rel_bl (e ▸ r1), c _ _ H1 q1 s1 i1 (.bl _)⟩⟩
theorem de_and {a b : Expr} {rest : List Expr} {w u : WE} {pos : Pos} (ha : DE X W a w) (hb : DE X W (.BoolOp .And (b :: rest) pos) u) : DE X W (.BoolOp .And (a :: b :: rest) pos) (dAndV w u) := PE.weak (pe_and ha hb) fun σ H Q' ⟨m, ρ, Q, Z, ge, q, c⟩ =>
  ⟨m, ρ, _, Z, ge, q, fun x v H1 ⟨b, e, q1⟩ s1 i1 r1 => ⟨b, rel_bl (e ▸ r1), by
    cases b with
    | true => exact ⟨m, ρ, Q, Z, ge.step s1 i1, q1, c.step s1⟩
    | false => exact c _ _ H1 q1 s1 i1 (.bl _)⟩⟩
theorem de_or {a b : Expr} {rest : List Expr} {w u : WE} {pos : Pos} (ha : DE X W a w) (hb : DE X W (.BoolOp .Or (b :: rest) pos) u) : DE X W (.BoolOp .Or (a :: b :: rest) pos) (dOrV w u) := PE.weak (pe_or ha hb) fun σ H Q' ⟨m, ρ, Q, Z, ge, q, c⟩ =>
  ⟨m, ρ, _, Z, ge, q, fun x v H1 ⟨b, e, q1⟩ s1 i1 r1 => ⟨b, rel_bl (e ▸ r1), by
    cases b with
    | false => exact ⟨m, ρ, Q, Z, ge.step s1 i1, q1, c.step s1⟩
    | true => exact c _ _ H1 q1 s1 i1 (.bl _)⟩⟩
theorem de_bool1 {op} {a : Expr} {w : WE} {pos : Pos} (ha : DE X W a w) : DE X W (.BoolOp op [a] pos) w := pe_one ha
def dIf (t : WT) (a b : WE) : WE := fun m ρ Q Z => t m ρ (fun c => if c = true then a m ρ Q Z else b m ρ Q Z) Z
theorem de_if {c a b : Expr} {t : WT} {wa wb : WE} {pos : Pos} (hc : DT X W c t) (ha : DE X W a wa) (hb : DE X W b wb) : DE X W (.IfExp c a b pos) (dIf t wa wb) := PE.weak (pe_ifExp hc ha hb) fun σ H Q' ⟨m, ρ, Q, Z, ge, q, c⟩ =>
  ⟨m, ρ, _, Z, ge, q, fun b H1 q1 s1 i1 => by
    cases b with
    | true => exact ⟨m, ρ, Q, Z, ge.step s1 i1, q1, c.step s1⟩
    | false => exact ⟨m, ρ, Q, Z, ge.step s1 i1, q1, c.step s1⟩⟩
def UnD (K : PySem.W.Frag) (r : V → Hp → VK → Prop) (g : W1) : Prop := ∀ (m : Mo) (x : V) (a : U) (H : Hp) (Q : U → Prop) (Q' : VK), invM m H → Rel K m H x a → g a Q → Cont K m H Q Q' → r x H Q'
def dUn (g : W1) (w : WE) : WE := fun m ρ Q Z => w m ρ (fun x => g x Q) Z
theorem de_un {op : UnaryOp} {r : V → Hp → VK → Prop} {g : W1} {a : Expr} {w : WE} {pos : Pos} (ho : UnR X (unaryOp op) r) (hg : UnD X.K r g) (ha : DE X W a w) : DE X W (.UnaryOp op a pos) (dUn g w) := PE.weak (pe_un ho ha) fun σ H Q' ⟨m, ρ, Q, Z, ge, q, c⟩ =>
  ⟨m, ρ, _, Z, ge, q, fun x v H1 q1 s1 i1 r1 => hg m v x H1 Q Q' i1 r1 q1 (c.step s1)⟩
/-! ### lists of arguments, displays -/
def dNil : WA := fun _ _ Q _ => Q []
def dCons (w : WE) (r : WA) : WA := fun m ρ Q Z => w m ρ (fun x => r m ρ (fun xs => Q (x :: xs)) Z) Z
theorem da_nil : DA X W [] dNil := PA.weak pa_nil fun σ H Q' ⟨m, ρ, Q, Z, ge, q, c⟩ => c [] [] H q stp_refl ge.iv .nil
theorem da_cons {e : Expr} {es : List Expr} {w : WE} {r : WA} (ha : DE X W e w) (hr : DA X W es r) (hs : starEach (e :: es) X.env = (false, eval e X.env) :: starEach es X.env := by rfl) : DA X W (e :: es) (dCons w r) := PA.weak (pa_cons ha hr hs) fun σ H Q' ⟨m, ρ, Q, Z, ge, q, c⟩ =>
  ⟨m, ρ, _, Z, ge, q, fun x v H1 q1 s1 i1 r1 => ⟨m, ρ, _, Z, ge.step s1 i1, q1, fun xs vs H2 q2 s2 i2 r2 => c _ _ H2 q2 (stp_trans s1 s2) i2 (.cons (Rel.step s2 r1) r2)⟩⟩
def dTup (w : WA) : WE := fun m ρ Q Z => w m ρ (fun us => us.length ≤ sizeLine ∧ Q (.tup us)) Z
def dLst (w : WA) : WE := fun m ρ Q Z => w m ρ (fun us => us.length ≤ sizeLine ∧ Q (.lst us)) Z
theorem new_tup {vs : List V} {us : List U} {p : Addr} (iv : invM m H) (hp : H p = none) (r : RelL K m H vs us) : Rel K m (upd H p (.tup vs)) (.ref p) (.tup us) := .tup (.inl ⟨ok_new iv hp, .inl upd_same⟩) (RelL.step (stp_new hp) r)
theorem new_lst {vs : List V} {us : List U} {p : Addr} (iv : invM m H) (hp : H p = none) (r : RelL K m H vs us) : Rel K m (upd H p (.lst vs)) (.ref p) (.lst us) := .lst (ok_new iv hp) upd_same (RelL.step (stp_new hp) r)
theorem Cont.tup {Q : U → Prop} {Q' : VK} {vs : List V} {us : List U} {p : Addr} (c : Cont K m H Q Q') (iv : invM m H) (hp : H p = none) (r : RelL K m H vs us) (q : Q (.tup us)) : Q' (.ref p) (upd H p (.tup vs)) := c _ _ _ q (stp_new hp) (inv_new iv hp) (new_tup iv hp r)
theorem Cont.lst {Q : U → Prop} {Q' : VK} {vs : List V} {us : List U} {p : Addr} (c : Cont K m H Q Q') (iv : invM m H) (hp : H p = none) (r : RelL K m H vs us) (q : Q (.lst us)) : Q' (.ref p) (upd H p (.lst vs)) := c _ _ _ q (stp_new hp) (inv_new iv hp) (new_lst iv hp r)
theorem de_tup {es : List Expr} {w : WA} {x1} {pos : Pos} (h : DA X W es w) : DE X W (.Tuple es x1 pos) (dTup w) := PE.weak (pe_tup h) fun σ H Q' ⟨m, ρ, Q, Z, ge, q, c⟩ =>
  ⟨m, ρ, _, Z, ge, q, fun us vs H1 ⟨z, q1⟩ s1 i1 r1 => ⟨by rw [RelL.len r1]; exact z, fun p hp => (c.step s1).tup i1 hp r1 q1⟩⟩
theorem de_lst {es : List Expr} {w : WA} {pos : Pos} (h : DA X W es w) : DE X W (.List es pos) (dLst w) := PE.weak (pe_lst h) fun σ H Q' ⟨m, ρ, Q, Z, ge, q, c⟩ =>
  ⟨m, ρ, _, Z, ge, q, fun us vs H1 ⟨z, q1⟩ s1 i1 r1 => ⟨by rw [RelL.len r1]; exact z, fun p hp => (c.step s1).lst i1 hp r1 q1⟩⟩
/-! ### statements -/
def dNext : WS := fun m D ρ => D.nx ρ
def dSeq (w u : WS) : WS := fun m D ρ => w m { D with nx := u m D } ρ
theorem dss_nil : DSs X W [] dNext := PSs.weak pss_nil fun D σ H ⟨m, ρ, DD, iv, rs, q, c⟩ => c.nx ρ σ H q stp_refl iv rs
theorem dss_cons {st : Stmt} {rest : List Stmt} {w u : WS} (h1 : DS X W st w) (h2 : DSs X W rest u) : DSs X W (st :: rest) (dSeq w u) := PSs.weak (pss_cons h1 h2) fun D σ H ⟨m, ρ, DD, iv, rs, q, c⟩ =>
  ⟨m, ρ, { DD with nx := u m DD }, iv, rs, q, ⟨fun ρ' σ' H' q' s' i' r' => ⟨m, ρ', DD, i', r', q', c.step s'⟩, c.rt, c.ex, c.bk, c.ct⟩⟩
theorem dss_one {st : Stmt} {w : WS} (h1 : DS X W st w) : DSs X W [st] w := pss_one h1
def dRet (w : WE) : WS := fun m D ρ => w m ρ D.rt (D.ex ρ)
theorem ds_ret {e : Expr} {w : WE} {pos : Pos} (h : DE X W e w) : DS X W (.Return (some e) pos) (dRet w) := PS.weak (ps_ret h) fun D σ H ⟨m, ρ, DD, iv, rs, q, c⟩ => ⟨m, ρ, DD.rt, _, c.ge iv rs, q, c.rt⟩
def dRetN : WS := fun _ D _ => D.rt .non
theorem ds_retN {pos : Pos} : DS X W (.Return none pos) dRetN := PS.weak ps_retN fun D σ H ⟨m, ρ, DD, iv, rs, q, c⟩ => c.rt.here iv q .non
def dDrop (w : WE) : WS := fun m D ρ => w m ρ (fun _ => D.nx ρ) (D.ex ρ)
theorem ds_expr {e : Expr} {w : WE} {pos : Pos} (h : DE X W e w) (hs : swapsWith e none pos.line X.env = pure false := by rfl) : DS X W (.Expr e pos) (dDrop w) := PS.weak (ps_expr h hs) fun D σ H ⟨m, ρ, DD, iv, rs, q, c⟩ =>
  ⟨m, ρ, _, _, c.ge iv rs, q, fun u v H' q' s' i' r' => c.nx ρ σ H' q' s' i' (RelS.step s' rs)⟩
def dIfS (t : WT) (a b : WS) : WS := fun m D ρ => t m ρ (fun c => if c = true then a m D ρ else b m D ρ) (D.ex ρ)
theorem ds_if {e : Expr} {a b : List Stmt} {t : WT} {wa wb : WS} {pos : Pos} (hc : DT X W e t) (ha : DSs X W a wa) (hb : DSs X W b wb) : DS X W (.If e a b pos) (dIfS t wa wb) := PS.weak (ps_if hc ha hb) fun D σ H ⟨m, ρ, DD, iv, rs, q, c⟩ =>
  ⟨m, ρ, _, _, c.ge iv rs, q, fun b H' q' s' i' => by
    cases b with
    | true => exact ⟨m, ρ, DD, i', RelS.step s' rs, q', c.step s'⟩
    | false => exact ⟨m, ρ, DD, i', RelS.step s' rs, q', c.step s'⟩⟩
def dSet (i : Nat) (w : WE) : WS := fun m D ρ => w m ρ (fun u => D.nx (ρ.set i (some u))) (D.ex ρ)
theorem ds_of_set {st : Stmt} {i : Nat} {w : WE} (h : PS X st (tAsg (tE X.K W w) (gName i))) : DS X W st (dSet i w) := PS.weak h fun D σ H ⟨m, ρ, DD, iv, rs, q, c⟩ =>
  ⟨m, ρ, _, _, c.ge iv rs, q, fun u v H' q' s' i' r' => c.nx _ _ H' q' s' i' (RelS.set (RelS.step s' rs) i r')⟩
theorem ds_set {i : Nat} {x : Str} {e : Expr} {w : WE} {pos pos' : Pos} (hN : X.N.Nodup) (hi : X.N[i]? = some x) (hx : Loc X.env.scope x) (he : DE X W e w) (hs : swapsWith e (some (.Name x pos')) pos.line X.env = pure false := by rfl) (hf : X.fn x = true ∨ X.env.scope.names.lookup x = some .local := by first | exact .inl rfl | exact .inr rfl | assumption) :
    DS X W (.Assign [.Name x pos'] e pos) (dSet i w) := ds_of_set (ps_set hN hi hx he hs hf)
def dgName (i : Nat) : WG := fun u ρ Q => Q (ρ.set i (some u))
def dgNil : WGs := fun us ρ Q => us = [] ∧ Q ρ
def dgCons (w : WG) (r : WGs) : WGs := fun us ρ Q => ∃ u t, us = u :: t ∧ w u ρ fun ρ' => r t ρ' Q
def dgTup (n : Nat) (r : WGs) : WG := fun u ρ Q => ∃ us, u = .tup us ∧ us.length = n ∧ r us ρ Q
theorem dg_name {i : Nat} {e : Expr} (h : PG X e (gName i)) : DG X e (dgName i) := PG.weak h fun v σ H Q' ⟨m, u, ρ, Q, iv, rs, r, q, c⟩ => c _ _ H q stp_refl iv (RelS.set rs i r)
theorem dgs_nil : DGs X [] dgNil := PGs.weak pgs_nil fun v σ H Q' ⟨m, us, ρ, Q, iv, rs, r, ⟨e, q⟩, c⟩ => by
  subst e
  cases r
  exact ⟨rfl, c _ _ H q stp_refl iv rs⟩
theorem dgs_cons {e : Expr} {es : List Expr} {w : WG} {r : WGs} (h1 : DG X e w) (h2 : DGs X es r) (hs : (assignEach (e :: es) X.env).map (·.2) = assign e X.env :: (assignEach es X.env).map (·.2) := by rfl) : DGs X (e :: es) (dgCons w r) :=
  PGs.weak (pgs_cons h1 h2 hs) fun vs σ H Q' ⟨m, us, ρ, Q, iv, rs, rl, ⟨u, t, e, q⟩, c⟩ => by
    subst e
    cases rl with
    | cons a b => exact ⟨_, _, rfl, m, u, ρ, _, iv, rs, a, q, fun ρ' σ' H' q' s' i' r' => ⟨m, t, ρ', Q, i', r', RelL.step s' b, q', fun ρ2 σ2 H2 q2 s2 i2 r2 => c ρ2 σ2 H2 q2 (stp_trans s' s2) i2 r2⟩⟩
theorem dg_tup {es : List Expr} {k : Nat} {r : WGs} {n : Nat} (hc : X.calm = true) (h : DGs X es r) (hn : (assignEach es X.env).length = n := by rfl) (hst : (assignEach es X.env).findIdx? (·.1) = none := by rfl) {pos : Pos} : DG X (.Tuple es k pos) (dgTup n r) :=
  PG.weak (pg_tup hc h hn hst) fun v σ H Q' ⟨m, u, ρ, Q, iv, rs, rl, ⟨us, e, hl, q⟩, c⟩ => by
    subst e
    obtain ⟨a, vs, rfl, k, hs, r2⟩ := rel_tup rl
    exact ⟨a, vs, rfl, hs, by rw [RelL.len r2]; exact hl, m, us, ρ, Q, iv, rs, r2, q, c⟩
def dAsg (w : WE) (g : WG) : WS := fun m D ρ => w m ρ (fun u => g u ρ D.nx) (D.ex ρ)
theorem ds_asg {tg e : Expr} {w : WE} {g : WG} {pos : Pos} (he : DE X W e w) (hg : DG X tg g) (hs : swapsWithSole [tg] e pos.line X.env = pure false := by rfl) (hw : swappedStores [tg] e X.env = pure none := by rfl)
    (h1 : (assignEach [tg] X.env).map (·.2) = [assign tg X.env] := by rfl) : DS X W (.Assign [tg] e pos) (dAsg w g) := PS.weak (ps_asg he hg hs hw h1) fun D σ H ⟨m, ρ, DD, iv, rs, q, c⟩ =>
  ⟨m, ρ, _, _, c.ge iv rs, q, fun u v H' q' s' i' r' => ⟨m, u, ρ, _, i', RelS.step s' rs, r', q', fun ρ2 σ2 H2 q2 s2 i2 r2 => c.nx ρ2 σ2 H2 q2 (stp_trans s' s2) i2 r2⟩⟩
def dPar (i j : Nat) (w : WA) : WS := fun m D ρ => w m ρ (fun us => ∃ a b, us = [a, b] ∧ D.nx ((ρ.set i (some a)).set j (some b))) (D.ex ρ)
theorem ds_of_par {st : Stmt} {i j : Nat} {w : WA} (h : PS X st (tPar i j (tA X.K W w))) : DS X W st (dPar i j w) := PS.weak h fun D σ H ⟨m, ρ, DD, iv, rs, q, c⟩ =>
  ⟨m, ρ, _, _, c.ge iv rs, q, fun us vs H' ⟨a, b, e, q'⟩ s' i' r' => by
    subst e
    cases r' with
    | cons r1 t =>
      cases t with
      | cons r2 t =>
        cases t
        exact ⟨_, _, rfl, c.nx _ _ H' q' s' i' (RelS.set (RelS.set (RelS.step s' rs) i r1) j r2)⟩⟩
/-- while: I the invariant, by what falls -/
def dWhile (t : WT) (b : WS) : WS := fun m D ρ => ∃ I : Nat → Env → Prop, (∃ k, I k ρ) ∧ ∀ k ρ, I k ρ → t m ρ (fun c => if c = true then b m { D with nx := fun ρ' => ∃ k', k' < k ∧ I k' ρ', ct := fun ρ' => ∃ k', k' < k ∧ I k' ρ', bk := D.nx } ρ else D.nx ρ) (D.ex ρ)
theorem ds_while {e : Expr} {body : List Stmt} {t : WT} {b : WS} {pos : Pos} (hp : PassesOwn (model X.prog X.w) X.A X.env X.xe) (hc : DT X W e t) (hb : DSs X W body b) : DS X W (.While e body [] pos) (dWhile t b) :=
  PS.weak (ps_while hp hc hb) fun D σ H ⟨m, ρ, DD, iv, rs, ⟨I, ⟨k, hk⟩, turn⟩, c⟩ => by
    refine ⟨fun k σ' H' => ∃ ρ', I k ρ' ∧ stpM m H H' ∧ invM m H' ∧ RelS X.K m H' σ' ρ', ⟨k, ρ, hk, stp_refl, iv, rs⟩, ?_⟩
    rintro k σ1 H1 ⟨ρ1, h1, s1, i1, r1⟩
    refine ⟨m, ρ1, _, _, (c.step s1).ge i1 r1, turn k ρ1 h1, fun bb H2 q2 s2 i2 => ?_⟩
    cases bb with
    | false => exact c.nx ρ1 σ1 H2 q2 (stp_trans s1 s2) i2 (RelS.step s2 r1)
    | true =>
      refine ⟨fun σ' H' => ∃ k', k' < k ∧ ∃ ρ', I k' ρ' ∧ stpM m H H' ∧ invM m H' ∧ RelS X.K m H' σ' ρ', fun σ' H' h => h, m, ρ1, _, i2, RelS.step s2 r1, q2, ?_⟩
      have c2 := c.step (stp_trans s1 s2)
      have go : ∀ ρ' σ' H', (∃ k', k' < k ∧ I k' ρ') → stpM m H2 H' → invM m H' → RelS X.K m H' σ' ρ' → ∃ k', k' < k ∧ ∃ ρ', I k' ρ' ∧ stpM m H H' ∧ invM m H' ∧ RelS X.K m H' σ' ρ' :=
        fun ρ' σ' H' ⟨k', lt, h⟩ s' i' r' => ⟨k', lt, ρ', h, stp_trans (stp_trans s1 s2) s', i', r'⟩
      exact ⟨go, c2.rt, c2.ex, fun ρ' σ' H' q s' i' r' => c2.nx ρ' σ' H' q s' i' r', go⟩
end
end DL
set_option Elab.async false
set_option linter.all false
set_option maxRecDepth 100000
set_option maxHeartbeats 4000000
/-! the data layer: operations, built-in functions, places, parts -/
namespace DL
open PySem PySem.Spec PyProof.Rows L2 XR
section
variable {K : PySem.W.Frag} {m : Mo} {H H' : Hp} {X : Cx} {W : WX}
/-! ### ints -/
def gI (f : Int → Int → U) : W2 := fun a b Q => ∃ i j, a = .int i ∧ b = .int j ∧ Q (f i j)
def gIC (C : Int → Int → Prop) (f : Int → Int → U) : W2 := fun a b Q => ∃ i j, a = .int i ∧ b = .int j ∧ C i j ∧ Q (f i j)
theorem opd_I0 {g : Int → Int → V} {f : Int → Int → U} (h : ∀ m H i j, Rel K m H (g i j) (f i j)) : OpD K (rI0 g) (gI f) := fun m x y a b H Q Q' iv ra rb ⟨i, j, ea, eb, q⟩ c => by
  subst ea eb
  exact ⟨i, j, rel_int ra, rel_int rb, c.here iv q (h m H i j)⟩
theorem opd_IC {C : Int → Int → Prop} {g : Int → Int → V} {f : Int → Int → U} (h : ∀ m H i j, Rel K m H (g i j) (f i j)) : OpD K (rI C g) (gIC C f) := fun m x y a b H Q Q' iv ra rb ⟨i, j, ea, eb, hc, q⟩ c => by
  subst ea eb
  exact ⟨i, j, rel_int ra, rel_int rb, hc, c.here iv q (h m H i j)⟩
abbrev gAdd : W2 := gI fun i j => .int (i + j)
abbrev gSub : W2 := gI fun i j => .int (i - j)
abbrev gMul : W2 := gIC CMulW fun i j => .int (i * j)
def CFdv (_ j : Int) : Prop := j ≠ 0 ∧ j.natAbs.log2 < 9000
abbrev gFdv : W2 := gIC CFdv fun i j => .int (i.fdiv j)
abbrev gMod : W2 := gIC (fun _ j => 0 < j) fun i j => .int (i % j)
abbrev gPow : W2 := gIC CPow fun i j => .int (i ^ j.toNat)
abbrev gLt : W2 := gI fun i j => .bl (decide (i < j))
abbrev gLe : W2 := gI fun i j => .bl (decide (i ≤ j))
abbrev gGt : W2 := gI fun i j => .bl (decide (j < i))
abbrev gGe : W2 := gI fun i j => .bl (decide (j ≤ i))
theorem op_fdvA : OpR X (binaryOp .FloorDiv) (rI CFdv fun i j => .int (i.fdiv j)) := opI fun _ _ _ _ _ _ _ hc q => floordiv_int hc.1 q (.inl (PyProof.noPylong_of_log2 hc.2))
variable {a b : Expr} {wa wb : WE} {pos : Pos}
theorem de_add (ha : DE X W a wa) (hb : DE X W b wb) : DE X W (.BinOp a .Add b pos) (dOp gAdd wa wb) := de_op op_add (opd_I0 fun _ _ _ _ => .int _) ha hb
theorem de_sub (ha : DE X W a wa) (hb : DE X W b wb) : DE X W (.BinOp a .Sub b pos) (dOp gSub wa wb) := de_op op_sub (opd_I0 fun _ _ _ _ => .int _) ha hb
theorem de_mul (ha : DE X W a wa) (hb : DE X W b wb) : DE X W (.BinOp a .Mult b pos) (dOp gMul wa wb) := de_op op_mulW (opd_IC fun _ _ _ _ => .int _) ha hb
theorem de_fdv (ha : DE X W a wa) (hb : DE X W b wb) : DE X W (.BinOp a .FloorDiv b pos) (dOp gFdv wa wb) := de_op op_fdvA (opd_IC fun _ _ _ _ => .int _) ha hb
theorem de_mod (ha : DE X W a wa) (hb : DE X W b wb) : DE X W (.BinOp a .Mod b pos) (dOp gMod wa wb) := de_op op_mod (opd_IC fun _ _ _ _ => .int _) ha hb
theorem de_pow (ha : DE X W a wa) (hb : DE X W b wb) : DE X W (.BinOp a .Pow b pos) (dOp gPow wa wb) := de_op op_pow (opd_IC fun _ _ _ _ => .int _) ha hb
def gNeg : W1 := fun a Q => ∃ i, a = .int i ∧ Q (.int (-i))
theorem de_neg (ha : DE X W a wa) : DE X W (.UnaryOp .USub a pos) (dUn gNeg wa) := de_un un_neg (fun m x u H Q Q' iv r ⟨i, e, q⟩ c => by
  subst e
  exact ⟨i, rel_int r, c.here iv q (.int _)⟩) ha
theorem opr_lt : OpR X (compareOp .Lt) (rI0 fun i j => .bl (decide (i < j))) := op_lt
/-! ### == of data -/
mutual
def toP : U → PyData
  | .non => .none
  | .bl b => .bool b
  | .int i => .int i
  | .str x => .str x
  | .tup us => .tuple (toPs us)
  | .lst us => .list (toPs us)
  | .raw _ => .none
def toPs : List U → List PyData
  | [] => []
  | u :: us => toP u :: toPs us
end
mutual
def isD : U → Bool
  | .raw _ => false
  | .tup us => isDs us
  | .lst us => isDs us
  | _ => true
def isDs : List U → Bool
  | [] => true
  | u :: us => isD u && isDs us
end
mutual
theorem Rel.dp : ∀ {u : U} {v : V}, Rel K m H v u → isD u = true → Dp K H v (toP u)
  | _, _, .non, _ => .non
  | _, _, .bl b, _ => .bl b
  | _, _, .int i, _ => .int i
  | _, _, .str x, _ => .str x
  | _, _, .tup h r, d => .tup h.sq (RelL.dp r d)
  | _, _, .lst _ h r, d => .lst (.inl (.inl h)) (RelL.dp r d)
theorem RelL.dp : ∀ {us : List U} {vs : List V}, RelL K m H vs us → isDs us = true → DpAll K H vs (toPs us)
  | _, _, .nil, _ => .nil
  | _, _, .cons h r, d => .cons (Rel.dp h (Bool.and_eq_true_iff.mp d).1) (RelL.dp r (Bool.and_eq_true_iff.mp d).2)
end
/-- data that == looks through -/
def flat (u : U) : Bool := isD u && SeqAt.shaped (toP u)
def ueq (a b : U) : Bool := PyData.eqv (toP a) (toP b)
def gEq : W2 := fun a b Q => flat a = true ∧ flat b = true ∧ Q (.bl (ueq a b))
def gNe : W2 := fun a b Q => flat a = true ∧ flat b = true ∧ Q (.bl (!ueq a b))
theorem opd_eq : OpD K (rEqD K) gEq := fun m x y a b H Q Q' iv ra rb ⟨fa, fb, q⟩ c => by
  obtain ⟨a1, a2⟩ := Bool.and_eq_true_iff.mp fa
  obtain ⟨b1, b2⟩ := Bool.and_eq_true_iff.mp fb
  exact ⟨_, _, Rel.dp ra a1, Rel.dp rb b1, a2, b2, c.here iv q (.bl _)⟩
theorem opd_ne : OpD K (rNeD K) gNe := fun m x y a b H Q Q' iv ra rb ⟨fa, fb, q⟩ c => by
  obtain ⟨a1, a2⟩ := Bool.and_eq_true_iff.mp fa
  obtain ⟨b1, b2⟩ := Bool.and_eq_true_iff.mp fb
  exact ⟨_, _, Rel.dp ra a1, Rel.dp rb b1, a2, b2, c.here iv q (.bl _)⟩
/-! ### built-in functions -/
abbrev WF := List U → (U → Prop) → Prop
def CalD (K : PySem.W.Frag) (r : List V → Hp → VK → Prop) (g : WF) : Prop := ∀ (m : Mo) (vs : List V) (us : List U) (H : Hp) (Q : U → Prop) (Q' : VK), invM m H → RelL K m H vs us → g us Q → Cont K m H Q Q' → r vs H Q'
def dCB (g : WF) (w : WA) : WE := fun m ρ Q Z => w m ρ (fun us => g us Q) Z
theorem de_callB {r : List V → Hp → VK → Prop} {g : WF} {w : WA} {e : Expr} (hg : CalD X.K r g) (h : PE X e (tCB r (tA X.K W w))) : DE X W e (dCB g w) := PE.weak h fun σ H Q' ⟨m, ρ, Q, Z, ge, q, c⟩ =>
  ⟨m, ρ, _, Z, ge, q, fun us vs H1 q1 s1 i1 r1 => hg m vs us H1 Q Q' i1 r1 q1 (c.step s1)⟩
theorem rl1 {vs : List V} {u : U} (r : RelL K m H vs [u]) : ∃ v, vs = [v] ∧ Rel K m H v u := by
  cases r with
  | cons a t =>
    cases t
    exact ⟨_, rfl, a⟩
theorem rl2 {vs : List V} {u t : U} (r : RelL K m H vs [u, t]) : ∃ v x, vs = [v, x] ∧ Rel K m H v u ∧ Rel K m H x t := by
  cases r with
  | cons a r =>
    obtain ⟨v, rfl, b⟩ := rl1 r
    exact ⟨_, _, rfl, a, b⟩
theorem rl3 {vs : List V} {u t y : U} (r : RelL K m H vs [u, t, y]) : ∃ v x z, vs = [v, x, z] ∧ Rel K m H v u ∧ Rel K m H x t ∧ Rel K m H z y := by
  cases r with
  | cons a r =>
    obtain ⟨v, x, rfl, b, c⟩ := rl2 r
    exact ⟨_, _, _, rfl, a, b, c⟩
def fLen : WF := fun us Q => ∃ ts, (us = [.tup ts] ∨ us = [.lst ts]) ∧ Q (.int ts.length)
theorem cal_len : CalD K (fun xs H Q => ∃ p ys, xs = [.ref p] ∧ (SqL K H p ys ∨ SqT K H p ys) ∧ Q (.int ys.length) H) fLen := fun m vs us H Q Q' iv r ⟨ts, e, q⟩ c => by
  rcases e with rfl | rfl
  · obtain ⟨v, rfl, a⟩ := rl1 r
    obtain ⟨p, ys, rfl, _, h, l⟩ := rel_tup a
    exact ⟨p, ys, rfl, .inr h, by rw [RelL.len l]; exact c.here iv q (.int _)⟩
  · obtain ⟨v, rfl, a⟩ := rl1 r
    obtain ⟨p, ys, rfl, _, h, l⟩ := rel_lst a
    exact ⟨p, ys, rfl, .inl (.inl (.inl h)), by rw [RelL.len l]; exact c.here iv q (.int _)⟩
def fAbs : WF := fun us Q => ∃ i, us = [.int i] ∧ Q (.int (if i < 0 then -i else i))
theorem cal_abs : CalD K (fun xs H Q => ∃ i, xs = [.int i] ∧ Q (.int (if i < 0 then -i else i)) H) fAbs := fun m vs us H Q Q' iv r ⟨i, e, q⟩ c => by
  subst e
  obtain ⟨v, rfl, a⟩ := rl1 r
  exact ⟨i, by rw [rel_int a], c.here iv q (.int _)⟩
def fMax2 : WF := fun us Q => ∃ i j, us = [.int i, .int j] ∧ Q (.int (if j > i then j else i))
theorem cal_max2 : CalD K (fun xs H Q => ∃ i j, xs = [.int i, .int j] ∧ Q (.int (if j > i then j else i)) H) fMax2 := fun m vs us H Q Q' iv r ⟨i, j, e, q⟩ c => by
  subst e
  obtain ⟨v, x, rfl, a, b⟩ := rl2 r
  exact ⟨i, j, by rw [rel_int a, rel_int b], c.here iv q (.int _)⟩
def fInt : WF := fun us Q => (∃ i, us = [.int i] ∧ Q (.int i)) ∨ ∃ k, us = [.bl k] ∧ Q (.int (if k then 1 else 0))
theorem cal_int : CalD K (fun xs H Q => (∃ i, xs = [.int i] ∧ Q (.int i) H) ∨ ∃ k, xs = [.bl k] ∧ Q (.int (if k then 1 else 0)) H) fInt := fun m vs us H Q Q' iv r h c => by
  rcases h with ⟨i, e, q⟩ | ⟨i, e, q⟩
  · subst e
    obtain ⟨v, rfl, a⟩ := rl1 r
    exact .inl ⟨i, by rw [rel_int a], c.here iv q (.int _)⟩
  · subst e
    obtain ⟨v, rfl, a⟩ := rl1 r
    exact .inr ⟨i, by rw [rel_bl a], c.here iv q (.int _)⟩
def fGcd : WF := fun us Q => ∃ i j : Int, us = [.int i, .int j] ∧ Q (.int ((Nat.gcd i.natAbs j.natAbs : Nat) : Int))
theorem cal_gcd : CalD K rGcd fGcd := fun m vs us H Q Q' iv r ⟨i, j, e, q⟩ c => by
  subst e
  obtain ⟨v, x, rfl, a, b⟩ := rl2 r
  exact ⟨i, j, by rw [rel_int a, rel_int b], c.here iv q (.int _)⟩
def rIsq : List V → Hp → VK → Prop := fun vs H Q => ∃ a : Int, vs = [.int a] ∧ 0 ≤ a ∧ a < 2 ^ 64 ∧ Q (.int ((Float64.isqrt a.toNat : Nat) : Int)) H
theorem cr_isq : CallR X (.builtin "math.isqrt") rIsq := by
  intro pins s σ H vs us Q I r h
  obtain ⟨a, rfl, h0, h1, q⟩ := h
  obtain ⟨u, rfl, t, rfl⟩ := vals1 r
  exact PySem.W.mg_isqrt h0 h1 ⟨.int _, H, I.tok _, ⟨_, rfl⟩, q⟩
def fIsq : WF := fun us Q => ∃ i : Int, us = [.int i] ∧ 0 ≤ i ∧ i < 2 ^ 64 ∧ Q (.int ((Float64.isqrt i.toNat : Nat) : Int))
theorem cal_isq : CalD K rIsq fIsq := fun m vs us H Q Q' iv r ⟨i, e, h0, h1, q⟩ c => by
  subst e
  obtain ⟨v, rfl, a⟩ := rl1 r
  exact ⟨i, by rw [rel_int a], h0, h1, c.here iv q (.int _)⟩
def tyN : U → Option String
  | .non => some "NoneType"
  | .bl _ => some "bool"
  | .int _ => some "int"
  | .str _ => some "str"
  | .tup _ => some "tuple"
  | .lst _ => some "list"
  | .raw _ => none
def fIsi : WF := fun us Q => ∃ u n t b, us = [u, .raw (.ty n)] ∧ tyN u = some t ∧ kitB t n = some b ∧ Q (.bl b)
theorem rel_ty {v : V} {u : U} {t : String} (r : Rel K m H v u) (h : tyN u = some t) : TyX K H v (.type t) := by
  cases r with
  | non => cases h; exact .base .non
  | bl b => cases h; exact .base (.bl b)
  | int i => cases h; exact .base (.int i)
  | str x => cases h; exact .base (.str x)
  | tup hs l =>
    cases h
    rcases hs with ⟨_, e | ⟨o, e⟩⟩ | ⟨o, its, n, e, hc, _⟩
    · exact .base (.tup e)
    · exact .fTuple e
    · exact .kTuple e hc
  | lst k hs l => cases h; exact .base (.lst hs)
  | raw v => cases h
theorem cal_isi : CalD K (rIsi K) fIsi := fun m vs us H Q Q' iv r ⟨u, n, t, b, e, ht, hb, q⟩ c => by
  subst e
  obtain ⟨v, x, rfl, a, d⟩ := rl2 r
  cases d
  exact ⟨v, .ty n, .type t, .type n, b, rfl, .ty n, rel_ty a ht, kit_ty hb, c.here iv q (.bl _)⟩
/-- list(x), tuple(x) -/
def fList : WF := fun us Q => ∃ ts, (us = [.tup ts] ∨ us = [.lst ts]) ∧ Q (.lst ts)
theorem cal_list : CalD K (fun xs H Q => ∃ p ys, xs = [.ref p] ∧ (SqL K H p ys ∨ SqT K H p ys) ∧ ∀ l, H l = none → Q (.ref l) (upd H l (.lst ys))) fList := fun m vs us H Q Q' iv r ⟨ts, e, q⟩ c => by
  rcases e with rfl | rfl
  · obtain ⟨v, rfl, a⟩ := rl1 r
    obtain ⟨p, ys, rfl, _, h, l⟩ := rel_tup a
    exact ⟨p, ys, rfl, .inr h, fun d hd => c.lst iv hd l q⟩
  · obtain ⟨v, rfl, a⟩ := rl1 r
    obtain ⟨p, ys, rfl, _, h, l⟩ := rel_lst a
    exact ⟨p, ys, rfl, .inl (.inl (.inl h)), fun d hd => c.lst iv hd l q⟩
def fTuple : WF := fun us Q => ∃ ts, (us = [.tup ts] ∨ us = [.lst ts]) ∧ Q (.tup ts)
theorem cal_tuple : CalD K (fun xs H Q => ∃ p ys, xs = [.ref p] ∧ ((SqL K H p ys ∧ ∀ l, H l = none → Q (.ref l) (upd H l (.tup ys))) ∨ (SqT K H p ys ∧ Q (.ref p) H))) fTuple := fun m vs us H Q Q' iv r ⟨ts, e, q⟩ c => by
  rcases e with rfl | rfl
  · obtain ⟨v, rfl, a⟩ := rl1 r
    obtain ⟨p, ys, rfl, k, h, l⟩ := rel_tup a
    exact ⟨p, ys, rfl, .inr ⟨h, c.here iv q (.tup k l)⟩⟩
  · obtain ⟨v, rfl, a⟩ := rl1 r
    obtain ⟨p, ys, rfl, _, h, l⟩ := rel_lst a
    exact ⟨p, ys, rfl, .inl ⟨.inl (.inl h), fun d hd => c.tup iv hd l q⟩⟩
/-! ### places, parts -/
def gIx : W2 := fun a b Q => ∃ ts i u, (a = .tup ts ∨ a = .lst ts) ∧ b = .int i ∧ atI ts i = some u ∧ Q u
theorem atI_rel {vs : List V} {us : List U} {i : Int} {u : U} (r : RelL K m H vs us) (h : atI us i = some u) : ∃ v, atI vs i = some v ∧ Rel K m H v u := by
  unfold atI at h ⊢
  rw [RelL.len r]
  cases e : ixN us.length i with
  | none =>
    rw [e] at h
    cases h
  | some j =>
    rw [e] at h
    exact RelL.get r h
theorem opd_ix : OpD K (fun x y H Q => rIxT K x y H Q ∨ rIxL K x y H Q) gIx := fun m x y a b H Q Q' iv ra rb ⟨ts, i, u, ea, eb, hi, q⟩ c => by
  subst eb
  rcases ea with rfl | rfl
  · obtain ⟨p, ys, rfl, k, h, l⟩ := rel_tup ra
    obtain ⟨v, e, rv⟩ := atI_rel l hi
    exact .inl ⟨p, ys, i, v, rfl, rel_int rb, h, e, c.here iv q rv⟩
  · obtain ⟨p, ys, rfl, k, h, l⟩ := rel_lst ra
    obtain ⟨v, e, rv⟩ := atI_rel l hi
    exact .inr ⟨p, ys, i, v, rfl, rel_int rb, .inl (.inl h), e, c.here iv q rv⟩
theorem de_ix (ha : DE X W a wa) (hb : DE X W b wb) (hs : PlainIx b) : DE X W (.Subscript a b pos) (dOp gIx wa wb) := PE.weak (pe_ix (IxR.or ix_tup ix_list) ha hb hs) (t_op opd_ix)
def cutU (us : List U) (lo hi : Option Int) : List U := (us.drop (HT.sIx us.length 0 lo)).take (HT.sIx us.length us.length hi - HT.sIx us.length 0 lo)
theorem cut_rel {vs : List V} {us : List U} (r : RelL K m H vs us) (lo hi : Option Int) : RelL K m H (cutV vs lo hi) (cutU us lo hi) := by
  unfold cutV cutU
  rw [RelL.len r]
  exact RelL.take _ (RelL.drop _ r)
abbrev WO := Mo → Env → (Option Int → Prop) → XQ → Prop
def tO (K : PySem.W.Frag) (W : WX) (w : WO) : TO := fun σ H Q' => ∃ m ρ Q Z, GE K m W σ H ρ Z ∧ w m ρ Q Z ∧ ∀ o H', Q o → stpM m H H' → invM m H' → Q' o H'
abbrev DO (X : Cx) (W : WX) (e : Option Expr) (w : WO) : Prop := PO X e (tO X.K W w)
theorem PO.weak {e : Option Expr} {t t' : TO} (h : PO X e t) (k : ∀ σ H Q, t' σ H Q → t σ H Q) : PO X e t' := ⟨fun pins s σ H Q I q => h.run pins s σ H Q I (k _ _ _ q)⟩
def dNoPart : WO := fun _ _ Q _ => Q none
def dPart (w : WE) : WO := fun m ρ Q Z => w m ρ (fun u => ∃ i, u = .int i ∧ Q (some i)) Z
theorem do_none : DO X W none dNoPart := PO.weak po_none fun σ H Q' ⟨m, ρ, Q, Z, ge, q, c⟩ => c none H q stp_refl ge.iv
theorem do_some (ha : DE X W a wa) : DO X W (some a) (dPart wa) := PO.weak (po_some ha) fun σ H Q' ⟨m, ρ, Q, Z, ge, q, c⟩ =>
  ⟨m, ρ, _, Z, ge, q, fun u v H1 ⟨i, e, q1⟩ s1 i1 r1 => ⟨i, rel_int (e ▸ r1), c _ H1 q1 s1 i1⟩⟩
/-- a list's part; a tuple's, not the whole of it -/
def gSlL (u : U) (lo hi : Option Int) (Q : U → Prop) : Prop := ∃ ts, u = .lst ts ∧ Q (.lst (cutU ts lo hi))
def gSlT (u : U) (lo hi : Option Int) (Q : U → Prop) : Prop := ∃ ts, u = .tup ts ∧ ¬ (HT.sIx ts.length 0 lo = 0 ∧ HT.sIx ts.length ts.length hi = ts.length) ∧ Q (.tup (cutU ts lo hi))
def dSl (g : U → Option Int → Option Int → (U → Prop) → Prop) (w : WE) (l h : WO) : WE := fun m ρ Q Z => w m ρ (fun x => l m ρ (fun lo => h m ρ (fun hi => g x lo hi Q) Z) Z) Z
theorem de_slL {lo hi : Option Expr} {l h : WO} {p2 : Pos} (ha : DE X W a wa) (hl : DO X W lo l) (hh : DO X W hi h) : DE X W (.Subscript a (.Slice lo hi none p2) pos) (dSl gSlL wa l h) := PE.weak (pe_slice sl_list ha hl hh) fun σ H Q' ⟨m, ρ, Q, Z, ge, q, c⟩ =>
  ⟨m, ρ, _, Z, ge, q, fun u v H1 q1 s1 i1 r1 => ⟨m, ρ, _, Z, ge.step s1 i1, q1, fun o H2 q2 s2 i2 => ⟨m, ρ, _, Z, ge.step (stp_trans s1 s2) i2, q2, fun o2 H3 ⟨ts, e, q3⟩ s3 i3 => by
    subst e
    obtain ⟨p, ys, rfl, k, h, l⟩ := rel_lst (Rel.step (stp_trans s2 s3) r1)
    exact ⟨p, ys, rfl, .inl (.inl h), fun d hd => (c.step (stp_trans s1 (stp_trans s2 s3))).lst i3 hd (cut_rel l o o2) q3⟩⟩⟩⟩
theorem de_slT {lo hi : Option Expr} {l h : WO} {p2 : Pos} (ha : DE X W a wa) (hl : DO X W lo l) (hh : DO X W hi h) : DE X W (.Subscript a (.Slice lo hi none p2) pos) (dSl gSlT wa l h) := PE.weak (pe_slice sl_tup ha hl hh) fun σ H Q' ⟨m, ρ, Q, Z, ge, q, c⟩ =>
  ⟨m, ρ, _, Z, ge, q, fun u v H1 q1 s1 i1 r1 => ⟨m, ρ, _, Z, ge.step s1 i1, q1, fun o H2 q2 s2 i2 => ⟨m, ρ, _, Z, ge.step (stp_trans s1 s2) i2, q2, fun o2 H3 ⟨ts, e, nw, q3⟩ s3 i3 => by
    subst e
    obtain ⟨p, ys, rfl, k, h, l⟩ := rel_tup (Rel.step (stp_trans s2 s3) r1)
    exact ⟨p, ys, rfl, h, by rw [RelL.len l]; exact nw, fun d hd => (c.step (stp_trans s1 (stp_trans s2 s3))).tup i3 hd (cut_rel l o o2) q3⟩⟩⟩⟩
/-! ### lists put together -/
def gCat : W2 := fun a b Q => ∃ xs ys, a = .lst xs ∧ b = .lst ys ∧ xs.length + ys.length ≤ sizeLine ∧ Q (.lst (xs ++ ys))
theorem opd_cat : OpD K rCat gCat := fun m x y a b H Q Q' iv ra rb ⟨xs, ys, ea, eb, z, q⟩ c => by
  subst ea eb
  obtain ⟨p, vs, rfl, _, h, l⟩ := rel_lst ra
  obtain ⟨p2, vs2, rfl, _, h2, l2⟩ := rel_lst rb
  exact ⟨p, p2, vs, vs2, rfl, rfl, h, h2, by rw [RelL.len l, RelL.len l2]; exact z, fun d hd => c.lst iv hd (RelL.append l l2) q⟩
theorem de_cat (ha : DE X W a wa) (hb : DE X W b wb) : DE X W (.BinOp a .Add b pos) (dOp gCat wa wb) := de_op op_cat opd_cat ha hb
def gRep : W2 := fun a b Q => ∃ x k, a = .lst [x] ∧ b = .int k ∧ -(2 ^ 63) ≤ k ∧ k < 2 ^ 63 ∧ k.toNat ≤ sizeLine ∧ Q (.lst (List.replicate k.toNat x))
theorem rep_rel {v : V} {u : U} (r : Rel K m H v u) : ∀ n : Nat, RelL K m H (List.replicate n [v]).flatten (List.replicate n u)
  | 0 => .nil
  | n + 1 => by
    rw [List.replicate_succ, List.replicate_succ, List.flatten_cons]
    exact .cons r (rep_rel r n)
theorem opd_rep : OpD K rRep gRep := fun m x y a b H Q Q' iv ra rb ⟨u, k, ea, eb, k1, k2, z, q⟩ c => by
  subst ea eb
  obtain ⟨p, vs, rfl, _, h, l⟩ := rel_lst ra
  obtain ⟨v, rfl, rv⟩ := rl1 l
  exact ⟨p, k, _, rfl, rel_int rb, h, k1, k2, by rw [List.length_cons, List.length_nil]; omega, fun d hd => c.lst iv hd (rep_rel rv _) q⟩
theorem de_rep (ha : DE X W a wa) (hb : DE X W b wb) : DE X W (.BinOp a .Mult b pos) (dOp gRep wa wb) := de_op op_rep opd_rep ha hb
/-! ### x op= e -/
def gIp (f : Int → Int → Int) : W2 := fun a b Q => ∃ i j, a = .int i ∧ b = .int j ∧ Q (.int (f i j))
def dAug (i : Nat) (g : W2) (w : WE) : WS := fun m D ρ => ∃ x, ρ[i]? = some (some x) ∧ w m ρ (fun y => g x y fun z => D.nx (ρ.set i (some z))) (D.ex ρ)
theorem ds_of_aug {st : Stmt} {i : Nat} {f : Int → Int → Int} {w : WE} (h : PS X st (tAug i (tE X.K W w) (ipI f))) : DS X W st (dAug i (gIp f) w) := PS.weak h fun D σ H ⟨m, ρ, DD, iv, rs, ⟨x, ex, q⟩, c⟩ => by
  obtain ⟨v, h1, h2⟩ := rs.2 i x ex
  refine ⟨v, h1, m, ρ, _, _, c.ge iv rs, q, fun u v' H' ⟨a, b, ea, eb, q'⟩ s' i' r' => ?_⟩
  subst ea eb
  exact ⟨a, b, rel_int h2, rel_int r', c.nx _ _ H' q' s' i' (RelS.set (RelS.step s' rs) i (.int _))⟩
end
end DL
set_option Elab.async false
set_option linter.all false
set_option maxRecDepth 100000
set_option maxHeartbeats 4000000
/-! the data layer: defs and their calls, raise, repr, loops, comprehensions -/
namespace DL
open PySem PySem.Spec PyProof.Rows L2 XR
open PySem.XK (ExF)
/-- a def's promise over data: the deck, the arguments, what is wanted of the value, of an error -/
abbrev SpD := Mo → List U → (U → Prop) → XQ → Prop
structure Fd (P : Program) (w : World) (K : PySem.W.Frag) (mg : Str → Option Value) (base : Heap) (k : Nat) (f : Addr) (fd : FuncData) (ps : List Str) (sp : SpD) : Prop where
  len : ∀ m us Q Z, sp m us Q Z → us.length = ps.length
  run : ∀ (A : Around) (outer : List PySem.Env) (s : Shared) (H : Hp) (args : Args) (xs : List Value) (vs : List V) (m : Mo) (us : List U) (Qd : U → Prop) (Zd : XQ) (Q : VK) (E : XK), Room k A → A.guards = some [] → Env0 P w K mg base A outer s H →
    BindsTo s fd args (ps.zip xs) → Vals vs xs → invM m H → RelL K m H vs us → sp m us Qd Zd → Cont K m H Qd Q → ContE K m H Zd E → codeAny (model P w) A (.call (.ref f) args) (CR (L2.CX P w) outer P w H s Q E) s
/-- a def that is proved over the heap, lets nothing out -/
theorem Fd.of0 {P : Program} {w : World} {K : PySem.W.Frag} {mg : Str → Option Value} {base : Heap} {k : Nat} {f : Addr} {fd : FuncData} {ps : List Str} {sp0 : Sp} {sp : SpD} (F : FnOk P w K mg base CX0 k f fd ps sp0)
    (len : ∀ m us Q Z, sp m us Q Z → us.length = ps.length)
    (h : ∀ (H : Hp) (vs : List V) (m : Mo) (us : List U) (Qd : U → Prop) (Zd : XQ) (Q : VK) (E : XK), invM m H → RelL K m H vs us → sp m us Qd Zd → Cont K m H Qd Q → sp0 vs H Q E) : Fd P w K mg base k f fd ps sp :=
  ⟨len, fun A outer s H args xs vs m us Qd Zd Q E hr hg e0 hb r iv rl hsp c cx => codeAny_mono (F.run A outer s H args xs vs Q E hr e0 hb r (h H vs m us Qd Zd Q E iv rl hsp c)) fun rr s' q => by
    cases rr with
    | error e => exact False.elim q
    | ok fl =>
      cases fl with
      | ret u => exact q
      | next => exact q
      | brk => exact q
      | cont => exact q⟩
def startU (N : List Str) (us : List U) : Env := us.map some ++ List.replicate (N.length - us.length) none
theorem relS_start {K : PySem.W.Frag} {m : Mo} {H : Hp} {N : List Str} {vs : List V} {us : List U} (r : RelL K m H vs us) : RelS K m H (L2.start N vs) (startU N us) := by
  refine ⟨by unfold L2.start startU; simp [RelL.len r], fun i u e => ?_⟩
  unfold startU at e
  unfold L2.start
  by_cases lt : i < us.length
  · rw [List.getElem?_append_left (by simpa using lt)] at e
    rw [List.getElem?_append_left (by rw [List.length_map, RelL.len r]; exact lt)]
    rw [List.getElem?_map] at e ⊢
    cases q : us[i]? with
    | none =>
      rw [q] at e
      cases e
    | some t =>
      rw [q] at e
      have et : t = u := Option.some.inj (Option.some.inj e)
      subst et
      obtain ⟨v, h1, h2⟩ := RelL.get r q
      exact ⟨v, by rw [h1]; rfl, h2⟩
  · rw [List.getElem?_append_right (by simp; omega)] at e
    have z := List.getElem?_eq_some_iff.mp e
    obtain ⟨z1, z2⟩ := z
    rw [List.getElem_replicate] at z2
    cases z2
section
variable {P : Program} {w : World} {K : PySem.W.Frag} {mg : Str → Option Value} {base : Heap}
/-- a def by its body, its code object told -/
theorem fd_ofC {k : Nat} {f : Addr} {x qual : Str} {st : Stmt} {fd : FuncData} {N ps : List Str} {sp : SpD} (F : Fun K x qual st f fd) (S : FnScope N ps (defScope st)) (len : ∀ m us Q Z, sp m us Q Z → us.length = ps.length)
    (hbody : ∀ (cdv : Value) (A : Around) (outer : List PySem.Env) (s : Shared) (H : Hp) (E : XK) (m : Mo) (us : List U) (Qd : U → Prop) (Zd : XQ), Room k (A.deeper (envOfC qual (defScope st) s.heap.objs.size f cdv)) → (A.deeper (envOfC qual (defScope st) s.heap.objs.size f cdv)).guards = some [] →
      Takes (cxOf (L2.CX P w) P w K mg base N qual (defScope st) f cdv A outer s H E) (fun c d _ H' => E c d H') → fd.code = cdv → sp m us Qd Zd → ∃ wd, DSs (cxOf (L2.CX P w) P w K mg base N qual (defScope st) f cdv A outer s H E) (fun c d _ H' => E c d H') (defBody st) wd ∧ wd m { nx := fun _ => Qd .non, rt := Qd, ex := fun _ => Zd } (startU N us)) :
    Fd P w K mg base (k + 1) f fd ps sp := by
  obtain ⟨oc, od, kV, doc, pm, an, cdv, ct, osl, rfl, lk, hcd⟩ := F.ex
  refine ⟨len, fun A outer s H args xs vs m us Qd Zd Q E hr hg e0 hb r iv rl hsp c cx => ?_⟩
  have hl : vs.length = ps.length := by
    rw [RelL.len rl]
    exact len _ _ _ _ hsp
  have KX : K.In s.heap := e0.mod.kin.keeps fun b o e => (e0.bs b o e).1
  have lim : s.heap.NoLimit := e0.mod.nolimit.keeps fun b o e => (e0.bs b o e).1
  have kinds : ∀ y ∈ ps.zip xs, (defScope st).names.lookup y.1 = some .local ∨
      ((defScope st).names.lookup y.1 = some .cell ∧ ((cellsFrom (s.heap.objs.size + 1) (defScope st).names []).lookup y.1).isSome = true) := fun ⟨n, v⟩ hy => by
    rcases S.par n (List.of_mem_zip hy).1 with q | q
    · exact .inl q
    · exact .inr ⟨q, PySem.W.cellsFrom_some _ _ _ (.inl q)⟩
  refine codeAny_call_function hr.depth (KX _ _ lk) rfl S.co S.gen rfl (PySem.W.codeRec_of KX hcd) (hb _ _ _ _ ?_)
  refine wpAny_newFunctionEnv_cells S.kind kinds fun env he s1 ic => ?_
  subst he
  refine ⟨lim.keeps ic.toInCall.keep, codeAny_func ?_⟩
  obtain ⟨t, ht, hq⟩ := hbody cdv A outer s H E m us Qd Zd (hr.deeper _) hg (takes_of rfl rfl rfl rfl) rfl hsp
  have I : Inv (cxOf (L2.CX P w) P w K mg base N qual (defScope st) f cdv A outer s H E) [] (L2.start N vs) H s1 := inv_start S hr.hd e0 hl r ic
  have wish : tS K (fun c d _ H' => E c d H') t { nx := fun _ H' => Q .non H', rt := Q } (L2.start N vs) H := ⟨m, startU N us, _, iv, relS_start rl, hq,
    ⟨fun ρ σ H' q s' i' r' => c .non .non H' q s' i' .non, c, fun ρ σ H' s' r' => cx.step s', fun _ _ _ q => q.elim, fun _ _ _ q => q.elim⟩⟩
  refine wpAny_mono (ht.run [] s1 (L2.start N vs) H _ I wish) (fun fl s' hs => ?_) fun e s' hs => hs
  have out : ∀ {σ' : L2.St} {H' : Hp} {v : V} {u : Value}, Inv (cxOf (L2.CX P w) P w K mg base N qual (defScope st) f cdv A outer s H E) [] σ' H' s' → RelV v u → Q v H' → CE outer P w H s Q u s' :=
    fun {σ' H' v u} J rv q => ⟨v, H', J.os, J.bare, J.base, J.hok, rv, q⟩
  cases fl with
  | ret u =>
    obtain ⟨v, σ', H', J, rv, q⟩ := hs
    exact out J rv q
  | next =>
    obtain ⟨σ', H', J, q⟩ := hs
    exact out (v := V.non) (u := Value.none) J rfl q
  | brk =>
    obtain ⟨_, _, _, q⟩ := hs
    exact q.elim
  | cont =>
    obtain ⟨_, _, _, q⟩ := hs
    exact q.elim
/-- a def by its body -/
theorem fd_of {k : Nat} {f : Addr} {x qual : Str} {st : Stmt} {fd : FuncData} {N ps : List Str} {sp : SpD} (F : Fun K x qual st f fd) (S : FnScope N ps (defScope st)) (len : ∀ m us Q Z, sp m us Q Z → us.length = ps.length)
    (hbody : ∀ (cdv : Value) (A : Around) (outer : List PySem.Env) (s : Shared) (H : Hp) (E : XK) (m : Mo) (us : List U) (Qd : U → Prop) (Zd : XQ), Room k (A.deeper (envOfC qual (defScope st) s.heap.objs.size f cdv)) → (A.deeper (envOfC qual (defScope st) s.heap.objs.size f cdv)).guards = some [] →
      Takes (cxOf (L2.CX P w) P w K mg base N qual (defScope st) f cdv A outer s H E) (fun c d _ H' => E c d H') → sp m us Qd Zd → ∃ wd, DSs (cxOf (L2.CX P w) P w K mg base N qual (defScope st) f cdv A outer s H E) (fun c d _ H' => E c d H') (defBody st) wd ∧ wd m { nx := fun _ => Qd .non, rt := Qd, ex := fun _ => Zd } (startU N us)) :
    Fd P w K mg base (k + 1) f fd ps sp :=
  fd_ofC F S len fun cdv A outer s H E m us Qd Zd hr hG tk _ h => hbody cdv A outer s H E m us Qd Zd hr hG tk h
theorem Fd.mono {j k : Nat} {f : Addr} {fd : FuncData} {ps : List Str} {sp : SpD} (F : Fd P w K mg base j f fd ps sp) (h : j ≤ k) : Fd P w K mg base k f fd ps sp := ⟨F.len, fun A outer s H args xs vs m us Qd Zd Q E hr => F.run A outer s H args xs vs m us Qd Zd Q E (hr.mono h)⟩
theorem Fd.imp {k : Nat} {f : Addr} {fd : FuncData} {ps : List Str} {sp sp' : SpD} (F : Fd P w K mg base k f fd ps sp) (h : ∀ m us Q Z, sp' m us Q Z → sp m us Q Z) : Fd P w K mg base k f fd ps sp' :=
  ⟨fun m us Q Z q => F.len m us Q Z (h _ _ _ _ q), fun A outer s H args xs vs m us Qd Zd Q E hr hg e0 hb r iv rl hsp => F.run A outer s H args xs vs m us Qd Zd Q E hr hg e0 hb r iv rl (h _ _ _ _ hsp)⟩
end
section
variable {m : Mo} {X : Cx} {W : WX} {H : Hp}
/-! ### calls -/
theorem run_fd {pins : List (Addr × Obj)} {σ : L2.St} {s : Shared} {Q : VK} {k : Nat} {f : Addr} {fd : FuncData} {ps : List Str} {sp : SpD} {args : Args} {xs : List Value} {vs : List V} {us : List U} {Qd : U → Prop} {Zd : XQ}
    (F : Fd X.prog X.w X.K X.mg X.base k f fd ps sp) (hr : Room k X.A) (hg : X.A.guards = some []) (tk : Takes X W) (hb : BindsTo s fd args (ps.zip xs)) (I : Inv X pins σ H s) (r : Vals vs xs) (iv : invM m H) (rl : RelL X.K m H vs us) (h : sp m us Qd Zd)
    (c : Cont X.K m H Qd Q) (cx : ContE X.K m H Zd fun c d H' => W c d σ H') : wpAny (model X.prog X.w) X.A (call (.ref f) args.pos args.kw) (EP X pins σ Q) X.xe s := by
  refine wpAny_call (codeAny_mono (F.run X.A X.stack s H args xs vs m us Qd Zd Q (fun c d H' => W c d σ H') hr hg I.env0 hb r iv rl h c cx) fun rr s' hq => ?_)
  cases rr with
  | error e => exact tk e s' (XE.of_call I (fun _ _ _ z => z) hq)
  | ok fl =>
    cases fl with
    | ret u => exact I.after hq
    | next => exact False.elim hq
    | brk => exact False.elim hq
    | cont => exact False.elim hq
def dCall (sp : SpD) (w : WA) : WE := fun m ρ Q Z => w m ρ (fun us => sp m us Q Z) Z
theorem de_call {k : Nat} {f : Addr} {fd : FuncData} {ps : List Str} {sp : SpD} {x : Str} {p pos : Pos} {e : Expr} {es : List Expr} {w : WA} (F : Fd X.prog X.w X.K X.mg X.base k f fd ps sp) (hr : Room k X.A) (hG : X.A.guards = some []) (tk : Takes X W) (hg : Gl X x) (hm : X.mg x = some (.ref f))
    (hk : PySem.W.keepIn X.K (.ref f) = true) (hb : Binds X.K fd ps []) (ha : DA X W (e :: es) w) (hdb : (x == ("__debug__" : Str)) = false := by decide) (he : starEach (e :: es) X.env = (false, eval e X.env) :: starEach es X.env := by rfl)
    (hpl : (backTo pos (starEach es X.env)).any (·.1) = false := by rfl) : DE X W (.Call (.Name x p) (e :: es) [] pos) (dCall sp w) := by
  refine ⟨fun pins s σ H Q' I ⟨m, ρ, Q, Z, ge, q, c⟩ => ?_⟩
  refine wpAny_Call_Name_kw (ld_glob I hg hm ?_ hdb)
  refine PySem.W.callWith_K (h₀ := X.base) I.ok.mod.kin hk (thn (ha.run pos pins s σ H (fun vs H1 => ∃ us, sp m us Q Z ∧ stpM m H H1 ∧ invM m H1 ∧ RelL X.K m H1 vs us) I ⟨m, ρ, _, Z, ge, q, fun us vs H1 q1 s1 i1 r1 => ⟨us, q1, s1, i1, r1⟩⟩) fun xs s1 ⟨vs, H1, I1, r, us, hsp, st, iv, rl⟩ => ⟨I1.kIn, ?_⟩) he hpl
  have hl : (xs ++ []).length = ps.length := by
    rw [List.append_nil, ← r.length, RelL.len rl]
    exact F.len _ _ _ _ hsp
  have b := hb s1 xs I1.kIn hl
  rw [List.append_nil] at b
  exact run_fd (args := ⟨xs, []⟩) F hr hG tk b I1 r iv rl hsp (c.step st) (ge.cx.step st)

/-- f(k = v, ..), keywords alone: pm tells the parameters' places among them -/
structure KBd (K : PySem.W.Frag) (fd : FuncData) (ps ks : List Str) (n : Nat) (pm : {α : Type} → List α → List α) : Prop where
  to : ∀ (s : Shared) (ws : List Value), K.In s.heap → ws.length = n → BindsTo s fd ⟨[], ks.zip ws⟩ (ps.zip (pm ws))
  rel : ∀ {vs : List V} {ws : List Value}, vs.length = n → Vals vs ws → Vals (pm vs) (pm ws)
  relL : ∀ {m : Mo} {H : Hp} {vs : List V} {us : List U}, vs.length = n → RelL K m H vs us → RelL K m H (pm vs) (pm us)
abbrev DK (X : Cx) (W : WX) (ks : List Keyword) (w : WA) : Prop := PK X ks (tA X.K W w)
theorem PK.weak {e : List Keyword} {t t' : TA} (h : PK X e t) (k : ∀ σ H Q, t' σ H Q → t σ H Q) : PK X e t' := ⟨fun pos pins s σ H Q I q => h.run pos pins s σ H Q I (k _ _ _ q)⟩
theorem dk_nil : DK X W [] dNil := PK.weak pk_nil fun σ H Q' ⟨m, ρ, Q, Z, ge, q, c⟩ => c [] [] H q stp_refl ge.iv .nil
theorem dk_cons {nm : Option Str} {e : Expr} {kp : Pos} {kws : List Keyword} {w : WE} {r : WA} (ha : DE X W e w) (hr : DK X W kws r) : DK X W (⟨nm, e, kp⟩ :: kws) (dCons w r) := PK.weak (pk_cons ha hr) fun σ H Q' ⟨m, ρ, Q, Z, ge, q, c⟩ =>
  ⟨m, ρ, _, Z, ge, q, fun x v H1 q1 s1 i1 r1 => ⟨m, ρ, _, Z, ge.step s1 i1, q1, fun xs vs H2 q2 s2 i2 r2 => c _ _ H2 q2 (stp_trans s1 s2) i2 (.cons (Rel.step s2 r1) r2)⟩⟩
def dCallK (n : Nat) (pm : List U → List U) (sp : SpD) (w : WA) : WE := fun m ρ Q Z => w m ρ (fun us => us.length = n ∧ sp m (pm us) Q Z) Z
theorem de_callK {k n : Nat} {f : Addr} {fd : FuncData} {ps ks : List Str} {pm : {α : Type} → List α → List α} {sp : SpD} {x : Str} {p pos : Pos} {kws : List Keyword} {w : WA} (F : Fd X.prog X.w X.K X.mg X.base k f fd ps sp) (hr : Room k X.A) (hG : X.A.guards = some []) (tk : Takes X W) (hg : Gl X x) (hm : X.mg x = some (.ref f))
    (hk : PySem.W.keepIn X.K (.ref f) = true) (hb : KBd X.K fd ps ks n pm) (ha : DK X W kws w) (hall : (backToKw pos (keywordEach kws X.env)).all (·.1.isSome) = true := by rfl) (hks : (backToKw pos (keywordEach kws X.env)).filterMap (·.1) = ks := by rfl)
    (hdb : (x == ("__debug__" : Str)) = false := by decide) (hpl : ((backTo pos (starEach [] X.env)).any (·.1) || (backToKw pos (keywordEach kws X.env)).any (·.1.isNone)) = false := by rfl) :
    DE X W (.Call (.Name x p) [] kws pos) (dCallK n pm sp w) := by
  refine ⟨fun pins s σ H Q' I ⟨m, ρ, Q, Z, ge, q, c⟩ => ?_⟩
  refine wpAny_Call_Name_kw (ld_glob I hg hm ?_ hdb)
  refine PySem.W.callWith_KW0 (h₀ := X.base) I.ok.mod.kin hk hall (thn (ha.run pos pins s σ H (fun vs H1 => ∃ us, (us.length = n ∧ sp m (pm us) Q Z) ∧ stpM m H H1 ∧ invM m H1 ∧ RelL X.K m H1 vs us) I ⟨m, ρ, _, Z, ge, q, fun us vs H1 q1 s1 i1 r1 => ⟨us, q1, s1, i1, r1⟩⟩) fun xs s1 ⟨vs, H1, I1, r, us, ⟨hn, hsp⟩, st, iv, rl⟩ => ⟨I1.kIn, ?_⟩) hpl
  rw [hks]
  have nv : vs.length = n := (RelL.len rl).trans hn
  have nx : xs.length = n := r.length.symm.trans nv
  exact run_fd (args := ⟨[], ks.zip xs⟩) F hr hG tk (hb.to s1 xs I1.kIn nx) I1 (hb.rel nv r) iv (hb.relL nv rl) hsp (c.step st) (ge.cx.step st)
/-! ### raise -/
def dRaise (C : Addr) (w : WE) : WS := fun m D ρ => w m ρ (fun u => D.ex ρ C u) (D.ex ρ)
theorem ds_raise {C fI : Addr} {k : Nat} {x : Str} {p pos pos' : Pos} {e : Expr} {w : WE} (T : ExF X.K C fI) (hc : X.calm = true) (tk : Takes X W) (hr : Room k X.A) (hg : Gl X x) (hm : X.mg x = some (.ref C)) (ha : DE X W e w)
    (hdb : (x == ("__debug__" : Str)) = false := by decide) (he : starEach (e :: []) X.env = (false, eval e X.env) :: starEach [] X.env := by rfl)
    (hpl : (backTo pos (starEach [] X.env)).any (·.1) = false := by rfl) : DS X W (.Raise (some (.Call (.Name x p) [e] [] pos)) none pos') (dRaise C w) :=
  PS.weak (ps_raise hc tk (pmk_exv T hr hg hm (pa_cons ha pa_nil he) hdb he hpl)) fun D σ H ⟨m, ρ, DD, iv, rs, q, c⟩ =>
    ⟨m, ρ, _, _, c.ge iv rs, q, fun u v H' q' s' i' r' => ⟨v, rfl, fun d hd => (c.ge iv rs).cx C u v d _ q' (stp_trans s' (stp_new hd)) (inv_new i' hd) (Rel.step (stp_new hd) r') (ok_new i' hd) upd_same⟩⟩
/-! ### repr -/
mutual
theorem no_dict : ∀ u : U, (toP u).hasDict = false
  | .non => rfl
  | .bl _ => rfl
  | .int _ => rfl
  | .str _ => rfl
  | .raw _ => rfl
  | .tup us => no_dicts us
  | .lst us => no_dicts us
theorem no_dicts : ∀ us : List U, PyData.hasDictAll (toPs us) = false
  | [] => rfl
  | u :: us => by
    show (PyData.hasDict (toP u) || PyData.hasDictAll (toPs us)) = false
    rw [no_dict u, no_dicts us]
    rfl
end
def rRp (K : PySem.W.Frag) : List V → Hp → VK → Prop := fun xs H Q => ∃ a d, xs = [.ref a] ∧ Dp K H (.ref a) d ∧ d.showable = true ∧ d.hasDict = false ∧ d.depth ≤ 60 ∧ d.shown.length ≤ sizeLine ∧ Q (.str d.shown) H
theorem call_rp (hG : X.A.guards = some []) (hu : X.A.units + 64 < cLine) : CallR X (.builtin "repr") (rRp X.K) := by
  intro pins s σ H xs us Q I r h
  obtain ⟨a, d, rfl, hd, sh, nd, dp, hz, q⟩ := h
  obtain ⟨u, rfl, ru⟩ := vals1 r
  obtain ⟨as, rr⟩ := Dp.reads I d (.ref a) u hd ru
  obtain rfl : u = Value.ref a := ru
  refine repr_of_reads' (h₀ := s.heap) rr sh (fun z => by rw [nd] at z; cases z) hG (by omega) (fun _ _ e => e) (fun h' t tk hk => ?_) hz
  exact ⟨.str _, H, I.kept hk, ⟨_, rfl⟩, q⟩
/-- what repr can tell -/
def rpOk (u : U) : Prop := isD u = true ∧ (toP u).showable = true ∧ (toP u).depth ≤ 60 ∧ (toP u).shown.length ≤ sizeLine
def fRp : WF := fun us Q => ∃ u, us = [u] ∧ ((∃ ts, u = .tup ts) ∨ ∃ ts, u = .lst ts) ∧ rpOk u ∧ Q (.str (toP u).shown)
theorem cal_rp {K : PySem.W.Frag} : CalD K (rRp K) fRp := fun m vs us H Q Q' iv r ⟨u, e, hu, ⟨h1, h2, h3, h4⟩, q⟩ c => by
  subst e
  obtain ⟨v, rfl, a⟩ := rl1 r
  have hd := Rel.dp a h1
  rcases hu with ⟨ts, rfl⟩ | ⟨ts, rfl⟩
  · obtain ⟨p, ys, rfl, _⟩ := rel_tup a
    exact ⟨p, _, rfl, hd, h2, no_dict _, h3, h4, c.here iv q (.str _)⟩
  · obtain ⟨p, ys, rfl, _⟩ := rel_lst a
    exact ⟨p, _, rfl, hd, h2, no_dict _, h3, h4, c.here iv q (.str _)⟩
end
end DL
set_option Elab.async false
set_option linter.all false
set_option maxRecDepth 100000
set_option maxHeartbeats 4000000
/-! the data layer: loops, comprehensions -/
namespace DL
open PySem PySem.Spec PyProof.Rows L2 XR RZ RT
section
variable {K : PySem.W.Frag} {m : Mo} {H H' : Hp} {X : Cx} {W : WX}
/-- the iterator hands out these, one by one -/
structure Walks (K : PySem.W.Frag) (m : Mo) (J : It) (us : List U) (H1 : Hp) : Prop where
  go : ∀ i H, i < us.length → stpM m H1 H → invM m H → J.go i H
  stop : ∀ H, stpM m H1 H → invM m H → J.stop us.length H
  yld : ∀ i H x H', i < us.length → stpM m H1 H → invM m H → J.yld i H x H' → ∃ u, us[i]? = some u ∧ stpM m H H' ∧ invM m H' ∧ Rel K m H' x u
def addB (m : Mo) (B : List Addr) : Mo := { m with ban := B ++ m.ban }
theorem ok_addB {B : List Addr} {a : Addr} {o : HO} (k : okA m a) (h : H a = some o) (hB : ∀ b ∈ B, H b = none) : okA (addB m B) a := ⟨k.1, fun z => by
  rcases List.mem_append.mp z with z | z
  · rw [hB a z] at h
    cases h
  · exact k.2 z⟩
theorem TupR.addB {B : List Addr} {a : Addr} {vs : List V} (t : TupR K m H a vs) (hB : ∀ b ∈ B, H b = none) : TupR K (addB m B) H a vs := by
  rcases t with ⟨k, h | ⟨o, h⟩⟩ | h
  · exact .inl ⟨ok_addB k h hB, .inl h⟩
  · exact .inl ⟨ok_addB k h hB, .inr ⟨o, h⟩⟩
  · exact .inr h
mutual
theorem Rel.addB {B : List Addr} (hB : ∀ b ∈ B, H b = none) : ∀ {v : V} {u : U}, Rel K m H v u → Rel K (addB m B) H v u
  | _, _, .non => .non
  | _, _, .bl b => .bl b
  | _, _, .int i => .int i
  | _, _, .str x => .str x
  | _, _, .tup h r => .tup (h.addB hB) (RelL.addB hB r)
  | _, _, .lst k h r => .lst (ok_addB k h hB) h (RelL.addB hB r)
  | _, _, .raw v => .raw v
theorem RelL.addB {B : List Addr} (hB : ∀ b ∈ B, H b = none) : ∀ {vs : List V} {us : List U}, RelL K m H vs us → RelL K (addB m B) H vs us
  | _, _, .nil => .nil
  | _, _, .cons h r => .cons (Rel.addB hB h) (RelL.addB hB r)
end
theorem ok_cut {B : List Addr} {a : Addr} (k : okA (addB m B) a) : okA m a := ⟨k.1, fun z => k.2 (List.mem_append_right _ z)⟩
theorem TupR.cut {B : List Addr} {a : Addr} {vs : List V} (t : TupR K (DL.addB m B) H a vs) : TupR K m H a vs := by
  rcases t with ⟨k, h⟩ | h
  · exact .inl ⟨ok_cut k, h⟩
  · exact .inr h
mutual
theorem Rel.cut {B : List Addr} : ∀ {v : V} {u : U}, Rel K (DL.addB m B) H v u → Rel K m H v u
  | _, _, .non => .non
  | _, _, .bl b => .bl b
  | _, _, .int i => .int i
  | _, _, .str x => .str x
  | _, _, .tup h r => .tup h.cut (RelL.cut r)
  | _, _, .lst k h r => .lst (ok_cut k) h (RelL.cut r)
  | _, _, .raw v => .raw v
theorem RelL.cut {B : List Addr} : ∀ {vs : List V} {us : List U}, RelL K (DL.addB m B) H vs us → RelL K m H vs us
  | _, _, .nil => .nil
  | _, _, .cons h r => .cons (Rel.cut h) (RelL.cut r)
end
abbrev WI := Mo → Env → (List U → Prop) → XQ → Prop
def tI (K : PySem.W.Frag) (W : WX) (w : WI) : TI := fun σ H R => ∃ m ρ Q Z, GE K m W σ H ρ Z ∧ w m ρ Q Z ∧ ∀ us J H1, Q us → stpM m H H1 → invM m H1 → (∀ B, (∀ b ∈ B, H1 b = none) → Walks K (addB m B) J us H1) → R J H1
abbrev DI (X : Cx) (W : WX) (tg e : Expr) (w : WI) : Prop := PI X tg e (tI X.K W w)
theorem PI.weak {tg e : Expr} {t t' : TI} (h : PI X tg e t) (k : ∀ σ H R, t' σ H R → t σ H R) : PI X tg e t' := ⟨fun pins s σ H R I q => h.run pins s σ H R I (k _ _ _ q)⟩
theorem walks_list {a : Addr} {vs : List V} {us : List U} (k : okA m a) (h : H a = some (.lst vs)) (r : RelL K m H vs us) : Walks K m (Itl K a) us H := by
  have hl := RelL.len r
  have at_ : ∀ H2, stpM m H H2 → SqL K H2 a vs := fun H2 s => .inl (.inl (s _ _ h k.1))
  refine ⟨fun i H2 lt s _ => ⟨vs, vs[i]'(by omega), at_ H2 s, by simp⟩, fun H2 s _ => ⟨vs, at_ H2 s, by omega⟩, fun i H2 x H3 lt s iv y => ?_⟩
  obtain ⟨rfl, y⟩ := y
  obtain ⟨u, e, ru⟩ := RelL.getV (RelL.step s r) (y vs (at_ _ s))
  exact ⟨u, e, stp_refl, iv, ru⟩
theorem walks_tup {a : Addr} {vs : List V} {us : List U} (k : TupR K m H a vs) (r : RelL K m H vs us) : Walks K m (Itt K a) us H := by
  have hl := RelL.len r
  have at_ : ∀ H2, stpM m H H2 → SqT K H2 a vs := fun H2 s => (TupR.step s k).sq
  refine ⟨fun i H2 lt s _ => ⟨vs, vs[i]'(by omega), at_ H2 s, by simp⟩, fun H2 s _ => ⟨vs, at_ H2 s, by omega⟩, fun i H2 x H3 lt s iv y => ?_⟩
  obtain ⟨rfl, y⟩ := y
  obtain ⟨u, e, ru⟩ := RelL.getV (RelL.step s r) (y vs (at_ _ s))
  exact ⟨u, e, stp_refl, iv, ru⟩
def rngU (lo : Int) (n : Nat) : List U := (List.range n).map fun (i : Nat) => U.int (lo + (i : Int))
theorem walks_range {lo : Int} {n : Nat} : Walks K m (Itr lo n) (rngU lo n) H := by
  have hl : (rngU lo n).length = n := by simp [rngU]
  refine ⟨fun i H2 lt s _ => by rw [hl] at lt; exact lt, fun H2 s _ => by rw [hl]; exact Nat.le_refl _, fun i H2 x H3 lt s iv y => ?_⟩
  obtain ⟨rfl, rfl⟩ := y
  rw [hl] at lt
  exact ⟨.int (lo + i), by simp [rngU, lt], stp_refl, iv, .int _⟩
def dItL (w : WE) : WI := fun m ρ Q Z => w m ρ (fun u => ∃ us, u = .lst us ∧ Q us) Z
def dItT (w : WE) : WI := fun m ρ Q Z => w m ρ (fun u => ∃ us, u = .tup us ∧ Q us) Z
variable {tg e : Expr} {w : WE}
theorem di_lst (h : DE X W e w) : DI X W tg e (dItL w) := PI.weak (pi_list h) fun σ H R ⟨m, ρ, Q, Z, ge, q, c⟩ => ⟨m, ρ, _, Z, ge, q, fun u v H1 ⟨us, eu, q1⟩ s1 i1 r1 => by
  subst eu
  obtain ⟨a, vs, rfl, k, h, l⟩ := rel_lst r1
  exact ⟨a, rfl, ⟨vs, .inl (.inl h)⟩, c us _ H1 q1 s1 i1 (fun B hB => walks_list (ok_addB k h hB) h (RelL.addB hB l))⟩⟩
theorem di_tup (h : DE X W e w) : DI X W tg e (dItT w) := PI.weak (pi_tup h) fun σ H R ⟨m, ρ, Q, Z, ge, q, c⟩ => ⟨m, ρ, _, Z, ge, q, fun u v H1 ⟨us, eu, q1⟩ s1 i1 r1 => by
  subst eu
  obtain ⟨a, vs, rfl, k, h, l⟩ := rel_tup r1
  exact ⟨a, rfl, ⟨vs, h⟩, c us _ H1 q1 s1 i1 (fun B hB => walks_tup (k.addB hB) (RelL.addB hB l))⟩⟩
def dItR1 (w : WA) : WI := fun m ρ Q Z => w m ρ (fun us => ∃ j : Int, us = [.int j] ∧ -(2 ^ 62) ≤ j ∧ j < 2 ^ 62 ∧ Q (rngU 0 j.toNat)) Z
def dItR2 (w : WA) : WI := fun m ρ Q Z => w m ρ (fun us => ∃ i j : Int, us = [.int i, .int j] ∧ (-(2 ^ 62) ≤ i ∧ i < 2 ^ 62 ∧ -(2 ^ 62) ≤ j ∧ j < 2 ^ 62) ∧ Q (rngU i (j - i).toNat)) Z
theorem di_range1 {a : Expr} {wa : WA} (h : PI X tg e (iRng1 (tA X.K W wa))) : DI X W tg e (dItR1 wa) := PI.weak h fun σ H R ⟨m, ρ, Q, Z, ge, q, c⟩ => ⟨m, ρ, _, Z, ge, q, fun us vs H1 ⟨j, ej, b1, b2, q1⟩ s1 i1 r1 => by
  subst ej
  obtain ⟨v, rfl, a⟩ := rl1 r1
  exact ⟨j, by rw [rel_int a], b1, b2, c _ _ H1 q1 s1 i1 (fun B hB => walks_range)⟩⟩
theorem di_range2 {a : Expr} {wa : WA} (h : PI X tg e (iRng2 (tA X.K W wa))) : DI X W tg e (dItR2 wa) := PI.weak h fun σ H R ⟨m, ρ, Q, Z, ge, q, c⟩ => ⟨m, ρ, _, Z, ge, q, fun us vs H1 ⟨i, j, ej, b, q1⟩ s1 i1 r1 => by
  subst ej
  obtain ⟨v, x, rfl, ra, rb⟩ := rl2 r1
  exact ⟨i, j, by rw [rel_int ra, rel_int rb], b, c _ _ H1 q1 s1 i1 (fun B hB => walks_range)⟩⟩
/-- enumerate -/
def enU : Nat → List U → List U
  | _, [] => []
  | i, u :: us => .tup [.int (i : Int), u] :: enU (i + 1) us
theorem enU_len : ∀ (us : List U) (i : Nat), (enU i us).length = us.length
  | [], _ => rfl
  | _ :: us, i => congrArg (· + 1) (enU_len us (i + 1))
theorem enU_get : ∀ (us : List U) (i j : Nat) (u : U), us[j]? = some u → (enU i us)[j]? = some (.tup [.int ((i + j : Nat) : Int), u])
  | [], _, j, _, h => by simp at h
  | x :: us, i, 0, u, h => by
    simp at h
    subst h
    rfl
  | x :: us, i, j + 1, u, h => by
    have z := enU_get us (i + 1) j u (by simpa using h)
    show (enU (i + 1) us)[j]? = _
    rw [z, show i + 1 + j = i + (j + 1) from by omega]
theorem new_pair {p : Addr} {x y : V} {a b : U} (iv : invM m H) (hp : H p = none) (ra : Rel K m H x a) (rb : Rel K m H y b) : Rel K m (upd H p (.tup [x, y])) (.ref p) (.tup [a, b]) := new_tup iv hp (.cons ra (.cons rb .nil))
theorem walks_enT {a : Addr} {vs : List V} {us : List U} (k : TupR K m H a vs) (r : RelL K m H vs us) : Walks K m (IteT K a) (enU 0 us) H := by
  have hl := RelL.len r
  have at_ : ∀ H2, stpM m H H2 → SqT K H2 a vs := fun H2 s => (TupR.step s k).sq
  refine ⟨fun i H2 lt s _ => by rw [enU_len] at lt; exact ⟨vs, vs[i]'(by omega), at_ H2 s, by simp⟩, fun H2 s _ => by rw [enU_len]; exact ⟨vs, at_ H2 s, by omega⟩, fun i H2 x H3 lt s iv y => ?_⟩
  obtain ⟨T, y1, rfl, hT, rfl, y⟩ := y
  obtain ⟨u, e, ru⟩ := RelL.getV (RelL.step s r) (y vs (at_ _ s))
  exact ⟨_, by rw [enU_get us 0 i u e, Nat.zero_add], stp_new hT, inv_new iv hT, new_pair iv hT (.int _) ru⟩
theorem walks_enL {a : Addr} {vs : List V} {us : List U} (k : okA m a) (h : H a = some (.lst vs)) (r : RelL K m H vs us) : Walks K m (Ite K a) (enU 0 us) H := by
  have hl := RelL.len r
  have at_ : ∀ H2, stpM m H H2 → SqL K H2 a vs := fun H2 s => .inl (.inl (s _ _ h k.1))
  refine ⟨fun i H2 lt s _ => by rw [enU_len] at lt; exact ⟨vs, vs[i]'(by omega), at_ H2 s, by simp⟩, fun H2 s _ => by rw [enU_len]; exact ⟨vs, at_ H2 s, by omega⟩, fun i H2 x H3 lt s iv y => ?_⟩
  obtain ⟨T, y1, rfl, hT, rfl, y⟩ := y
  obtain ⟨u, e, ru⟩ := RelL.getV (RelL.step s r) (y vs (at_ _ s))
  exact ⟨_, by rw [enU_get us 0 i u e, Nat.zero_add], stp_new hT, inv_new iv hT, new_pair iv hT (.int _) ru⟩
def dItE (w : WA) : WI := fun m ρ Q Z => w m ρ (fun us => ∃ ts, (us = [.tup ts] ∨ us = [.lst ts]) ∧ Q (enU 0 ts)) Z
theorem di_enum {wa : WA} (h : PI X tg e (iEnumX X.K (tA X.K W wa))) : DI X W tg e (dItE wa) := PI.weak h fun σ H R ⟨m, ρ, Q, Z, ge, q, c⟩ => ⟨m, ρ, _, Z, ge, q, fun us vs H1 ⟨ts, ej, q1⟩ s1 i1 r1 => by
  rcases ej with rfl | rfl
  · obtain ⟨v, rfl, a⟩ := rl1 r1
    obtain ⟨p, ys, rfl, k, h, l⟩ := rel_tup a
    exact ⟨p, ys, rfl, .inr ⟨h, c _ _ H1 q1 s1 i1 (fun B hB => walks_enT (k.addB hB) (RelL.addB hB l))⟩⟩
  · obtain ⟨v, rfl, a⟩ := rl1 r1
    obtain ⟨p, ys, rfl, k, h, l⟩ := rel_lst a
    exact ⟨p, ys, rfl, .inl ⟨.inl (.inl h), c _ _ H1 q1 s1 i1 (fun B hB => walks_enL (ok_addB k h hB) h (RelL.addB hB l))⟩⟩⟩
/-- zip of two -/
def zpU : List U → List U → List U
  | x :: xs, y :: ys => .tup [x, y] :: zpU xs ys
  | _, _ => []
theorem zpU_len : ∀ (xs ys : List U), (zpU xs ys).length = min xs.length ys.length
  | [], ys => by simp [zpU]
  | _ :: _, [] => by simp [zpU]
  | _ :: xs, _ :: ys => by simp [zpU, zpU_len xs ys]
theorem zpU_get : ∀ (xs ys : List U) (j : Nat) (x y : U), xs[j]? = some x → ys[j]? = some y → (zpU xs ys)[j]? = some (.tup [x, y])
  | [], _, j, _, _, h, _ => by simp at h
  | _ :: _, [], j, _, _, _, h => by simp at h
  | a :: xs, b :: ys, 0, x, y, h, g => by
    simp at h g
    subst h g
    rfl
  | a :: xs, b :: ys, j + 1, x, y, h, g => zpU_get xs ys j x y (by simpa using h) (by simpa using g)
theorem walks_zpT {a b : Addr} {vs ws : List V} {us ts : List U} (k : TupR K m H a vs) (r : RelL K m H vs us) (k2 : TupR K m H b ws) (r2 : RelL K m H ws ts) : Walks K m (ItzT K a b) (zpU us ts) H := by
  have hl := RelL.len r
  have hl2 := RelL.len r2
  have at_ : ∀ H2, stpM m H H2 → SqT K H2 a vs := fun H2 s => (TupR.step s k).sq
  have at2 : ∀ H2, stpM m H H2 → SqT K H2 b ws := fun H2 s => (TupR.step s k2).sq
  refine ⟨fun i H2 lt s _ => by rw [zpU_len] at lt; exact ⟨vs, ws, vs[i]'(by omega), ws[i]'(by omega), at_ H2 s, at2 H2 s, by simp, by simp⟩, fun H2 s _ => by rw [zpU_len]; exact ⟨vs, ws, at_ H2 s, at2 H2 s, by omega⟩, fun i H2 x H3 lt s iv y => ?_⟩
  obtain ⟨T, y1, y2, rfl, hT, rfl, y, z⟩ := y
  obtain ⟨u, e, ru⟩ := RelL.getV (RelL.step s r) (y vs (at_ _ s))
  obtain ⟨t, e2, rt⟩ := RelL.getV (RelL.step s r2) (z ws (at2 _ s))
  exact ⟨_, zpU_get us ts i u t e e2, stp_new hT, inv_new iv hT, new_pair iv hT ru rt⟩
theorem walks_zpL {a b : Addr} {vs ws : List V} {us ts : List U} (k : okA m a) (h : H a = some (.lst vs)) (r : RelL K m H vs us) (k2 : okA m b) (h2 : H b = some (.lst ws)) (r2 : RelL K m H ws ts) : Walks K m (Itz K a b) (zpU us ts) H := by
  have hl := RelL.len r
  have hl2 := RelL.len r2
  have at_ : ∀ H2, stpM m H H2 → SqL K H2 a vs := fun H2 s => .inl (.inl (s _ _ h k.1))
  have at2 : ∀ H2, stpM m H H2 → SqL K H2 b ws := fun H2 s => .inl (.inl (s _ _ h2 k2.1))
  refine ⟨fun i H2 lt s _ => by rw [zpU_len] at lt; exact ⟨vs, ws, vs[i]'(by omega), ws[i]'(by omega), at_ H2 s, at2 H2 s, by simp, by simp⟩, fun H2 s _ => by rw [zpU_len]; exact ⟨vs, ws, at_ H2 s, at2 H2 s, by omega⟩, fun i H2 x H3 lt s iv y => ?_⟩
  obtain ⟨T, y1, y2, rfl, hT, rfl, y, z⟩ := y
  obtain ⟨u, e, ru⟩ := RelL.getV (RelL.step s r) (y vs (at_ _ s))
  obtain ⟨t, e2, rt⟩ := RelL.getV (RelL.step s r2) (z ws (at2 _ s))
  exact ⟨_, zpU_get us ts i u t e e2, stp_new hT, inv_new iv hT, new_pair iv hT ru rt⟩
def dItZ (w : WA) : WI := fun m ρ Q Z => w m ρ (fun us => ∃ ts ys, (us = [.tup ts, .tup ys] ∨ us = [.lst ts, .lst ys]) ∧ Q (zpU ts ys)) Z
theorem di_zip {wa : WA} (h : PI X tg e (iZipA X.K (tA X.K W wa))) : DI X W tg e (dItZ wa) := PI.weak h fun σ H R ⟨m, ρ, Q, Z, ge, q, c⟩ => ⟨m, ρ, _, Z, ge, q, fun us vs H1 ⟨ts, ys, ej, q1⟩ s1 i1 r1 => by
  rcases ej with rfl | rfl
  · obtain ⟨v, x, rfl, a, b⟩ := rl2 r1
    obtain ⟨p, ps, rfl, k, h, l⟩ := rel_tup a
    obtain ⟨p2, ps2, rfl, k2, h2, l2⟩ := rel_tup b
    exact ⟨p, p2, ps, ps2, rfl, .inr ⟨h, h2, c _ _ H1 q1 s1 i1 (fun B hB => walks_zpT (k.addB hB) (RelL.addB hB l) (k2.addB hB) (RelL.addB hB l2))⟩⟩
  · obtain ⟨v, x, rfl, a, b⟩ := rl2 r1
    obtain ⟨p, ps, rfl, k, h, l⟩ := rel_lst a
    obtain ⟨p2, ps2, rfl, k2, h2, l2⟩ := rel_lst b
    exact ⟨p, p2, ps, ps2, rfl, .inl ⟨.inl (.inl h), .inl (.inl h2), c _ _ H1 q1 s1 i1 (fun B hB => walks_zpL (ok_addB k h hB) h (RelL.addB hB l) (ok_addB k2 h2 hB) h2 (RelL.addB hB l2))⟩⟩⟩
/-- reversed -/
theorem walks_rvT {a : Addr} {vs : List V} {us : List U} (k : TupR K m H a vs) (r : RelL K m H vs us) : Walks K m (ItvT K a vs.length) us.reverse H := by
  have hl := RelL.len r
  have at_ : ∀ H2, stpM m H H2 → SqT K H2 a vs := fun H2 s => (TupR.step s k).sq
  refine ⟨fun i H2 lt s _ => by rw [List.length_reverse] at lt; exact ⟨by omega, vs, vs[vs.length - 1 - i]'(by omega), at_ H2 s, by simp [show vs.length - 1 - i < vs.length by omega]⟩, fun H2 s _ => by rw [List.length_reverse, hl]; exact Nat.le_refl _, fun i H2 x H3 lt s iv y => ?_⟩
  obtain ⟨rfl, y⟩ := y
  rw [List.length_reverse] at lt
  obtain ⟨u, e, ru⟩ := RelL.getV (RelL.step s r) (y vs (at_ _ s))
  exact ⟨u, by rw [List.getElem?_reverse lt, ← hl]; exact e, stp_refl, iv, ru⟩
theorem walks_rvL {a : Addr} {vs : List V} {us : List U} (k : okA m a) (h : H a = some (.lst vs)) (r : RelL K m H vs us) : Walks K m (Itv K a vs.length) us.reverse H := by
  have hl := RelL.len r
  have at_ : ∀ H2, stpM m H H2 → SqL K H2 a vs := fun H2 s => .inl (.inl (s _ _ h k.1))
  refine ⟨fun i H2 lt s _ => by rw [List.length_reverse] at lt; exact ⟨by omega, vs, vs[vs.length - 1 - i]'(by omega), at_ H2 s, by simp [show vs.length - 1 - i < vs.length by omega]⟩, fun H2 s _ => by rw [List.length_reverse, hl]; exact Nat.le_refl _, fun i H2 x H3 lt s iv y => ?_⟩
  obtain ⟨rfl, y⟩ := y
  rw [List.length_reverse] at lt
  obtain ⟨u, e, ru⟩ := RelL.getV (RelL.step s r) (y vs (at_ _ s))
  exact ⟨u, by rw [List.getElem?_reverse lt, ← hl]; exact e, stp_refl, iv, ru⟩
def dItV (w : WE) : WI := fun m ρ Q Z => w m ρ (fun u => ∃ us, (u = .tup us ∨ u = .lst us) ∧ Q us.reverse) Z
theorem di_rev (h : PI X tg e (iRevA X.K (tE X.K W w))) : DI X W tg e (dItV w) := PI.weak h fun σ H R ⟨m, ρ, Q, Z, ge, q, c⟩ => ⟨m, ρ, _, Z, ge, q, fun u v H1 ⟨us, eu, q1⟩ s1 i1 r1 => by
  rcases eu with rfl | rfl
  · obtain ⟨a, vs, rfl, k, h, l⟩ := rel_tup r1
    exact ⟨a, vs, rfl, .inr ⟨h, c _ _ H1 q1 s1 i1 (fun B hB => walks_rvT (k.addB hB) (RelL.addB hB l))⟩⟩
  · obtain ⟨a, vs, rfl, k, h, l⟩ := rel_lst r1
    exact ⟨a, vs, rfl, .inl ⟨.inl (.inl h), c _ _ H1 q1 s1 i1 (fun B hB => walks_rvL (ok_addB k h hB) h (RelL.addB hB l))⟩⟩⟩
/-! ### for -/
def dFor (wi : WI) (g : WG) (b : WS) : WS := fun m D ρ => wi m ρ (fun us => ∃ I : Nat → Env → Prop, I 0 ρ ∧ (∀ i u ρ', us[i]? = some u → I i ρ' → g u ρ' fun ρ2 => b m { D with nx := I (i + 1), ct := I (i + 1), bk := D.nx } ρ2) ∧ ∀ ρ', I us.length ρ' → D.nx ρ') (D.ex ρ)
theorem ds_for {iter : Expr} {body : List Stmt} {wi : WI} {g : WG} {b : WS} {pos : Pos} (h : PS X (.For tg iter body [] pos) (tFor (tI X.K W wi) (tG X.K g) (tS X.K W b))) : DS X W (.For tg iter body [] pos) (dFor wi g b) := PS.weak h fun D σ H ⟨m, ρ, DD, iv, rs, q, c⟩ => by
  refine ⟨m, ρ, _, _, c.ge iv rs, q, fun us J H1 ⟨I, h0, turn, fin⟩ s1 i1 wkB => ?_⟩
  have wk : Walks X.K m J us H1 := wkB [] (fun b hb => nomatch hb)
  refine ⟨fun i k σ' H' => k = us.length - i ∧ i ≤ us.length ∧ ∃ ρ', I i ρ' ∧ stpM m H1 H' ∧ invM m H' ∧ RelS X.K m H' σ' ρ', ⟨us.length, by simp, Nat.zero_le _, ρ, h0, stp_refl, i1, RelS.step s1 rs⟩, ?_⟩
  rintro i k σ1 H2 ⟨rfl, hi, ρ1, h1, s2, i2, r2⟩
  by_cases lt : i < us.length
  · refine .inr ⟨wk.go i H2 lt s2 i2, fun σ' H' => ∃ ρ', I (i + 1) ρ' ∧ stpM m H1 H' ∧ invM m H' ∧ RelS X.K m H' σ' ρ', fun σ' H' ⟨ρ', a1, a2, a3, a4⟩ => ⟨us.length - (i + 1), by omega, rfl, lt, ρ', a1, a2, a3, a4⟩, fun x H3 y => ?_⟩
    obtain ⟨u, eu, s3, i3, ru⟩ := wk.yld i H2 x H3 lt s2 i2 y
    refine ⟨m, u, ρ1, _, i3, RelS.step s3 r2, ru, turn i u ρ1 eu h1, fun ρ4 σ4 H4 q4 s4 i4 r4 => ?_⟩
    have st := stp_trans s2 (stp_trans s3 s4)
    have c2 := c.step (stp_trans s1 st)
    have go : ∀ ρ' σ' H', I (i + 1) ρ' → stpM m H4 H' → invM m H' → RelS X.K m H' σ' ρ' → ∃ ρ', I (i + 1) ρ' ∧ stpM m H1 H' ∧ invM m H' ∧ RelS X.K m H' σ' ρ' := fun ρ' σ' H' a s' i' r' => ⟨ρ', a, stp_trans st s', i', r'⟩
    exact ⟨m, ρ4, _, i4, r4, q4, go, c2.rt, c2.ex, fun ρ' σ' H' q s' i' r' => c2.nx ρ' σ' H' q s' i' r', go⟩
  · have e : i = us.length := by omega
    subst e
    exact .inl ⟨wk.stop H2 s2 i2, c.nx ρ1 σ1 H2 (fin ρ1 h1) (stp_trans s1 s2) i2 r2⟩
end
end DL
set_option Elab.async false
set_option linter.all false
set_option maxRecDepth 100000
set_option maxHeartbeats 4000000
/-! the data layer: list comprehensions -/
namespace DL
open PySem PySem.Spec PyProof.Rows L2 XR
section
variable {K : PySem.W.Frag} {m : Mo} {H H' : Hp} {X : Cx} {W : WX}
def wipeU (ρ : Env) : List Nat → Env
  | [] => ρ
  | v :: vs => (wipeU ρ vs).set v none
theorem RelS.none {σ : L2.St} {ρ : Env} (r : RelS K m H σ ρ) (i : Nat) : RelS K m H (σ.set i none) (ρ.set i none) := ⟨by rw [List.length_set, List.length_set]; exact r.1, fun j w e => by
  by_cases q : i = j
  · subst q
    by_cases l : i < ρ.length
    · rw [List.getElem?_set_self l] at e
      cases e
    · have z : (ρ.set i Option.none).length ≤ i := by rw [List.length_set]; omega
      rw [List.getElem?_eq_none_iff.mpr z] at e
      cases e
  · rw [List.getElem?_set_ne q] at e ⊢
    exact r.2 j w e⟩
theorem RelS.wipe {σ : L2.St} {ρ : Env} (r : RelS K m H σ ρ) : ∀ ws : List Nat, RelS K m H (L2.wipe σ ws) (wipeU ρ ws)
  | [] => r
  | v :: vs => RelS.none (RelS.wipe r vs) v
theorem RelS.addB {B : List Addr} {σ : L2.St} {ρ : Env} (r : RelS K m H σ ρ) (hB : ∀ b ∈ B, H b = Option.none) : RelS K (DL.addB m B) H σ ρ := ⟨r.1, fun i u e => by
  obtain ⟨v, h1, h2⟩ := r.2 i u e
  exact ⟨v, h1, Rel.addB hB h2⟩⟩
theorem TupR.updB {D a : Addr} {o : HO} {vs : List V} (hD : D ∈ m.ban) (t : TupR K m H a vs) : TupR K m (upd H D o) a vs := by
  rcases t with ⟨k, h⟩ | h
  · have ne : a ≠ D := fun z => k.2 (z ▸ hD)
    refine .inl ⟨k, ?_⟩
    rcases h with h | ⟨o2, h⟩
    · exact .inl (by rw [upd_ne ne]; exact h)
    · exact .inr ⟨o2, by rw [upd_ne ne]; exact h⟩
  · exact .inr h
mutual
theorem Rel.updB {D : Addr} {o : HO} (hD : D ∈ m.ban) : ∀ {v : V} {u : U}, Rel K m H v u → Rel K m (upd H D o) v u
  | _, _, .non => .non
  | _, _, .bl b => .bl b
  | _, _, .int i => .int i
  | _, _, .str x => .str x
  | _, _, .tup h r => .tup (h.updB hD) (RelL.updB hD r)
  | _, _, .lst (a := a) k h r => .lst k (by rw [upd_ne (fun z : a = D => k.2 (z ▸ hD))]; exact h) (RelL.updB hD r)
  | _, _, .raw v => .raw v
theorem RelL.updB {D : Addr} {o : HO} (hD : D ∈ m.ban) : ∀ {vs : List V} {us : List U}, RelL K m H vs us → RelL K m (upd H D o) vs us
  | _, _, .nil => .nil
  | _, _, .cons h r => .cons (Rel.updB hD h) (RelL.updB hD r)
end
/-- nothing is raised -/
def noX : XQ := fun _ _ => False
def noW : WX := fun _ _ _ _ => False
theorem noW_takes {X : Cx} : Takes X noW := fun _ _ ⟨_, _, _, _, _, _, _, _, _, _, _, _, _, _, _, _, z⟩ => z.elim
theorem noX_cont {E : XK} : ContE K m H noX E := fun _ _ _ _ _ z => z.elim
/-- a target as a function of the slots -/
abbrev CG := U → Env → Option Env
def TgOk (K : PySem.W.Frag) (g : TG) (cg : CG) (ws : List Nat) : Prop := ∀ (m : Mo) (H : Hp) (x : V) (u : U) (σ : L2.St) (ρ ρ2 : Env) (Q : L2.St → Hp → Prop), Rel K m H x u → RelS K m H (L2.wipe σ ws) ρ → cg u ρ = some ρ2 →
  (∀ σ2, RelS K m H σ2 ρ2 → L2.wipe σ2 ws = L2.wipe σ ws → Q σ2 H) → g x (L2.wipe σ ws) H Q
def cgName (i : Nat) : CG := fun u ρ => some (ρ.set i (some u))
theorem tg_name (i : Nat) : TgOk K (gName i) (cgName i) [i] := fun m H x u σ ρ ρ2 Q r rs e q => by
  have e2 : ρ.set i (some u) = ρ2 := Option.some.inj e
  subst e2
  exact q _ (RelS.set rs i r) (by
    show ((L2.wipe σ [i]).set i (some x)).set i Option.none = L2.wipe σ [i]
    show ((σ.set i Option.none).set i (some x)).set i Option.none = σ.set i Option.none
    rw [List.set_set, List.set_set])
def setAll : L2.St → List Nat → List V → L2.St
  | σ, i :: is, v :: vs => setAll (σ.set i (some v)) is vs
  | σ, _, _ => σ
def setAllU : Env → List Nat → List U → Env
  | ρ, i :: is, v :: vs => setAllU (ρ.set i (some v)) is vs
  | ρ, _, _ => ρ
def gNs : List Nat → TGs
  | [] => gNil
  | i :: is => gCons (gName i) (gNs is)
theorem gNs_run : ∀ (is : List Nat) (vs : List V) (σ : L2.St) (Q : L2.St → Hp → Prop), vs.length = is.length → Q (setAll σ is vs) H → gNs is vs σ H Q
  | [], [], σ, Q, _, q => ⟨rfl, q⟩
  | i :: is, v :: vs, σ, Q, hl, q => ⟨v, vs, rfl, gNs_run is vs (σ.set i (some v)) Q (by simpa using hl) q⟩
  | [], _ :: _, _, _, hl, _ => by simp at hl
  | _ :: _, [], _, _, hl, _ => by simp at hl
theorem setAll_rel : ∀ (is : List Nat) {vs : List V} {us : List U} {σ : L2.St} {ρ : Env}, RelL K m H vs us → RelS K m H σ ρ → RelS K m H (setAll σ is vs) (setAllU ρ is us)
  | [], _, _, _, _, _, r => by
    unfold setAll setAllU
    exact r
  | _ :: _, _, _, _, _, .nil, r => by
    unfold setAll setAllU
    exact r
  | i :: is, _, _, _, _, .cons h t, r => setAll_rel is t (RelS.set r i h)
theorem wipe_in {i : Nat} : ∀ {σ : L2.St} {ws : List Nat}, i ∈ ws → (L2.wipe σ ws)[i]? = if i < σ.length then some Option.none else Option.none
  | σ, [], h => by cases h
  | σ, v :: vs, h => by
    show ((L2.wipe σ vs).set v Option.none)[i]? = _
    have hl : (L2.wipe σ vs).length = σ.length := wipe_length σ vs
    by_cases e : v = i
    · subst e
      by_cases l : v < σ.length
      · rw [List.getElem?_set_self (by rw [hl]; exact l), if_pos l]
      · rw [if_neg l]
        exact List.getElem?_eq_none_iff.mpr (by rw [List.length_set, hl]; omega)
    · rw [List.getElem?_set_ne e]
      rcases List.mem_cons.mp h with z | z
      · exact absurd z.symm e
      · exact wipe_in z
theorem wipe_off {i : Nat} : ∀ {σ : L2.St} {ws : List Nat}, i ∉ ws → (L2.wipe σ ws)[i]? = σ[i]?
  | σ, [], h => rfl
  | σ, v :: vs, h => by
    show ((L2.wipe σ vs).set v Option.none)[i]? = _
    rw [List.getElem?_set_ne (fun z : v = i => h (by rw [z]; exact List.mem_cons_self))]
    exact wipe_off fun z => h (List.mem_cons_of_mem _ z)
theorem setAll_len : ∀ (is : List Nat) (vs : List V) (σ : L2.St), (setAll σ is vs).length = σ.length
  | [], _, _ => by unfold setAll; rfl
  | _ :: _, [], _ => by unfold setAll; rfl
  | i :: is, v :: vs, σ => by
    unfold setAll
    rw [setAll_len is vs, List.length_set]
theorem setAll_off {j : Nat} : ∀ (is : List Nat) (vs : List V) (σ : L2.St), j ∉ is → (setAll σ is vs)[j]? = σ[j]?
  | [], _, _, _ => by unfold setAll; rfl
  | _ :: _, [], _, _ => by unfold setAll; rfl
  | i :: is, v :: vs, σ, h => by
    unfold setAll
    rw [setAll_off is vs _ fun z => h (List.mem_cons_of_mem _ z), List.getElem?_set_ne (fun z : i = j => h (by rw [z]; exact List.mem_cons_self))]
theorem wipe_setAll (is ws : List Nat) (vs : List V) (σ : L2.St) (h : ∀ i ∈ is, i ∈ ws) : L2.wipe (setAll (L2.wipe σ ws) is vs) ws = L2.wipe σ ws := by
  apply List.ext_getElem?
  intro j
  by_cases e : j ∈ ws
  · rw [wipe_in e, wipe_in e, setAll_len, wipe_length]
  · rw [wipe_off e, setAll_off is vs _ fun z => e (h j z)]
def cgTup (is : List Nat) : CG := fun u ρ => match u with
  | .tup us => if us.length = is.length then some (setAllU ρ is us) else Option.none
  | _ => Option.none
theorem tg_tup {is ws : List Nat} {n : Nat} (hn : is.length = n) (hw : ∀ i ∈ is, i ∈ ws) : TgOk K (gTup K n (gNs is)) (cgTup is) ws := fun m H x u σ ρ ρ2 Q r rs e q => by
  cases u with
  | tup us =>
    have e1 : (if us.length = is.length then some (setAllU ρ is us) else Option.none) = some ρ2 := e
    by_cases hl : us.length = is.length
    · rw [if_pos hl] at e1
      have e2 := Option.some.inj e1
      subst e2
      obtain ⟨a, vs, rfl, _, hs, l⟩ := rel_tup r
      exact ⟨a, vs, rfl, hs, by rw [RelL.len l, hl, hn], gNs_run is vs _ Q (by rw [RelL.len l, hl]) (q _ (setAll_rel is l rs) (wipe_setAll is ws vs σ hw))⟩
    · rw [if_neg hl] at e1
      cases e1
  | _ => cases e
def dYes : WT := fun _ _ Q _ => Q true
def dLc (wi : WI) (cg : CG) (tt : WT) (te : WE) (ws : List Nat) : WE := fun m ρ Q Z => wi m ρ (fun us => us.length ≤ sizeLine ∧ ∃ I : Nat → List U → Prop, I 0 [] ∧
  (∀ (D : Addr) (i : Nat) (u : U) (acc : List U), us[i]? = some u → I i acc → ∃ ρ2, cg u (wipeU ρ ws) = some ρ2 ∧ tt (addB m [D]) ρ2 (fun b => if b = true then te (addB m [D]) ρ2 (fun y => I (i + 1) (acc ++ [y])) noX else I (i + 1) acc) noX) ∧
  ∀ acc, I us.length acc → Q (.lst acc)) Z
theorem pts_yes {X : Cx} : PTs X [] (tT X.K noW dYes) := ⟨fun pins s σ H Q I ⟨m, ρ, Qd, Z, ge, q, c⟩ => pts_nil.run pins s σ H Q I (c true H q stp_refl ge.iv)⟩
/-- the reading of a comprehension -/
theorem t_lc {wi : WI} {g : TG} {cg : CG} {tt : WT} {te : WE} {ws : List Nat} (hT : TgOk K g cg ws) (σ : L2.St) (H : Hp) (Q' : VK) (h : tE K W (dLc wi cg tt te ws) σ H Q') : tLc (tI K W wi) g (tT K noW tt) (tE K noW te) ws σ H Q' := by
  obtain ⟨m, ρ, Q, Z, ge, q, c⟩ := h
  refine ⟨m, ρ, _, Z, ge, q, fun us J H1 ⟨hz, I, h0, turn, fin⟩ s1 i1 wkB D hD => ?_⟩
  have hB : ∀ b ∈ [D], H1 b = Option.none := fun b hb => by
    rw [List.mem_singleton.mp hb]
    exact hD
  have wk := wkB [D] hB
  have kD : okS m D := (ok_new i1 hD).1
  have inD : D ∈ (addB m [D]).ban := List.mem_cons_self
  have iN : invM (addB m [D]) (upd H1 D (.lst [])) := ⟨(inv_new i1 hD).1, fun b hb => by
    rcases List.mem_cons.mp hb with e | e
    · rw [e, upd_same]
      exact fun z => nomatch z
    · exact (inv_new i1 hD).2.1 b e, (inv_new i1 hD).2.2⟩
  have keepD : ∀ {H2 H3 : Hp} {vs : List V}, H2 D = some (.lst vs) → stpM m H2 H3 → H3 D = some (.lst vs) := fun e s => s _ _ e kD
  have cutI : ∀ {H2 : Hp}, invM (addB m [D]) H2 → invM m H2 := fun i => ⟨i.1, fun b hb => i.2.1 b (List.mem_cons_of_mem _ hb), i.2.2⟩
  have upI : ∀ {H2 : Hp} {o : HO}, invM (addB m [D]) H2 → invM (addB m [D]) (upd H2 D o) := fun i => inv_upd i kD
  refine ⟨fun i k H' => k = us.length - i ∧ i ≤ us.length ∧ ∃ acc vs, I i acc ∧ acc.length ≤ i ∧ H' D = some (.lst vs) ∧ stpM m H1 H' ∧ invM (addB m [D]) H' ∧ RelL K (addB m [D]) H' vs acc, ⟨us.length, by simp, Nat.zero_le _, [], [], h0, Nat.le_refl _, upd_same, stp_new hD, iN, .nil⟩, ?_⟩
  rintro i k H2 ⟨rfl, hi, acc, vs, hI, hacc, hDl, t2, i2, rl⟩
  by_cases lt : i < us.length
  · refine .inr ⟨wk.go i H2 lt t2 i2, fun H' => ∃ acc vs, I (i + 1) acc ∧ acc.length ≤ i + 1 ∧ H' D = some (.lst vs) ∧ stpM m H1 H' ∧ invM (addB m [D]) H' ∧ RelL K (addB m [D]) H' vs acc, fun H' h => ⟨us.length - (i + 1), by omega, rfl, lt, h⟩, fun x H3 y => ?_⟩
    obtain ⟨u, eu, s3, i3, ru⟩ := wk.yld i H2 x H3 lt t2 i2 y
    obtain ⟨ρ2, ec, tw⟩ := turn D i u acc eu hI
    have st3 : stpM (addB m [D]) H1 H3 := fun b o h k => stp_trans (m := m) t2 s3 b o h k
    have rs3 : RelS K (addB m [D]) H3 (L2.wipe σ ws) (wipeU ρ ws) := RelS.wipe (RelS.step st3 (RelS.addB (RelS.step s1 ge.rs) hB)) ws
    refine hT (addB m [D]) H3 x u σ _ ρ2 _ ru rs3 ec fun σ2 r2 w2 => ⟨w2, addB m [D], ρ2, _, noX, ⟨i3, r2, noX_cont⟩, tw, fun b H4 q4 s4 i4 => ?_⟩
    have e4 := keepD (keepD hDl s3) s4
    have t4 : stpM m H1 H4 := stp_trans t2 (stp_trans s3 s4)
    have rl4 : RelL K (addB m [D]) H4 vs acc := RelL.step (stp_trans s3 s4) rl
    cases b with
    | false => exact ⟨acc, vs, q4, by omega, e4, t4, i4, rl4⟩
    | true =>
      refine ⟨addB m [D], ρ2, _, noX, ⟨i4, RelS.step s4 r2, noX_cont⟩, q4, fun y v H5 q5 s5 i5 r5 => ?_⟩
      have e5 := keepD e4 s5
      refine ⟨vs, e5, by rw [RelL.len rl4]; omega, acc ++ [y], vs ++ [v], q5, by rw [List.length_append, List.length_singleton]; omega, upd_same, ?_, upI i5, RelL.updB inD (RelL.append (RelL.step s5 rl4) (.cons r5 .nil))⟩
      · intro b o hb kb
        rw [upd_ne (ne_of_none hb hD)]
        exact stp_trans t4 s5 b o hb kb
  · have e : i = us.length := by omega
    subst e
    exact .inl ⟨wk.stop H2 t2 i2, c (.lst acc) (.ref D) H2 (fin acc hI) (stp_trans s1 t2) (cutI i2) (.lst (ok_new i1 hD) hDl (RelL.cut rl))⟩
end
end DL
set_option Elab.async false
set_option linter.all false
set_option maxRecDepth 100000
set_option maxHeartbeats 4000000
/-! the data layer: smaller things -/
namespace DL
open PySem PySem.Spec PyProof.Rows L2 XR
section
variable {K : PySem.W.Frag} {m : Mo} {H H' : Hp} {X : Cx} {W : WX}
/-! ### keywords alone -/
def sw2 {α : Type} : List α → List α
  | [a, b] => [b, a]
  | l => l
def same {α : Type} (l : List α) : List α := l
def rv4 {α : Type} : List α → List α
  | [a, b, c, d] => [d, c, b, a]
  | l => l
theorem kbd_of {x qual : Str} {st : Stmt} {f : Addr} {fd : FuncData} {ps ks : List Str} {n : Nat} {pm : {α : Type} → List α → List α} (F : Fun K x qual st f fd)
    (h : ∀ (kV doc pq : Value) (an : Option Addr) (cdv ct : Value) (ws : List Value), ws.length = n → bindArgs (PySem.W.fnOf x qual (defArgs st) (defBody st) (defScope st) .none kV doc pq an cdv ct) ⟨[], ks.zip ws⟩ = pure (ps.zip (pm ws)))
    (rel : ∀ {vs : List V} {ws : List Value}, vs.length = n → Vals vs ws → Vals (pm vs) (pm ws)) (relL : ∀ {m : Mo} {H : Hp} {vs : List V} {us : List U}, vs.length = n → RelL K m H vs us → RelL K m H (pm vs) (pm us)) : KBd K fd ps ks n pm := by
  obtain ⟨oc, od, kV, doc, pq, an, cdv, ct, osl, rfl, lk, hcd⟩ := F.ex
  exact ⟨fun s ws _ hl => .of_eq (h kV doc pq an cdv ct ws hl), rel, relL⟩
theorem sw2_vals {vs : List V} {ws : List Value} (_ : vs.length = 2) (r : Vals vs ws) : Vals (sw2 vs) (sw2 ws) := by
  match vs, ws, r with
  | [], _, .nil => exact .nil
  | [_], _, .cons a .nil => exact .cons a .nil
  | [_, _], _, .cons a (.cons b .nil) => exact .cons b (.cons a .nil)
  | _ :: _ :: _ :: _, _, .cons a (.cons b (.cons c d)) => exact .cons a (.cons b (.cons c d))
theorem sw2_rel {m : Mo} {H : Hp} {vs : List V} {us : List U} (_ : vs.length = 2) (r : RelL K m H vs us) : RelL K m H (sw2 vs) (sw2 us) := by
  match vs, us, r with
  | [], _, .nil => exact .nil
  | [_], _, .cons a .nil => exact .cons a .nil
  | [_, _], _, .cons a (.cons b .nil) => exact .cons b (.cons a .nil)
  | _ :: _ :: _ :: _, _, .cons a (.cons b (.cons c d)) => exact .cons a (.cons b (.cons c d))
theorem same_vals {n : Nat} {vs : List V} {ws : List Value} (_ : vs.length = n) (r : Vals vs ws) : Vals (same vs) (same ws) := r
theorem same_rel {n : Nat} {m : Mo} {H : Hp} {vs : List V} {us : List U} (_ : vs.length = n) (r : RelL K m H vs us) : RelL K m H (same vs) (same us) := r
theorem rv4_vals {vs : List V} {ws : List Value} (h : vs.length = 4) (r : Vals vs ws) : Vals (rv4 vs) (rv4 ws) := by
  match vs, ws, h, r with
  | [_, _, _, _], _, _, .cons a (.cons b (.cons c (.cons d .nil))) => exact .cons d (.cons c (.cons b (.cons a .nil)))
theorem rv4_rel {m : Mo} {H : Hp} {vs : List V} {us : List U} (h : vs.length = 4) (r : RelL K m H vs us) : RelL K m H (rv4 vs) (rv4 us) := by
  match vs, us, h, r with
  | [_, _, _, _], _, _, .cons a (.cons b (.cons c (.cons d .nil))) => exact .cons d (.cons c (.cons b (.cons a .nil)))
/-! ### is, is not -/
def uIsN : U → Bool
  | .non => true
  | _ => false
def notRaw : U → Bool
  | .raw _ => false
  | _ => true
theorem rel_isN {v : V} {u : U} (r : Rel K m H v u) (h : notRaw u = true) : decide (v = .non) = uIsN u := by
  cases r with
  | non => rfl
  | raw v => cases h
  | _ => rfl
def gIsN : W1 := fun a Q => notRaw a = true ∧ Q (.bl (uIsN a))
def gNotN : W1 := fun a Q => notRaw a = true ∧ Q (.bl (!uIsN a))
variable {a b : Expr} {wa wb : WE} {pos : Pos}
theorem de_isN {j pos'} (ha : DE X W a wa) : DE X W (.Compare a [.Is] [.Constant .none j pos'] pos) (dUn gIsN wa) := PE.weak (pe_cmp (pc_isN ha)) fun σ H Q' ⟨m, ρ, Q, Z, ge, q, c⟩ =>
  ⟨m, ρ, _, Z, ge, q, fun u v H1 ⟨h, q1⟩ s1 i1 r1 => by
    show Q' (V.bl (decide (v = V.non))) H1
    rw [rel_isN r1 h]
    exact c _ _ H1 q1 s1 i1 (.bl _)⟩
theorem de_notN {j pos'} (ha : DE X W a wa) : DE X W (.Compare a [.IsNot] [.Constant .none j pos'] pos) (dUn gNotN wa) := PE.weak (pe_cmp (pc_notN ha)) fun σ H Q' ⟨m, ρ, Q, Z, ge, q, c⟩ =>
  ⟨m, ρ, _, Z, ge, q, fun u v H1 ⟨h, q1⟩ s1 i1 r1 => by
    show Q' (V.bl (!decide (v = V.non))) H1
    rw [rel_isN r1 h]
    exact c _ _ H1 q1 s1 i1 (.bl _)⟩
def gIsB : W2 := fun a b Q => ∃ x y, a = .bl x ∧ b = .bl y ∧ Q (.bl (decide (x = y)))
def gNotB : W2 := fun a b Q => ∃ x y, a = .bl x ∧ b = .bl y ∧ Q (.bl (!decide (x = y)))
theorem opd_isB : OpD K rIsB gIsB := fun m x y a b H Q Q' iv ra rb ⟨i, j, ea, eb, q⟩ c => by
  subst ea eb
  exact ⟨i, j, rel_bl ra, rel_bl rb, c.here iv q (.bl _)⟩
theorem opd_notB : OpD K rNotB gNotB := fun m x y a b H Q Q' iv ra rb ⟨i, j, ea, eb, q⟩ c => by
  subst ea eb
  exact ⟨i, j, rel_bl ra, rel_bl rb, c.here iv q (.bl _)⟩
/-! ### constants of the module -/
theorem de_gint {x : Str} {i : Int} {t : Tok} (hg : Gl X x) (hm : X.mg x = some (.int i t)) (hd : (x == ("__debug__" : Str)) = false := by decide) : DE X W (.Name x pos) (dC (.int i)) := de_c (pe_glob hg hm (v := .int i) ⟨t, rfl⟩ hd) fun _ _ _ => .int i
/-- a tuple of flat values that the module holds -/
structure KTup (K : PySem.W.Frag) (z : Addr) (us : List U) : Prop where
  ex : ∃ vs : List V, (∃ (o : Obj) (its : Array Value) (n : Nat), K.lookup z = some o ∧ o.cls = .type "tuple" ∧ o.data = .seq its n ∧ its.size ≤ sizeLine ∧ Vals vs its.toList) ∧ ∀ m H, RelL K m H vs us
theorem de_gtup {x : Str} {z : Addr} {us : List U} (hg : Gl X x) (hm : X.mg x = some (.ref z)) (k : KTup X.K z us) (hd : (x == ("__debug__" : Str)) = false := by decide) : DE X W (.Name x pos) (dC (.tup us)) := de_c (pe_glob hg hm (v := .ref z) rfl hd) fun m H _ => by
  obtain ⟨vs, h, r⟩ := k.ex
  exact .tup (.inr h) (r m H)
/-! ### max of three -/
def rMax3 : List V → Hp → VK → Prop := fun xs H Q => ∃ i j k : Int, xs = [.int i, .int j, .int k] ∧ Q (.int (if j > i then (if k > j then k else j) else (if k > i then k else i))) H
theorem cr_max3 (hc : X.calm = true) : CallR X (.builtin "max") rMax3 := by
  intro pins s σ H xs us Q I r h
  obtain ⟨i, j, k, rfl, q⟩ := h
  cases r with
  | cons r1 r =>
    cases r with
    | cons r2 r =>
      cases r with
      | cons r3 r =>
        cases r
        obtain ⟨t1, rfl⟩ := r1
        obtain ⟨t2, rfl⟩ := r2
        obtain ⟨t3, rfl⟩ := r3
        refine max_three_ints (I.ok.hd hc) fun h' tk hk => ⟨.int _, H, I.kept hk, ?_, q⟩
        by_cases h1 : j > i
        · by_cases h2 : k > j
          · rw [if_pos h1, if_pos h2, if_pos h1, if_pos h2]
            exact ⟨_, rfl⟩
          · rw [if_pos h1, if_neg h2, if_pos h1, if_neg h2]
            exact ⟨_, rfl⟩
        · by_cases h2 : k > i
          · rw [if_neg h1, if_pos h2, if_neg h1, if_pos h2]
            exact ⟨_, rfl⟩
          · rw [if_neg h1, if_neg h2, if_neg h1, if_neg h2]
            exact ⟨_, rfl⟩
def fMax3 : WF := fun us Q => ∃ i j k : Int, us = [.int i, .int j, .int k] ∧ Q (.int (if j > i then (if k > j then k else j) else (if k > i then k else i)))
theorem cal_max3 : CalD K rMax3 fMax3 := fun m vs us H Q Q' iv r ⟨i, j, k, e, q⟩ c => by
  subst e
  obtain ⟨v, x, z, rfl, a, b, d⟩ := rl3 r
  exact ⟨i, j, k, by rw [rel_int a, rel_int b, rel_int d], c.here iv q (.int _)⟩
/-! ### classes as values: int, tuple, .. in isinstance -/
theorem de_ty {x : Str} {n : String} (hg : Gl X x) (hm : X.mg x = none) (hv : bootBuiltins x = some (.type n)) (hn : x ≠ "__name__" := by decide) (hd : (x == ("__debug__" : Str)) = false := by decide) : DE X W (.Name x pos) (dC (.raw (.ty n))) :=
  de_c (pe_bltn hg hm hv (v := .ty n) rfl hn hd) fun _ _ _ => .raw _
end
end DL
set_option Elab.async false
set_option linter.all false
set_option maxRecDepth 100000
set_option maxHeartbeats 4000000
/-! a def that asks isinstance alone, on the machine: every object is kept -/
namespace DL
open PySem PySem.Spec PyProof.Rows L2 XR
/-- what is asked of the module and the built-in names -/
structure Tops (h : Heap) (mg : Str → Option Value) : Prop where
  g : h.Ns mainGlobals mg
  b : ∃ mb, h.Ns builtinsNs mb ∧ ∀ x : Str, x ≠ "__name__" → mb x = bootBuiltins x
theorem Tops.keeps {h h' : Heap} {mg : Str → Option Value} (T : Tops h mg) (k : ∀ b o, h.get? b = some o → h'.get? b = some o) : Tops h' mg := by
  obtain ⟨mb, h1, h2⟩ := T.b
  exact ⟨T.g.keeps k, mb, h1.keeps k, h2⟩
section
variable {prog : Program} {w : World} {A : Around} {E : Value → Shared → Prop} {s : Shared} {K : PySem.W.Frag} {mg : Str → Option Value} {env : PySem.Env} {m : Str → Option Value}
theorem low_blt {M : Model} {x : Str} {u : Value} {pos : Pos} {Q : Value → Shared → Prop} (hk : env.scope.kind = .function) (eg : env.globals = mainGlobals) (eb : env.builtins = builtinsNs) (T : Tops s.heap mg) (hg : env.kindOf x = some .globalImplicit) (hm : mg x = none)
    (hv : bootBuiltins x = some u) (h : Q u s) (hn : x ≠ "__name__" := by decide) (hd : (x == ("__debug__" : Str)) = false := by decide) : wpAny M A (eval (.Name x pos) env) Q E s := by
  obtain ⟨mb, h1, h2⟩ := T.b
  exact Calls.Name_function_global hk hg (Calls.loadGlobal_builtin (by rw [eg]; exact T.g) hm (by rw [eb]; exact h1) ((h2 x hn).trans hv) h) hd
/-- isinstance(x, T) -/
theorem low_isi {x n : Str} {ty : String} {v t : Value} {Pk : Heap → Prop} {bb : Bool} {p1 p2 p3 p4 : Pos} {Q : Value → Shared → Prop} (hk : env.scope.kind = .function) (eg : env.globals = mainGlobals) (eb : env.builtins = builtinsNs) (T : Tops s.heap mg)
    (g1 : env.kindOf "isinstance" = some .globalImplicit) (m1 : mg "isinstance" = none) (g2 : env.kindOf n = some .globalImplicit) (m2 : mg n = none) (hv : bootBuiltins n = some (.type ty)) (nn : n ≠ "__name__") (nd : (n == ("__debug__" : Str)) = false)
    (gx : env.kindOf x = some .local) (hn : s.heap.Ns env.locals m) (hx : m x = some v) (xd : (x == ("__debug__" : Str)) = false) (X : K.In s.heap) (Z : PySem.W.KitX K v t Pk) (hp : Pk s.heap) (no : v ≠ .builtin "__main__.__loader__#opaque") (e : PySem.W.kitOne K t (.type ty) = some bb)
    (h : ∀ tk, Q (.bool bb) { s with toks := tk })
    (he : starEach [.Name x p2, .Name n p3] env = (false, eval (.Name x p2) env) :: starEach [.Name n p3] env := by rfl) (he2 : starEach [.Name n p3] env = (false, eval (.Name n p3) env) :: starEach [] env := by rfl) (hpl : (backTo p4 (starEach [.Name n p3] env)).any (·.1) = false := by rfl) :
    wpAny (model prog w) A (eval (.Call (.Name "isinstance" p1) [.Name x p2, .Name n p3] [] p4) env) Q E s := by
  refine wpAny_Call_Name_kw (low_blt hk eg eb T g1 m1 boot_isinstance ?_)
  refine PyProof.Rows.callWith_builtin1 ?_ he hpl
  rw [he, he2]
  show wpAny _ _ (spliced ((false, eval (.Name x p2) env) :: (false, _) :: backTo p4 (starEach [] env))) _ _ s
  refine Calls.spliced_cons (wpAny_Name (wpAny_loadName_local hk gx hn hx ?_) xd)
  refine Calls.spliced_cons ?_
  rw [if_neg (fun z => Bool.noConfusion z)]
  refine low_blt hk eg eb T g2 m2 hv (Calls.spliced_nil ?_) nn nd
  exact PySem.W.kia_one Z X hp e no h
/-- the def is_whole, wherever its rows stand -/
def wArgs (p1 : Pos) : Arguments := { posonlyargs := [], args := [{ arg := "thing", annotation := none, pos := p1 }], vararg := none, kwonlyargs := [], kw_defaults := [], kwarg := none, defaults := [] }
def wBody (a1 a2 a3 a4 b1 b2 b3 b4 c d e : Pos) : List Stmt := [.Return (some (.BoolOp .And [.Call (.Name "isinstance" a1) [.Name "thing" a2, .Name "int" a3] [] a4, .UnaryOp .Not (.Call (.Name "isinstance" b1) [.Name "thing" b2, .Name "bool" b3] [] b4) c] d)) e]
def wScope : Scope := { kind := .function, names := [(PySem.Str.ofString "thing", .local), (PySem.Str.ofString "isinstance", .globalImplicit), (PySem.Str.ofString "int", .globalImplicit), (PySem.Str.ofString "bool", .globalImplicit)], isGenerator := false, isCoroutine := false, more := [] }
theorem whole_call {f : Addr} {oc : Value} {od : Option Addr} {osl : Array (Option Value)} {qual : Str} {kV doc pm cdv ct v t : Value} {an : Option Addr} {p1 a1 a2 a3 a4 b1 b2 b3 b4 c d e : Pos} {Pk : Heap → Prop} {bi bb : Bool}
    (lk : K.lookup f = some ⟨oc, od, .func (PySem.W.fnOf "is_whole" qual (wArgs p1) (wBody a1 a2 a3 a4 b1 b2 b3 b4 c d e) wScope .none kV doc pm an cdv ct), osl⟩) (hcd : PySem.W.codeIn K cdv qual = true)
    (X : K.In s.heap) (T : Tops s.heap mg) (lim : s.heap.NoLimit) (m1 : mg "isinstance" = none) (m2 : mg "int" = none) (m3 : mg "bool" = none) (Z : PySem.W.KitX K v t Pk) (hp : Pk s.heap) (hk : ∀ h h' : Heap, (∀ b o, h.get? b = some o → h'.get? b = some o) → Pk h → Pk h')
    (no : v ≠ .builtin "__main__.__loader__#opaque") (ei : PySem.W.kitOne K t (.type "int") = some bi) (eb : PySem.W.kitOne K t (.type "bool") = some bb) (dp : A.depth + 5 < recursionLimit) :
    wpAny (model prog w) A (call (.ref f) [v]) (fun y s' => y = .bool (bi && !bb) ∧ Keeps s s') E s := by
  refine wpAny_call (codeAny_call_function (by omega) (X _ _ lk) rfl rfl rfl rfl (PySem.W.codeRec_of X hcd) ?_)
  refine (BindsTo.of_eq rfl : BindsTo s (PySem.W.fnOf "is_whole" qual (wArgs p1) (wBody a1 a2 a3 a4 b1 b2 b3 b4 c d e) wScope .none kV doc pm an cdv ct) ⟨[v], []⟩ [("thing", v)]) _ _ _ _ ?_
  refine wpAny_newFunctionEnv_cells rfl (fun y hy => by
    rw [List.mem_singleton.mp hy]
    exact .inl rfl) fun env he s1 ic => ?_
  subst he
  have kp := ic.toInCall.keep
  have T1 := T.keeps kp
  have X1 : K.In s1.heap := X.keeps kp
  have hn := ic.toInCall.ns
  refine ⟨lim.keeps kp, codeAny_func ?_⟩
  have fin : ∀ tk : Nat, Keeps s { s1 with toks := tk } := fun tk => by
    obtain ⟨h', t', rfl, k⟩ := ic.toInCall.done
    exact ⟨h', tk, rfl, k⟩
  refine wpAny_execs_cons (wpAny_Return_some (BoolOp_and ?_))
  refine low_isi (mg := mg) (K := K) (v := v) (t := t) (Pk := Pk) (bb := bi) rfl rfl rfl T1 rfl m1 rfl m2 (by decide +kernel) (by decide) (by decide) rfl hn rfl (by decide) X1 Z (hk _ _ kp hp) no ei fun tk => ?_
  refine wpAny_truthy_bool ?_
  cases bi with
  | false => exact ⟨rfl, fin tk⟩
  | true =>
    refine BoolOp_one (UnaryOp_ ?_)
    refine low_isi (mg := mg) (K := K) (v := v) (t := t) (Pk := Pk) (bb := bb) rfl rfl rfl (T1.keeps fun _ _ z => z) rfl m1 rfl m3 (by decide +kernel) (by decide) (by decide) rfl (hn.keeps fun _ _ z => z) rfl (by decide) (X1.keeps fun _ _ z => z) Z (hk _ _ kp hp) no eb fun tk2 => ?_
    exact not_of (wpAny_truthy_bool ⟨by cases bb <;> rfl, fin tk2⟩)
end
end DL
set_option Elab.async false
set_option linter.all false
set_option maxRecDepth 100000
set_option maxHeartbeats 4000000
/-! the data layer: all(is_whole(x) for x in t), t a tuple of data -/
namespace DL
open PySem PySem.Spec PyProof.Rows L2 XR
open GxR (TabB TabG Tabbed GenS)
section
variable {X : Cx} {m : Mo} {W : WX} {pins : List (Addr × Obj)} {σ : L2.St} {H H1 : Hp} {s s1 : Shared} {P c : Addr}
/-- what is tracked is not of the base -/
theorem base_free (I : Inv X pins σ H s) {b : Addr} {o : HO} (h : H b = some o) : X.base.get? b = none := by
  cases q : X.base.get? b with
  | none => rfl
  | some u =>
    obtain ⟨e1, n⟩ := I.ok.bs b u q
    have z := I.base.free b u e1 n (I.ok.noex b u q)
    rw [z] at h
    cases h
/-- kept, but for P -/
def KeptBut (P : Addr) (h h' : Heap) : Prop := ∀ b o, b ≠ P → h.get? b = some o → h'.get? b = some o
theorem base_kept (I : Inv X pins σ H s) {o : HO} (hP : H P = some o) {h' : Heap} (k : KeptBut P s.heap h') : ∀ b o, X.base.get? b = some o → h'.get? b = some o := fun b u e => k b u (fun z => by
  rw [z, base_free I hP] at e
  cases e) (I.bk b u e)
theorem tops_base (I : Inv X pins σ H s) : Tops X.base X.mg := ⟨I.ok.mod.glob, I.ok.mod.blt⟩
theorem kitAt_kept {a : Addr} {T : String} {h h' : Heap} (k : ∀ o, h.get? a = some o → h'.get? a = some o) (p : PySem.W.KitAt a T h) : PySem.W.KitAt a T h' := by
  obtain ⟨o, e, z⟩ := p
  exact ⟨o, k o e, z⟩
/-- isinstance's answers for data, wherever the rest goes -/
theorem kit_rel {v : V} {u : U} {x : Value} {ps : Array Value} (I : Inv X pins σ H s) (hP : H P = some (.tbl ps)) (r : Rel X.K m H v u) (nr : notRaw u = true) (rx : RelV v x) :
    ∃ (Pk : Heap → Prop) (t : String), tyN u = some t ∧ PySem.W.KitX X.K x (.type t) Pk ∧ x ≠ .builtin "__main__.__loader__#opaque" ∧ (∀ h', KeptBut P s.heap h' → Pk h') ∧ ∀ h h' : Heap, (∀ b o, h.get? b = some o → h'.get? b = some o) → Pk h → Pk h' := by
  cases r with
  | non =>
    obtain rfl : x = Value.none := rx
    exact ⟨_, _, rfl, PySem.W.kitx_none, (fun z => nomatch z), fun _ _ => trivial, fun _ _ _ _ => trivial⟩
  | bl b =>
    obtain rfl : x = Value.bool b := rx
    exact ⟨_, _, rfl, PySem.W.kitx_bool, (fun z => nomatch z), fun _ _ => trivial, fun _ _ _ _ => trivial⟩
  | int i =>
    obtain ⟨t, rfl⟩ := (show ∃ t, x = Value.int i t from rx)
    exact ⟨_, _, rfl, PySem.W.kitx_int, (fun z => nomatch z), fun _ _ => trivial, fun _ _ _ _ => trivial⟩
  | str y =>
    obtain ⟨t, rfl⟩ := (show ∃ t, x = Value.str y t from rx)
    exact ⟨_, _, rfl, PySem.W.kitx_str, (fun z => nomatch z), fun _ _ => trivial, fun _ _ _ _ => trivial⟩
  | @tup a vs us h l =>
    obtain rfl : x = Value.ref a := rx
    obtain ⟨its, rv, ⟨o, e, ec, _⟩, _⟩ := I.tuple h.sq
    have ne : a ≠ P := by
      rcases h with ⟨_, h | ⟨o2, h⟩⟩ | ⟨o2, i2, n2, h, _⟩
      · exact ne_of h hP (fun z => nomatch z)
      · exact ne_of h hP (fun z => nomatch z)
      · intro z
        have e2 := base_free I hP
        rw [← z, I.ok.mod.kin a o2 h] at e2
        cases e2
    exact ⟨_, _, rfl, PySem.W.kitx_tuple, (fun z => nomatch z), fun h' k => ⟨o, k a o ne e, ec⟩, fun _ _ k p => kitAt_kept (k a) p⟩
  | @lst a vs us k h l =>
    obtain rfl : x = Value.ref a := rx
    obtain ⟨_, its, n, _, e⟩ := (show ObjOk X.prog X.w H s.heap a (.lst vs) from I.hok a _ h)
    have ne : a ≠ P := ne_of h hP (fun z => nomatch z)
    exact ⟨_, _, rfl, PySem.W.kitx_list, (fun z => nomatch z), fun h' k => ⟨_, k a _ ne e, rfl⟩, fun _ _ k p => kitAt_kept (k a) p⟩
  | raw v => cases nr
def isIntU : U → Bool
  | .int _ => true
  | _ => false
theorem kit_int {u : U} {t : String} (h : tyN u = some t) : ∃ bi bb, kitB t "int" = some bi ∧ kitB t "bool" = some bb ∧ (bi && !bb) = isIntU u := by
  cases u with
  | non => cases h; exact ⟨false, false, by decide +kernel, by decide +kernel, rfl⟩
  | bl b => cases h; exact ⟨true, true, by decide +kernel, by decide +kernel, rfl⟩
  | int i => cases h; exact ⟨true, false, by decide +kernel, by decide +kernel, rfl⟩
  | str x => cases h; exact ⟨false, false, by decide +kernel, by decide +kernel, rfl⟩
  | tup us => cases h; exact ⟨false, false, by decide +kernel, by decide +kernel, rfl⟩
  | lst us => cases h; exact ⟨false, false, by decide +kernel, by decide +kernel, rfl⟩
  | raw v => cases h
/-- a generator of bools, ready to be walked -/
def GReady (X : Cx) (pins : List (Addr × Obj)) (σ : L2.St) (H1 : Hp) (P : Addr) (n : Nat) (pb : Nat → Bool) (g : Addr) (s5 : Shared) : Prop :=
  ∃ (fp wr : List Addr) (G : Array GenState → Array GenState → Prop) (F : Nat → Value → Prop) (St : Nat → Shared → Prop), WalksS X.prog X.w X.A.in1 g fp wr G n F St ∧ St 0 s5 ∧ TruthOf X.prog X.w X.A.in1 F pb ∧
    ∀ s', Moved wr G s5 s' → ∃ H2, Tabbed P H1 H2 ∧ Inv X pins σ H2 s'
/-- the element: a bool for each item -/
def EltT (X : Cx) (P : Addr) (scope : Scope) (x : Str) (elt : Expr) (s1 : Shared) (its : List Value) (pb : Nat → Bool) : Prop :=
  ∀ (i : Nat) (u code : Value) (C bi : Addr) (cl : List (Str × Addr)) (A' : Around) (E' : Value → Shared → Prop) (s2 : Shared) (m2 : Str → Option Value), its[i]? = some u → A'.handled = none → A'.depth ≤ X.A.depth + 1 → KeptBut P s1.heap s2.heap →
    s2.heap.Ns C m2 → m2 x = some u → wpAny (model X.prog X.w) A' (eval elt (genEnv scope cl C code bi X.env)) (fun y s3 => y = .bool (pb i) ∧ Keeps s2 s3) E' s2
theorem gen_tup {elt iter : Expr} {x : Str} {px gpos : Pos} {scope : Scope} {te : TE} {k : Nat} {Q' : Value → Shared → Prop} {R : Addr → List V → Hp → Prop}
    (hr : Room k X.A) (TB : TabB X.base X.mg c P) (hcode : X.env.code = .ref c) (S : GenS X.env scope x) (hi : PE X iter te) (hs : ∀ v, genFold iter X.env v = pure v) (I : Inv X pins σ H s)
    (h : te σ H fun v H1 => ∃ a vs, v = .ref a ∧ SqT X.K H1 a vs ∧ TabG H1 P ∧ R a vs H1)
    (hel : ∀ a vs H1 s1 its, R a vs H1 → Inv X pins σ H1 s1 → (∃ ps, H1 P = some (.tbl ps)) → Vals vs its → ∃ pb : Nat → Bool, EltT X P scope x elt s1 its pb ∧ ∀ g s5, GReady X pins σ H1 P its.length pb g s5 → Q' (.ref g) s5) :
    wpAny (model X.prog X.w) X.A (eval (.GeneratorExp elt [⟨.Name x px, iter, [], 0⟩] scope gpos) X.env) Q' X.xe s := by
  refine wpAny_GeneratorExp_walksQD hr.hd S.co (closure_ok S.free) S.cell S.dot S.loc S.kind (by have := hr.dp; omega) ?_ hs
  refine thn (hi.run pins s σ H _ I h) fun xv s1 hh => ?_
  obtain ⟨v, H1, I1, r1, a, vs, ev, hq, ⟨ps, hP, ht⟩, hR⟩ := hh
  subst ev
  obtain rfl : xv = Value.ref a := r1
  obtain ⟨its, rv, ⟨ob, eb, ec, nb, ed⟩, hz⟩ := I1.tuple hq
  obtain ⟨pb, hE, hfin⟩ := hel a vs H1 s1 its hR I1 ⟨ps, hP⟩ rv
  have hT : s1.heap.IsTuple a its.toArray := ⟨ob, eb, ec, nb, ed⟩
  have alt : a < s1.heap.objs.size := Heap.lt_size eb
  have hPs : s1.heap.get? P = some { cls := .none, data := .fields ps } := I1.hok P _ hP
  have Plt : P < s1.heap.objs.size := Heap.lt_size hPs
  have aP : a ≠ P := fun z => by
    rw [z, hPs] at eb
    cases eb
    cases ec
  refine wpAny_pyIter_tuple hT ?_
  generalize hL : s1.heap.objs.size = L
  have altL : a < L := by
    rw [← hL]
    exact alt
  have below : ∀ b o, s1.heap.get? b = some o → b < L := fun b o e => by
    rw [← hL]
    exact Heap.lt_size e
  generalize ho : s1.heap.push { cls := .type "tuple_iterator", data := .fields #[.ref a, .int 0 0] } = hp
  have up : ∀ b o, s1.heap.get? b = some o → hp.get? b = some o := fun b o e => by
    rw [← ho]
    exact Heap.get?_push_of_some _ e
  have at_ : hp.get? L = some { cls := .type "tuple_iterator", data := .fields #[.ref a, .int 0 0] } := by
    rw [← ho, ← hL]
    exact Heap.get?_push_size _ rfl
  have szp : hp.objs.size = L + 1 := by rw [← ho, Heap.size_push, hL]
  have limp : hp.NoLimit := by
    rw [← ho]
    exact I1.nolimit.push _
  have Wk : ∀ A' : Around, A'.handled = none → PySem.Walks X.prog X.w A' L [L, a] [L] its.toArray.size (fun i v => its.toArray[i]? = some v) (fun i h => h.IsTupleIter L a i ∧ h.IsTuple a its.toArray) :=
    fun A' hA => PySem.Walks.tuple hA L a (Nat.ne_of_lt altL) its.toArray
  have PL : P ≠ L := Nat.ne_of_lt (below P _ hPs)
  obtain ⟨bm, obm, e1, e2, e3, e4, e5, e6, e7, e8⟩ := TB.bm
  have hP2 := up _ _ hPs
  have cd : PySem.W.CodeHd hp c P := TB.code.keeps fun b u e => up b u (I1.bk b u e)
  have csP : cStatics ≠ P := fun z => by
    obtain ⟨_, hns, _⟩ := I1.nolimit
    obtain ⟨o', es, ep, hoo, hd, _⟩ := hns
    rw [z, hPs] at hoo
    cases hoo
    cases hd
  have csL : cStatics < L := by
    obtain ⟨_, hns, _⟩ := I1.nolimit
    rw [← hL]
    exact hns.lt
  refine ⟨limp, ?_⟩
  have cont : ∀ (code : Value) (h3 : Heap) (tk : Nat) (ps' : Array Value), Heap.ExtBut P hp h3 → hp.objs.size ≤ h3.objs.size → h3.get? P = some { cls := .none, data := .fields ps' } → (∃ more, ps' = ps ++ more) → TriplesOk ps'.toList →
      wpAny (model X.prog X.w) X.A (builtinsFor X.env.globals X.env.builtins) (fun bi s₄ =>
        ∃ Ia fp wr n₀ Pf St₀ pz F, Value.ref L = .ref Ia ∧ (∀ A' : Around, A'.handled = none → PySem.Walks X.prog X.w A' Ia fp wr n₀ Pf St₀) ∧ St₀ 0 s₄.heap ∧ (∀ b ∈ fp, b < s₄.heap.objs.size) ∧ s₄.heap.NoLimit ∧ cStatics ∉ wr ∧
          (∀ href : Heap, (∀ b o, s₄.heap.get? b = some o → href.get? b = some o) →
            QuietGenD X.prog X.w (genEnv scope (cloFrom X.env.cells scope.names []) s₄.heap.objs.size code bi X.env) x [] elt (List.range s₄.heap.objs.size) wr Pf pz F href (X.A.depth + 1) (X.A.units + 8)) ∧
          (∀ a h₅ tk gs, gs.bare = true → s₄.heap.objs.size < a → h₅.objs.size = a + 1 → (∀ b o, s₄.heap.get? b = some o → h₅.get? b = some o) →
            WalksS X.prog X.w X.A.in4 a (a :: s₄.heap.objs.size :: List.range s₄.heap.objs.size) (s₄.heap.objs.size :: wr) (GenOnlyQ s₄.gens.size) (passing pz n₀ 0).length
              (fun j y => ∃ i, (passing pz n₀ 0)[j]? = some i ∧ F i y) (GenAt X.prog X.w X.A.in4 a s₄.gens.size s₄.heap.objs.size (List.range s₄.heap.objs.size) wr pz n₀ F) →
            GenAt X.prog X.w X.A.in4 a s₄.gens.size s₄.heap.objs.size (List.range s₄.heap.objs.size) wr pz n₀ F 0 { s₄ with gens := s₄.gens.push gs, toks := tk, heap := h₅ } →
            Q' (.ref a) { s₄ with gens := s₄.gens.push gs, toks := tk, heap := h₅ })) X.xe { s1 with heap := h3, toks := tk } := by
    intro code h3 tk ps' hx hsz hP3 hmore ht3
    have k3 : KeptBut P s1.heap h3 := fun b u nb e => hx b u nb (up b u e)
    refine wpAny_builtinsFor (m := X.mg) (by rw [I1.ok.glob]; exact ((I1.mod.glob.keeps I1.bk).keeps up).extBut hx TB.gP) e1 e2 (k3 _ _ e4 (I1.bk _ _ e5)) e6 e7 e8 ?_
    refine ⟨L, [L, a], [L], its.toArray.size, fun i v => its.toArray[i]? = some v, fun i h => h.IsTupleIter L a i ∧ h.IsTuple a its.toArray, fun _ => true, fun i y => y = .bool (pb i), rfl, Wk, ⟨?_, ?_⟩, ?_, limp.extBut hx csP, ?_, ?_, ?_⟩
    · exact ⟨_, hx L _ (Ne.symm PL) at_, rfl, rfl⟩
    · exact ⟨ob, k3 a ob aP eb, ec, nb, ed⟩
    · intro b hb
      have hl3 : L + 1 ≤ h3.objs.size := by rw [← szp]; exact hsz
      show b < h3.objs.size
      rcases List.mem_cons.mp hb with z | z
      · rw [z]
        exact hl3
      · rw [List.mem_singleton.mp z]
        exact Nat.lt_of_lt_of_le (Nat.lt_succ_of_lt altL) hl3
    · intro z
      exact absurd (List.mem_singleton.mp z) (Nat.ne_of_lt csL)
    · intro href hhref
      refine ⟨fun A' E' i v s₂ m₂ hA _ _ hPv hn hm hk => ?_, fun A' E' i v s₂ m₂ hA hdp _ hPv _ hn hm hk => ?_⟩
      · simp only [List.forIn_nil]
        exact wpAny_pure ⟨rfl, GxR.keeps_refl _⟩
      · have hv : its[i]? = some v := by simpa using hPv
        refine hE i v code h3.objs.size builtinsNs _ A' E' s₂ m₂ hv hA hdp (fun b o nb e => ?_) hn hm
        have lt := below b o e
        refine hk b (List.mem_range.mpr ?_) (fun z => ?_) o (hhref b o (k3 b o nb e))
        · show b < h3.objs.size
          have hl3 : L + 1 ≤ h3.objs.size := by rw [← szp]; exact hsz
          exact Nat.lt_of_lt_of_le (Nat.lt_succ_of_lt lt) hl3
        · exact absurd (List.mem_singleton.mp z) (Nat.ne_of_lt lt)
    · intro g h5 tk5 gs hgb hag hsz5 hk5 W5 hat
      simp only [GxR.passing_true, List.length_range] at W5
      have hn : its.toArray.size = its.length := by simp
      refine hfin g _ ⟨_, _, _, _, _, by rw [← hn]; exact W5.in4_1, hat, fun j y sj Qj Ej hy hQj => ?_, fun s' hm => ?_⟩
      · obtain ⟨i, hij, hF⟩ := hy
        obtain ⟨_, ej⟩ := List.getElem?_eq_some_iff.mp hij
        rw [List.getElem_range] at ej
        have hF2 : y = .bool (pb i) := hF
        rw [hF2, ← ej]
        exact wpAny_truthy_bool hQj
      · obtain ⟨more, em⟩ := hmore
        have nwr : ∀ b u, s1.heap.get? b = some u → b ∉ h3.objs.size :: [L] := fun b u e hb => by
          have lt := below b u e
          have hl3 : L + 1 ≤ h3.objs.size := by rw [← szp]; exact hsz
          rcases List.mem_cons.mp hb with z | z
          · exact absurd z (Nat.ne_of_lt (Nat.lt_of_lt_of_le (Nat.lt_succ_of_lt lt) hl3))
          · exact absurd (List.mem_singleton.mp z) (Nat.ne_of_lt lt)
        have J := GxR.inv_tab (more := more) (h' := s'.heap) (g' := s'.gens) (d' := s'.drawn) (t' := s'.toks) I1 hP (fun b u hb e => hm.heap b u (nwr b u e) (hk5 b u (k3 b u hb e)))
          (by rw [← em]; exact hm.heap P _ (nwr P _ hPs) (hk5 P _ hP3)) (AllBare.movedS (I1.bare.push hgb) hm)
        rw [GxR.sh_eta s1 s' hm.os] at J
        exact ⟨upd H1 P (.tbl (ps ++ more)), ⟨⟨ps ++ more, upd_same, by rw [← em]; exact ht3⟩, fun b hb => upd_ne hb⟩, J⟩
  cases hf : codeAmong gpos ps.toList with
  | none =>
    refine wpAny_genexprCodeX hcode (cd.code hP2 ht) (cd.tab hP2) hf fun c' h' tk hx hge hlt hco' _ htab' _ => ?_
    obtain ⟨o1, vs1, f1, tf, fl, tg, inF, tx, tt, op, _, _, _, _, _, _, _, _, _, htr, _⟩ := hco'
    exact cont _ h' tk _ hx (Nat.le_trans hge (Nat.le_of_lt hlt)) htab'.2 ⟨_, rfl⟩ htr
  | some cv =>
    refine wpAny_genexprCode_hit hcode (cd.code hP2 ht) hf ?_
    exact cont cv hp s1.toks ps (Heap.ExtBut.refl _ _) (Nat.le_refl _) hP2 ⟨#[], by simp⟩ ht
end
end DL
set_option Elab.async false
set_option linter.all false
set_option maxRecDepth 100000
set_option maxHeartbeats 4000000
/-! the data layer: all(is_whole(x) for x in t), the rule -/
namespace DL
open PySem PySem.Spec PyProof.Rows L2 XR
open GxR (TabB TabG Tabbed GenS)
/-- where is_whole stands -/
structure WholeAt (K : PySem.W.Frag) (mg : Str → Option Value) (f : Addr) : Prop where
  g : mg "is_whole" = some (.ref f)
  kp : PySem.W.keepIn K (.ref f) = true
  isi : mg "isinstance" = none
  int : mg "int" = none
  bool : mg "bool" = none
  lk : ∃ (oc : Value) (od : Option Addr) (osl : Array (Option Value)) (qual : Str) (kV doc pm cdv ct : Value) (an : Option Addr) (p1 a1 a2 a3 a4 b1 b2 b3 b4 c d e : Pos),
    K.lookup f = some ⟨oc, od, .func (PySem.W.fnOf "is_whole" qual (wArgs p1) (wBody a1 a2 a3 a4 b1 b2 b3 b4 c d e) wScope .none kV doc pm an cdv ct), osl⟩ ∧ PySem.W.codeIn K cdv qual = true
section
variable {X : Cx} {m : Mo} {W : WX} {P c f : Addr}
theorem Vals.at_ : ∀ {vs : List V} {us : List Value} {i : Nat} {u : Value}, Vals vs us → us[i]? = some u → ∃ v, vs[i]? = some v ∧ RelV v u
  | _, _, i, _, .nil, e => by simp at e
  | _, _, 0, _, .cons h _, e => by
    simp at e
    exact ⟨_, rfl, e ▸ h⟩
  | _, _, i + 1, u, .cons _ r, e => by
    obtain ⟨v, h1, h2⟩ := Vals.at_ (i := i) (u := u) r (by simpa using e)
    exact ⟨v, by simpa using h1, h2⟩
theorem elt_whole {pins : List (Addr × Obj)} {σ : L2.St} {H1 : Hp} {s1 : Shared} {scope : Scope} {x : Str} {q1 q2 q3 : Pos} {its : List Value} {vs : List V} {us : List U} {k : Nat} (hr : Room (k + 1) X.A) (Wh : WholeAt X.K X.mg f) (I1 : Inv X pins σ H1 s1)
    (sk : scope.kind = .function) (sw : scope.names.lookup ("is_whole" : Str) = some .globalImplicit) (sx : scope.names.lookup x = some .local) (xd : (x == ("__debug__" : Str)) = false) (hP : ∃ ps, H1 P = some (.tbl ps)) (rv : Vals vs its) (rl : RelL X.K m H1 vs us) (nr : us.all notRaw = true) :
    EltT X P scope x (.Call (.Name "is_whole" q1) [.Name x q2] [] q3) s1 its (fun i => isIntU (us.getD i .non)) := by
  intro i u code C bi cl A' E' s2 m2 hi hA hdp kb hn hx
  obtain ⟨ps, hP⟩ := hP
  obtain ⟨y, hy, ry⟩ := Vals.at_ rv hi
  obtain ⟨t, ht, rt⟩ := RelL.getV rl hy
  have nt : notRaw t = true := List.all_eq_true.mp nr t (List.mem_of_getElem? ht)
  obtain ⟨Pk, ty, h1, Z, no, hpk, mono⟩ := kit_rel (P := P) I1 hP rt nt ry
  obtain ⟨bi', bb, k1, k2, k3⟩ := kit_int h1
  obtain ⟨oc, od, osl, qual, kV, doc, pm, cdv, ct, an, p1, a1, a2, a3, a4, b1, b2, b3, b4, cc, d, e, lk, hcd⟩ := Wh.lk
  have bk := base_kept I1 hP kb
  have TB := (tops_base I1).keeps bk
  have KX : X.K.In s2.heap := I1.ok.mod.kin.keeps bk
  have lim : s2.heap.NoLimit := I1.ok.mod.nolimit.keeps bk
  have eg : us.getD i .non = t := by
    rw [List.getD_eq_getElem?_getD, ht]
    rfl
  show wpAny _ _ _ (fun (y : Value) s3 => y = Value.bool (isIntU (us.getD i .non)) ∧ Keeps s2 s3) _ _
  rw [eg]
  refine wpAny_Call_Name_kw (Calls.Name_function_global sk sw (Calls.loadGlobal_global (by show s2.heap.Ns X.env.globals X.mg; rw [I1.ok.glob]; exact TB.g) Wh.g ?_) (by decide))
  refine PySem.W.callWith_K (h₀ := s2.heap) KX Wh.kp ?_
  show wpAny _ _ (spliced ((false, eval (.Name x q2) (genEnv scope cl C code bi X.env)) :: backTo q3 (starEach [] _))) _ _ s2
  refine Calls.spliced_cons (wpAny_Name (wpAny_loadName_local sk sx hn hx ?_) xd)
  refine Calls.spliced_nil ⟨KX, ?_⟩
  refine wpAny_mono (whole_call (mg := X.mg) lk hcd KX TB lim Wh.isi Wh.int Wh.bool Z (hpk _ kb) mono no (kit_ty k1) (kit_ty k2) (by have := hr.dp; omega)) (fun y' s3 h => ?_) fun _ _ z => z
  obtain ⟨ey, kk⟩ := h
  exact ⟨by rw [ey, k3], kk⟩
def dAllW (P : Addr) (w : WE) : WE := fun m ρ Q Z => w m ρ (fun u => ∃ us, u = .tup us ∧ us.all notRaw = true ∧ P ∈ m.tabs ∧ Q (.bl (us.all isIntU))) Z
theorem all_range {us : List U} {n : Nat} (h : n = us.length) : (List.range n).all (fun i => isIntU (us.getD i .non)) = us.all isIntU := by
  subst h
  apply Bool.eq_iff_iff.mpr
  rw [List.all_eq_true, List.all_eq_true]
  constructor
  · intro q x hx
    obtain ⟨i, hi, e⟩ := List.mem_iff_getElem.mp hx
    have z := q i (List.mem_range.mpr hi)
    rw [List.getD_eq_getElem?_getD, List.getElem?_eq_getElem hi] at z
    rw [← e]
    exact z
  · intro q i hi
    have hi2 := List.mem_range.mp hi
    rw [List.getD_eq_getElem?_getD, List.getElem?_eq_getElem hi2]
    exact q _ (List.getElem_mem hi2)
theorem tabbed_stp {H1 H2 : Hp} (hP : P ∈ m.tabs) (t : Tabbed P H1 H2) : stpM m H1 H2 := fun b o h k => by
  rw [t.2 b fun z => k.2 (z ▸ hP)]
  exact h
theorem tabbed_inv {H1 H2 : Hp} (i : invM m H1) (hP : P ∈ m.tabs) (t : Tabbed P H1 H2) : invM m H2 := by
  obtain ⟨ps, eP, _⟩ := i.2.2 P hP
  obtain ⟨ps2, eP2, z2⟩ := t.1
  refine ⟨?_, fun b hb => ?_, fun b hb => ?_⟩
  · have i1 := i.1
    cases e : m.deck with
    | none => trivial
    | some d =>
      rw [e] at i1
      obtain ⟨a, b, ns, h1, h2, z⟩ := i1
      exact ⟨a, b, ns, by rw [t.2 _ (ne_of h1 eP (fun z => nomatch z))]; exact h1, by rw [t.2 _ (ne_of h2 eP (fun z => nomatch z))]; exact h2, z⟩
  · by_cases e : b = P
    · rw [e, eP2]
      exact fun z => nomatch z
    · rw [t.2 b e]
      exact i.2.1 b hb
  · by_cases e : b = P
    · rw [e]
      exact t.1
    · obtain ⟨p3, e3, z3⟩ := i.2.2 b hb
      exact ⟨p3, by rw [t.2 b e]; exact e3, z3⟩
theorem de_allW {iter : Expr} {x : Str} {px p pos gpos q1 q2 q3 : Pos} {scope : Scope} {w : WE} {k : Nat} (hr : Room (k + 1) X.A) (hg : Gl X "all") (hm : X.mg "all" = none) (TB : TabB X.base X.mg c P) (hcode : X.env.code = .ref c) (S : GenS X.env scope x) (Wh : WholeAt X.K X.mg f)
    (sw : scope.names.lookup ("is_whole" : Str) = some .globalImplicit) (xd : (x == ("__debug__" : Str)) = false) (hi : DE X W iter w) (hs : ∀ v, genFold iter X.env v = pure v)
    (he : starEach [.GeneratorExp (.Call (.Name "is_whole" q1) [.Name x q2] [] q3) [⟨.Name x px, iter, [], 0⟩] scope gpos] X.env = (false, eval (.GeneratorExp (.Call (.Name "is_whole" q1) [.Name x q2] [] q3) [⟨.Name x px, iter, [], 0⟩] scope gpos) X.env) :: starEach [] X.env := by rfl) :
    DE X W (.Call (.Name "all" p) [.GeneratorExp (.Call (.Name "is_whole" q1) [.Name x q2] [] q3) [⟨.Name x px, iter, [], 0⟩] scope gpos] [] pos) (dAllW P w) := by
  refine ⟨fun pins s σ H Q' I ⟨m, ρ, Q, Z, ge, q, cc⟩ => ?_⟩
  refine wpAny_Call_Name_kw (ld_blt I hg hm boot_all ?_)
  refine PyProof.Rows.callWith_builtin1 ?_ he (by rfl)
  rw [he]
  show wpAny _ _ (spliced ((false, eval (.GeneratorExp (.Call (.Name "is_whole" q1) [.Name x q2] [] q3) [⟨.Name x px, iter, [], 0⟩] scope gpos) X.env) :: backTo pos (starEach [] X.env))) _ _ s
  refine Calls.spliced_cons (gen_tup (P := P) (c := c) (R := fun a vs H1 => ∃ us, RelL X.K m H1 vs us ∧ us.all notRaw = true ∧ P ∈ m.tabs ∧ Q (.bl (us.all isIntU)) ∧ stpM m H H1 ∧ invM m H1) hr TB hcode S hi hs I
    ⟨m, ρ, _, Z, ge, q, fun u v H1 hh s1 i1 r1 => ?_⟩ fun a vs H1 s1 its hR I1 hP rv => ?_)
  · obtain ⟨us, eu, hn, hP, q1⟩ := hh
    subst eu
    obtain ⟨a, vs, rfl, _, hq, l⟩ := rel_tup r1
    exact ⟨a, vs, rfl, hq, i1.2.2 P hP, us, l, hn, hP, q1, s1, i1⟩
  · obtain ⟨us, rl, nr, hPm, qq, st, iv⟩ := hR
    refine ⟨_, elt_whole hr Wh I1 S.kind sw S.loc xd hP rv rl nr, fun g s5 hG => ?_⟩
    obtain ⟨fp, wr, G, F, St, Wk, hst, htr, hI⟩ := hG
    refine Calls.spliced_nil ?_
    refine call_all_walkS (Wk.self 0 _ _ _ hst ⟨g, fp, wr, G, _, F, St, _, rfl, Wk, hst, htr, fun s' hmv => ?_⟩)
    obtain ⟨H2, hT2, J⟩ := hI s' hmv
    refine ⟨.bl _, H2, J, rfl, ?_⟩
    rw [all_range (us := us) (by rw [← rv.length, RelL.len rl])]
    exact cc _ _ H2 qq (stp_trans st (tabbed_stp hPm hT2)) (tabbed_inv iv hPm hT2) (.bl _)
end
end DL
set_option Elab.async false
set_option linter.all false
set_option maxRecDepth 100000
set_option maxHeartbeats 4000000
/-! the data layer: one rule for several kinds -/
namespace DL
open PySem PySem.Spec PyProof.Rows L2 XR
section
variable {X : Cx} {m : Mo} {W : WX} {K : PySem.W.Frag} {a b e tg : Expr} {wa wb w : WE} {pos : Pos}
theorem opr_or {f : Value → Value → Sem Value} {r r' : R2} (h : OpR X f r) (h' : OpR X f r') : OpR X f (fun x y H Q => r x y H Q ∨ r' x y H Q) := by
  intro pins s σ H x y v u Q I rx ry q
  rcases q with q | q
  · exact h pins s σ H x y v u Q I rx ry q
  · exact h' pins s σ H x y v u Q I rx ry q
theorem opd_or {r r' : R2} {g g' : W2} (h : OpD K r g) (h' : OpD K r' g') : OpD K (fun x y H Q => r x y H Q ∨ r' x y H Q) (fun x y Q => g x y Q ∨ g' x y Q) := fun m x y a b H Q Q' iv ra rb q c => by
  rcases q with q | q
  · exact .inl (h m x y a b H Q Q' iv ra rb q c)
  · exact .inr (h' m x y a b H Q Q' iv ra rb q c)
/-- t + u of tuples: the one itself where the other is empty -/
def gCatT : W2 := fun a b Q => ∃ xs ys, a = .tup xs ∧ b = .tup ys ∧ xs.length + ys.length ≤ sizeLine ∧ Q (.tup (xs ++ ys))
theorem opd_catT : OpD K (rCatA K) gCatT := fun m x y a b H Q Q' iv ra rb ⟨xs, ys, ea, eb, z, q⟩ c => by
  subst ea eb
  obtain ⟨p, vs, rfl, t1, h, l⟩ := rel_tup ra
  obtain ⟨p2, vs2, rfl, t2, h2, l2⟩ := rel_tup rb
  refine ⟨p, p2, vs, vs2, rfl, rfl, h, h2, by rw [RelL.len l, RelL.len l2]; exact z, fun e => ?_, fun _ e => ?_, fun _ _ d hd => c.tup iv hd (RelL.append l l2) q⟩
  · subst e
    cases l
    exact c.here iv q (.tup t2 l2)
  · subst e
    cases l2
    rw [List.append_nil] at q
    exact c.here iv q (.tup t1 l)
/-- + of ints, of lists, of tuples -/
def gPlus : W2 := fun x y Q => gAdd x y Q ∨ gCat x y Q ∨ gCatT x y Q
theorem de_plus (ha : DE X W a wa) (hb : DE X W b wb) : DE X W (.BinOp a .Add b pos) (dOp gPlus wa wb) := de_op (opr_or op_add (opr_or op_cat op_catA)) (opd_or (opd_I0 fun _ _ _ _ => .int _) (opd_or opd_cat opd_catT)) ha hb
/-- * of ints, of a list of one item and an int -/
def gStar : W2 := fun x y Q => gMul x y Q ∨ gRep x y Q
theorem de_star (ha : DE X W a wa) (hb : DE X W b wb) : DE X W (.BinOp a .Mult b pos) (dOp gStar wa wb) := de_op (opr_or op_mulW op_rep) (opd_or (opd_IC fun _ _ _ _ => .int _) opd_rep) ha hb
theorem de_eq (hu : X.A.units + 64 < cLine) (ha : DE X W a wa) (hb : DE X W b wb) : DE X W (.Compare a [.Eq] [b] pos) (dOp gEq wa wb) := de_cmp (op_eqD hu) opd_eq ha hb (nomark _)
theorem de_ne (hu : X.A.units + 64 < cLine) (ha : DE X W a wa) (hb : DE X W b wb) : DE X W (.Compare a [.NotEq] [b] pos) (dOp gNe wa wb) := de_cmp (op_neD hu) opd_ne ha hb (nomark _)
theorem dt_eq (hu : X.A.units + 64 < cLine) (ha : DE X W a wa) (hb : DE X W b wb) : DT X W (.Compare a [.Eq] [b] pos) (dTest (dOp gEq wa wb)) := dt_cmp (op_eqD hu) opd_eq ha hb (nomark _)
theorem dt_ne (hu : X.A.units + 64 < cLine) (ha : DE X W a wa) (hb : DE X W b wb) : DT X W (.Compare a [.NotEq] [b] pos) (dTest (dOp gNe wa wb)) := dt_cmp (op_neD hu) opd_ne ha hb (nomark _)
theorem opd_b0 {g : Int → Int → Bool} : OpD K (rI0 fun i j => .bl (g i j)) (gI fun i j => .bl (g i j)) := opd_I0 fun _ _ _ _ => .bl _
theorem de_lt (ha : DE X W a wa) (hb : DE X W b wb) : DE X W (.Compare a [.Lt] [b] pos) (dOp gLt wa wb) := de_cmp op_lt opd_b0 ha hb (nomark _)
theorem de_le (ha : DE X W a wa) (hb : DE X W b wb) : DE X W (.Compare a [.LtE] [b] pos) (dOp gLe wa wb) := de_cmp op_le opd_b0 ha hb (nomark _)
theorem de_gt (ha : DE X W a wa) (hb : DE X W b wb) : DE X W (.Compare a [.Gt] [b] pos) (dOp gGt wa wb) := de_cmp op_gt opd_b0 ha hb (nomark _)
theorem de_ge (ha : DE X W a wa) (hb : DE X W b wb) : DE X W (.Compare a [.GtE] [b] pos) (dOp gGe wa wb) := de_cmp op_ge opd_b0 ha hb (nomark _)
theorem dt_lt (ha : DE X W a wa) (hb : DE X W b wb) : DT X W (.Compare a [.Lt] [b] pos) (dTest (dOp gLt wa wb)) := dt_cmp op_lt opd_b0 ha hb (nomark _)
theorem dt_le (ha : DE X W a wa) (hb : DE X W b wb) : DT X W (.Compare a [.LtE] [b] pos) (dTest (dOp gLe wa wb)) := dt_cmp op_le opd_b0 ha hb (nomark _)
theorem dt_gt (ha : DE X W a wa) (hb : DE X W b wb) : DT X W (.Compare a [.Gt] [b] pos) (dTest (dOp gGt wa wb)) := dt_cmp op_gt opd_b0 ha hb (nomark _)
theorem dt_ge (ha : DE X W a wa) (hb : DE X W b wb) : DT X W (.Compare a [.GtE] [b] pos) (dTest (dOp gGe wa wb)) := dt_cmp op_ge opd_b0 ha hb (nomark _)
theorem de_isT {x : Bool} {j pos'} (ha : DE X W a wa) : DE X W (.Compare a [.Is] [.Constant (.bool x) j pos'] pos) (dOp gIsB wa (dC (.bl x))) := de_cmp op_isBl opd_isB ha de_bl (nomark _)
theorem de_notT {x : Bool} {j pos'} (ha : DE X W a wa) : DE X W (.Compare a [.IsNot] [.Constant (.bool x) j pos'] pos) (dOp gNotB wa (dC (.bl x))) := de_cmp op_notBl opd_notB ha de_bl (nomark _)
/-- a part of a list, of a tuple -/
def gSlU (u : U) (lo hi : Option Int) (Q : U → Prop) : Prop := ∃ ts, u = .tup ts ∧ Q (.tup (cutU ts lo hi))
def gSlA (u : U) (lo hi : Option Int) (Q : U → Prop) : Prop := gSlL u lo hi Q ∨ gSlU u lo hi Q
theorem cut_whole {us : List U} {lo hi : Option Int} (h : HT.sIx us.length 0 lo = 0 ∧ HT.sIx us.length us.length hi = us.length) : cutU us lo hi = us := by
  unfold cutU
  rw [h.1, h.2, List.drop_zero, Nat.sub_zero, List.take_length]
theorem de_sl {lo hi : Option Expr} {l h : WO} {p2 : Pos} (ha : DE X W a wa) (hl : DO X W lo l) (hh : DO X W hi h) : DE X W (.Subscript a (.Slice lo hi none p2) pos) (dSl gSlA wa l h) := PE.weak (pe_slice (SlR.or sl_list sl_tupA) ha hl hh) fun σ H Q' ⟨m, ρ, Q, Z, ge, q, c⟩ =>
  ⟨m, ρ, _, Z, ge, q, fun u v H1 q1 s1 i1 r1 => ⟨m, ρ, _, Z, ge.step s1 i1, q1, fun o H2 q2 s2 i2 => ⟨m, ρ, _, Z, ge.step (stp_trans s1 s2) i2, q2, fun o2 H3 q3 s3 i3 => by
    rcases q3 with ⟨ts, e, q3⟩ | ⟨ts, e, q3⟩
    · subst e
      obtain ⟨p, ys, rfl, k, h, l⟩ := rel_lst (Rel.step (stp_trans s2 s3) r1)
      exact .inl ⟨p, ys, rfl, .inl (.inl h), fun d hd => (c.step (stp_trans s1 (stp_trans s2 s3))).lst i3 hd (cut_rel l o o2) q3⟩
    · subst e
      obtain ⟨p, ys, rfl, k, h, l⟩ := rel_tup (Rel.step (stp_trans s2 s3) r1)
      refine .inr ⟨p, ys, rfl, h, fun z => ?_, fun _ d hd => (c.step (stp_trans s1 (stp_trans s2 s3))).tup i3 hd (cut_rel l o o2) q3⟩
      rw [RelL.len l] at z
      rw [cut_whole z] at q3
      exact (c.step (stp_trans s1 (stp_trans s2 s3))).here i3 q3 (.tup k l)⟩⟩⟩
/-- for x in a list, a tuple -/
def dItA (w : WE) : WI := fun m ρ Q Z => w m ρ (fun u => ∃ us, (u = .lst us ∨ u = .tup us) ∧ Q us) Z
theorem pi_or {wi wj : TI} (h : PI X tg e wi) (h' : PI X tg e wj) : PI X tg e (fun σ H R => wi σ H R ∨ wj σ H R) := ⟨fun pins s σ H R I q => by
  rcases q with q | q
  · exact h.run pins s σ H R I q
  · exact h'.run pins s σ H R I q⟩
/-- name = [..], the comprehension on the name's own line -/
theorem ds_of_lc {st : Stmt} {i : Nat} {wi : WI} {g : TG} {cg : CG} {tt : WT} {te : WE} {ws : List Nat} (hT : TgOk X.K g cg ws) (h : PS X st (tAsg (tLc (tI X.K W wi) g (tT X.K noW tt) (tE X.K noW te) ws) (gName i))) : DS X W st (dSet i (dLc wi cg tt te ws)) :=
  ds_of_set (PS.weak h fun D σ H q => t_lc hT σ H _ q)
end
end DL
set_option Elab.async false
set_option linter.all false
set_option maxRecDepth 100000
set_option maxHeartbeats 4000000
/-! the data layer: what the readings are made of -/
namespace DL
open PySem PySem.Spec PyProof.Rows L2 XR
structure Def (K : PySem.W.Frag) (mg : Str → Option Value) (x : Str) (st : Stmt) (f : Addr) (fd : FuncData) : Prop where
  F : Fun K x x st f fd
  g : mg x = some (.ref f)
abbrev n4 (p q s d : Int) : U := .tup [.int p, .int q, .int s, .int d]
theorem ueq_int (i j : Int) : ueq (.int i) (.int j) = decide (i = j) := by
  show (i == j) = decide (i = j)
  by_cases e : i = j
  · subst e
    simp
  · rw [decide_eq_false e]
    exact beq_eq_false_iff_ne.mpr e
theorem flat_int (i : Int) : flat (.int i) = true := rfl
theorem flat_n4 (p q s d : Int) : flat (n4 p q s d) = true := rfl
theorem ueq_n4 (p q s d p' q' s' d' : Int) : ueq (n4 p q s d) (n4 p' q' s' d') = (decide (p = p') && (decide (q = q') && (decide (s = s') && decide (d = d')))) := by
  show (PyData.eqv (.int p) (.int p') && (PyData.eqv (.int q) (.int q') && (PyData.eqv (.int s) (.int s') && (PyData.eqv (.int d) (.int d') && true)))) = _
  rw [Bool.and_true]
  rw [show PyData.eqv (.int p) (.int p') = decide (p = p') from ueq_int p p', show PyData.eqv (.int q) (.int q') = decide (q = q') from ueq_int q q', show PyData.eqv (.int s) (.int s') = decide (s = s') from ueq_int s s', show PyData.eqv (.int d) (.int d') = decide (d = d') from ueq_int d d']
/-- + and * by what they meet -/
theorem plus_int (i j : Int) (Q : U → Prop) : gPlus (.int i) (.int j) Q ↔ Q (.int (i + j)) := by
  simp [gPlus, gAdd, gI, gCat, gCatT]
theorem star_int (i j : Int) (Q : U → Prop) : gStar (.int i) (.int j) Q ↔ (CMulW i j ∧ Q (.int (i * j))) := by
  simp [gStar, gMul, gIC, gRep]
theorem plus_lst (xs ys : List U) (Q : U → Prop) : gPlus (.lst xs) (.lst ys) Q ↔ (xs.length + ys.length ≤ sizeLine ∧ Q (.lst (xs ++ ys))) := by
  simp [gPlus, gAdd, gI, gCat, gCatT]
theorem ix_tup_at (us : List U) (i : Int) (Q : U → Prop) (u : U) (h : atI us i = some u) : gIx (.tup us) (.int i) Q ↔ Q u := by
  simp [gIx, h]
theorem ix_lst_at (us : List U) (i : Int) (Q : U → Prop) (u : U) (h : atI us i = some u) : gIx (.lst us) (.int i) Q ↔ Q u := by
  simp [gIx, h]
theorem ix0 (p q s d : Int) (Q : U → Prop) : gIx (n4 p q s d) (.int 0) Q ↔ Q (.int p) := ix_tup_at _ _ _ _ rfl
theorem ix1 (p q s d : Int) (Q : U → Prop) : gIx (n4 p q s d) (.int 1) Q ↔ Q (.int q) := ix_tup_at _ _ _ _ rfl
theorem ix2 (p q s d : Int) (Q : U → Prop) : gIx (n4 p q s d) (.int 2) Q ↔ Q (.int s) := ix_tup_at _ _ _ _ rfl
theorem ix3 (p q s d : Int) (Q : U → Prop) : gIx (n4 p q s d) (.int 3) Q ↔ Q (.int d) := ix_tup_at _ _ _ _ rfl
theorem gI_int (f : Int → Int → U) (i j : Int) (Q : U → Prop) : gI f (.int i) (.int j) Q ↔ Q (f i j) := by simp [gI]
theorem gIC_int (C : Int → Int → Prop) (f : Int → Int → U) (i j : Int) (Q : U → Prop) : gIC C f (.int i) (.int j) Q ↔ (C i j ∧ Q (f i j)) := by simp [gIC]
theorem gEq_int (i j : Int) (Q : U → Prop) : gEq (.int i) (.int j) Q ↔ Q (.bl (decide (i = j))) := by
  unfold gEq
  rw [flat_int, flat_int, ueq_int]
  simp
theorem gNe_int (i j : Int) (Q : U → Prop) : gNe (.int i) (.int j) Q ↔ Q (.bl (!decide (i = j))) := by
  unfold gNe
  rw [flat_int, flat_int, ueq_int]
  simp
theorem le_line {n : Nat} (h : n ≤ 1000) : n ≤ sizeLine := Nat.le_of_lt (small1000 h)
theorem startU_eq (N : List Str) (us : List U) : startU N us = us.map some ++ List.replicate (N.length - us.length) none := rfl
theorem ex_uu {a : U} {Q : U → Prop} : (∃ u, some (some a) = some (some u) ∧ Q u) ↔ Q a := by simp
theorem fGcd_int (i j : Int) (Q : U → Prop) : fGcd [.int i, .int j] Q ↔ Q (.int ((Nat.gcd i.natAbs j.natAbs : Nat) : Int)) := by
  constructor
  · rintro ⟨a, b, e, q⟩
    injection e with e1 e2
    injection e2 with e2 e3
    injection e1 with e1
    injection e2 with e2
    subst e1 e2
    exact q
  · exact fun q => ⟨_, _, rfl, q⟩
theorem fIsq_int (i : Int) (Q : U → Prop) : fIsq [.int i] Q ↔ (0 ≤ i ∧ i < 2 ^ 64 ∧ Q (.int ((Float64.isqrt i.toNat : Nat) : Int))) := by simp [fIsq]
theorem fAbs_int (i : Int) (Q : U → Prop) : fAbs [.int i] Q ↔ Q (.int (if i < 0 then -i else i)) := by simp [fAbs]
theorem fInt_int (i : Int) (Q : U → Prop) : fInt [.int i] Q ↔ Q (.int i) := by simp [fInt]
theorem fLen_tup (us : List U) (Q : U → Prop) : fLen [.tup us] Q ↔ Q (.int us.length) := by simp [fLen]
theorem fLen_lst (us : List U) (Q : U → Prop) : fLen [.lst us] Q ↔ Q (.int us.length) := by simp [fLen]
theorem fMax2_int (i j : Int) (Q : U → Prop) : fMax2 [.int i, .int j] Q ↔ Q (.int (if j > i then j else i)) := by
  constructor
  · rintro ⟨a, b, e, q⟩
    injection e with e1 e2
    injection e2 with e2 e3
    injection e1 with e1
    injection e2 with e2
    subst e1 e2
    exact q
  · exact fun q => ⟨_, _, rfl, q⟩
theorem gNeg_int (i : Int) (Q : U → Prop) : gNeg (.int i) Q ↔ Q (.int (-i)) := by simp [gNeg]
theorem ex_bl {b : Bool} {Q : Bool → Prop} : (∃ c, U.bl b = .bl c ∧ Q c) ↔ Q b := by simp
theorem ex_tup {us : List U} {Q : List U → Prop} : (∃ ts, U.tup us = .tup ts ∧ Q ts) ↔ Q us := by simp
theorem ex_lst {us : List U} {Q : List U → Prop} : (∃ ts, U.lst us = .lst ts ∧ Q ts) ↔ Q us := by simp
theorem ex_int {i : Int} {Q : Int → Prop} : (∃ j, U.int i = .int j ∧ Q j) ↔ Q i := by simp
theorem ex_cons {u : U} {us : List U} {Q : U → List U → Prop} : (∃ x t, u :: us = x :: t ∧ Q x t) ↔ Q u us := by
  constructor
  · rintro ⟨x, t, e, q⟩
    injection e with e1 e2
    subst e1 e2
    exact q
  · exact fun q => ⟨_, _, rfl, q⟩
theorem ex_two {u v : U} {Q : U → U → Prop} : (∃ a b, [u, v] = [a, b] ∧ Q a b) ↔ Q u v := by
  constructor
  · rintro ⟨x, t, e, q⟩
    injection e with e1 e2
    injection e2 with e2 e3
    subst e1 e2
    exact q
  · exact fun q => ⟨_, _, rfl, q⟩
/-! pairs of ints, texts -/
abbrev p2 (a b : Int) : U := .tup [.int a, .int b]
theorem flat_p2 (a b : Int) : flat (p2 a b) = true := rfl
theorem ueq_p2 (a b c d : Int) : ueq (p2 a b) (p2 c d) = (decide (a = c) && decide (b = d)) := by
  show (PyData.eqv (.int a) (.int c) && (PyData.eqv (.int b) (.int d) && true)) = _
  rw [Bool.and_true, show PyData.eqv (.int a) (.int c) = decide (a = c) from ueq_int a c, show PyData.eqv (.int b) (.int d) = decide (b = d) from ueq_int b d]
theorem ueq_str (x y : Str) : ueq (.str x) (.str y) = decide (x = y) := by
  show (x == y) = decide (x = y)
  by_cases e : x = y
  · subst e
    simp
  · rw [decide_eq_false e]
    exact beq_eq_false_iff_ne.mpr e
theorem gEq_p2 (a b c d : Int) (Q : U → Prop) : gEq (p2 a b) (p2 c d) Q ↔ Q (.bl (decide (a = c) && decide (b = d))) := by
  unfold gEq
  rw [flat_p2, flat_p2, ueq_p2]
  simp
theorem gNe_p2 (a b c d : Int) (Q : U → Prop) : gNe (p2 a b) (p2 c d) Q ↔ Q (.bl (!(decide (a = c) && decide (b = d)))) := by
  unfold gNe
  rw [flat_p2, flat_p2, ueq_p2]
  simp
theorem gEq_str (x y : Str) (Q : U → Prop) : gEq (.str x) (.str y) Q ↔ (flat (.str x) = true ∧ flat (.str y) = true ∧ Q (.bl (decide (x = y)))) := by
  unfold gEq
  rw [ueq_str]
theorem ixp0 (a b : Int) (Q : U → Prop) : gIx (p2 a b) (.int 0) Q ↔ Q (.int a) := ix_tup_at _ _ _ _ rfl
theorem ixp1 (a b : Int) (Q : U → Prop) : gIx (p2 a b) (.int 1) Q ↔ Q (.int b) := ix_tup_at _ _ _ _ rfl

end DL
set_option Elab.async false
set_option linter.all false
set_option maxRecDepth 100000
set_option maxHeartbeats 4000000
/-! the data layer: x in (a, b) of ints; ways back to the heap -/
namespace DL
open PySem PySem.Spec PyProof.Rows L2 XR
section
variable {X : Cx} {m : Mo} {W : WX} {K : PySem.W.Frag} {a b : Expr} {wa wb w : WE} {pos : Pos} {H : Hp}
theorem relL_ints : ∀ {js : List Int} {vs : List V}, RelL K m H vs (js.map .int) → vs = js.map .int
  | [], _, h => by
    cases h
    rfl
  | j :: js, _, h => by
    cases h with
    | cons h1 h2 =>
      rw [rel_int h1, relL_ints h2]
      rfl
theorem inV_ints (i : Int) : ∀ js : List Int, inV (.int i) (js.map V.int) = js.contains i
  | [] => rfl
  | j :: js => by
    have h := inV_ints i js
    unfold inV at h ⊢
    rw [List.map_cons, List.any_cons, h, List.contains_cons]
    show ((j == i) || _) = ((i == j) || _)
    rw [Bool.beq_comm]
theorem flat_ints : ∀ js : List Int, (js.map V.int).all flatV = true
  | [] => rfl
  | _ :: js => by
    rw [List.map_cons, List.all_cons, flat_ints js]
    rfl
def gInI (neg : Bool) : W2 := fun x y Q => ∃ (i : Int) (js : List Int), x = .int i ∧ y = .tup (js.map .int) ∧ Q (.bl (if neg then !js.contains i else js.contains i))
theorem opd_inI {neg : Bool} : OpD K (rIn K neg) (gInI neg) := fun m x y a b H Q Q' iv ra rb ⟨i, js, ea, eb, q⟩ c => by
  subst ea eb
  obtain ⟨p, vs, rfl, h, sq, l⟩ := rel_tup rb
  have e1 := rel_int ra
  have e2 := relL_ints l
  subst e1 e2
  refine ⟨p, _, rfl, .inr sq, rfl, flat_ints js, ?_⟩
  rw [inV_ints]
  exact c.here iv q (.bl _)
theorem dt_in (ha : DE X W a wa) (hb : DE X W b wb) (hm : behindInMarks .In b = false) : DT X W (.Compare a [.In] [b] pos) (dTest (dOp (gInI false) wa wb)) := dt_cmp op_in_seq opd_inI ha hb hm
theorem dt_notIn (ha : DE X W a wa) (hb : DE X W b wb) (hm : behindInMarks .NotIn b = false) : DT X W (.Compare a [.NotIn] [b] pos) (dTest (dOp (gInI true) wa wb)) := dt_cmp op_notIn_seq opd_inI ha hb hm
theorem gInI_of {neg c : Bool} {i : Int} {us : List U} (js : List Int) {Q : U → Prop} (e : us = js.map .int) (h : (if neg then !js.contains i else js.contains i) = c) (q : Q (.bl c)) : gInI neg (.int i) (.tup us) Q := ⟨i, js, rfl, by rw [e], h ▸ q⟩
/-! ### ways back to the heap -/
/-- a call of a def over data whose arguments are read over the heap -/
def tCallD (K : PySem.W.Frag) (W : WX) (sp : SpD) (ta : TA) : TE := fun σ H Q' => ta σ H (fun vs H1 => ∃ m us Qd Zd, invM m H1 ∧ RelL K m H1 vs us ∧ sp m us Qd Zd ∧ Cont K m H1 Qd Q' ∧ ContE K m H1 Zd fun c d H2 => W c d σ H2)
theorem pe_callD {k : Nat} {f : Addr} {fd : FuncData} {ps : List Str} {sp : SpD} {x : Str} {p pos : Pos} {e : Expr} {es : List Expr} {ta : TA} (F : Fd X.prog X.w X.K X.mg X.base k f fd ps sp) (hr : Room k X.A) (hG : X.A.guards = some []) (tk : Takes X W) (hg : Gl X x) (hm : X.mg x = some (.ref f))
    (hk : PySem.W.keepIn X.K (.ref f) = true) (hb : Binds X.K fd ps []) (ha : PA X (e :: es) ta) (hdb : (x == ("__debug__" : Str)) = false := by decide) (he : starEach (e :: es) X.env = (false, eval e X.env) :: starEach es X.env := by rfl)
    (hpl : (backTo pos (starEach es X.env)).any (·.1) = false := by rfl) : PE X (.Call (.Name x p) (e :: es) [] pos) (tCallD X.K W sp ta) := by
  refine ⟨fun pins s σ H Q' I h => ?_⟩
  refine wpAny_Call_Name_kw (ld_glob I hg hm ?_ hdb)
  refine PySem.W.callWith_K (h₀ := X.base) I.ok.mod.kin hk (thn (ha.run pos pins s σ H _ I h) fun xs s1 ⟨vs, H1, I1, r, m, us, Qd, Zd, iv, rl, hsp, c, cx⟩ => ⟨I1.kIn, ?_⟩) he hpl
  have hl : (xs ++ []).length = ps.length := by
    rw [List.append_nil, ← r.length, RelL.len rl]
    exact F.len _ _ _ _ hsp
  have b := hb s1 xs I1.kIn hl
  rw [List.append_nil] at b
  exact run_fd (args := ⟨xs, []⟩) F hr hG tk b I1 r iv rl hsp c cx
/-- statements that are read over the heap, among statements over data -/
def wAny (K : PySem.W.Frag) (W : WX) (ts : TS) : WS := fun m DD ρ => ∀ D σ H, invM m H → RelS K m H σ ρ → ContS K m W H DD D → ts D σ H
theorem dss_any {st : List Stmt} {ts : TS} (h : PSs X st ts) : DSs X W st (wAny X.K W ts) := PSs.weak h fun D σ H ⟨m, ρ, DD, iv, rs, q, c⟩ => q D σ H iv rs c
theorem RelL.set : ∀ {vs : List V} {us : List U} (i : Nat) {v : V} {u : U}, RelL K m H vs us → Rel K m H v u → RelL K m H (vs.set i v) (us.set i u)
  | _, _, _, _, _, .nil, _ => .nil
  | _, _, 0, _, _, .cons _ r, h => .cons h r
  | _, _, i + 1, _, _, .cons h r, h2 => .cons h (RelL.set i r h2)
theorem RelL.rep {v : V} {u : U} (h : Rel K m H v u) : ∀ n : Nat, RelL K m H (List.replicate n v) (List.replicate n u)
  | 0 => .nil
  | n + 1 => .cons h (RelL.rep h n)
end
end DL
set_option Elab.async false
set_option linter.all false
set_option maxRecDepth 100000
set_option maxHeartbeats 4000000
/-! the data layer: a list of one's own that is changed by place. Its slot holds .raw (its address); what it holds goes along with the statements. -/
namespace DL
open PySem PySem.Spec PyProof.Rows L2 XR
section
variable {X : Cx} {m : Mo} {W : WX} {K : PySem.W.Frag} {H H' H1 H2 : Hp} {D : Addr} {pos : Pos} {tg : Expr}
/-- the list in the making at D, and what it holds -/
def Own (K : PySem.W.Frag) (m : Mo) (D : Addr) (H : Hp) (us : List U) : Prop := D ∈ m.ban ∧ okS m D ∧ ∃ vs, H D = some (.lst vs) ∧ RelL K m H vs us
/-- what stands, D left out -/
def stpX (m : Mo) (D : Addr) (H H' : Hp) : Prop := ∀ b o, b ≠ D → H b = some o → okS m b → H' b = some o
theorem stpX_of (s : stpM m H H') : stpX m D H H' := fun b o _ h k => s b o h k
theorem stpX_trans (a : stpX m D H H1) (b : stpX m D H1 H2) : stpX m D H H2 := fun c o n h k => b c o n (a c o n h k) k
theorem ne_ban {a : Addr} (hD : D ∈ m.ban) (k : okA m a) : a ≠ D := fun z => k.2 (z ▸ hD)
theorem TupR.stepX {a : Addr} {xs : List V} (hD : D ∈ m.ban) (s : stpX m D H H') (t : TupR K m H a xs) : TupR K m H' a xs := by
  rcases t with ⟨k, h | ⟨o, h⟩⟩ | h
  · exact .inl ⟨k, .inl (s _ _ (ne_ban hD k) h k.1)⟩
  · exact .inl ⟨k, .inr ⟨o, s _ _ (ne_ban hD k) h k.1⟩⟩
  · exact .inr h
mutual
theorem Rel.stepX (hD : D ∈ m.ban) (s : stpX m D H H') : ∀ {v : V} {u : U}, Rel K m H v u → Rel K m H' v u
  | _, _, .non => .non
  | _, _, .bl b => .bl b
  | _, _, .int i => .int i
  | _, _, .str x => .str x
  | _, _, .tup h r => .tup (TupR.stepX hD s h) (RelL.stepX hD s r)
  | _, _, .lst k h r => .lst k (s _ _ (ne_ban hD k) h k.1) (RelL.stepX hD s r)
  | _, _, .raw v => .raw v
theorem RelL.stepX (hD : D ∈ m.ban) (s : stpX m D H H') : ∀ {vs : List V} {us : List U}, RelL K m H vs us → RelL K m H' vs us
  | _, _, .nil => .nil
  | _, _, .cons h r => .cons (Rel.stepX hD s h) (RelL.stepX hD s r)
end
theorem RelS.stepX {σ : L2.St} {ρ : Env} (hD : D ∈ m.ban) (s : stpX m D H H') (r : RelS K m H σ ρ) : RelS K m H' σ ρ := ⟨r.1, fun i u e => by
  obtain ⟨v, h1, h2⟩ := r.2 i u e
  exact ⟨v, h1, Rel.stepX hD s h2⟩⟩
theorem Own.step {us : List U} (o : Own K m D H us) (s : stpM m H H') : Own K m D H' us := by
  obtain ⟨a, b, vs, h, r⟩ := o
  exact ⟨a, b, vs, s _ _ h b, RelL.step s r⟩
theorem stpX_set {o : HO} : stpX m D H (upd H D o) := fun b x n h _ => by
  rw [upd_ne n]
  exact h
theorem Own.set {us : List U} (o : Own K m D H us) (i : Nat) {v : V} {u : U} (r : Rel K m H v u) : ∃ vs, H D = some (.lst vs) ∧ RelL K m H vs us ∧ Own K m D (upd H D (.lst (vs.set i v))) (us.set i u) := by
  obtain ⟨a, b, vs, h, l⟩ := o
  exact ⟨vs, h, l, a, b, _, upd_same, RelL.set i (RelL.updB a l) (Rel.updB a r)⟩
abbrev WOwn := Mo → Addr → List U → (List U → Env → Prop) → Env → Prop
def tOwn (K : PySem.W.Frag) (w : WOwn) : TS := fun Dn σ H => ∃ m D us N ρ, invM m H ∧ RelS K m H σ ρ ∧ Own K m D H us ∧ w m D us N ρ ∧
  ∀ us' ρ' σ' H', N us' ρ' → stpX m D H H' → invM m H' → RelS K m H' σ' ρ' → Own K m D H' us' → Dn.nx σ' H'
def xNo : XQ := fun _ _ => False
theorem ge_no {σ : L2.St} {ρ : Env} (iv : invM m H) (rs : RelS K m H σ ρ) : GE K m W σ H ρ xNo := ⟨iv, rs, fun _ _ _ _ _ q => q.elim⟩
/-- for i, x in enumerate(slot k): .. -/
def oFor (k : Nat) (g : WG) (b : WOwn) : WOwn := fun m D us N ρ => ∃ ts, ρ[k]? = some (some (.tup ts)) ∧ ∃ I : Nat → List U → Env → Prop, I 0 us ρ ∧
  (∀ (i : Nat) u us' ρ', ts[i]? = some u → I i us' ρ' → g (.tup [.int (i : Int), u]) ρ' fun ρ2 => b m D us' (I (i + 1)) ρ2) ∧ ∀ us' ρ', I ts.length us' ρ' → N us' ρ'
theorem os_for {k : Nat} {g : WG} {b : WOwn} {iter : Expr} {body : List Stmt} (h : PS X (.For tg iter body [] pos) (tFor (iEnumX X.K (tA X.K W (dCons (dVar k) dNil))) (tG X.K g) (tOwn X.K b))) : PS X (.For tg iter body [] pos) (tOwn X.K (oFor k g b)) :=
  PS.weak h fun Dn σ H ⟨m, D, us, N, ρ, iv, rs, ow, ⟨ts, ek, I, h0, turn, fin⟩, c⟩ => by
    refine ⟨m, ρ, fun us => us = [.tup ts], xNo, ge_no iv rs, ⟨_, ek, rfl⟩, ?_⟩
    rintro us1 vs H1 rfl s1 i1 r1
    obtain ⟨v, rfl, a⟩ := rl1 r1
    obtain ⟨p, ys, rfl, kk, sq, l⟩ := rel_tup a
    refine ⟨p, ys, rfl, .inr ⟨sq, ?_⟩⟩
    refine ⟨fun i k σ' H' => k = ts.length - i ∧ i ≤ ts.length ∧ ∃ ρ' us', I i us' ρ' ∧ stpX m D H1 H' ∧ invM m H' ∧ RelS X.K m H' σ' ρ' ∧ Own X.K m D H' us',
      ⟨ts.length, by simp, Nat.zero_le _, ρ, us, h0, stpX_of stp_refl, i1, RelS.step s1 rs, ow.step s1⟩, ?_⟩
    rintro i k σ1 H2 ⟨rfl, hi, ρ1, us1, h1, s2, i2, r2, o2⟩
    have hl := RelL.len l
    have at2 : SqT X.K H2 p ys := (TupR.stepX ow.1 s2 kk).sq
    have l2 : RelL X.K m H2 ys ts := RelL.stepX ow.1 s2 l
    by_cases lt : i < ts.length
    · refine .inr ⟨⟨ys, ys[i]'(by omega), at2, by simp⟩, fun σ' H' => ∃ ρ' us', I (i + 1) us' ρ' ∧ stpX m D H1 H' ∧ invM m H' ∧ RelS X.K m H' σ' ρ' ∧ Own X.K m D H' us',
        fun σ' H' ⟨ρ', us', a1, a2, a3, a4, a5⟩ => ⟨ts.length - (i + 1), by omega, rfl, lt, ρ', us', a1, a2, a3, a4, a5⟩, fun x H3 ⟨T, y1, ex, hT, eH, y⟩ => ?_⟩
      subst ex eH
      obtain ⟨u, eu, ru⟩ := RelL.getV l2 (y ys at2)
      have s3 : stpM m H2 (upd H2 T (.tup [.int (i : Nat), y1])) := stp_new hT
      refine ⟨m, .tup [.int i, u], ρ1, _, inv_new i2 hT, RelS.step s3 r2, new_pair i2 hT (.int _) ru, turn i u us1 ρ1 eu h1, fun ρ4 σ4 H4 q4 s4 i4 r4 => ?_⟩
      have st := stp_trans s3 s4
      exact ⟨m, D, us1, I (i + 1), ρ4, i4, r4, o2.step st, q4, fun us' ρ' σ' H' q s' i' r' o' => ⟨ρ', us', q, stpX_trans s2 (stpX_trans (stpX_of st) s'), i', r', o'⟩⟩
    · have e : i = ts.length := by omega
      subst e
      exact .inl ⟨⟨ys, at2, by omega⟩, c us1 ρ1 σ1 H2 (fin us1 ρ1 h1) (stpX_trans (stpX_of s1) s2) i2 r2 o2⟩
theorem ixN_own {n j : Nat} (hj : j < n) : ixN n (j : Int) = some j := by
  unfold ixN
  rw [if_pos (by omega), if_pos (by omega)]
  rfl
/-- xs[i + j] = f(xs[i + j], e): xs, i, j in the slots n, a, b -/
def oSet (n a b : Nat) (sp : SpD) (w : WE) : WOwn := fun m D us N ρ => ∃ (i j : Nat) (u : U), ρ[n]? = some (some (.raw (.ref D))) ∧ ρ[a]? = some (some (.int (i : Int))) ∧ ρ[b]? = some (some (.int (j : Int))) ∧ us[i + j]? = some u ∧
  w m ρ (fun y => sp m [u, y] (fun z => N (us.set (i + j) z) ρ) xNo) xNo
theorem os_set {st : Stmt} {n a b : Nat} {sp : SpD} {w : WE} (h : PS X st (tAsg (tCallD X.K W sp (tCons (tOp (rIx X.K) (tVar n) (tOp (rI0 fun i j => .int (i + j)) (tVar a) (tVar b))) (tCons (tE X.K W w) tNil))) (L2.gSub (tVar n) (tOp (rI0 fun i j => .int (i + j)) (tVar a) (tVar b)) rSetL))) : PS X st (tOwn X.K (oSet n a b sp w)) :=
  PS.weak h fun Dn σ H ⟨m, D, us, N, ρ, iv, rs, ow, ⟨i, j, u, en, ea, eb, ha, q⟩, c⟩ => by
    obtain ⟨vn, sn, rn⟩ := rs.2 n _ en
    obtain ⟨va, sa, ra⟩ := rs.2 a _ ea
    obtain ⟨vb, sb, rb⟩ := rs.2 b _ eb
    cases rn
    cases ra
    cases rb
    obtain ⟨vs, hD, l⟩ := ow.2.2
    obtain ⟨v, hv, ru⟩ := RelL.get l ha
    have lt : i + j < vs.length := (List.getElem?_eq_some_iff.mp hv).1
    have ec : (i : Int) + (j : Int) = ((i + j : Nat) : Int) := by omega
    refine ⟨_, sn, _, sa, _, sb, _, _, rfl, rfl, .inl ⟨D, vs, _, v, rfl, rfl, .inl (.inl hD), by rw [ec]; exact atI_nat hv, ?_⟩⟩
    refine ⟨m, ρ, _, xNo, ge_no iv rs, q, fun y v2 H1 q1 s1 i1 r1 => ⟨m, [u, y], _, xNo, i1, .cons (Rel.step s1 ru) (.cons r1 .nil), q1, fun z v3 H2 q2 s2 i2 r2 => ?_, fun _ _ _ _ _ q => q.elim⟩⟩
    have st := stp_trans s1 s2
    obtain ⟨vs2, hD2, l2, o2⟩ := (ow.step st).set (i + j) r2
    have e2 : vs2 = vs := by
      have := st _ _ hD ow.2.1
      rw [hD2] at this
      cases this
      rfl
    subst e2
    refine ⟨_, sn, _, sa, _, sb, _, _, rfl, rfl, D, vs2, _, i + j, rfl, rfl, hD2, by rw [ec]; exact ixN_own lt, ?_⟩
    exact c _ ρ σ _ q2 (stpX_trans (stpX_of st) stpX_set) (inv_upd i2 ow.2.1) (RelS.stepX ow.1 (stpX_trans (stpX_of st) stpX_set) rs) o2
/-- xs = [e] * n, a statement over the list, return tuple(xs) -/
def dOwn (n : Nat) (wl wn : WE) (b : WOwn) : WS := fun m DD ρ => wl m ρ (fun x => wn m ρ (fun y => ∃ u k, x = .lst [u] ∧ y = .int k ∧ -(2 ^ 63) ≤ k ∧ k < 2 ^ 63 ∧ k.toNat ≤ sizeLine ∧ n < ρ.length ∧
  ∀ D, b (addB m [D]) D (List.replicate k.toNat u) (fun us' ρ' => ρ'[n]? = some (some (.raw (.ref D))) ∧ DD.rt (.tup us')) (ρ.set n (some (.raw (.ref D))))) (DD.ex ρ)) (DD.ex ρ)
theorem dss_own {n : Nat} {wl wn : WE} {b : WOwn} {s0 s1 s2 : Stmt} (h0 : PS X s0 (tAsg (tOp rRep (tE X.K W wl) (tE X.K W wn)) (L2.gName n))) (h1 : PS X s1 (tOwn X.K b))
    (h2 : PS X s2 (tRet (tCB (fun xs H Q => ∃ p ys, xs = [.ref p] ∧ ((SqL X.K H p ys ∧ ∀ l, H l = none → Q (.ref l) (upd H l (.tup ys))) ∨ (SqT X.K H p ys ∧ Q (.ref p) H))) (tCons (tVar n) tNil)))) : DSs X W [s0, s1, s2] (dOwn n wl wn b) :=
  PSs.weak (pss_cons h0 (pss_cons h1 (pss_one h2))) fun Dn σ H ⟨m, ρ, DD, iv, rs, q, c⟩ => by
    refine ⟨m, ρ, _, DD.ex ρ, c.ge iv rs, q, fun x v1 H1 q1 s1 i1 r1 => ?_⟩
    refine ⟨m, ρ, _, DD.ex ρ, (c.ge iv rs).step s1 i1, q1, fun y v2 H2 ⟨u, k, ex, ey, k1, k2, kz, ln, q2⟩ s2 i2 r2 => ?_⟩
    subst ex ey
    obtain ⟨p, vs, rfl, _, hp, lv⟩ := rel_lst (Rel.step s2 r1)
    obtain ⟨v0, rfl, r0⟩ := rl1 lv
    have e2 := rel_int r2
    subst e2
    refine ⟨p, k, [v0], rfl, rfl, hp, k1, k2, by simpa using kz, fun D hD => ?_⟩
    have st := stp_trans s1 s2
    have hB : ∀ b ∈ [D], H2 b = none := fun b hb => by
      rw [List.mem_singleton.mp hb]
      exact hD
    have kD := ok_new i2 hD
    have er : (List.replicate k.toNat [v0]).flatten = List.replicate k.toNat v0 := by simp
    rw [er]
    have i3 : invM (addB m [D]) (upd H2 D (.lst (List.replicate k.toNat v0))) := by
      have z := inv_new (o := .lst (List.replicate k.toNat v0)) i2 hD
      refine ⟨z.1, fun b hb => ?_, z.2.2⟩
      rcases List.mem_append.mp hb with hb | hb
      · rw [List.mem_singleton.mp hb, upd_same]
        exact fun z => nomatch z
      · exact z.2.1 b hb
    have inD : D ∈ (addB m [D]).ban := List.mem_cons_self
    have r3 : RelS X.K (addB m [D]) (upd H2 D (.lst (List.replicate k.toNat v0))) (σ.set n (some (.ref D))) (ρ.set n (some (.raw (.ref D)))) := by
      refine RelS.set ⟨rs.1, fun i u e => ?_⟩ n (.raw _)
      obtain ⟨v, g1, g2⟩ := (RelS.step st rs).2 i u e
      exact ⟨v, g1, Rel.updB inD (Rel.addB hB g2)⟩
    refine ⟨addB m [D], D, _, _, _, i3, r3, ⟨inD, kD.1, _, upd_same, RelL.rep (Rel.updB inD (Rel.addB hB r0)) _⟩, q2 D, fun us' ρ' σ' H4 ⟨en, q4⟩ s4 i4 r4 o4 => ?_⟩
    obtain ⟨vn, sn, rn⟩ := r4.2 n _ en
    cases rn
    obtain ⟨_, _, ys, hy, ly⟩ := o4
    refine ⟨_, sn, D, ys, rfl, .inl ⟨.inl (.inl hy), fun l hl => ?_⟩⟩
    have s5 : stpM m H H4 := fun b o h k => by
      have h2 := st b o h k
      have ne : b ≠ D := fun z => by
        rw [z, hD] at h2
        cases h2
      exact s4 b o ne (by rw [upd_ne ne]; exact h2) k
    exact (c.rt.step s5).tup ⟨i4.1, fun b hb => i4.2.1 b (List.mem_append_right _ hb), i4.2.2⟩ hl (RelL.cut ly) q4
end
end DL
set_option Elab.async false
set_option linter.all false
set_option maxRecDepth 100000
set_option maxHeartbeats 4000000
/-! the data layer: what repr tells, how long it is -/
namespace DL
open PySem PySem.Spec PyProof.Rows L2 XR
structure Rp (dep n : Nat) (u : U) : Prop where
  d : isD u = true
  s : (toP u).showable = true
  p : (toP u).depth ≤ dep
  l : (toP u).shown.length ≤ n
theorem Rp.ok {dep n : Nat} {u : U} (h : Rp dep n u) (hd : dep ≤ 60 := by decide) (hn : n ≤ sizeLine := by decide) : rpOk u := ⟨h.d, h.s, Nat.le_trans h.p hd, Nat.le_trans h.l hn⟩
theorem Rp.up {dep n dep' n' : Nat} {u : U} (h : Rp dep n u) (hd : dep ≤ dep') (hn : n ≤ n') : Rp dep' n' u := ⟨h.d, h.s, Nat.le_trans h.p hd, Nat.le_trans h.l hn⟩
theorem rps {dep n : Nat} : ∀ {us : List U}, (∀ u ∈ us, Rp dep n u) → isDs us = true ∧ PyData.showableAll (toPs us) = true ∧ PyData.depthAll (toPs us) ≤ dep ∧ piled (PyData.shownAll (toPs us)) ≤ us.length * (n + 2)
  | [], _ => ⟨rfl, rfl, Nat.zero_le _, Nat.zero_le _⟩
  | u :: us, h => by
    obtain ⟨h1, h2, h3, h4⟩ := rps (us := us) fun v hv => h v (List.mem_cons_of_mem _ hv)
    have a := h u List.mem_cons_self
    refine ⟨?_, ?_, ?_, ?_⟩
    · show (isD u && isDs us) = true
      rw [a.d, h1]
      rfl
    · show ((toP u).showable && PyData.showableAll (toPs us)) = true
      rw [a.s, h2]
      rfl
    · show max (PyData.depth (toP u)) (PyData.depthAll (toPs us)) ≤ dep
      exact Nat.max_le.mpr ⟨a.p, h3⟩
    · show piled ((toP u).shown :: PyData.shownAll (toPs us)) ≤ (us.length + 1) * (n + 2)
      rw [piled_cons, Nat.succ_mul]
      have := a.l
      omega
theorem sep_le (k : Nat) : (((if k > 0 then ", " else "") : String) : Str).length ≤ 2 := by
  by_cases c : k > 0
  · rw [if_pos c]
    decide
  · rw [if_neg c]
    decide
theorem from_le : ∀ (ts : List Str) (k : Nat) (acc : Str), (textFrom k acc ts).length ≤ acc.length + piled ts
  | [], _, _ => Nat.le_refl _
  | t :: r, k, acc => by
    have ih := from_le r (k + 1) (acc ++ (((if k > 0 then ", " else "") : String) : Str) ++ t)
    have s := sep_le k
    rw [strLen_append, strLen_append] at ih
    rw [piled_cons]
    exact Nat.le_trans ih (by omega)
theorem listText_le (ts : List Str) : (listText ts).length ≤ 3 + piled ts := by
  have a := from_le ts 0 "["
  have b : (Str.ofString "[").length = 1 := by decide
  have c : (Str.ofString "]").length = 1 := by decide
  unfold listText
  rw [strLen_append]
  omega
theorem close_le (b : Bool) : (((if b = true then ",)" else ")") : String) : Str).length ≤ 2 := by cases b <;> decide
theorem tupleText_le (ts : List Str) : (tupleText ts).length ≤ 3 + piled ts := by
  have a : (Str.ofString "(").length = 1 := by decide
  have b := close_le (ts.length == 1)
  have c : (Str.join ", " ts).length ≤ piled ts := by
    cases ts with
    | nil => exact Nat.le_refl _
    | cons t r =>
      have := join_length_add (t :: r) (fun z => nomatch z)
      omega
  unfold tupleText
  rw [strLen_append, strLen_append]
  omega
theorem rp_tup {dep n L : Nat} {us : List U} (h : ∀ u ∈ us, Rp dep n u) (hl : us.length ≤ L) : Rp (dep + 1) (3 + L * (n + 2)) (.tup us) := by
  obtain ⟨h1, h2, h3, h4⟩ := rps h
  refine ⟨h1, h2, Nat.succ_le_succ h3, ?_⟩
  have a := tupleText_le (PyData.shownAll (toPs us))
  have b : us.length * (n + 2) ≤ L * (n + 2) := Nat.mul_le_mul_right _ hl
  show (tupleText (PyData.shownAll (toPs us))).length ≤ _
  omega
theorem rp_lst {dep n L : Nat} {us : List U} (h : ∀ u ∈ us, Rp dep n u) (hl : us.length ≤ L) : Rp (dep + 1) (3 + L * (n + 2)) (.lst us) := by
  obtain ⟨h1, h2, h3, h4⟩ := rps h
  refine ⟨h1, h2, Nat.succ_le_succ h3, ?_⟩
  have a := listText_le (PyData.shownAll (toPs us))
  have b : us.length * (n + 2) ≤ L * (n + 2) := Nat.mul_le_mul_right _ hl
  show (listText (PyData.shownAll (toPs us))).length ≤ _
  omega
theorem rp_int {i : Int} {k : Nat} (h : i.natAbs < 2 ^ k) (hk : 0 < k) (hk2 : k ≤ 1920) : Rp 0 (k + 1) (.int i) := by
  refine ⟨rfl, ?_, Nat.le_refl 0, ?_⟩
  · show decide (i.natAbs.log2 < 1920) = true
    exact decide_eq_true (Nat.lt_of_lt_of_le (PySem.Flt.log2_lt_of hk h) hk2)
  · show (Str.ofString (toString i)).length ≤ k + 1
    rw [PySem.ofString_length]
    exact int_text_length_le hk (PySem.Flt.log2_lt_of hk h)
theorem rp_bl (b : Bool) : Rp 0 5 (.bl b) := by
  refine ⟨rfl, rfl, Nat.le_refl 0, ?_⟩
  cases b <;> decide
theorem rp_non : Rp 0 5 .non := by
  refine ⟨rfl, rfl, Nat.le_refl 0, ?_⟩
  decide
/-! ### is None, is True as tests -/
section
variable {X : Cx} {W : WX} {a : Expr} {wa : WE} {pos : Pos}
theorem dt_isN {j pos'} (ha : DE X W a wa) : DT X W (.Compare a [.Is] [.Constant .none j pos'] pos) (dTest (dUn gIsN wa)) := PT.weak (pt_cmp (pc_isN ha)) fun σ H Q' ⟨m, ρ, Q, Z, ge, q, c⟩ =>
  ⟨m, ρ, _, Z, ge, q, fun u v H1 ⟨h, b, e, q1⟩ s1 i1 r1 => ⟨decide (v = V.non), rfl, by
    have eb : uIsN u = b := by injection e
    rw [rel_isN r1 h, eb]
    exact c _ H1 q1 s1 i1⟩⟩
theorem dt_notN {j pos'} (ha : DE X W a wa) : DT X W (.Compare a [.IsNot] [.Constant .none j pos'] pos) (dTest (dUn gNotN wa)) := PT.weak (pt_cmp (pc_notN ha)) fun σ H Q' ⟨m, ρ, Q, Z, ge, q, c⟩ =>
  ⟨m, ρ, _, Z, ge, q, fun u v H1 ⟨h, b, e, q1⟩ s1 i1 r1 => ⟨!decide (v = V.non), rfl, by
    have eb : (!uIsN u) = b := by injection e
    rw [rel_isN r1 h, eb]
    exact c _ H1 q1 s1 i1⟩⟩
theorem dt_isT {x : Bool} {j pos'} (ha : DE X W a wa) : DT X W (.Compare a [.Is] [.Constant (.bool x) j pos'] pos) (dTest (dOp gIsB wa (dC (.bl x)))) := dt_cmp op_isBl opd_isB ha de_bl (nomark _)
theorem dt_notT {x : Bool} {j pos'} (ha : DE X W a wa) : DT X W (.Compare a [.IsNot] [.Constant (.bool x) j pos'] pos) (dTest (dOp gNotB wa (dC (.bl x)))) := dt_cmp op_notBl opd_notB ha de_bl (nomark _)
end
/-! ### a, b, c = x, y, z -/
def dPar3 (i j l : Nat) (w : WA) : WS := fun m D ρ => w m ρ (fun us => ∃ a b c, us = [a, b, c] ∧ D.nx (((ρ.set i (some a)).set j (some b)).set l (some c))) (D.ex ρ)
theorem ds_of_par3 {X : Cx} {W : WX} {st : Stmt} {i j l : Nat} {w : WA} (h : PS X st (tPar3 i j l (tA X.K W w))) : DS X W st (dPar3 i j l w) := PS.weak h fun D σ H ⟨m, ρ, DD, iv, rs, q, c⟩ =>
  ⟨m, ρ, _, _, c.ge iv rs, q, fun us vs H' ⟨a, b, d, e, q'⟩ s' i' r' => by
    subst e
    obtain ⟨x, y, z, rfl, r1, r2, r3⟩ := rl3 r'
    exact ⟨_, _, _, rfl, c.nx _ _ H' q' s' i' (RelS.set (RelS.set (RelS.set (RelS.step s' rs) i r1) j r2) l r3)⟩⟩
theorem ex_three {u v w : U} {Q : U → U → U → Prop} : (∃ a b c, [u, v, w] = [a, b, c] ∧ Q a b c) ↔ Q u v w := by
  constructor
  · rintro ⟨x, t, s, e, q⟩
    injection e with e1 e2
    injection e2 with e2 e3
    injection e3 with e3 e4
    subst e1 e2 e3
    exact q
  · exact fun q => ⟨_, _, _, rfl, q⟩
/-! ### == of texts -/
def gEqS : W2 := fun a b Q => ∃ x y, a = .str x ∧ b = .str y ∧ Q (.bl (decide (x = y)))
def gNeS : W2 := fun a b Q => ∃ x y, a = .str x ∧ b = .str y ∧ Q (.bl (!decide (x = y)))
theorem dec_strs (x y : Str) : decide (V.str x = V.str y) = decide (x = y) := by
  rw [Bool.eq_iff_iff]
  simp
section
variable {K : PySem.W.Frag} {X : Cx} {W : WX} {a b : Expr} {wa wb : WE} {pos : Pos}
theorem opd_eqS : OpD K rEq gEqS := fun m x y a b H Q Q' iv ra rb ⟨i, j, ea, eb, q⟩ c => by
  subst ea eb
  rw [rel_str ra, rel_str rb]
  refine ⟨rfl, ?_⟩
  rw [dec_strs]
  exact c.here iv q (.bl _)
theorem opd_neS : OpD K rNe gNeS := fun m x y a b H Q Q' iv ra rb ⟨i, j, ea, eb, q⟩ c => by
  subst ea eb
  rw [rel_str ra, rel_str rb]
  refine ⟨rfl, ?_⟩
  rw [dec_strs]
  exact c.here iv q (.bl _)
theorem de_eqS (ha : DE X W a wa) (hb : DE X W b wb) : DE X W (.Compare a [.Eq] [b] pos) (dOp gEqS wa wb) := de_cmp op_eq opd_eqS ha hb (nomark _)
theorem de_neS (ha : DE X W a wa) (hb : DE X W b wb) : DE X W (.Compare a [.NotEq] [b] pos) (dOp gNeS wa wb) := de_cmp op_ne opd_neS ha hb (nomark _)
theorem dt_eqS (ha : DE X W a wa) (hb : DE X W b wb) : DT X W (.Compare a [.Eq] [b] pos) (dTest (dOp gEqS wa wb)) := dt_cmp op_eq opd_eqS ha hb (nomark _)
theorem dt_neS (ha : DE X W a wa) (hb : DE X W b wb) : DT X W (.Compare a [.NotEq] [b] pos) (dTest (dOp gNeS wa wb)) := dt_cmp op_ne opd_neS ha hb (nomark _)
end
theorem eqS_same (x : Str) (Q : U → Prop) : gEqS (.str x) (.str x) Q ↔ Q (.bl true) := by
  constructor
  · rintro ⟨a, b, e1, e2, q⟩
    cases e1
    cases e2
    rw [decide_eq_true rfl] at q
    exact q
  · intro q
    exact ⟨x, x, rfl, rfl, by rw [decide_eq_true rfl]; exact q⟩
theorem neS_same (x : Str) (Q : U → Prop) : gNeS (.str x) (.str x) Q ↔ Q (.bl false) := by
  constructor
  · rintro ⟨a, b, e1, e2, q⟩
    cases e1
    cases e2
    rw [decide_eq_true rfl] at q
    exact q
  · intro q
    exact ⟨x, x, rfl, rfl, by rw [decide_eq_true rfl]; exact q⟩
theorem fRp_tup (us : List U) (Q : U → Prop) (h : rpOk (.tup us)) (q : Q (.str (toP (.tup us)).shown)) : fRp [.tup us] Q := ⟨_, rfl, .inl ⟨_, rfl⟩, h, q⟩
theorem fRp_lst (us : List U) (Q : U → Prop) (h : rpOk (.lst us)) (q : Q (.str (toP (.lst us)).shown)) : fRp [.lst us] Q := ⟨_, rfl, .inr ⟨_, rfl⟩, h, q⟩
end DL
set_option Elab.async false
set_option linter.all false
set_option maxRecDepth 100000
set_option maxHeartbeats 4000000
/-! the data layer: try, with clauses that return -/
namespace DL
open PySem PySem.Spec PyProof.Rows L2 XR
open PySem.XK (ExF)
abbrev HT0 := Addr → Value → Option Addr → TS
/-- what a clause returns, from the error's thing -/
abbrev WH := U → (U → Prop) → Prop
structure HRd (K : PySem.W.Frag) (i : Nat) (ts : HT0) (C : Addr) (wh : WH) : Prop where
  run : ∀ (m : Mo) (H : Hp) (D : Ends) (σ : L2.St) (ρ : Env) (a d : Addr) (v : V) (u : U) (Q : U → Prop), invM m H → RelS K m H σ ρ → okA m d → H d = some (xdO v) → Rel K m H v u → i < σ.length → wh u Q → Cont K m H Q D.rt →
    ts a (.ref C) (some d) (goE i D) (σ.set i (some (.ref a))) H
inductive HdD (K : PySem.W.Frag) (i : Nat) : List (Value × HT0) → List (Addr × WH) → Prop
  | nil : HdD K i [] []
  | cons {C : Addr} {ts : HT0} {wh : WH} {l : List (Value × HT0)} {r : List (Addr × WH)} (h : HRd K i ts C wh) (t : HdD K i l r) : HdD K i ((.ref C, ts) :: l) ((C, wh) :: r)
def dHd (K : PySem.W.Frag) (i : Nat) (D : DEnds) (ρ : Env) : List (Addr × WH) → XQ
  | [] => fun C u => D.ex ρ C u
  | (C', wh) :: r => fun C u => ∃ b, PySem.W.exmOne K (.ref C) (.ref C') = some b ∧ (b = true → C = C' ∧ wh u D.rt) ∧ (b = false → dHd K i D ρ r C u)
def dTry (K : PySem.W.Frag) (i : Nat) (wb : WS) (r : List (Addr × WH)) : WS := fun m D ρ => wb m { D with ex := fun ρ' C u => i < ρ'.length ∧ dHd K i D ρ' r C u } ρ
section
variable {X : Cx} {m : Mo} {W : WX} {K : PySem.W.Frag} {H : Hp}
theorem hd_ends {i : Nat} {D : Ends} {DD : DEnds} {l : List (Value × HT0)} {r : List (Addr × WH)} (h : HdD K i l r) (c : ContS K m W H DD D) : ∀ (ρ : Env) (σ : L2.St) (H' : Hp), i < σ.length → stpM m H H' → RelS K m H' σ ρ → ContE K m H' (dHd K i DD ρ r) fun c d H2 => wMa K W i D l c d σ H2 := by
  induction h with
  | nil => exact fun ρ σ H' _ s rs => c.ex ρ σ H' s rs
  | @cons C' ts wh l r h t ih =>
    intro ρ σ H' hi s rs C u v d H2 q s2 i2 ru kd ed
    obtain ⟨b, hb, yes, no⟩ := q
    refine ⟨b, hb, fun e a ha => ?_, fun e => ?_⟩
    · obtain ⟨rfl, q⟩ := yes e
      exact h.run m H2 D σ ρ a d v u DD.rt i2 (RelS.step s2 rs) kd ed ru hi q (c.rt.step (stp_trans s s2))
    · exact ih ρ σ H' hi s rs C u v d H2 (no e) s2 i2 ru kd ed
theorem ds_try {n : Str} {i : Nat} {body : List Stmt} {h₀ : ExceptHandler} {hds : List ExceptHandler} {l : List (Value × HT0)} {r : List (Addr × WH)} {pos : Pos} {wb : WS} (hs : X.stack = X.env :: X.outer) (hf : X.env.frame = some X.env.locals) (hN : X.N.Nodup) (hi : X.N[i]? = some n)
    (hln : X.env.kindOf n = some .local) (tk : Takes X W) (hb : ∀ (W' : WX) (pn : List (Addr × Obj)) (xe : Value → Shared → Prop), Takes (X.tr pn xe) W' → PassesOwn (model X.prog X.w) X.A X.env xe → PSs (X.tr pn xe) body (tS X.K W' wb))
    (hh : HdA X n (h₀ :: hds) l) (hd : HdD X.K i l r) : DS X W (.Try body (h₀ :: hds) [] [] pos) (dTry X.K i wb r) :=
  PS.weak (ps_try_ma (i := i) (l := l) (Wout := W) (tb := fun W' => tS X.K W' wb) hs hf hN hi hln tk hb hh) fun D σ H ⟨m, ρ, DD, iv, rs, q, c⟩ =>
    ⟨m, ρ, { DD with ex := fun ρ' C u => i < ρ'.length ∧ dHd X.K i DD ρ' r C u }, iv, rs, q, ⟨c.nx, c.rt, fun ρ' σ' H' s r2 C u v d H2 ⟨hi2, z⟩ s2 i2 ru kd ed => hd_ends hd c ρ' σ' H' (by rw [r2.1]; exact hi2) s r2 C u v d H2 z s2 i2 ru kd ed, c.bk, c.ct⟩⟩
/-! ### clauses that return a tuple of a text, the thing, what it is -/
theorem var_set {σ : L2.St} {i : Nat} {v : V} (h : i < σ.length) : (σ.set i (some v))[i]? = some (some v) := List.getElem?_set_self h
/-- isinstance(e, C), one by one -/
def tIs (K : PySem.W.Frag) (i : Nat) (a : Addr) (cls : Value) (d : Option Addr) (S : Addr) : TE := tCB (rIsS K a cls d) (tCons (tVar i) (tCons (tC (.ref S)) tNil))
theorem tIs_run {i : Nat} {a C d S fI : Addr} {b : Bool} {v : V} {σ : L2.St} {Q : VK} (T : ExF K C fI) (e : PySem.W.kitOne K (.ref C) (.ref S) = some b) (hi : i < σ.length) (ed : H d = some (xdO v)) (q : Q (.bl b) H) : tIs K i a (.ref C) (some d) S (σ.set i (some (.ref a))) H Q :=
  ⟨_, var_set hi, C, fI, d, v, .ref S, .ref S, b, rfl, rfl, rfl, T, ed, .own S, e, q⟩
def tsIs1 (K : PySem.W.Frag) (i : Nat) (x : Str) (S : Addr) : HT0 := fun a cls d => tRet (tTup (tCons (tC (.str x)) (tCons (tSf K a cls d (tVar i)) (tCons (tIs K i a cls d S) tNil))))
theorem hrd_is1 {i : Nat} {x : Str} {C S fI : Addr} {b : Bool} (T : ExF K C fI) (e : PySem.W.kitOne K (.ref C) (.ref S) = some b) : HRd K i (tsIs1 K i x S) C fun u Q => Q (.tup [.str x, u, .bl b]) :=
  ⟨fun m H D σ ρ a d v u Q iv rs kd ed ru hi q c => by
    refine ⟨_, var_set hi, rfl, C, fI, d, v, rfl, rfl, T, ed, tIs_run T e hi ed ⟨(by show 3 ≤ sizeLine; decide), fun p hp => ?_⟩⟩
    exact c.tup iv hp (.cons (.str x) (.cons ru (.cons (.bl b) .nil))) q⟩
/-- .. in a list of three -/
def tsIs3 (K : PySem.W.Frag) (i : Nat) (x : Str) (S1 S2 S3 : Addr) : HT0 := fun a cls d => tRet (tTup (tCons (tC (.str x)) (tCons (tSf K a cls d (tVar i)) (tCons (tLst (tCons (tIs K i a cls d S1) (tCons (tIs K i a cls d S2) (tCons (tIs K i a cls d S3) tNil)))) tNil))))
theorem hrd_is3 {i : Nat} {x : Str} {C S1 S2 S3 fI : Addr} {b1 b2 b3 : Bool} (T : ExF K C fI) (e1 : PySem.W.kitOne K (.ref C) (.ref S1) = some b1) (e2 : PySem.W.kitOne K (.ref C) (.ref S2) = some b2) (e3 : PySem.W.kitOne K (.ref C) (.ref S3) = some b3) :
    HRd K i (tsIs3 K i x S1 S2 S3) C fun u Q => Q (.tup [.str x, u, .lst [.bl b1, .bl b2, .bl b3]]) :=
  ⟨fun m H D σ ρ a d v u Q iv rs kd ed ru hi q c => by
    refine ⟨_, var_set hi, rfl, C, fI, d, v, rfl, rfl, T, ed, tIs_run T e1 hi ed (tIs_run T e2 hi ed (tIs_run T e3 hi ed ⟨(by show 3 ≤ sizeLine; decide), fun l hl => ⟨(by show 3 ≤ sizeLine; decide), fun p hp => ?_⟩⟩))⟩
    have s1 : stpM m H (upd H l (.lst [.bl b1, .bl b2, .bl b3])) := stp_new hl
    have r3 : Rel K m (upd H l (.lst [.bl b1, .bl b2, .bl b3])) (.ref l) (.lst [.bl b1, .bl b2, .bl b3]) := new_lst iv hl (.cons (.bl b1) (.cons (.bl b2) (.cons (.bl b3) .nil)))
    exact (c.step s1).tup (inv_new iv hl) hp (.cons (.str x) (.cons (Rel.step s1 ru) (.cons r3 .nil))) q⟩
end
end DL
set_option Elab.async false
set_option linter.all false
set_option maxRecDepth 100000
set_option maxHeartbeats 4000000
/-! the data layer: a law's def; its first statement makes the deck -/
namespace DL
open PySem PySem.Spec PyProof.Rows L2 XR
/-- a law: of every list of at most n ints it tells True -/
structure LawFn (P : Program) (w : World) (K : PySem.W.Frag) (mg : Str → Option Value) (base : Heap) (k n : Nat) (f : Addr) (fd : FuncData) (x : Str) (tabs : List Addr) : Prop where
  run : ∀ (A : Around) (outer : List PySem.Env) (s : Shared) (H : Hp) (args : Args) (u : Value) (a : Addr) (ns : List Int), Room k A → A.guards = some [] → Env0 P w K mg base A outer s H → BindsTo s fd args [(x, u)] → RelV (.ref a) u →
    ns.length ≤ n → SqL K H a (ns.map V.int) → (∀ b ∈ tabs, GxR.TabG H b) → codeAny (model P w) A (.call (.ref f) args) (CR (L2.CX P w) outer P w H s (fun v _ => v = .bl true) fun _ _ _ => False) s
abbrev lawD : Ends := { nx := fun _ _ => False, rt := fun v _ => v = .bl true }
abbrev lawDD : DEnds := { nx := fun _ => False, rt := fun u => u = .bl true, ex := fun _ _ _ => False }
section
variable {P : Program} {w : World} {K : PySem.W.Frag} {mg : Str → Option Value} {base : Heap}
theorem law_of {k n : Nat} {f : Addr} {x y qual : Str} {st : Stmt} {fd : FuncData} {N : List Str} {tabs : List Addr} (F : Fun K x qual st f fd) (S : FnScope N [y] (defScope st))
    (hbody : ∀ (cdv : Value) (A : Around) (outer : List PySem.Env) (s : Shared) (H : Hp) (a : Addr) (ns : List Int), Room k (A.deeper (envOfC qual (defScope st) s.heap.objs.size f cdv)) → (A.deeper (envOfC qual (defScope st) s.heap.objs.size f cdv)).guards = some [] →
      Takes (cxOf (L2.CX P w) P w K mg base N qual (defScope st) f cdv A outer s H fun _ _ _ => False) (fun _ _ _ _ => False) → ns.length ≤ n → SqL K H a (ns.map V.int) → (∀ b ∈ tabs, GxR.TabG H b) →
      ∃ t, PSs (cxOf (L2.CX P w) P w K mg base N qual (defScope st) f cdv A outer s H fun _ _ _ => False) (defBody st) t ∧ t lawD (L2.start N [.ref a]) H) :
    LawFn P w K mg base (k + 1) n f fd y tabs := by
  obtain ⟨oc, od, kV, doc, pm, an, cdv, ct, osl, rfl, lk, hcd⟩ := F.ex
  refine ⟨fun A outer s H args u a ns hr hg e0 hb ru hn hS hT => ?_⟩
  have KX : K.In s.heap := e0.mod.kin.keeps fun b o e => (e0.bs b o e).1
  have lim : s.heap.NoLimit := e0.mod.nolimit.keeps fun b o e => (e0.bs b o e).1
  have kinds : ∀ y' ∈ [(y, u)], (defScope st).names.lookup y'.1 = some .local ∨ ((defScope st).names.lookup y'.1 = some .cell ∧ ((cellsFrom (s.heap.objs.size + 1) (defScope st).names []).lookup y'.1).isSome = true) := fun p hp => by
    rw [List.mem_singleton.mp hp]
    rcases S.par y (List.mem_singleton.mpr rfl) with q | q
    · exact .inl q
    · exact .inr ⟨q, PySem.W.cellsFrom_some _ _ _ (.inl q)⟩
  refine codeAny_call_function hr.depth (KX _ _ lk) rfl S.co S.gen rfl (PySem.W.codeRec_of KX hcd) (hb _ _ _ _ ?_)
  refine wpAny_newFunctionEnv_cells S.kind kinds fun env he s1 ic => ?_
  subst he
  refine ⟨lim.keeps ic.toInCall.keep, codeAny_func ?_⟩
  obtain ⟨t, ht, hq⟩ := hbody cdv A outer s H a ns (hr.deeper _) hg (takes_of rfl rfl rfl rfl) hn hS hT
  have I : Inv (cxOf (L2.CX P w) P w K mg base N qual (defScope st) f cdv A outer s H fun _ _ _ => False) [] (L2.start N [.ref a]) H s1 := inv_start S hr.hd e0 rfl (.cons ru .nil) ic
  refine wpAny_mono (ht.run [] s1 (L2.start N [.ref a]) H _ I hq) (fun fl s' hs => ?_) fun e s' hs => hs
  cases fl with
  | ret u' =>
    obtain ⟨v, σ', H', J, rv, q⟩ := hs
    exact ⟨v, H', J.os, J.bare, J.base, J.hok, rv, q⟩
  | next =>
    obtain ⟨_, _, _, q⟩ := hs
    exact q.elim
  | brk =>
    obtain ⟨_, _, _, q⟩ := hs
    exact q.elim
  | cont =>
    obtain ⟨_, _, _, q⟩ := hs
    exact q.elim
/-- behind the deck's making: data alone -/
theorem law_go {W : WX} {tabs : List Addr} {d l : Addr} {H : Hp} {σ : L2.St} {wd : WS} (ρ : Env) (A : DeckAt H d l) (T : ∀ b ∈ tabs, GxR.TabG H b) (e : σ.map (Option.map U.raw) = ρ) (h : wd ⟨some (d, l), [], tabs⟩ lawDD ρ) : tS K W wd lawD σ H := by
  subst e
  refine ⟨⟨some (d, l), [], tabs⟩, _, lawDD, ⟨A, (fun b hb => nomatch hb), T⟩, ⟨by rw [List.length_map], fun i u e => ?_⟩, h, ⟨fun _ _ _ q => q.elim, fun u v H' q _ _ r => ?_, fun _ _ _ _ _ => fun _ _ _ _ _ z => z.elim, fun _ _ _ q => q.elim, fun _ _ _ q => q.elim⟩⟩
  · rw [List.getElem?_map] at e
    cases q : σ[i]? with
    | none =>
      rw [q] at e
      cases e
    | some o =>
      rw [q] at e
      cases o with
      | none =>
        have e2 := Option.some.inj e
        cases e2
      | some v =>
        have e2 : U.raw v = u := Option.some.inj (Option.some.inj e)
        subst e2
        exact ⟨v, rfl, .raw v⟩
  · have e : u = .bl true := q
    subst e
    exact rel_bl r
end
end DL
set_option Elab.async false
set_option linter.all false
set_option maxRecDepth 100000
set_option maxHeartbeats 4000000
/-! the data layer: the end of a law's row -/
namespace DL
open PySem PySem.Spec PyProof.Rows L2 XR
section
variable {P : Program} {w : World} {K : PySem.W.Frag}
/-- a table of code objects that is empty still -/
abbrev noTab : Obj := { cls := .none, data := .fields #[] }
abbrev listO (vs : List Value) : Obj := { cls := .type "list", data := .seq vs.toArray }
/-- what is tracked when a law begins: the tables; the script, if the module does not hold it -/
def hp0 (K : PySem.W.Frag) (tabs : List Addr) (a : Addr) (vs : List Value) (ns : List Int) : Hp := fun b =>
  if b ∈ tabs then some (.tbl #[]) else if b = a then (if K.lookup a = none then some (.frz (listO vs) (.lst (ns.map V.int))) else none) else none
structure Start (h : Heap) (K : PySem.W.Frag) (tabs : List Addr) (a : Addr) (vs : List Value) (ns : List Int) : Prop where
  kin : K.In h
  tab : ∀ b ∈ tabs, h.get? b = some noTab
  tno : ∀ b ∈ tabs, K.lookup b = none
  obj : h.get? a = some (listO vs)
  isI : IntsAre vs ns
  lenI : ns.length ≤ sizeLine
variable {h : Heap} {tabs : List Addr} {a : Addr} {vs : List Value} {ns : List Int}
theorem Start.aT (S : Start h K tabs a vs ns) : a ∉ tabs := fun z => by
  have e := S.tab a z
  rw [S.obj] at e
  have e2 : (listO vs).data = noTab.data := congrArg Obj.data (Option.some.inj e)
  cases e2
theorem hp0_tab (hb : b ∈ tabs) : hp0 K tabs a vs ns b = some (.tbl #[]) := if_pos hb
theorem hp0_at (S : Start h K tabs a vs ns) : hp0 K tabs a vs ns a = if K.lookup a = none then some (.frz (listO vs) (.lst (ns.map V.int))) else none := by
  unfold hp0
  rw [if_neg S.aT, if_pos rfl]
theorem hp0_off {b : Addr} (h1 : b ∉ tabs) (h2 : b ≠ a) : hp0 K tabs a vs ns b = none := by
  unfold hp0
  rw [if_neg h1, if_neg h2]
/-- what is neither a list nor an empty table is not tracked -/
theorem Start.off (S : Start h K tabs a vs ns) {b : Addr} {o : Obj} (e : h.get? b = some o) (h1 : o ≠ listO vs) (h2 : o ≠ noTab) : hp0 K tabs a vs ns b = none := by
  refine hp0_off (fun z => h2 ?_) fun z => h1 ?_
  · exact Option.some.inj (e.symm.trans (S.tab b z))
  · rw [z] at e
    exact Option.some.inj (e.symm.trans S.obj)
theorem Start.okH (S : Start h K tabs a vs ns) : HOk P w (hp0 K tabs a vs ns) h := fun b u z => by
  by_cases c1 : b ∈ tabs
  · rw [hp0_tab c1] at z
    cases z
    exact S.tab b c1
  · by_cases c2 : b = a
    · subst c2
      rw [hp0_at S] at z
      by_cases c3 : K.lookup b = none
      · rw [if_pos c3] at z
        cases z
        exact ⟨S.obj, by rw [List.length_map]; exact S.lenI, vs, _, vals_ints S.isI, S.obj⟩
      · rw [if_neg c3] at z
        cases z
    · rw [hp0_off c1 c2] at z
      cases z
theorem Start.sq (S : Start h K tabs a vs ns) : SqL K (hp0 K tabs a vs ns) a (ns.map V.int) := by
  cases e : K.lookup a with
  | none => exact .inl (.inr ⟨listO vs, by rw [hp0_at S, if_pos e]⟩)
  | some o =>
    have e2 := (S.kin a o e).symm.trans S.obj
    have e3 := Option.some.inj e2
    subst e3
    have hl := S.isI.length
    have hz := S.lenI
    exact .inr ⟨listO vs, vs.toArray, _, e, rfl, rfl, rfl, by rw [List.size_toArray, hl]; exact hz, by simpa using vals_ints S.isI⟩
/-- the base heap: all that is not tracked -/
abbrev base0 (h : Heap) (K : PySem.W.Frag) (tabs : List Addr) (a : Addr) (vs : List Value) (ns : List Int) : Heap := hidT h (hp0 K tabs a vs ns)
theorem Start.kinB (S : Start h K tabs a vs ns) : K.In (base0 h K tabs a vs ns) := fun b o e => by
  refine hidT_get (S.kin b o e) ?_
  by_cases c1 : b ∈ tabs
  · rw [S.tno b c1] at e
    cases e
  · by_cases c2 : b = a
    · subst c2
      rw [hp0_at S, if_neg (by rw [e]; exact fun z => nomatch z)]
    · exact hp0_off c1 c2
theorem Start.nsB (S : Start h K tabs a vs ns) {b : Addr} {m : Str → Option Value} (n : h.Ns b m) : (base0 h K tabs a vs ns).Ns b m := by
  obtain ⟨o, es, ep, e, d, r⟩ := n
  refine ⟨o, es, ep, hidT_get e (S.off e (fun z => ?_) fun z => ?_), d, r⟩
  · rw [z] at d
    cases d
  · rw [z] at d
    cases d
theorem Start.modB (S : Start h K tabs a vs ns) {mg mb : Str → Option Value} (g : h.Ns mainGlobals mg) (b : h.Ns builtinsNs mb) (bb : ∀ x : Str, x ≠ "__name__" → mb x = bootBuiltins x) (l : h.NoLimit) : L2.Mod K mg (base0 h K tabs a vs ns) := by
  obtain ⟨mc, l1, l2⟩ := l
  exact ⟨S.kinB, S.nsB g, ⟨mb, S.nsB b, bb⟩, mc, S.nsB l1, l2⟩
/-- the way back: old objects are as they were, but for the tables -/
theorem Start.back (S : Start h K tabs a vs ns) {h' : Heap} {H' : Hp} (ct : ∀ b ∈ tabs, isCodeTable h b) (un : Un (frs []) [] (hp0 K tabs a vs ns) H' h h') (ok' : HOk P w H' h') : OldK h h' := by
  have grow : ∀ b ∈ tabs, ∃ more : Array Value, h'.get? b = some { cls := .none, data := .fields more } := fun b hb => by
    obtain ⟨more, z⟩ := un.tbls b #[] (hp0_tab hb)
    exact ⟨_, ok' b _ z⟩
  have stay : ∀ b o, b ∉ tabs → h.get? b = some o → h'.get? b = some o := fun b o nb e => by
    have plain : hp0 K tabs a vs ns b = none → h'.get? b = some o := fun z => un.keep b o e z (fun y => nomatch y) (fun y => nomatch y)
    by_cases c2 : b = a
    · subst c2
      by_cases c3 : K.lookup b = none
      · have z : hp0 K tabs b vs ns b = some (.frz (listO vs) (.lst (ns.map V.int))) := by rw [hp0_at S, if_pos c3]
        obtain ⟨e2, _⟩ := ok' b _ (un.frzs b _ _ z)
        rw [Option.some.inj (e.symm.trans S.obj)]
        exact e2
      · exact plain (by rw [hp0_at S, if_neg c3])
    · exact plain (hp0_off nb c2)
  refine ⟨fun b o e => ?_, fun b o e => ?_⟩
  · by_cases hb : b ∈ tabs
    · obtain ⟨more, hm⟩ := grow b hb
      rw [Option.some.inj (e.symm.trans (S.tab b hb))]
      exact .inr (.inl ⟨ct b hb, rfl, #[], more, rfl, by rw [Array.empty_append]; exact hm⟩)
    · exact .inl (stay b o hb e)
  · by_cases hb : b ∈ tabs
    · obtain ⟨more, hm⟩ := grow b hb
      exact ⟨_, hm⟩
    · exact ⟨o, stay b o hb e⟩
/-- what is known of a law behind the top -/
structure LawAt (l : PySem.W.OpenLaw) (w : World) (k n : Nat) (x : Str) (mg : Str → Option Value) (fa : Addr) (h : Heap) : Prop where
  ex : ∃ (K : PySem.W.Frag) (fd : FuncData) (cs : List (Addr × Addr)), K.In h ∧ (∀ p ∈ cs, h.get? p.2 = some noTab) ∧ (∀ p ∈ cs, K.lookup p.2 = none) ∧ (∀ p ∈ cs, PySem.W.CodeHd h p.1 p.2) ∧ (∀ (s : Shared) (u : Value), BindsTo s fd ⟨[u], []⟩ [(x, u)]) ∧
    ∀ base : Heap, K.In base → base.Ns mainGlobals mg → (∀ p ∈ cs, GxR.TabB base mg p.1 p.2) → LawFn l.prog w K mg base k n fa fd x (cs.map (·.2))
theorem law_walk {l : PySem.W.OpenLaw} {n k : Nat} {q : Program} {loose : List Str} {XP : (Str → Option Value) → Heap → Prop} {YP : World → Heap → Prop} {d : DefRec} {x : Str}
    (hn : l.most = some n) (hn2 : n ≤ sizeLine) (hdf : d.params.defaults = []) (hr : Room k callerA)
    (F : ∀ (w : World) (mg : Str → Option Value) (fa : Addr) (h : Heap), YP w h → h.Ns mainGlobals mg → mg d.name = some (.ref fa) → LawAt l w k n x mg fa h) : PySem.W.WalkO q loose XP YP l.row.toRowW d [] (fun f vs => PySem.call f vs) := by
  refine Att.attach_callB hn hdf fun w s₀ s₁ mg mb fa o pm cd doc a vs ns G Y ho hd hcd hmg hobj hints hlen hbits hg => ?_
  obtain ⟨K, fd, cs, KX, hT, nT, C, hb, hF⟩ := (F w mg fa _ Y G.T.g hmg).ex
  have mem : ∀ b ∈ cs.map (·.2), ∃ p ∈ cs, p.2 = b := fun b z => List.mem_map.mp z
  have S : Start s₁.heap K (cs.map (·.2)) a vs ns := by
    refine ⟨KX, fun b z => ?_, fun b z => ?_, hobj, hints, Nat.le_trans hlen hn2⟩
    · obtain ⟨p, hp, e⟩ := mem b z
      exact e ▸ hT p hp
    · obtain ⟨p, hp, e⟩ := mem b z
      exact e ▸ nT p hp
  have ct : ∀ b ∈ cs.map (·.2), isCodeTable s₁.heap b := fun b z => by
    obtain ⟨p, hp, e⟩ := mem b z
    exact e ▸ ((C p hp).tab (hT p hp)).isCodeTable
  have TB : ∀ p ∈ cs, GxR.TabB (base0 s₁.heap K (cs.map (·.2)) a vs ns) mg p.1 p.2 := fun p hp => by
    refine ⟨?_, ?_, fun z => ?_⟩
    · obtain ⟨o, us, file, tf, flags, tg, inF, text, tt, e1, r1, r2, r⟩ := C p hp
      refine ⟨o, us, file, tf, flags, tg, inF, text, tt, hidT_get e1 (S.off e1 (fun z => ?_) fun z => ?_), r1, r2, r⟩
      · rw [z] at r2
        cases r2
      · rw [z] at r2
        cases r2
        simp at r
    · obtain ⟨bm, ob, b1, b2, b3, b4, b5, b6⟩ := G.T.bmain
      have off : hp0 K (cs.map (·.2)) a vs ns bm = none := S.off b3 (fun z => by rw [z] at b6; cases b6) fun z => by rw [z] at b6; cases b6
      refine ⟨bm, ob, b1, b2, fun e => ?_, fun e => ?_, hidT_get b3 off, b4, b5, b6⟩
      · obtain ⟨o, es, ep, q1, q2, _⟩ := G.T.g
        rw [← e, b3] at q1
        cases q1
        rw [b6] at q2
        cases q2
      · rw [e, hT p hp] at b3
        cases b3
        cases b6
    · obtain ⟨o, es, ep, e, q2, _⟩ := G.T.g
      rw [z, hT p hp] at e
      cases e
      cases q2
  have e0 : Env0 l.prog w K mg (base0 s₁.heap K (cs.map (·.2)) a vs ns) callerA [] s₁ (hp0 K (cs.map (·.2)) a vs ns) :=
    { frames := rfl, mod := S.modB G.T.g G.T.b G.T.builtins G.T.nolimit, bs := fun b o e => of_hidT e, bsz := Nat.le_of_eq (hidT_size _ _), funs := trivial, frf := (fun b hb => nomatch hb), hok := S.okH, bare := .of_eq hg }
  have L := hF _ S.kinB (S.nsB G.T.g) TB
  have tabs0 : ∀ b ∈ cs.map (·.2), GxR.TabG (hp0 K (cs.map (·.2)) a vs ns) b := fun b z => ⟨#[], hp0_tab z, trivial⟩
  refine codeAny_mono (L.run callerA [] s₁ _ ⟨[.ref a], []⟩ (.ref a) a ns hr rfl e0 (hb s₁ (.ref a)) rfl hlen S.sq tabs0) fun r s' z => ?_
  cases r with
  | error e =>
    obtain ⟨_, _, _, _, _, _, _, _, _, _, _, _, z⟩ := z
    exact z.elim
  | ok fl =>
    cases fl with
    | ret u =>
      obtain ⟨v, H', os, bare, un, hok', r', q⟩ := z
      have q' : v = .bl true := q
      subst q'
      obtain rfl : u = Value.bool true := r'
      exact ⟨rfl, S.back ct un hok', os, bare⟩
    | next => exact False.elim z
    | brk => exact False.elim z
    | cont => exact False.elim z
end
end DL
set_option Elab.async false
set_option linter.all false
set_option maxRecDepth 100000
set_option maxHeartbeats 4000000
/-! the data layer: a list of a def's own, changed by place -/
namespace DL
open PySem PySem.Spec PyProof.Rows L2 XR
mutual
/-- no list inside -/
def noLst : U → Bool
  | .lst _ => false
  | .raw _ => false
  | .tup us => noLsts us
  | _ => true
def noLsts : List U → Bool
  | [] => true
  | u :: us => noLst u && noLsts us
end
section
variable {X : Cx} {m : Mo} {W : WX} {K : PySem.W.Frag} {H H' H1 H2 : Hp} {D : Addr} {pos : Pos} {tg : Expr} {n : Nat}
mutual
theorem Rel.ban (hD : H D = some (.lst vs)) : ∀ {v : V} {u : U}, noLst u = true → Rel K m H v u → Rel K (addB m [D]) H v u
  | _, _, _, .non => .non
  | _, _, _, .bl b => .bl b
  | _, _, _, .int i => .int i
  | _, _, _, .str x => .str x
  | _, _, z, .tup h r => .tup (by
    rcases h with ⟨k, h⟩ | h
    · refine .inl ⟨⟨k.1, fun y => ?_⟩, h⟩
      rcases List.mem_append.mp y with y | y
      · rw [List.mem_singleton.mp y] at h
        rcases h with h | ⟨o, h⟩
        · rw [hD] at h
          cases h
        · rw [hD] at h
          cases h
      · exact k.2 y
    · exact .inr h) (RelL.ban hD z r)
  | _, _, z, .lst _ _ _ => nomatch z
  | _, _, z, .raw _ => nomatch z
theorem RelL.ban (hD : H D = some (.lst vs)) : ∀ {ws : List V} {us : List U}, noLsts us = true → RelL K m H ws us → RelL K (addB m [D]) H ws us
  | _, _, _, .nil => .nil
  | _, _, z, .cons h r => .cons (Rel.ban hD (Bool.and_eq_true_iff.mp z).1 h) (RelL.ban hD (Bool.and_eq_true_iff.mp z).2 r)
end
/-- the list stands at D, its name in slot n; all other names know nothing of it -/
structure OwSt (K : PySem.W.Frag) (m : Mo) (D : Addr) (n : Nat) (H : Hp) (σ : L2.St) (ρ : Env) (us : List U) : Prop where
  iv : invM (addB m [D]) H
  ok : okA m D
  rs : RelS K (addB m [D]) H σ ρ
  no : ρ[n]? = some (some (.raw (.ref D)))
  ow : ∃ vs, H D = some (.lst vs) ∧ RelL K (addB m [D]) H vs us
theorem inv_cutB (i : invM (addB m [D]) H) : invM m H := ⟨i.1, fun b hb => i.2.1 b (List.mem_cons_of_mem _ hb), i.2.2⟩
theorem inv_addB {o : HO} (i : invM m H) (h : H D = some o) : invM (addB m [D]) H := ⟨i.1, fun b hb => by
  rcases List.mem_append.mp hb with hb | hb
  · rw [List.mem_singleton.mp hb, h]
    exact fun z => nomatch z
  · exact i.2.1 b hb, i.2.2⟩
theorem OwSt.sl {σ : L2.St} {ρ : Env} {us : List U} (o : OwSt K m D n H σ ρ us) : σ[n]? = some (some (.ref D)) := by
  obtain ⟨v, h1, h2⟩ := o.rs.2 n _ o.no
  cases h2
  exact h1
theorem set_own_get {ρ : Env} {u x : U} (h : ρ[n]? = some (some x)) {i : Nat} {w : U} (e : (ρ.set n (some u))[i]? = some (some w)) : (i = n ∧ w = u) ∨ (i ≠ n ∧ ρ[i]? = some (some w)) := by
  by_cases c : n = i
  · subst c
    have l : n < ρ.length := (List.getElem?_eq_some_iff.mp h).1
    rw [List.getElem?_set_self l] at e
    exact .inl ⟨rfl, (Option.some.inj (Option.some.inj e)).symm⟩
  · rw [List.getElem?_set_ne c] at e
    exact .inr ⟨fun z => c z.symm, e⟩
/-- seen as any other list, while nothing is changed -/
theorem OwSt.view {σ : L2.St} {ρ : Env} {us : List U} (o : OwSt K m D n H σ ρ us) : invM m H ∧ RelS K m H σ (ρ.set n (some (.lst us))) := by
  obtain ⟨vs, hD, l⟩ := o.ow
  refine ⟨inv_cutB o.iv, by rw [List.length_set]; exact o.rs.1, fun i u e => ?_⟩
  rcases set_own_get o.no e with ⟨rfl, rfl⟩ | ⟨_, e⟩
  · exact ⟨_, o.sl, .lst o.ok hD (RelL.cut l)⟩
  · obtain ⟨v, h1, h2⟩ := o.rs.2 i u e
    exact ⟨v, h1, Rel.cut h2⟩
theorem OwSt.step {σ : L2.St} {ρ : Env} {us : List U} (o : OwSt K m D n H σ ρ us) (s : stpM m H H') (i : invM m H') : OwSt K m D n H' σ ρ us := by
  obtain ⟨vs, hD, l⟩ := o.ow
  have hD' := s _ _ hD o.ok.1
  exact ⟨inv_addB i hD', o.ok, RelS.step (m := addB m [D]) s o.rs, o.no, vs, hD', RelL.step (m := addB m [D]) s l⟩
theorem OwSt.setE {σ : L2.St} {ρ : Env} {us : List U} (o : OwSt K m D n H σ ρ us) {i : Nat} {v : V} {u : U} (hi : i ≠ n) (r : Rel K m H v u) (z : noLst u = true) : OwSt K m D n H (σ.set i (some v)) (ρ.set i (some u)) us := by
  obtain ⟨vs, hD, l⟩ := o.ow
  exact ⟨o.iv, o.ok, RelS.set o.rs i (Rel.ban hD z r), by rw [List.getElem?_set_ne hi]; exact o.no, vs, hD, l⟩
abbrev WO2 := Mo → List U → Env → (List U → Env → Prop) → Prop
def tOw (K : PySem.W.Frag) (n : Nat) (w : WO2) : TS := fun Dn σ H => ∃ m D us ρ N, OwSt K m D n H σ ρ us ∧ w m us ρ N ∧ ∀ us' ρ' σ' H', N us' ρ' → stpX m D H H' → OwSt K m D n H' σ' ρ' us' → Dn.nx σ' H'
def oNext : WO2 := fun _ us ρ N => N us ρ
def oSeq (a b : WO2) : WO2 := fun m us ρ N => a m us ρ fun us' ρ' => b m us' ρ' N
theorem oss_nil : PSs X [] (tOw X.K n oNext) := PSs.weak pss_nil fun Dn σ H ⟨m, D, us, ρ, N, o, w, c⟩ => c _ _ _ _ w (stpX_of stp_refl) o
theorem oss_one {st : Stmt} {w : WO2} (h : PS X st (tOw X.K n w)) : PSs X [st] (tOw X.K n w) := pss_one h
theorem oss_cons {st : Stmt} {rest : List Stmt} {a b : WO2} (h1 : PS X st (tOw X.K n a)) (h2 : PSs X rest (tOw X.K n b)) : PSs X (st :: rest) (tOw X.K n (oSeq a b)) := PSs.weak (pss_cons h1 h2) fun Dn σ H ⟨m, D, us, ρ, N, o, w, c⟩ =>
  ⟨m, D, us, ρ, _, o, w, fun us' ρ' σ' H' q s o' => ⟨m, D, us', ρ', N, o', q, fun us2 ρ2 σ2 H2 q2 s2 o2 => c us2 ρ2 σ2 H2 q2 (stpX_trans s s2) o2⟩⟩
/-- name = e -/
def oSetV (n i : Nat) (w : WE) : WO2 := fun m us ρ N => i ≠ n ∧ w m (ρ.set n (some (.lst us))) (fun u => noLst u = true ∧ N us (ρ.set i (some u))) xNo
theorem os_setV {st : Stmt} {i : Nat} {w : WE} (h : PS X st (tAsg (tE X.K W w) (L2.gName i))) : PS X st (tOw X.K n (oSetV n i w)) := PS.weak h fun Dn σ H ⟨m, D, us, ρ, N, o, ⟨hi, w⟩, c⟩ => by
  obtain ⟨iv, rs⟩ := o.view
  exact ⟨m, _, _, xNo, ge_no iv rs, w, fun u v H1 ⟨z, q⟩ s1 i1 r1 => c _ _ _ _ q (stpX_of s1) ((o.step s1 i1).setE hi r1 z)⟩
/-- xs[i] = e -/
def oPut (n : Nat) (wv wi : WE) : WO2 := fun m us ρ N => wv m (ρ.set n (some (.lst us))) (fun y => noLst y = true ∧ wi m (ρ.set n (some (.lst us))) (fun i => ∃ k j, i = .int k ∧ ixN us.length k = some j ∧ N (us.set j y) ρ) xNo) xNo
theorem os_put {st : Stmt} {wv wi : WE} (h : PS X st (tAsg (tE X.K W wv) (L2.gSub (tVar n) (tE X.K W wi) rSetL))) : PS X st (tOw X.K n (oPut n wv wi)) := PS.weak h fun Dn σ H ⟨m, D, us, ρ, N, o, w, c⟩ => by
  obtain ⟨iv, rs⟩ := o.view
  refine ⟨m, _, _, xNo, ge_no iv rs, w, fun y v H1 ⟨z, q⟩ s1 i1 r1 => ?_⟩
  have o1 := o.step s1 i1
  obtain ⟨iv1, rs1⟩ := o1.view
  refine ⟨_, o1.sl, m, _, _, xNo, ge_no iv1 rs1, q, fun i v2 H2 ⟨k, j, ei, ej, q2⟩ s2 i2 r2 => ?_⟩
  subst ei
  rw [rel_int r2]
  have o2 := o1.step s2 i2
  obtain ⟨vs, hD, l⟩ := o2.ow
  refine ⟨D, vs, k, j, rfl, rfl, hD, by rw [RelL.len l]; exact ej, ?_⟩
  have inD : D ∈ (addB m [D]).ban := List.mem_cons_self
  have ry : Rel X.K m H2 v y := Rel.step s2 r1
  refine c _ ρ σ _ q2 (stpX_trans (stpX_of (stp_trans s1 s2)) stpX_set) ⟨inv_upd o2.iv o.ok.1, o.ok, ⟨o2.rs.1, fun i' u' e' => ?_⟩, o.no, _, upd_same, RelL.set j (RelL.updB inD l) (Rel.updB inD (Rel.ban hD z ry))⟩
  obtain ⟨v', h1, h2⟩ := o2.rs.2 i' u' e'
  exact ⟨v', h1, Rel.updB inD h2⟩
/-- if -/
def oIf (n : Nat) (t : WT) (a b : WO2) : WO2 := fun m us ρ N => t m (ρ.set n (some (.lst us))) (fun c => if c = true then a m us ρ N else b m us ρ N) xNo
theorem os_if {e : Expr} {a b : List Stmt} {t : WT} {wa wb : WO2} (hc : DT X W e t) (ha : PSs X a (tOw X.K n wa)) (hb : PSs X b (tOw X.K n wb)) : PS X (.If e a b pos) (tOw X.K n (oIf n t wa wb)) := PS.weak (ps_if hc ha hb) fun Dn σ H ⟨m, D, us, ρ, N, o, w, c⟩ => by
  obtain ⟨iv, rs⟩ := o.view
  refine ⟨m, _, _, xNo, ge_no iv rs, w, fun bb H1 q s1 i1 => ?_⟩
  have o1 := o.step s1 i1
  cases bb with
  | true => exact ⟨m, D, us, ρ, N, o1, q, fun us' ρ' σ' H' q' s' o' => c us' ρ' σ' H' q' (stpX_trans (stpX_of s1) s') o'⟩
  | false => exact ⟨m, D, us, ρ, N, o1, q, fun us' ρ' σ' H' q' s' o' => c us' ρ' σ' H' q' (stpX_trans (stpX_of s1) s') o'⟩
/-! ### for -/
/-- the iterator hands out these, one by one, whatever becomes of the list at D -/
structure WalksX (K : PySem.W.Frag) (m : Mo) (D : Addr) (J : It) (us : List U) (H1 : Hp) : Prop where
  go : ∀ i H, i < us.length → stpX m D H1 H → invM m H → J.go i H
  stop : ∀ H, stpX m D H1 H → invM m H → J.stop us.length H
  yld : ∀ i H x H', i < us.length → stpX m D H1 H → invM m H → J.yld i H x H' → ∃ u, us[i]? = some u ∧ stpM m H H' ∧ invM m H' ∧ Rel K m H' x u ∧ noLst u = true
def tIo (K : PySem.W.Frag) (n : Nat) (wi : WI) : TI := fun σ H R => ∃ m D us ρ Q, OwSt K m D n H σ ρ us ∧ wi m (ρ.set n (some (.lst us))) Q xNo ∧ ∀ its J H1, Q its → stpM m H H1 → invM m H1 → WalksX K m D J its H1 → R J H1
def rngC (lo c : Int) (n : Nat) : List U := (List.range n).map fun (i : Nat) => U.int (lo + (i : Int) * c)
theorem rngC_len (lo c : Int) (n : Nat) : (rngC lo c n).length = n := by
  unfold rngC
  rw [List.length_map, List.length_range]
theorem rngC_get {lo c : Int} {n i : Nat} {u : U} (h : (rngC lo c n)[i]? = some u) : i < n ∧ u = .int (lo + (i : Int) * c) := by
  have l := (List.getElem?_eq_some_iff.mp h).1
  rw [rngC_len] at l
  unfold rngC at h
  rw [List.getElem?_map, List.getElem?_range l] at h
  exact ⟨l, (Option.some.inj h).symm⟩
theorem rngU_get {lo : Int} {n i : Nat} {u : U} (h : (rngU lo n)[i]? = some u) : i < n ∧ u = .int (lo + (i : Int)) := by
  have l := (List.getElem?_eq_some_iff.mp h).1
  have ln : (rngU lo n).length = n := by simp [rngU]
  rw [ln] at l
  unfold rngU at h
  rw [List.getElem?_map, List.getElem?_range l] at h
  exact ⟨l, (Option.some.inj h).symm⟩
theorem walksX_range {lo : Int} {k : Nat} : WalksX K m D (Itr lo k) (rngU lo k) H := by
  have hl : (rngU lo k).length = k := by simp [rngU]
  refine ⟨fun i H2 lt s _ => by rw [hl] at lt; exact lt, fun H2 s _ => by rw [hl]; exact Nat.le_refl _, fun i H2 x H3 lt s iv y => ?_⟩
  obtain ⟨rfl, rfl⟩ := y
  rw [hl] at lt
  exact ⟨.int (lo + i), by simp [rngU, lt], stp_refl, iv, .int _, rfl⟩
theorem walksX_rangeC {lo c : Int} {k : Nat} : WalksX K m D (Itc lo c k) (rngC lo c k) H := by
  have hl := rngC_len lo c k
  refine ⟨fun i H2 lt s _ => by rw [hl] at lt; exact lt, fun H2 s _ => by rw [hl]; exact Nat.le_refl _, fun i H2 x H3 lt s iv y => ?_⟩
  obtain ⟨rfl, rfl⟩ := y
  rw [hl] at lt
  exact ⟨.int (lo + i * c), by simp [rngC, lt], stp_refl, iv, .int _, rfl⟩
variable {e : Expr}
theorem oi_range1 {wa : WA} (h : PI X tg e (iRng1 (tA X.K W wa))) : PI X tg e (tIo X.K n (dItR1 wa)) := PI.weak h fun σ H R ⟨m, D, us, ρ, Q, o, q, c⟩ => by
  obtain ⟨iv, rs⟩ := o.view
  refine ⟨m, _, _, xNo, ge_no iv rs, q, fun us vs H1 ⟨j, ej, b1, b2, q1⟩ s1 i1 r1 => ?_⟩
  subst ej
  obtain ⟨v, rfl, a⟩ := rl1 r1
  exact ⟨j, by rw [rel_int a], b1, b2, c _ _ H1 q1 s1 i1 walksX_range⟩
theorem oi_range2 {wa : WA} (h : PI X tg e (iRng2 (tA X.K W wa))) : PI X tg e (tIo X.K n (dItR2 wa)) := PI.weak h fun σ H R ⟨m, D, us, ρ, Q, o, q, c⟩ => by
  obtain ⟨iv, rs⟩ := o.view
  refine ⟨m, _, _, xNo, ge_no iv rs, q, fun us vs H1 ⟨i, j, ej, b, q1⟩ s1 i1 r1 => ?_⟩
  subst ej
  obtain ⟨v, x, rfl, ra, rb⟩ := rl2 r1
  exact ⟨i, j, by rw [rel_int ra, rel_int rb], b, c _ _ H1 q1 s1 i1 walksX_range⟩
def dItR3 (w : WA) : WI := fun m ρ Q Z => w m ρ (fun us => ∃ (i j c : Int) (n : Nat), us = [.int i, .int j, .int c] ∧ RgC i j c n ∧ Q (rngC i c n)) Z
theorem oi_range3 {wa : WA} (h : PI X tg e (iRng3 (tA X.K W wa))) : PI X tg e (tIo X.K n (dItR3 wa)) := PI.weak h fun σ H R ⟨m, D, us, ρ, Q, o, q, c⟩ => by
  obtain ⟨iv, rs⟩ := o.view
  refine ⟨m, _, _, xNo, ge_no iv rs, q, fun us vs H1 ⟨i, j, k, n', ej, b, q1⟩ s1 i1 r1 => ?_⟩
  subst ej
  obtain ⟨v, x, y, rfl, ra, rb, rc⟩ := rl3 r1
  exact ⟨i, j, k, n', by rw [rel_int ra, rel_int rb, rel_int rc], b, c _ _ H1 q1 s1 i1 walksX_rangeC⟩
/-- a tuple, enumerate of a tuple: of things without lists -/
def dItTn (w : WE) : WI := fun m ρ Q Z => w m ρ (fun u => ∃ us, u = .tup us ∧ noLsts us = true ∧ Q us) Z
def dItEn (w : WA) : WI := fun m ρ Q Z => w m ρ (fun us => ∃ ts, us = [.tup ts] ∧ noLsts ts = true ∧ Q (enU 0 ts)) Z
theorem noLsts_get : ∀ {ts : List U} {i : Nat} {u : U}, noLsts ts = true → ts[i]? = some u → noLst u = true
  | [], _, _, _, h => by simp at h
  | t :: ts, 0, u, z, h => by
    have e : t = u := by simpa using h
    exact e ▸ (Bool.and_eq_true_iff.mp z).1
  | t :: ts, i + 1, u, z, h => noLsts_get (ts := ts) (i := i) (Bool.and_eq_true_iff.mp z).2 (by simpa using h)
theorem tup_neD {a : Addr} {vs ws : List V} (hD : H D = some (.lst ws)) (t : TupR K m H a vs) : (a ≠ D ∧ okA m a ∧ Rd H a (.tup vs)) ∨ ∃ (o : Obj) (its : Array Value) (n : Nat), K.lookup a = some o ∧ o.cls = .type "tuple" ∧ o.data = .seq its n ∧ its.size ≤ sizeLine ∧ Vals vs its.toList := by
  rcases t with ⟨k, h⟩ | h
  · refine .inl ⟨fun z => ?_, k, h⟩
    subst z
    rcases h with h | ⟨o, h⟩
    · rw [hD] at h
      cases h
    · rw [hD] at h
      cases h
  · exact .inr h
theorem tup_stepX {a : Addr} {vs ws : List V} (hD : H D = some (.lst ws)) (t : TupR K m H a vs) (s : stpX m D H H') : TupR K m H' a vs := by
  rcases tup_neD hD t with ⟨ne, k, h | ⟨o, h⟩⟩ | h
  · exact .inl ⟨k, .inl (s _ _ ne h k.1)⟩
  · exact .inl ⟨k, .inr ⟨o, s _ _ ne h k.1⟩⟩
  · exact .inr h
mutual
theorem Rel.flatX (hD : H D = some (.lst ws)) (s : stpX m D H H') : ∀ {v : V} {u : U}, noLst u = true → Rel K m H v u → Rel K m H' v u
  | _, _, _, .non => .non
  | _, _, _, .bl b => .bl b
  | _, _, _, .int i => .int i
  | _, _, _, .str x => .str x
  | _, _, z, .tup h r => .tup (tup_stepX hD h s) (RelL.flatX hD s z r)
  | _, _, z, .lst _ _ _ => nomatch z
  | _, _, z, .raw _ => nomatch z
theorem RelL.flatX (hD : H D = some (.lst ws)) (s : stpX m D H H') : ∀ {vs : List V} {us : List U}, noLsts us = true → RelL K m H vs us → RelL K m H' vs us
  | _, _, _, .nil => .nil
  | _, _, z, .cons h r => .cons (Rel.flatX hD s (Bool.and_eq_true_iff.mp z).1 h) (RelL.flatX hD s (Bool.and_eq_true_iff.mp z).2 r)
end
theorem walksX_enT {a : Addr} {vs ws : List V} {us : List U} (hD : H D = some (.lst ws)) (k : TupR K m H a vs) (r : RelL K m H vs us) (z : noLsts us = true) : WalksX K m D (IteT K a) (enU 0 us) H := by
  have hl := RelL.len r
  have at_ : ∀ H2, stpX m D H H2 → SqT K H2 a vs := fun H2 s => (tup_stepX hD k s).sq
  refine ⟨fun i H2 lt s _ => by rw [enU_len] at lt; exact ⟨vs, vs[i]'(by omega), at_ H2 s, by simp⟩, fun H2 s _ => by rw [enU_len]; exact ⟨vs, at_ H2 s, by omega⟩, fun i H2 x H3 lt s iv y => ?_⟩
  obtain ⟨T, y1, rfl, hT, rfl, y⟩ := y
  obtain ⟨u, e, ru⟩ := RelL.getV (RelL.flatX hD s z r) (y vs (at_ _ s))
  have nu := noLsts_get z e
  refine ⟨_, by rw [enU_get us 0 i u e, Nat.zero_add], stp_new hT, inv_new iv hT, new_pair iv hT (.int _) ru, ?_⟩
  show (true && (noLst u && true)) = true
  rw [nu]
  rfl
theorem oi_enumT {wa : WA} (h : PI X tg e (iEnumX X.K (tA X.K W wa))) : PI X tg e (tIo X.K n (dItEn wa)) := PI.weak h fun σ H R ⟨m, D, us, ρ, Q, o, q, c⟩ => by
  obtain ⟨iv, rs⟩ := o.view
  refine ⟨m, _, _, xNo, ge_no iv rs, q, fun us' vs H1 ⟨ts, ej, z, q1⟩ s1 i1 r1 => ?_⟩
  subst ej
  obtain ⟨v, rfl, a⟩ := rl1 r1
  obtain ⟨p, ys, rfl, k, hq, l⟩ := rel_tup a
  obtain ⟨ws, hD, _⟩ := (o.step s1 i1).ow
  exact ⟨p, ys, rfl, .inr ⟨hq, c _ _ H1 q1 s1 i1 (walksX_enT hD k l z)⟩⟩
/-- for target in iterator: statements -/
def oForI (n : Nat) (wi : WI) (g : WG) (b : WO2) : WO2 := fun m us ρ N => wi m (ρ.set n (some (.lst us))) (fun its => ∃ I : Nat → List U → Env → Prop, I 0 us ρ ∧
  (∀ (i : Nat) u us' ρ', its[i]? = some u → I i us' ρ' → ρ'[n]? = ρ[n]? → g u ρ' fun ρ2 => ρ2[n]? = ρ[n]? ∧ b m us' ρ2 (I (i + 1))) ∧ ∀ us' ρ', I its.length us' ρ' → N us' ρ') xNo
theorem os_forI {wi : WI} {g : WG} {b : WO2} {iter : Expr} {body : List Stmt} (h : PS X (.For tg iter body [] pos) (tFor (tIo X.K n wi) (tG X.K g) (tOw X.K n b))) : PS X (.For tg iter body [] pos) (tOw X.K n (oForI n wi g b)) :=
  PS.weak h fun Dn σ H ⟨m, D, us, ρ, N, o, w, c⟩ => by
    refine ⟨m, D, us, ρ, _, o, w, fun its J H1 ⟨I, h0, turn, fin⟩ s1 i1 wk => ?_⟩
    refine ⟨fun i k σ' H' => k = its.length - i ∧ i ≤ its.length ∧ ∃ us' ρ', I i us' ρ' ∧ stpX m D H1 H' ∧ OwSt X.K m D n H' σ' ρ' us', ⟨its.length, by simp, Nat.zero_le _, us, ρ, h0, stpX_of stp_refl, o.step s1 i1⟩, ?_⟩
    rintro i k σ1 H2 ⟨rfl, hi, us1, ρ1, h1, s2, o2⟩
    have i2 := inv_cutB o2.iv
    by_cases lt : i < its.length
    · refine .inr ⟨wk.go i H2 lt s2 i2, fun σ' H' => ∃ us' ρ', I (i + 1) us' ρ' ∧ stpX m D H1 H' ∧ OwSt X.K m D n H' σ' ρ' us', fun σ' H' ⟨us', ρ', a1, a2, a3⟩ => ⟨its.length - (i + 1), by omega, rfl, lt, us', ρ', a1, a2, a3⟩, fun x H3 y => ?_⟩
      obtain ⟨u, eu, s3, i3, ru, nu⟩ := wk.yld i H2 x H3 lt s2 i2 y
      have o3 := o2.step s3 i3
      obtain ⟨vs3, hD3, l3⟩ := o3.ow
      refine ⟨addB m [D], u, ρ1, _, o3.iv, o3.rs, Rel.ban hD3 nu ru, turn i u us1 ρ1 eu h1 (o2.no.trans o.no.symm), fun ρ4 σ4 H4 ⟨e4, q4⟩ s4 i4 r4 => ?_⟩
      have s4' : stpM m H3 H4 := s4
      have o4 : OwSt X.K m D n H4 σ4 ρ4 us1 := ⟨i4, o.ok, r4, e4.trans o.no, vs3, s4' _ _ hD3 o.ok.1, RelL.step s4 l3⟩
      exact ⟨m, D, us1, ρ4, _, o4, q4, fun us' ρ' σ' H' q s o' => ⟨us', ρ', q, stpX_trans (stpX_trans (stpX_trans s2 (stpX_of s3)) (stpX_of s4')) s, o'⟩⟩
    · have e : i = its.length := by omega
      subst e
      exact .inl ⟨wk.stop H2 s2 i2, c us1 ρ1 σ1 H2 (fin us1 ρ1 h1) (stpX_trans (stpX_of s1) s2) o2⟩
/-! ### the list is made, statements over it, and then it is a list as any other -/
/-- an expression that makes a new list -/
abbrev WF1 := Mo → Env → (List U → Prop) → XQ → Prop
def tFr (K : PySem.W.Frag) (W : WX) (w : WF1) : TE := fun σ H Q' => ∃ m ρ Q Z, GE K m W σ H ρ Z ∧ w m ρ Q Z ∧ ∀ us vs H1 p, Q us → stpM m H H1 → invM m H1 → RelL K m H1 vs us → H1 p = none → Q' (.ref p) (upd H1 p (.lst vs))
def fRep (wl wn : WE) : WF1 := fun m ρ Q Z => wl m ρ (fun x => wn m ρ (fun y => ∃ u k, x = .lst [u] ∧ y = .int k ∧ -(2 ^ 63) ≤ k ∧ k < 2 ^ 63 ∧ k.toNat ≤ sizeLine ∧ Q (List.replicate k.toNat u)) Z) Z
theorem fr_rep {a b : Expr} {wl wn : WE} (ha : DE X W a wl) (hb : DE X W b wn) : PE X (.BinOp a .Mult b pos) (tFr X.K W (fRep wl wn)) := PE.weak (pe_op op_rep ha hb) fun σ H Q' ⟨m, ρ, Q, Z, ge, q, c⟩ => by
  refine ⟨m, ρ, _, Z, ge, q, fun x v1 H1 q1 s1 i1 r1 => ⟨m, ρ, _, Z, ge.step s1 i1, q1, fun y v2 H2 ⟨u, k, ex, ey, k1, k2, kz, q2⟩ s2 i2 r2 => ?_⟩⟩
  subst ex ey
  obtain ⟨p, vs, rfl, _, hp, lv⟩ := rel_lst (Rel.step s2 r1)
  obtain ⟨v0, rfl, r0⟩ := rl1 lv
  have e2 := rel_int r2
  subst e2
  exact ⟨p, k, [v0], rfl, rfl, hp, k1, k2, by simpa using kz, fun d hd => c _ _ H2 d q2 (stp_trans s1 s2) i2 (rep_rel r0 _) hd⟩
def fLst (w : WA) : WF1 := fun m ρ Q Z => w m ρ (fun us => ∃ ts, (us = [.tup ts] ∨ us = [.lst ts]) ∧ Q ts) Z
theorem fr_list {w : WA} (h : PE X e (tCB (fun xs H Q => ∃ p ys, xs = [.ref p] ∧ (SqL X.K H p ys ∨ SqT X.K H p ys) ∧ ∀ l, H l = none → Q (.ref l) (upd H l (.lst ys))) (tA X.K W w))) : PE X e (tFr X.K W (fLst w)) := PE.weak h fun σ H Q' ⟨m, ρ, Q, Z, ge, q, c⟩ => by
  refine ⟨m, ρ, _, Z, ge, q, fun us vs H1 ⟨ts, eu, q1⟩ s1 i1 r1 => ?_⟩
  rcases eu with rfl | rfl
  · obtain ⟨v, rfl, a⟩ := rl1 r1
    obtain ⟨p, ys, rfl, _, h, l⟩ := rel_tup a
    exact ⟨p, ys, rfl, .inr h, fun d hd => c _ _ H1 d q1 s1 i1 l hd⟩
  · obtain ⟨v, rfl, a⟩ := rl1 r1
    obtain ⟨p, ys, rfl, _, h, l⟩ := rel_lst a
    exact ⟨p, ys, rfl, .inl (.inl (.inl h)), fun d hd => c _ _ H1 d q1 s1 i1 l hd⟩
def fDisp (w : WA) : WF1 := fun m ρ Q Z => w m ρ (fun us => us.length ≤ sizeLine ∧ Q us) Z
theorem fr_disp {es : List Expr} {w : WA} (h : DA X W es w) : PE X (.List es pos) (tFr X.K W (fDisp w)) := PE.weak (pe_lst h) fun σ H Q' ⟨m, ρ, Q, Z, ge, q, c⟩ =>
  ⟨m, ρ, _, Z, ge, q, fun us vs H1 ⟨z, q1⟩ s1 i1 r1 => ⟨by rw [RelL.len r1]; exact z, fun p hp => c us vs H1 p q1 s1 i1 r1 hp⟩⟩
def dOwnS (n : Nat) (w : WF1) (b : WO2) (r : WS) : WS := fun m DD ρ => w m ρ (fun us => n < ρ.length ∧ ∀ D, b m us (ρ.set n (some (.raw (.ref D)))) fun us' ρ' => r m DD (ρ'.set n (some (.lst us')))) (DD.ex ρ)
theorem dss_ownS {w : WF1} {b : WO2} {r : WS} {s0 s1 : Stmt} {rest : List Stmt} (h0 : PS X s0 (tAsg (tFr X.K W w) (L2.gName n))) (h1 : PS X s1 (tOw X.K n b)) (h2 : DSs X W rest r) : DSs X W (s0 :: s1 :: rest) (dOwnS n w b r) :=
  PSs.weak (pss_cons h0 (pss_cons h1 h2)) fun Dn σ H ⟨m, ρ, DD, iv, rs, q, c⟩ => by
    refine ⟨m, ρ, _, DD.ex ρ, c.ge iv rs, q, fun us vs H1 D ⟨ln, q1⟩ s1 i1 rl hD => ?_⟩
    have kD := ok_new i1 hD
    have hB : ∀ b ∈ [D], H1 b = none := fun b hb => by
      rw [List.mem_singleton.mp hb]
      exact hD
    have st : stpM m H (upd H1 D (.lst vs)) := stp_trans s1 (stp_new hD)
    have inD : D ∈ (addB m [D]).ban := List.mem_cons_self
    have o : OwSt X.K m D n (upd H1 D (.lst vs)) (σ.set n (some (.ref D))) (ρ.set n (some (.raw (.ref D)))) us := by
      refine ⟨inv_addB (inv_new i1 hD) upd_same, kD, ?_, List.getElem?_set_self ln, vs, upd_same, RelL.updB inD (RelL.addB hB rl)⟩
      exact RelS.set (⟨rs.1, fun i u e => by
        obtain ⟨v, e1, e2⟩ := rs.2 i u e
        exact ⟨v, e1, Rel.updB inD (Rel.addB hB (Rel.step s1 e2))⟩⟩) n (.raw _)
    refine ⟨m, D, us, _, _, o, q1 D, fun us' ρ' σ' H' q' sX o' => ?_⟩
    obtain ⟨iv', rs'⟩ := o'.view
    -- what stood before the list was made stands still
    have sH : stpM m H H' := fun b x hb kb => by
      have e1 := s1 b x hb kb
      have ne : b ≠ D := fun z => by
        rw [z, hD] at e1
        cases e1
      exact sX b x ne (by rw [upd_ne ne]; exact e1) kb
    exact ⟨m, _, DD, iv', rs', q', c.step sH⟩
end
end DL
set_option Elab.async false
set_option linter.all false
set_option maxRecDepth 100000
set_option maxHeartbeats 4000000
/-! the data layer: a tuple read backwards, ts[::-1] -/
namespace DL
open PySem PySem.Spec PyProof.Rows L2 XR
theorem adjust_rev (n : Nat) : Builtin.Slice.sliceAdjust none none (-1) (n : Int) = ((n : Int) - 1, -1) := by
  unfold Builtin.Slice.sliceAdjust
  simp
theorem places_rev (n : Nat) : Builtin.Slice.slicePlaces ((n : Int) - 1) (-1) (-1) = n := by
  unfold Builtin.Slice.slicePlaces
  simp
  omega
theorem filterMap_same {α β : Type} {f g : α → Option β} : ∀ {l : List α}, (∀ x ∈ l, f x = g x) → l.filterMap f = l.filterMap g
  | [], _ => rfl
  | a :: l, h => by
    rw [List.filterMap_cons, List.filterMap_cons, h a List.mem_cons_self, filterMap_same (l := l) fun x hx => h x (List.mem_cons_of_mem _ hx)]
theorem pick_rev (xs : Array Value) : ((List.range xs.size).filterMap fun (k : Nat) => xs[((xs.size : Int) - 1 + (k : Int) * -1).toNat]?) = xs.toList.reverse := by
  have e : ((List.range xs.size).filterMap fun (k : Nat) => xs[((xs.size : Int) - 1 + (k : Int) * -1).toNat]?) = ((List.range xs.size).map fun k => xs.size - 1 - k).filterMap (xs[·]?) := by
    rw [List.filterMap_map]
    refine filterMap_same fun k hk => ?_
    have := List.mem_range.mp hk
    show _ = xs[xs.size - 1 - k]?
    rw [show ((xs.size : Int) - 1 + (k : Int) * -1).toNat = xs.size - 1 - k from by omega]
  rw [e, PySem.W.krv_range, List.filterMap_reverse, PySem.W.krv_all]
section
variable {prog : Program} {w : World} {A : Around} {E : Value → Shared → Prop} {s : Shared}
theorem sliceApplied_rev {sl : Addr} {vs : Value} {n : Nat} {Q : Int × Int × Nat → Shared → Prop} (hs : s.heap.IsSliceOf sl vl vu vs) (pl : IsPart vl none) (pu : IsPart vu none) (ps : IsPart vs (some (-1)))
    (h : Q ((n : Int) - 1, -1, n) s) : wpAny (model prog w) A (Builtin.Slice.sliceApplied (.ref sl) (pure (n : Int))) Q E s := by
  obtain ⟨os, hos, hcs, hds⟩ := id hs
  unfold Builtin.Slice.sliceApplied Builtin.Slice.sliceFields
  refine wpAny_bind (wpAny_bind (wpAny_field hos hds (x := vl) rfl (wpAny_bind (wpAny_field hos hds (x := vu) rfl (wpAny_bind (wpAny_field hos hds (x := vs) rfl (wpAny_pure ?_)))))))
  refine wpAny_bind (HT.slicePart_ ps ?_)
  show wpAny _ _ (if ((-1 : Int) == 0) = true then _ else _) _ _ s
  rw [if_neg (by decide)]
  refine wpAny_bind (HT.slicePart_ pl (wpAny_bind (HT.slicePart_ pu (wpAny_bind (wpAny_pure ?_)))))
  show wpAny _ _ (match Builtin.Slice.sliceAdjust none none (-1) (n : Int) with | (lo, hi) => pure (lo, (-1 : Int), Builtin.Slice.slicePlaces lo hi (-1))) _ _ s
  rw [adjust_rev n]
  show wpAny _ _ (pure ((n : Int) - 1, (-1 : Int), Builtin.Slice.slicePlaces ((n : Int) - 1) (-1) (-1))) _ _ s
  rw [places_rev]
  exact wpAny_pure h
theorem getItem_tuple_rev {t sl : Addr} {items : Array Value} {vl vu vs : Value} {Q : Value → Shared → Prop} (ht : IsTup s.heap t items) (hs : s.heap.IsSliceOf sl vl vu vs) (pl : IsPart vl none) (pu : IsPart vu none) (ps : IsPart vs (some (-1)))
    (h : Q (.ref s.heap.objs.size) { s with heap := s.heap.push { cls := .type "tuple", data := .seq (items.toList.reverse).toArray } })
    (hsz : items.size ≤ sizeLine) : wpAny (model prog w) A (getItem (.ref t) (.ref sl)) Q E s := by
  have htake : sizeOk (.seq (items.toList.reverse).toArray) := by
    show (items.toList.reverse).toArray.size ≤ sizeLine
    rw [List.size_toArray, List.length_reverse, Array.length_toList]
    omega
  obtain ⟨os, hos, hcs, hds⟩ := id hs
  have hTs : s.TypeIs (.ref sl) "slice" := ⟨os, hos, hcs⟩
  unfold getItem
  try with_reducible refine wpAny_holding ?_
  first | refine wpAny_bind (wpAny_pure ?_) | skip
  refine wpAny_bind (wpAny_sequenceKey ht.typeIs (by decide) ?_)
  refine wpAny_bind (wpAny_callSpecial?_slot (name := Str.ofString "__getitem__") ht.typeIs PyProof.Rows.slot_tuple_getitem
    (wpAny_call_entry PyProof.Rows.slot_tuple_getitem ht.typeIs entry_tuple_getitem ?_ (args_tuple_getitem _ _)))
  show wpAny _ _ (Builtin.Tuple.tupleItemsOf (.ref t) >>= _) _ _ s
  refine wpAny_bind (tupleItemsOf_ ht ?_)
  refine wpAny_bind (wpAny_typeOf hTs ?_)
  rw [if_pos (by decide)]
  refine wpAny_bind (sliceApplied_rev hs pl pu ps ?_)
  show wpAny _ _ (if (((items.size : Int) - 1 == 0 && (-1 : Int) == 1 && items.size == items.size) = true) then _ else _) _ _ s
  rw [if_neg (by simp), pick_rev]
  first
    | exact wpAny_bind (m := Builtin.Tuple.tupleExact _) (wpAny_newObj_type (wpAny_pure ⟨_, rfl, wpAny_pure h⟩) htake)
    | exact wpAny_bind (m := Builtin.Tuple.tupleExact _) (wpAny_newObj_type (wpAny_bind (wpAny_pure (wpAny_pure ⟨_, rfl, wpAny_pure h⟩))) htake)
    | exact wpAny_bind (wpAny_bind (m := Builtin.Tuple.tupleExact _) (wpAny_newObj_type (wpAny_pure (wpAny_pure ⟨_, rfl, wpAny_pure h⟩)) htake))
    | exact wpAny_bind (wpAny_bind (m := Builtin.Tuple.tupleExact _) (wpAny_newObj_type (wpAny_pure ⟨_, rfl, wpAny_pure h⟩) htake))
end
section
variable {X : Cx} {W : WX} {e : Expr}
def tRevT (K : PySem.W.Frag) (te : TE) : TE := fun σ H Q => te σ H fun x H1 => ∃ a xs, x = .ref a ∧ SqT K H1 a xs ∧ ∀ p, H1 p = none → Q (.ref p) (upd H1 p (.tup xs.reverse))
theorem pe_revT {e : Expr} {te : TE} {k : Nat} {p1 p2 p3 pos : Pos} (he : PE X e te) : PE X (.Subscript e (.Slice none none (some (.UnaryOp .USub (.Constant (.int 1) k p1) p2)) p3) pos) (tRevT X.K te) := by
  refine ⟨fun pins s σ H Q I h => ?_⟩
  refine Subscript_ (thn (he.run pins s σ H _ I h) fun v s1 ⟨x, H1, I1, r1, q1⟩ => ?_)
  obtain ⟨a, xs, ex, hx, q⟩ := q1
  subst ex
  cases r1
  have hst : PO X (some (.UnaryOp .USub (.Constant (.int 1) k p1) p2)) (tPart (tUn (rU fun i => .int (-i)) (tC (.int 1)))) := po_some (pe_un un_neg pe_int)
  refine wpAny_Slice (thn (po_none.run pins s1 σ H1 (fun o H2 => o = none ∧ H2 = H1) I1 ⟨rfl, rfl⟩) fun vl s2 ⟨l, H2, I2, pl, el, e2⟩ => ?_)
  subst el e2
  refine thn (po_none.run pins s2 σ H2 (fun o H3 => o = none ∧ H3 = H2) I2 ⟨rfl, rfl⟩) fun vu s3 ⟨u, H3, I3, pu, eu, e3⟩ => ?_
  subst eu e3
  refine thn (hst.run pins s3 σ H3 (fun o H4 => o = some (-1) ∧ H4 = H3) I3 ⟨1, rfl, -1, rfl, rfl, rfl⟩) fun vs s4 ⟨o, H4, I4, ps, eo, e4⟩ => ?_
  subst eo e4
  have I5 : Inv X pins σ H4 { s4 with heap := s4.heap.push { cls := .type "slice", data := .fields #[vl, vu, vs] } } := I4.kept (t' := s4.toks) fun b ob q => Heap.get?_push_of_some _ q
  obtain ⟨its, r, ht, hz⟩ := I5.tuple hx
  have hlen := r.length
  show wpAny (model X.prog X.w) X.A (subscriptTail e (.Slice none none (some (.UnaryOp .USub (.Constant (.int 1) k p1) p2)) p3) (.ref a) (.ref s4.heap.objs.size)) (EP X pins σ Q) X.xe { s4 with heap := s4.heap.push { cls := .type "slice", data := .fields #[vl, vu, vs] } }
  refine tail_any (ops := [.ref a, .ref s4.heap.objs.size]) ht.typeIs (PyProof.Rows.slot_tuple_getitem.lookup) ?_ (by with_unfolding_all rfl)
  refine getItem_tuple_rev ht (Heap.IsSliceOf.new _ vl vu vs) pl pu ps ?_ (by rw [List.size_toArray]; omega)
  refine ⟨.ref _, _, I5.laid (t' := s4.toks) (o := .tup xs.reverse) (fun b ob q => Heap.get?_push_of_some _ q) (Nat.le_refl _) ?_, rfl, q _ (I5.hok.fresh (Nat.le_refl _))⟩
  exact ⟨by rw [List.length_reverse]; exact hz, _, r.reverse, IsTup.new _ _⟩
def dRevT (w : WE) : WE := fun m ρ Q Z => w m ρ (fun u => ∃ ts, u = .tup ts ∧ Q (.tup ts.reverse)) Z
theorem de_revT {w : WE} {k : Nat} {p1 p2 p3 pos : Pos} (h : DE X W e w) : DE X W (.Subscript e (.Slice none none (some (.UnaryOp .USub (.Constant (.int 1) k p1) p2)) p3) pos) (dRevT w) := PE.weak (pe_revT h) fun σ H Q' ⟨m, ρ, Q, Z, ge, q, c⟩ =>
  ⟨m, ρ, _, Z, ge, q, fun u v H1 ⟨ts, e, q1⟩ s1 i1 r1 => by
    subst e
    obtain ⟨p, ys, rfl, k, h, l⟩ := rel_tup r1
    exact ⟨p, ys, rfl, h, fun d hd => (c.step s1).tup i1 hd (RelL.rev l) q1⟩⟩
end
end DL
set_option Elab.async false
set_option linter.all false
set_option maxRecDepth 100000
set_option maxHeartbeats 4000000
/-! the data layer: a, b, c = a list of that length -/
namespace DL
open PySem PySem.Spec PyProof.Rows L2 XR
section
variable {X : Cx} {W : WX}
def dgUnl (n : Nat) (r : WGs) : WG := fun u ρ Q => ∃ us, u = .lst us ∧ us.length = n ∧ r us ρ Q
theorem dg_unl {es : List Expr} {k : Nat} {r : WGs} {n : Nat} (hc : X.calm = true) (h : DGs X es r) (hn : (assignEach es X.env).length = n := by rfl) (hst : (assignEach es X.env).findIdx? (·.1) = none := by rfl) {pos : Pos} : DG X (.Tuple es k pos) (dgUnl n r) :=
  PG.weak (pg_unl hc h hn hst) fun v σ H Q' ⟨m, u, ρ, Q, iv, rs, rl, ⟨us, e, hl, q⟩, c⟩ => by
    subst e
    obtain ⟨a, vs, rfl, k, hs, r2⟩ := rel_lst rl
    exact ⟨a, vs, rfl, .inl (.inl hs), by rw [RelL.len r2]; exact hl, m, us, ρ, Q, iv, rs, r2, q, c⟩
end
end DL
set_option Elab.async false
set_option linter.all false
set_option maxRecDepth 100000
set_option maxHeartbeats 4000000
/-! the data layer: a suite read statement by statement -/
namespace DL
open PySem PySem.Spec PyProof.Rows L2 XR
/-- one statement, then what is left, for all that the statement may leave -/
theorem seq_gen {ι : Type} {w u : WS} {m : Mo} {D : DEnds} {ρ : Env} (ρf : ι → Env) (Pf : ι → Prop) (h : ∀ D' : DEnds, (∀ i, Pf i → D'.nx (ρf i)) → D'.rt = D.rt → w m D' ρ) (hr : ∀ i, Pf i → u m D (ρf i)) : dSeq w u m D ρ :=
  h { D with nx := u m D } hr rfl
/-- one statement that leaves all as it was -/
theorem seq_stop {w u : WS} {m : Mo} {D : DEnds} {ρ : Env} (ρ' : Env) (h : ∀ D' : DEnds, D'.nx ρ' → D'.rt = D.rt → w m D' ρ) (hr : u m D ρ') : dSeq w u m D ρ :=
  h { D with nx := u m D } hr rfl
end DL
set_option Elab.async false
set_option linter.all false
set_option maxRecDepth 100000
set_option maxHeartbeats 4000000
/-! the data layer: defs with one star parameter, called by position -/
namespace DL
open PySem PySem.Spec PyProof.Rows L2 XR
/-- a promise over data by position -/
structure FdR (P : Program) (w : World) (K : PySem.W.Frag) (mg : Str → Option Value) (base : Heap) (k : Nat) (f : Addr) (sp : SpD) : Prop where
  run : ∀ (A : Around) (outer : List PySem.Env) (s : Shared) (H : Hp) (xs : List Value) (vs : List V) (m : Mo) (us : List U) (Qd : U → Prop) (Zd : XQ) (Q : VK) (E : XK), Room k A → A.guards = some [] → Env0 P w K mg base A outer s H →
    Vals vs xs → invM m H → RelL K m H vs us → sp m us Qd Zd → Cont K m H Qd Q → ContE K m H Zd E → codeAny (model P w) A (.call (.ref f) ⟨xs, []⟩) (CR (L2.CX P w) outer P w H s Q E) s
theorem fdR_star {P : Program} {w : World} {K : PySem.W.Frag} {mg : Str → Option Value} {base : Heap} {k : Nat} {f : Addr} {x qual pv : Str} {st : Stmt} {fd : FuncData} {N : List Str} {sp : SpD} (F : Fun K x qual st f fd) (S : FnScope N [pv] (defScope st))
    (hb : ∀ rest : List Value, bindArgs fd ⟨rest, []⟩ = (newTuple rest >>= fun t => pure [(pv, t)]))
    (hbody : ∀ (cdv : Value) (A : Around) (outer : List PySem.Env) (s : Shared) (H : Hp) (E : XK) (m : Mo) (us : List U) (Qd : U → Prop) (Zd : XQ), Room k (A.deeper (envOfC qual (defScope st) s.heap.objs.size f cdv)) → (A.deeper (envOfC qual (defScope st) s.heap.objs.size f cdv)).guards = some [] →
      Takes (cxOf (L2.CX P w) P w K mg base N qual (defScope st) f cdv A outer s H E) (fun c d _ H' => E c d H') → sp m us Qd Zd → ∃ wd, DSs (cxOf (L2.CX P w) P w K mg base N qual (defScope st) f cdv A outer s H E) (fun c d _ H' => E c d H') (defBody st) wd ∧ wd m { nx := fun _ => Qd .non, rt := Qd, ex := fun _ => Zd } (startU N [.tup us])) :
    FdR P w K mg base (k + 1) f (fun m us Q Z => us.length ≤ sizeLine ∧ sp m us Q Z) := by
  obtain ⟨oc, od, kV, doc, pm, an, cdv, ct, osl, rfl, lk, hcd⟩ := F.ex
  refine ⟨fun A outer s H xs vs m us Qd Zd Q E hr hg e0 r iv rl ⟨hz, hsp⟩ c cx => ?_⟩
  have lv : vs.length ≤ sizeLine := by
    rw [RelL.len rl]
    exact hz
  have lx : xs.length ≤ sizeLine := by
    rw [← r.length]
    exact lv
  refine StX.run_bnd lk hcd (ps := [pv]) S hr e0 (G := fun ys H2 => ∃ p, H p = none ∧ ys = [V.ref p] ∧ H2 = upd H p (.tup vs)) (fun A' Ex Q' h => ?_) fun s2 H2 ys hG hr' => ?_
  · rw [hb xs]
    have free : H s.heap.objs.size = none := e0.hok.fresh (Nat.le_refl _)
    have laid : ObjOk P w (upd H s.heap.objs.size (.tup vs)) (s.heap.push ⟨.type "tuple", none, .seq xs.toArray, #[]⟩) s.heap.objs.size (.tup vs) :=
      ⟨lv, xs, r, _, Heap.get?_push_size _ rfl, rfl, _, rfl⟩
    have grown := StX.un_laid (fs := frs outer) (o := ⟨.type "tuple", none, .seq xs.toArray, #[]⟩) (u := .tup vs) free
    exact wpAny_bind (wpAny_newTuple (wpAny_pure (h _ _ [V.ref s.heap.objs.size] [Value.ref s.heap.objs.size] (StX.env0_laid e0 laid) grown rfl
      (fun e s' => StX.cxUp outer s H _ _ E e s' grown (fun b o q => Heap.get?_push_of_some _ q) rfl) (.cons rfl .nil) rfl ⟨_, free, rfl, rfl⟩)) lx)
  · obtain ⟨p, hp, rfl, rfl⟩ := hG
    obtain ⟨wd, ht, hq⟩ := hbody cdv A outer s2 (upd H p (.tup vs)) E m us Qd Zd hr' hg (takes_of rfl rfl rfl rfl) hsp
    refine ⟨_, ht, m, startU N [.tup us], _, inv_new iv hp, relS_start (.cons (new_tup iv hp rl) .nil), hq, ?_⟩
    have c2 := c.step (stp_new (o := .tup vs) hp)
    have cx2 := cx.step (stp_new (o := .tup vs) hp)
    exact ⟨fun ρ σ H' q s' i' r' => c2 .non .non H' q s' i' .non, c2, fun ρ σ H' s' r' => cx2.step s', fun _ _ _ q => q.elim, fun _ _ _ q => q.elim⟩
section
variable {X : Cx} {W : WX}
theorem de_callR {k : Nat} {f : Addr} {sp : SpD} {x : Str} {p pos : Pos} {e : Expr} {es : List Expr} {w : WA} (F : FdR X.prog X.w X.K X.mg X.base k f sp) (hr : Room k X.A) (hG : X.A.guards = some []) (tk : Takes X W) (hg : Gl X x) (hm : X.mg x = some (.ref f))
    (hk : PySem.W.keepIn X.K (.ref f) = true) (ha : DA X W (e :: es) w) (hdb : (x == ("__debug__" : Str)) = false := by decide) (he : starEach (e :: es) X.env = (false, eval e X.env) :: starEach es X.env := by rfl)
    (hpl : (backTo pos (starEach es X.env)).any (·.1) = false := by rfl) : DE X W (.Call (.Name x p) (e :: es) [] pos) (dCall sp w) := by
  refine ⟨fun pins s σ H Q' I ⟨m, ρ, Q, Z, ge, q, c⟩ => ?_⟩
  refine wpAny_Call_Name_kw (ld_glob I hg hm ?_ hdb)
  have args := ha.run pos pins s σ H (fun vs H1 => ∃ us, sp m us Q Z ∧ stpM m H H1 ∧ invM m H1 ∧ RelL X.K m H1 vs us) I ⟨m, ρ, _, Z, ge, q, fun us vs H1 q1 s1 i1 r1 => ⟨us, q1, s1, i1, r1⟩⟩
  refine PySem.W.callWith_K (h₀ := X.base) I.ok.mod.kin hk (thn args fun xs s1 got => ?_) he hpl
  obtain ⟨vs, H1, I1, r, us, hsp, st, iv, rl⟩ := got
  refine ⟨I1.kIn, wpAny_call (codeAny_mono (F.run X.A X.stack s1 H1 xs vs m us Q Z Q' (fun c d H' => W c d σ H') hr hG I1.env0 r iv rl hsp (c.step st) (ge.cx.step st)) fun rr s' hq => ?_)⟩
  cases rr with
  | error e => exact tk e s' (XE.of_call I1 (fun _ _ _ z => z) hq)
  | ok fl =>
    cases fl with
    | ret u => exact I1.after hq
    | next => exact hq.elim
    | brk => exact hq.elim
    | cont => exact hq.elim
end
end DL
set_option Elab.async false
set_option linter.all false
set_option maxRecDepth 100000
set_option maxHeartbeats 4000000
/-! the data layer: x in some data -/
namespace DL
open PySem PySem.Spec PyProof.Rows L2 XR
theorem Room.u65 {k : Nat} {A : Around} (r : Room k A) : A.units + 65 < cLine := by
  have := r.un
  omega
section
variable {X : Cx} {m : Mo} {W : WX} {K : PySem.W.Frag} {a b : Expr} {wa wb w : WE} {pos : Pos} {H : Hp}
def rInG (K : PySem.W.Frag) (neg : Bool) : R2 := fun x y H Q => ∃ d ds, Dp K H x d ∧ (Dp K H y (.list ds) ∨ Dp K H y (.tuple ds)) ∧ SeqAt.shaped d = true ∧ SeqAt.shaped (.list ds) = true ∧ Q (.bl (xor neg (ds.any fun z => PyData.eqv z d))) H
theorem op_inG (hu : X.A.units + 65 < cLine) : OpR X (compareOp .In) (rInG X.K false) := by
  intro pins s σ H x y v u Q I rx ry ⟨d, ds, hd, he, sd, se, q⟩
  rw [Bool.false_xor] at q
  obtain ⟨as, r1⟩ := Dp.reads I d x v hd rx
  rcases he with he | he
  · obtain ⟨bs, r2⟩ := Dp.reads I _ y u he ry
    exact SeqAt.in_list_reads r2 r1 (SeqAt.canLay_of_shaped se) (SeqAt.canLay_of_shaped sd) (room_in_shaped sd hu) ⟨.bl _, H, I, rfl, q⟩
  · obtain ⟨bs, r2⟩ := Dp.reads I _ y u he ry
    exact SeqAt.in_tuple_reads r2 r1 (SeqAt.canLay_of_shaped se) (SeqAt.canLay_of_shaped sd) (room_in_shaped sd hu) ⟨.bl _, H, I, rfl, q⟩
theorem op_notInG (hu : X.A.units + 65 < cLine) : OpR X (compareOp .NotIn) (rInG X.K true) := by
  intro pins s σ H x y v u Q I rx ry ⟨d, ds, hd, he, sd, se, q⟩
  rw [Bool.true_xor] at q
  obtain ⟨as, r1⟩ := Dp.reads I d x v hd rx
  rcases he with he | he
  · obtain ⟨bs, r2⟩ := Dp.reads I _ y u he ry
    exact SeqAt.notIn_list_reads r2 r1 (SeqAt.canLay_of_shaped se) (SeqAt.canLay_of_shaped sd) (room_in_shaped sd hu) ⟨.bl _, H, I, rfl, q⟩
  · obtain ⟨bs, r2⟩ := Dp.reads I _ y u he ry
    exact SeqAt.notIn_tuple_reads r2 r1 (SeqAt.canLay_of_shaped se) (SeqAt.canLay_of_shaped sd) (room_in_shaped sd hu) ⟨.bl _, H, I, rfl, q⟩
def gInG (neg : Bool) : W2 := fun a b Q => ∃ ts, (b = .tup ts ∨ b = .lst ts) ∧ flat a = true ∧ flat b = true ∧ Q (.bl (xor neg (ts.any fun z => ueq z a)))
theorem any_toPs (a : U) : ∀ ts : List U, ((toPs ts).any fun z => PyData.eqv z (toP a)) = ts.any fun z => ueq z a
  | [] => rfl
  | t :: ts => by
    have h := any_toPs a ts
    show (_ || _) = (_ || _)
    rw [h]
    rfl
theorem opd_inG {neg : Bool} : OpD K (rInG K neg) (gInG neg) := fun m x y a b H Q Q' iv ra rb ⟨ts, eb, fa, fb, q⟩ c => by
  have fa' := fa
  have fb' := fb
  unfold flat at fa' fb'
  rw [Bool.and_eq_true] at fa' fb'
  have hd := Rel.dp ra fa'.1
  have he := Rel.dp rb fb'.1
  refine ⟨toP a, toPs ts, hd, ?_, fa'.2, ?_, ?_⟩
  · rcases eb with rfl | rfl
    · exact .inr he
    · exact .inl he
  · rcases eb with rfl | rfl
    · exact fb'.2
    · exact fb'.2
  · rw [any_toPs]
    exact c.here iv q (.bl _)
theorem dt_inG (hu : X.A.units + 65 < cLine) (ha : DE X W a wa) (hb : DE X W b wb) (hm : behindInMarks .In b = false) : DT X W (.Compare a [.In] [b] pos) (dTest (dOp (gInG false) wa wb)) := dt_cmp (op_inG hu) opd_inG ha hb hm
theorem dt_notInG (hu : X.A.units + 65 < cLine) (ha : DE X W a wa) (hb : DE X W b wb) (hm : behindInMarks .NotIn b = false) : DT X W (.Compare a [.NotIn] [b] pos) (dTest (dOp (gInG true) wa wb)) := dt_cmp (op_notInG hu) opd_inG ha hb hm
theorem rngU_length (i : Int) (n : Nat) : (rngU i n).length = n := by
  unfold rngU
  rw [List.length_map, List.length_range]
/-- for x in range(n) -/
theorem dFor_r1 {n : Int} {g : WG} {b : WS} {m : Mo} {D : DEnds} {ρ : Env} (h1 : -(2 ^ 62) ≤ n) (h2 : n < 2 ^ 62) (I : Nat → Env → Prop) (h0 : I 0 ρ)
    (turn : ∀ i u ρ', (rngU 0 n.toNat)[i]? = some u → I i ρ' → g u ρ' fun ρ2 => b m { D with nx := I (i + 1), ct := I (i + 1), bk := D.nx } ρ2) (fin : ∀ ρ', I n.toNat ρ' → D.nx ρ') : dFor (dItR1 (dCons (dC (.int n)) dNil)) g b m D ρ :=
  ⟨n, rfl, h1, h2, I, h0, turn, fun ρ' h => fin ρ' (by rw [rngU_length] at h; exact h)⟩
theorem flat_strs : ∀ {us : List U}, (∀ u ∈ us, ∃ x, u = .str x ∧ flat (.str x) = true) → isDs us = true ∧ PyData.canLayAll0 (toPs us) = true ∧ PyData.depthAll (toPs us) = 0
  | [], _ => ⟨rfl, rfl, rfl⟩
  | u :: us, h => by
    obtain ⟨x, rfl, hx⟩ := h u (by simp)
    obtain ⟨h1, h2, h3⟩ := flat_strs (us := us) fun v hv => h v (List.mem_cons_of_mem _ hv)
    unfold flat at hx
    rw [Bool.and_eq_true] at hx
    refine ⟨?_, ?_, ?_⟩
    · show (isD (.str x) && isDs us) = true
      rw [h1, hx.1]
      rfl
    · show (PyData.canLay0 (.str x) && PyData.canLayAll0 (toPs us)) = true
      rw [h2, show PyData.canLay0 (.str x) = true from SeqAt.canLay_of_shaped hx.2]
      rfl
    · show max (PyData.depth (.str x)) (PyData.depthAll (toPs us)) = 0
      rw [h3]
      rfl
theorem flat_lst_strs {us : List U} (h : ∀ u ∈ us, ∃ x, u = .str x ∧ flat (.str x) = true) : flat (.lst us) = true := by
  obtain ⟨h1, h2, h3⟩ := flat_strs h
  unfold flat SeqAt.shaped
  show (isDs us && (PyData.canLayAll0 (toPs us) && decide (PyData.depthAll (toPs us) + 1 ≤ 64))) = true
  rw [h1, h2, h3]
  rfl
theorem gNe_str (x y : Str) (Q : U → Prop) : gNe (.str x) (.str y) Q ↔ (flat (.str x) = true ∧ flat (.str y) = true ∧ Q (.bl (!decide (x = y)))) := by
  unfold gNe
  rw [ueq_str]
end
end DL
set_option Elab.async false
set_option linter.all false
set_option maxRecDepth 100000
set_option maxHeartbeats 8000000
set_option exponentiation.threshold 10000
namespace T54
open PySem PySem.Spec PyProof.Rows L2 XR DL
/-! ### sizes -/
abbrev Bd (k : Nat) (x : Int) : Prop := x.natAbs < 2 ^ k
theorem bd_mul {x y : Int} (a b : Nat) (h : Bd a x) (g : Bd b y) : Bd (a + b) (x * y) := wide_lt h g
theorem bd_add {x y : Int} (a : Nat) (h : Bd a x) (g : Bd a y) : Bd (a + 1) (x + y) := by
  unfold Bd at *
  have := Int.natAbs_add_le x y
  have e : 2 ^ (a + 1) = 2 ^ a + 2 ^ a := by rw [Nat.pow_succ]; omega
  omega
theorem bd_up {x : Int} {a : Nat} (b : Nat) (h : Bd a x) (hb : a ≤ b) : Bd b x := Nat.lt_of_lt_of_le h (Nat.pow_le_pow_right (by decide) hb)
theorem bd_neg {x : Int} {a : Nat} (h : Bd a x) : Bd a (-x) := by
  unfold Bd at *
  rw [Int.natAbs_neg]
  exact h
theorem mul_ok {x y : Int} (a b : Nat) (h : Bd a x) (g : Bd b y) (ha : 0 < a) (hb : 0 < b) (hab : a + b ≤ 1000000) : CMulW x y := wide_mul h g ha hb hab
/-! ### the law's deck, its draws -/
theorem pos1 : (fun (_ j : Int) => 0 < j) 0 2147483629 := by decide
theorem pos2 : (fun (_ j : Int) => 0 < j) 0 2147483587 := by decide
theorem cut63 {ns : List Int} (h : ns.length ≤ 63) : cutV (ns.map V.int) none (some 63) = ns.map V.int := by
  unfold cutV
  rw [HT.sIx_none, show (some (63 : Int)) = some ((63 : Nat) : Int) from rfl, HT.sIx_nat, List.length_map, Nat.min_eq_right h, List.drop_zero, Nat.sub_zero]
  exact List.take_of_length_le (by rw [List.length_map]; exact Nat.le_refl _)
theorem int_at {ns : List Int} {i : Nat} {y : V} (h : (ns.map V.int)[i]? = some y) : ∃ z, y = V.int z := by
  rw [List.getElem?_map] at h
  cases e : ns[i]? with
  | none =>
    rw [e] at h
    cases h
  | some z =>
    rw [e] at h
    exact ⟨z, (Option.some.inj h).symm⟩
theorem deck_merge {l : Addr} {m n : Int} : mergeK [] (deckL l m n) = deckL l m n := by rfl
def spDeck (K : PySem.W.Frag) : Sp := fun vs H Q _ => ∃ (a : Addr) (ns : List Int), vs = [.ref a] ∧ SqL K H a (ns.map V.int) ∧ ns.length ≤ 63 ∧
  ∀ (d l : Addr) (H' : Hp), H d = none → H l = none → d ≠ l → DeckAt H' d l → Same H H' → Q (.ref d) H'
section
variable {P : Program} {w : World} {K : PySem.W.Frag} {mg : Str → Option Value} {base : Heap}
theorem scDeck : FnScope ["script", "mixed", "cell"] ["script"] (defScope sDeck) := ⟨rfl, rfl, rfl, by decide +kernel, rfl, by decide +kernel, by decide +kernel⟩
theorem ok_deck {f : Addr} {fd : FuncData} (F : Fun K "_law_deck" "_law_deck" sDeck f fd) (gint : mg "int" = none) (glist : mg "list" = none) : FnOk P w K mg base CX0 1 f fd ["script"] (spDeck K) := by
  refine F.ok scDeck (fun vs H Q E h => ?_) (fun cdv A outer s H vs Q E hr h => ?_)
  · obtain ⟨a, ns, rfl, _⟩ := h
    rfl
  · obtain ⟨a, ns, rfl, hS, hlen, k⟩ := h
    refine ⟨_, pss_cons (ps_set (i := 1) scDeck.nd rfl (Or.inl rfl) pe_int)
      (pss_cons (ps_for PassesOwn.never rfl (pi_list (pe_slice sl_list (pv 0) po_none (po_some pe_int))) (pg_name (i := 2) scDeck.nd rfl (Or.inl rfl))
        (pss_one (ps_set (i := 1) scDeck.nd rfl (Or.inl rfl) (pe_op op_mod (pe_callTy call_int1 (by rfl) gint (by decide +kernel) (pa_cons
          (pe_op op_add (pe_op op_add (pe_op op_mul (pv 1) pe_int) (pe_op op_mod (pe_callTy call_int1 (by rfl) gint (by decide +kernel) (pa_cons (pv 2) pa_nil)) pe_int)) pe_int) pa_nil)) pe_int))))
      (pss_one (ps_ret (pe_disp (pps_cons pe_str (pe_revL (pe_callTy call_list_of (by rfl) glist (by decide +kernel) (pa_cons (pe_slice sl_list (pv 0) po_none (po_some pe_int)) pa_nil)))
        (pps_cons pe_str (pv 1) (pps_cons pe_str pe_int pps_nil))) (by rfl) (by rfl) (fun z => by cases z) (by decide))))), ?_⟩
    refine ⟨_, rfl, _, rfl, a, _, rfl, hS, fun p hp => ⟨p, rfl, ⟨_, SqL.of upd_same⟩, ?_⟩⟩
    refine for_list (K := K) (a := p) (xs := cutV (ns.map V.int) none (some 63)) (fun i σ H' => ∃ (m : Int) (v : Option V), σ = [some (.ref a), some (.int m), v] ∧ 0 ≤ m ∧ m < 2147483648 ∧ H' = upd H p (.lst (cutV (ns.map V.int) none (some 63))))
      ⟨13740573, none, rfl, by decide, by decide, rfl⟩ (fun i σ H' _ ⟨_, _, _, _, _, e⟩ => by rw [e]; exact SqL.of upd_same) ?_ ?_
    · rintro i y σ H' hi ⟨m, v, rfl, m0, m1, rfl⟩
      rw [cut63 hlen] at hi
      obtain ⟨z, rfl⟩ := int_at hi
      refine ⟨_, rfl, _, _, rfl, rfl, .inl ⟨by omega, by omega⟩, _, rfl, .inl ⟨_, rfl, _, _, rfl, rfl, pos1, _, _, rfl, rfl, _, _, rfl, rfl, .inl ⟨_, rfl, _, _, rfl, rfl, pos2, ?_⟩⟩⟩
      exact ⟨_, some (.int z), rfl, Int.emod_nonneg _ (by decide), Int.lt_trans (Int.emod_lt_of_pos _ (by decide)) (by decide), rfl⟩
    · rintro σ H' ⟨m, v, rfl, m0, m1, rfl⟩
      intro q hq
      have np : p ≠ q := ne_of_none (o := .lst (cutV (ns.map V.int) none (some 63))) upd_same hq
      have sqp : ∀ o, SqL K (upd (upd H p (.lst (cutV (ns.map V.int) none (some 63)))) q o) a (ns.map V.int) := fun o => Same.seq (fun b u e => by
        rw [upd_ne (ne_of_none (show (upd H p (.lst (cutV (ns.map V.int) none (some 63)))) b = some u by rw [upd_ne (ne_of_none e hp)]; exact e) hq), upd_ne (ne_of_none e hp)]
        exact e) hS
      refine ⟨_, rfl, _, rfl, a, _, rfl, sqp _, fun r hr2 => ⟨r, _, rfl, .inl (SqL.of upd_same), fun t ht => ⟨t, _, rfl, SqL.of upd_same, fun u hu => ?_⟩⟩⟩
      rw [cut63 hlen] at *
      have e1 : Same H (upd H p (.lst (ns.map V.int))) := same_new hp
      have e2 := e1.trans (same_new (o := .dK []) hq)
      have e3 := e2.trans (same_new (o := .lst (ns.map V.int)) hr2)
      have e4 := e3.trans (same_new (o := .lst (ns.map V.int)) ht)
      have e5 := e4.trans (same_new (o := .lst (ns.map V.int).reverse) hu)
      have hqd : (upd H p (.lst (ns.map V.int))) q = none := hq
      have nqr : q ≠ r := ne_of_none (o := .dK []) upd_same hr2
      have f3 := (same_new (o := .lst (ns.map V.int)) hr2) q _ upd_same
      have f4 := (same_new (o := .lst (ns.map V.int)) ht) q _ f3
      have f5 := (same_new (o := .lst (ns.map V.int).reverse) hu) q _ f4
      have nq : H q = none := e1.free hqd
      have nu : H u = none := e4.free hu
      have nqu : q ≠ u := ne_of_none f4 hu
      refine ⟨_, rfl, f5, deckL u m 0, rfl, (by show 3 ≤ 15; decide), ?_⟩
      rw [deck_merge]
      refine k q u _ nq nu nqu ⟨m, 0, ns.reverse, upd_same, ?_, ?_, m0, m1⟩ fun b o e => ?_
      · rw [upd_ne nqu.symm, upd_same, List.map_reverse]
      · rw [List.length_reverse]
        exact hlen
      · rw [upd_ne (ne_of_none e nq)]
        exact e5 b o e
theorem dg_cells {H : Hp} {d l : Addr} {m n : Int} (h : H d = some (.dK (deckL l m n))) : DGet H d (.str "cells") (some (.ref l)) := DGet.k (k := kL) h
theorem dg_mixed {H : Hp} {d l : Addr} {m n : Int} (h : H d = some (.dK (deckL l m n))) : DGet H d (.str "mixed") (some (.int m)) := DGet.k (k := kM) h
theorem dg_draws {H : Hp} {d l : Addr} {m n : Int} (h : H d = some (.dK (deckL l m n))) : DGet H d (.str "draws") (some (.int n)) := DGet.k (k := kD) h
theorem dp_mixed {H : Hp} {d l : Addr} {m n x : Int} (h : H d = some (.dK (deckL l m n))) : DPut H d (.str "mixed") (.int x) (upd H d (.dK (deckL l x n))) :=
  DPut.k (k := kM) (v := .int x) h (by show 3 < sizeLine; decide)
theorem dp_draws {H : Hp} {d l : Addr} {m n x : Int} (h : H d = some (.dK (deckL l m n))) : DPut H d (.str "draws") (.int x) (upd H d (.dK (deckL l m x))) :=
  DPut.k (k := kD) (v := .int x) h (by show 3 < sizeLine; decide)
theorem dpInts {H : Hp} : ∀ ns : List Int, DpAll K H (ns.map V.int) (ns.map PyData.int)
  | [] => .nil
  | n :: r => .cons (.int n) (dpInts r)
theorem shInts : ∀ ns : List Int, SeqAt.shaped (.list (ns.map PyData.int)) = true := by
  intro ns
  have h1 : ∀ l : List Int, PyData.depthAll (l.map PyData.int) = 0 := fun l => by
    induction l with
    | nil => rfl
    | cons a r ih => simp [PyData.depthAll, PyData.depth, ih]
  have h2 : ∀ l : List Int, PyData.canLayAll0 (l.map PyData.int) = true := fun l => by
    induction l with
    | nil => rfl
    | cons a r ih => simp [PyData.canLayAll0, PyData.canLay0, ih]
  simp [SeqAt.shaped, PyData.depth, PyData.canLay0, h1, h2]
theorem neNil (ns : List Int) : (!PyData.eqv (.list (ns.map PyData.int)) (.list [])) = !ns.isEmpty := by
  cases ns with
  | nil => rfl
  | cons n r => rfl
def spDraw : Sp := fun vs H Q _ => ∃ (d l : Addr) (many : Int), vs = [.ref d, .int many] ∧ DeckAt H d l ∧ 0 < many ∧ many < 1073741824 ∧
  ∀ (r : Int) (H' : Hp), 0 ≤ r → r < many → DeckAt H' d l → Dk d l H H' → Q (.int r) H'
abbrev tInt (t : TE) : TE := tCB (fun xs H Q => (∃ i, xs = [V.int i] ∧ Q (V.int i) H) ∨ ∃ k, xs = [V.bl k] ∧ Q (V.int (if k = true then 1 else 0)) H) (tCons t tNil)
abbrev rAddI : R2 := rI0 fun i j => V.int (i + j)
abbrev rMulI : R2 := rI CMul fun i j => V.int (i * j)
abbrev rModP : R2 := rI (fun _ j => 0 < j) fun i j => V.int (i % j)
def tTail : TS :=
  tSeq (tAsg (tOp rModP (tInt (tOp rAddI (tOp rMulI (tVar 2) (tC (V.int 39373))) (tC (V.int 167)))) (tC (V.int 2147483647))) (gName 2))
    (tSeq (tAsg (tOp rModP (tInt (tOp rAddI (tOp rAddI (tOp rMulI (tVar 2) (tVar 2)) (tOp rMulI (tC (V.int 52713)) (tDGet (tVar 0) (tC (V.str "draws"))))) (tC (V.int 361)))) (tC (V.int 2147483587))) (gName 2))
      (tSeq (tAsg (tOp rModP (tInt (tOp rMulI (tVar 2) (tC (V.int 40692)))) (tC (V.int 2147483563))) (gName 2))
        (tRet (tOp (rI (fun _ j => j ≠ 0) fun i j => V.int (i.fmod j)) (tInt (tOp (rI CDiv fun i j => V.int (i / j)) (tVar 2) (tC (V.int 64)))) (tVar 1)))))
theorem scDraw : FnScope ["deck", "many", "number", "cell"] ["deck", "many"] (defScope sDraw) := ⟨rfl, rfl, rfl, by decide +kernel, rfl, by decide +kernel, by decide +kernel⟩
theorem ok_draw {f : Addr} {fd : FuncData} (F : Fun K "_law_draw" "_law_draw" sDraw f fd) (gint : mg "int" = none) (gmax : mg "max" = none) : FnOk P w K mg base CX0 1 f fd ["deck", "many"] spDraw := by
  refine F.ok scDraw (fun vs H Q E h => ?_) (fun cdv A outer s H vs Q E hr h => ?_)
  · obtain ⟨d, l, many, rfl, _⟩ := h
    rfl
  · obtain ⟨d, l, many, rfl, ⟨m, n, ns, hd, hl, hz, m0, m1⟩, p0, p1, k⟩ := h
    have hu := hu_of hr
    refine ⟨_, pss_cons (ps_dput hu (pv 0) pe_str (pe_op op_add (pe_dget hu (pv 0) pe_str (fun _ _ => rfl)) pe_int) rfl)
      (pss_cons (ps_set (i := 2) scDraw.nd rfl (Or.inl rfl) (pe_op op_add (pe_dget hu (pv 0) pe_str (fun _ _ => rfl)) (pe_op op_mul pe_int (pe_dget hu (pv 0) pe_str (fun _ _ => rfl)))))
      (pss_cons (ps_if (pt_cmpR (op_neD hr.units) (pe_dget hu (pv 0) pe_str (fun _ _ => rfl)) (pe_lst pa_nil) (nomark _))
        (pss_cons (ps_set (i := 3) scDraw.nd rfl (Or.inl rfl) (pe_bm0 PySem.F.plainAttrs_list PySem.F.slot_list_pop PySem.F.type_list_pop mt_pop (pe_dget hu (pv 0) pe_str (fun _ _ => rfl))))
        (pss_cons (ps_if (pt_cmpR op_ge (pv 3) (pe_op op_pow pe_int pe_int) (nomark _))
          (pss_cons (ps_expr (pe_bm PySem.F.plainAttrs_list PySem.F.slot_list_append PySem.F.type_list_append mt_append (pe_dget hu (pv 0) pe_str (fun _ _ => rfl))
            (pa_cons (pe_op op_fdivN (pv 3) (pe_callB (call_max2 rfl) (by rfl) gmax (by decide +kernel) (pa_cons pe_int (pa_cons (pv 1) pa_nil)))) pa_nil)))
          (pss_one (ps_ret (pe_op op_modN (pe_callTy call_int1 (by rfl) gint (by decide +kernel) (pa_cons (pv 3) pa_nil)) (pv 1))))) pss_nil)
        (pss_one (ps_set (i := 2) scDraw.nd rfl (Or.inl rfl) (pe_op op_add (pv 2) (pe_op op_mod (pe_callTy call_int1 (by rfl) gint (by decide +kernel) (pa_cons (pv 3) pa_nil)) pe_int)))))) pss_nil)
      (pss_cons (ps_set (i := 2) scDraw.nd rfl (Or.inl rfl) (pe_op op_mod (pe_callTy call_int1 (by rfl) gint (by decide +kernel) (pa_cons
          (pe_op op_add (pe_op op_mul (pv 2) pe_int) pe_int) pa_nil)) pe_int))
      (pss_cons (ps_set (i := 2) scDraw.nd rfl (Or.inl rfl) (pe_op op_mod (pe_callTy call_int1 (by rfl) gint (by decide +kernel) (pa_cons
          (pe_op op_add (pe_op op_add (pe_op op_mul (pv 2) (pv 2)) (pe_op op_mul pe_int (pe_dget hu (pv 0) pe_str (fun _ _ => rfl)))) pe_int) pa_nil)) pe_int))
      (pss_cons (ps_set (i := 2) scDraw.nd rfl (Or.inl rfl) (pe_op op_mod (pe_callTy call_int1 (by rfl) gint (by decide +kernel) (pa_cons (pe_op op_mul (pv 2) pe_int) pa_nil)) pe_int))
      (pss_one (ps_ret (pe_op op_modN (pe_callTy call_int1 (by rfl) gint (by decide +kernel) (pa_cons (pe_op op_fdiv (pv 2) pe_int) pa_nil)) (pv 1))))))))), ?_⟩
    refine ⟨_, rfl, d, _, rfl, dg_draws hd, _, _, rfl, rfl, _, rfl, d, _, rfl, dp_draws hd, ?_⟩
    have hd1 : (upd H d (.dK (deckL l m (n + 1)))) d = some (.dK (deckL l m (n + 1))) := upd_same
    have nld : l ≠ d := fun z => by
      rw [z, hd] at hl
      cases hl
    have hl1 : (upd H d (.dK (deckL l m (n + 1)))) l = some (.lst (ns.map V.int)) := by
      rw [upd_ne nld]
      exact hl
    have D1 : Dk d l H (upd H d (.dK (deckL l m (n + 1)))) := fun b o e h1 _ => by
      rw [upd_ne h1]
      exact e
    generalize upd H d (.dK (deckL l m (n + 1))) = H1 at hd1 hl1 D1 ⊢
    refine ⟨_, rfl, d, _, rfl, dg_mixed hd1, _, rfl, d, _, rfl, dg_draws hd1, _, _, rfl, rfl, .inl ⟨by decide, by decide⟩, _, _, rfl, rfl, ?_⟩
    refine ⟨_, rfl, d, _, rfl, dg_cells hd1, (by show 0 ≤ sizeLine; decide), fun p hp => ?_⟩
    have hd2 : (upd H1 p (.lst [])) d = some (.dK (deckL l m (n + 1))) := same_new hp _ _ hd1
    have hl2 : (upd H1 p (.lst [])) l = some (.lst (ns.map V.int)) := same_new hp _ _ hl1
    have D2 : Dk d l H (upd H1 p (.lst [])) := D1.trans (Dk.of_same (same_new hp))
    have hp2 : (upd H1 p (.lst [])) p = some (.lst []) := upd_same
    generalize upd H1 p (.lst []) = H2 at hd2 hl2 D2 hp2 ⊢
    refine ⟨_, _, .lst (SqL.of hl2) (dpInts ns), .lst (SqL.of hp2) .nil, shInts ns, rfl, _, rfl, ?_⟩
    rw [neNil]
    have tail : ∀ (c : Option V) (g m' n' : Int) (ns' : List Int) (H' : Hp), H' d = some (.dK (deckL l m' n')) → H' l = some (.lst (ns'.map V.int)) → ns'.length ≤ 63 → 0 ≤ m' → m' < 2147483648 → Dk d l H H' →
        tTail { nx := fun _ H' => Q .non H', rt := Q } [some (.ref d), some (.int many), some (.int g), c] H' := by
      intro c g m' n' ns' H' hd' hl' hz' a0 a1 D'
      refine ⟨_, rfl, _, _, rfl, rfl, .inr ⟨by decide, by decide⟩, _, _, rfl, rfl, .inl ⟨_, rfl, _, _, rfl, rfl, (by show (0 : Int) < 2147483647; decide), ?_⟩⟩
      have f0 := Int.emod_nonneg (g * 39373 + 167) (b := 2147483647) (by decide)
      have f1 := Int.emod_lt_of_pos (g * 39373 + 167) (b := 2147483647) (by decide)
      generalize (g * 39373 + 167) % 2147483647 = f at f0 f1 ⊢
      refine ⟨_, rfl, _, rfl, _, _, rfl, rfl, .inl ⟨by omega, by omega⟩, _, rfl, d, _, rfl, dg_draws hd', _, _, rfl, rfl, .inl ⟨by decide, by decide⟩, _, _, rfl, rfl, _, _, rfl, rfl, .inl ⟨_, rfl, _, _, rfl, rfl, (by show (0 : Int) < 2147483587; decide), ?_⟩⟩
      refine ⟨_, rfl, _, _, rfl, rfl, .inr ⟨by decide, by decide⟩, .inl ⟨_, rfl, _, _, rfl, rfl, (by show (0 : Int) < 2147483563; decide), ?_⟩⟩
      refine ⟨_, rfl, _, _, rfl, rfl, ⟨by decide, by decide⟩, .inl ⟨_, rfl, _, rfl, _, _, rfl, rfl, (by show many ≠ 0; omega), ?_⟩⟩
      exact k _ _ (Int.fmod_nonneg_of_pos _ p0) (Int.fmod_lt_of_pos _ p0) ⟨m', n', ns', hd', hl', hz', a0, a1⟩ D'
    cases ns with
    | nil => exact iteF (tail none (m + 61473 * (n + 1)) m (n + 1) [] H2 hd2 hl2 hz m0 m1 D2)
    | cons x r =>
      refine iteT ?_
      have lst : ((x :: r).map V.int)[((x :: r).map V.int).length - 1]? = some (.int ((x :: r).getLast (by simp))) := by
        rw [← List.getLast?_eq_getElem?, List.getLast?_map, List.getLast?_eq_some_getLast (by simp)]
        rfl
      have dl : ((x :: r).map V.int).dropLast = ((x :: r).dropLast).map V.int := by rw [List.map_dropLast]
      have hz2 : ((x :: r).dropLast).length ≤ 62 := by
        rw [List.length_dropLast]
        omega
      generalize (x :: r).getLast (by simp) = c at lst
      refine ⟨_, rfl, d, _, rfl, dg_cells hd2, .inl ⟨rfl, _, SqL.of hl2⟩, l, _, _, rfl, rfl, hl2, lst, ?_⟩
      rw [dl]
      generalize (x :: r).dropLast = q at hz2 ⊢
      have hd3 : (upd H2 l (.lst (q.map V.int))) d = some (.dK (deckL l m (n + 1))) := by
        rw [upd_ne nld.symm]
        exact hd2
      have hl3 : (upd H2 l (.lst (q.map V.int))) l = some (.lst (q.map V.int)) := upd_same
      have D3 : Dk d l H (upd H2 l (.lst (q.map V.int))) := fun b o e h1 h2 => by
        rw [upd_ne h2]
        exact D2 b o e h1 h2
      generalize upd H2 l (.lst (q.map V.int)) = H3 at hd3 hl3 D3 ⊢
      refine ⟨_, rfl, _, _, rfl, rfl, ⟨by decide, by decide, by decide⟩, _, _, rfl, rfl, _, rfl, ?_⟩
      refine ite2 (fun _ => ?_) (fun _ => ?_)
      · refine ⟨_, rfl, d, _, rfl, dg_cells hd3, .inl ⟨rfl, _, SqL.of hl3⟩, _, rfl, _, rfl, _, _, rfl, _, _, rfl, rfl, ⟨by split <;> omega, by split <;> omega⟩, l, _, _, rfl, rfl, hl3, small1000 (by rw [List.length_map]; omega), ?_⟩
        refine ⟨_, rfl, .inl ⟨_, rfl, _, rfl, _, _, rfl, rfl, (by show many ≠ 0; omega), ?_⟩⟩
        refine k _ _ (Int.fmod_nonneg_of_pos _ p0) (Int.fmod_lt_of_pos _ p0) ⟨m, n + 1, q ++ [c.fdiv (if many > 2 then many else 2)], ?_, ?_, ?_, m0, m1⟩ fun b o e h1 h2 => ?_
        · rw [upd_ne nld.symm]
          exact hd3
        · rw [upd_same, List.map_append]
          rfl
        · rw [List.length_append]
          show q.length + 1 ≤ 63
          omega
        · rw [upd_ne h2]
          exact D3 b o e h1 h2
      · refine ⟨_, rfl, _, rfl, .inl ⟨_, rfl, _, _, rfl, rfl, (by show (0 : Int) < 2147483629; decide), _, _, rfl, rfl, ?_⟩⟩
        exact tail (some (.int c)) _ m (n + 1) q _ hd3 hl3 (by omega) m0 m1 D3
end
/-! ### draws as data -/
theorem dk_stp {m : Mo} {H H' : Hp} {d l : Addr} (e : m.deck = some (d, l)) (D : Dk d l H H') : stpM m H H' := fun b o h k => by
  obtain ⟨k1, _⟩ := k
  rw [e] at k1
  exact D b o h k1.1 k1.2
theorem dk_inv {m : Mo} {H H' : Hp} {d l : Addr} (e : m.deck = some (d, l)) (i : invM m H) (D : Dk d l H H') (A : DeckAt H' d l) : invM m H' := by
  obtain ⟨i1, i2, i3⟩ := i
  have A' := A
  rw [e] at i1
  obtain ⟨m0, n0, ns0, h1, h2, _⟩ := i1
  obtain ⟨m1, n1, ns1, g1, g2, _⟩ := A
  refine ⟨by rw [e]; exact A', fun b hb => ?_, fun b hb => ?_⟩
  · by_cases c1 : b = d
    · rw [c1, g1]
      exact fun z => nomatch z
    · by_cases c2 : b = l
      · rw [c2, g2]
        exact fun z => nomatch z
      · have z := i2 b hb
        cases hH : H b with
        | none => exact absurd hH z
        | some o =>
          rw [D b o hH c1 c2]
          exact fun z => nomatch z
  · obtain ⟨ps, hp, z⟩ := i3 b hb
    have c1 : b ≠ d := fun c => by
      rw [c, h1] at hp
      cases hp
    have c2 : b ≠ l := fun c => by
      rw [c, h2] at hp
      cases hp
    exact ⟨ps, D b _ hp c1 c2, z⟩
def sp_draw : SpD := fun m us Q _ => ∃ (d l : Addr) (many : Int), m.deck = some (d, l) ∧ us = [.raw (.ref d), .int many] ∧ 0 < many ∧ many < 1073741824 ∧ ∀ r : Int, 0 ≤ r → r < many → Q (.int r)
section
variable {P : Program} {w : World} {K : PySem.W.Frag} {mg : Str → Option Value} {base : Heap}
theorem ok__law_draw {a : Addr} {fd : FuncData} (D : DL.Def K mg "_law_draw" sDraw a fd) (gint : mg "int" = none) (gmax : mg "max" = none) : Fd P w K mg base 1 a fd ["deck", "many"] sp_draw :=
  Fd.of0 (ok_draw D.F gint gmax) (fun m us Q Z h => by
    obtain ⟨d, l, many, _, rfl, _⟩ := h
    rfl) fun H vs m us Qd Zd Q E iv rl hsp c => by
    obtain ⟨d, l, many, e, rfl, p0, p1, k⟩ := hsp
    obtain ⟨v, x, rfl, ra, rb⟩ := rl2 rl
    cases ra
    rw [rel_int rb]
    have A : DeckAt H d l := by
      have i1 := iv.1
      rw [e] at i1
      exact i1
    exact ⟨d, l, many, rfl, A, p0, p1, fun r H' r0 r1 A' D' => c _ _ H' (k r r0 r1) (dk_stp e D') (dk_inv e iv D' A') (.int r)⟩
theorem sc__law_pick : FnScope ["deck", "some"] ["deck", "some"] (defScope s__law_pick) := ⟨rfl, rfl, rfl, by decide +kernel, rfl, by decide +kernel, by decide +kernel⟩
def sp_pick : SpD := fun m us Q _ => ∃ (d l : Addr) (ts : List U), m.deck = some (d, l) ∧ us = [.raw (.ref d), .lst ts] ∧ 0 < ts.length ∧ ts.length < 1000 ∧ ∀ u ∈ ts, Q u
theorem ok__law_pick {a a1 : Addr} {fd fd1 : FuncData} (D : DL.Def K mg "_law_pick" s__law_pick a fd) (D__law_draw : DL.Def K mg "_law_draw" sDraw a1 fd1) (gint : mg "int" = none) (gmax : mg "max" = none) (glen : mg "len" = none) : Fd P w K mg base 2 a fd ["deck", "some"] sp_pick := by
  have G__law_draw : Fd P w K mg base 1 a1 fd1 ["deck", "many"] sp_draw := ok__law_draw D__law_draw gint gmax
  have b__law_draw : Binds K fd1 ["deck", "many"] [] := D__law_draw.F.binds fun _ _ _ _ _ _ us hl => match us, hl with | [_, _], _ => rfl
  refine fd_of D.F sc__law_pick (fun m us Q Z h => ?_) (fun cdv A outer s H E m us Qd Zd hr hG tk h => ?_)
  · obtain ⟨d, l, ts, _, rfl, _⟩ := h
    rfl
  · obtain ⟨d, l, ts, e, rfl, p0, p1, k⟩ := h
    have hu := hr.units
    refine ⟨_, (dss_one (ds_ret (de_ix (de_var (pv 1)) (de_call G__law_draw (hr.mono (by decide)) hG tk (by rfl) D__law_draw.g D__law_draw.F.kp b__law_draw (da_cons (de_var (pv 0)) (da_cons (de_callB cal_len (pe_callB call_len_seq (by rfl) glen PySem.boot_len (da_cons (de_var (pv 1)) da_nil))) da_nil))) (fun _ _ => rfl)))), ?_⟩
    simp (config := { maxSteps := 1000000 }) only [dSeq, dIfS, dTest, dOp, dUn, dVar, dC, dTup, dLst, dNil, dCons, dRet, dRetN, dDrop, dSet, dPar, dAsg, dgTup, dgCons, dgNil, dgName, dCB, dNext, dIf, dAnd, dOr, dNot, dNotV, dAndV, dOrV, dCall, dCallK, dRaise, dAug, dSl, dPart, dNoPart, startU_eq, List.map_cons, List.map_nil, List.cons_append, List.nil_append, List.length_cons, List.length_nil, List.replicate, List.getElem?_cons_zero, List.getElem?_cons_succ, List.getElem?_nil, List.set_cons_zero, List.set_cons_succ, Nat.reduceAdd, Nat.reduceSub, ex_uu, ex_bl, ex_tup, ex_lst, ex_int, ex_cons, ex_two, gEq_int, gNe_int, gEq_p2, gNe_p2, gEq_str, ixp0, ixp1, plus_int, star_int, gI_int, gIC_int, ix0, ix1, ix2, ix3, fGcd_int, fIsq_int, fAbs_int, fInt_int, fLen_tup, fLen_lst, fMax2_int, gNeg_int, gFdv, gMod, DL.gSub, gPow, gLt, gLe, gGt, gGe, eq_self, decide_eq_true_eq, Bool.not_eq_true', decide_eq_false_iff_not, true_and, and_true, if_true, if_false, Bool.false_eq_true, Bool.not_true, Bool.not_false]
    refine ⟨d, l, _, e, rfl, by omega, by omega, fun r r0 r1 => ?_⟩
    obtain ⟨j, rfl⟩ : ∃ j : Nat, r = (j : Int) := ⟨r.toNat, by omega⟩
    have lt : j < ts.length := by omega
    exact (ix_lst_at _ _ _ ts[j] (atI_nat (List.getElem?_eq_getElem lt))).mpr (k _ (List.getElem_mem lt))
end
end T54
set_option Elab.async false
set_option linter.all false
set_option maxRecDepth 100000
set_option maxHeartbeats 8000000
set_option exponentiation.threshold 10000
namespace T54
open PySem PySem.Spec PyProof.Rows L2 XR DL
open PySem.XK (ExF)
/-! ### parameters -/
def okU (u : U) : Prop := notRaw u = true ∧ ∀ ts, u = .tup ts → ts.all notRaw = true
theorem fIsi_of {u : U} {n t : String} {b : Bool} {Q : U → Prop} (h : tyN u = some t) (k : kitB t n = some b) (q : Q (.bl b)) : fIsi [u, .raw (.ty n)] Q := ⟨u, n, t, b, rfl, h, k, q⟩
theorem ty_noTup {u : U} (h : notRaw u = true) (g : ∀ ts, u ≠ .tup ts) : ∃ t, tyN u = some t ∧ kitB t "tuple" = some false := by
  cases u <;> first
    | exact absurd rfl (g _)
    | exact ⟨_, rfl, by decide +kernel⟩
    | cases h
theorem tup_or (u : U) : (∃ ts, u = .tup ts) ∨ ∀ ts, u ≠ .tup ts := by
  cases u <;> first
    | exact .inl ⟨_, rfl⟩
    | exact .inr (fun ts z => nomatch z)
def fpF (a b : Int) : Bool := decide (1 ≤ b) && decide (((Nat.gcd a.natAbs b.natAbs : Nat) : Int) = 1)
def isFp : U → Bool
  | .tup [.int a, .int b] => fpF a b
  | _ => false
def parF (a b : Int) : Bool := fpF a b && (decide (b ≤ 12) && decide ((if a < 0 then -a else a) ≤ 40))
def isPar : U → Bool
  | .tup [.int a, .int b] => parF a b
  | _ => false
theorem ints2 {ts : List U} (h : ts.length = 2) (g : ts.all isIntU = true) : ∃ p q : Int, ts = [.int p, .int q] := by
  match ts, h with
  | [a, b], _ =>
    have ha := List.all_eq_true.mp g a (by simp)
    have hb := List.all_eq_true.mp g b (by simp)
    cases a <;> first | cases ha | skip
    cases b <;> first | cases hb | skip
    exact ⟨_, _, rfl⟩
theorem fp_len {ts : List U} (h : ts.length ≠ 2) : isFp (.tup ts) = false := by
  unfold isFp
  split
  · rename_i a b e
    injection e with e
    subst e
    exact absurd rfl h
  · rfl
theorem fp_int {ts : List U} (h : ts.all isIntU = false) : isFp (.tup ts) = false := by
  unfold isFp
  split
  · rename_i a b e
    injection e with e
    subst e
    cases h
  · rfl
theorem fp_noTup {u : U} (g : ∀ ts, u ≠ .tup ts) : isFp u = false := by
  unfold isFp
  split
  · exact absurd rfl (g _)
  · rfl
theorem fp_true {u : U} (h : isFp u = true) : ∃ a b : Int, u = p2 a b ∧ fpF a b = true := by
  unfold isFp at h
  split at h
  · exact ⟨_, _, rfl, h⟩
  · cases h
theorem par_fp {u : U} (h : isFp u = false) : isPar u = false := by
  unfold isPar
  split
  · have h' : fpF _ _ = false := h
    unfold parF
    rw [h']
    rfl
  · rfl
theorem par_true {u : U} (h : isPar u = true) : ∃ a b : Int, u = p2 a b ∧ parF a b = true := by
  unfold isPar at h
  split at h
  · exact ⟨_, _, rfl, h⟩
  · cases h
theorem flat_par {u : U} (h : isPar u = true) : flat u = true := by
  obtain ⟨a, b, rfl, _⟩ := par_true h
  rfl
section
variable {P : Program} {w : World} {K : PySem.W.Frag} {mg : Str → Option Value} {base : Heap}
theorem sc_are_whole : FnScope ["things", "thing"] ["things"] (defScope s_are_whole) := ⟨rfl, rfl, rfl, by decide +kernel, rfl, by decide +kernel, by decide +kernel⟩
/-- the def's code object, its table -/
structure CodeAt (base : Heap) (mg : Str → Option Value) (fd : FuncData) (c P0 : Addr) : Prop where
  code : fd.code = .ref c
  tab : GxR.TabB base mg c P0
def sp_are_whole (P0 : Addr) : SpD := fun m us Q _ => ∃ ts, us = [.tup ts] ∧ ts.all notRaw = true ∧ P0 ∈ m.tabs ∧ Q (.bl (ts.all isIntU))
theorem ok_are_whole {a f c P0 : Addr} {fd : FuncData} (D : DL.Def K mg "are_whole" s_are_whole a fd) (C : CodeAt base mg fd c P0) (Wh : WholeAt K mg f) (gall : mg "all" = none) : Fd P w K mg base 2 a fd ["things"] (sp_are_whole P0) := by
  refine fd_ofC D.F sc_are_whole (fun m us Q Z h => ?_) (fun cdv A outer s H E m us Qd Zd hr hG tk hc h => ?_)
  · obtain ⟨ts, rfl, _⟩ := h
    rfl
  · obtain ⟨ts, rfl, hn, hP, k⟩ := h
    have hcd : cdv = .ref c := hc.symm.trans C.code
    refine ⟨_, (dss_one (ds_ret (de_allW (P := P0) (c := c) hr (by rfl) gall C.tab hcd ⟨rfl, rfl, by decide +kernel, rfl, rfl, fun y hy e => by
      rcases List.mem_cons.mp hy with rfl | hy
      · cases e
      rcases List.mem_cons.mp hy with rfl | hy
      · cases e
      rcases List.mem_cons.mp hy with rfl | hy
      · cases e
      cases hy⟩ Wh rfl (by decide) (de_var (pv 0)) (fun _ => rfl)))), ?_⟩
    simp only [dRet, dAllW]
    simp (config := { maxSteps := 1000000 }) only [dSeq, dIfS, dTest, dOp, dUn, dVar, dC, dTup, dLst, dNil, dCons, dRet, dRetN, dDrop, dSet, dPar, dAsg, dgTup, dgCons, dgNil, dgName, dCB, dNext, dIf, dAnd, dOr, dNot, dNotV, dAndV, dOrV, dCall, dCallK, dRaise, dAug, dSl, dPart, dNoPart, startU_eq, List.map_cons, List.map_nil, List.cons_append, List.nil_append, List.length_cons, List.length_nil, List.replicate, List.getElem?_cons_zero, List.getElem?_cons_succ, List.getElem?_nil, List.set_cons_zero, List.set_cons_succ, Nat.reduceAdd, Nat.reduceSub, ex_uu, ex_bl, ex_tup, ex_lst, ex_int, ex_cons, ex_two, gEq_int, gNe_int, gEq_p2, gNe_p2, gEq_str, ixp0, ixp1, plus_int, star_int, gI_int, gIC_int, ix0, ix1, ix2, ix3, fGcd_int, fIsq_int, fAbs_int, fInt_int, fLen_tup, fLen_lst, fMax2_int, gNeg_int, gFdv, gMod, DL.gSub, gPow, gLt, gLe, gGt, gGe, eq_self, decide_eq_true_eq, Bool.not_eq_true', decide_eq_false_iff_not, true_and, and_true, if_true, if_false, Bool.false_eq_true, Bool.not_true, Bool.not_false]
    exact ⟨hn, hP, k⟩
theorem sc_is_fraction_pair : FnScope ["thing", "top", "bottom"] ["thing"] (defScope s_is_fraction_pair) := ⟨rfl, rfl, rfl, by decide +kernel, rfl, by decide +kernel, by decide +kernel⟩
def sp_is_fraction_pair (P0 : Addr) : SpD := fun m us Q _ => ∃ u, us = [u] ∧ okU u ∧ P0 ∈ m.tabs ∧ Q (.bl (isFp u))
theorem ok_is_fraction_pair {a a1 f c P0 : Addr} {fd fd1 : FuncData} (D : DL.Def K mg "is_fraction_pair" s_is_fraction_pair a fd) (D_are_whole : DL.Def K mg "are_whole" s_are_whole a1 fd1) (C : CodeAt base mg fd1 c P0) (Wh : WholeAt K mg f) (gall : mg "all" = none) (i_gcd : mg "gcd" = some (.builtin "math.gcd")) (gisi : mg "isinstance" = none) (glen : mg "len" = none) (gtup : mg "tuple" = none) :
    Fd P w K mg base 3 a fd ["thing"] (sp_is_fraction_pair P0) := by
  have G_are_whole : Fd P w K mg base 2 a1 fd1 ["things"] (sp_are_whole P0) := ok_are_whole D_are_whole C Wh gall
  have b_are_whole : Binds K fd1 ["things"] [] := D_are_whole.F.binds fun _ _ _ _ _ _ us hl => match us, hl with | [_], _ => rfl
  refine fd_of D.F sc_is_fraction_pair (fun m us Q Z h => ?_) (fun cdv A outer s H E m us Qd Zd hr hG tk h => ?_)
  · obtain ⟨u, rfl, _⟩ := h
    rfl
  · obtain ⟨u, rfl, ⟨hn, ht⟩, hP, k⟩ := h
    have hu := hr.units
    refine ⟨_, (dss_cons (ds_if (L2.PW.pt (dw_or (dt_not (dt_val (de_callB cal_isi (pe_callB call_isi (by rfl) gisi (by decide +kernel) (da_cons (de_var (pv 0)) (da_cons (de_ty (n := "tuple") (by rfl) gtup (by decide +kernel)) da_nil)))))) (dw_or (dt_ne hu (de_callB cal_len (pe_callB call_len_seq (by rfl) glen PySem.boot_len (da_cons (de_var (pv 0)) da_nil))) de_int) (dw_or1 (dt_not (dt_val (de_call G_are_whole (hr.mono (by decide)) hG tk (by rfl) D_are_whole.g D_are_whole.F.kp b_are_whole (da_cons (de_var (pv 0)) da_nil)))))))) (dss_one (ds_ret de_bl)) dss_nil)
    (dss_cons (ds_asg (de_var (pv 0)) (dg_tup (n := 2) rfl (dgs_cons (dg_name (pg_name (i := 1) sc_is_fraction_pair.nd rfl (.inl rfl))) (dgs_cons (dg_name (pg_name (i := 2) sc_is_fraction_pair.nd rfl (.inl rfl))) dgs_nil))))
    (dss_one (ds_ret (de_and (de_ge (de_var (pv 2)) de_int) (de_bool1 (de_eq hu (de_callB cal_gcd (pe_callBfun cr_gcd (by rfl) i_gcd (da_cons (de_var (pv 1)) (da_cons (de_var (pv 2)) da_nil)))) de_int))))))), ?_⟩
    simp (config := { maxSteps := 1000000 }) only [dSeq, dIfS, dTest, dOp, dUn, dVar, dC, dTup, dLst, dNil, dCons, dRet, dRetN, dDrop, dSet, dPar, dAsg, dgTup, dgCons, dgNil, dgName, dCB, dNext, dIf, dAnd, dOr, dNot, dNotV, dAndV, dOrV, dCall, dCallK, dRaise, dAug, dSl, dPart, dNoPart, startU_eq, List.map_cons, List.map_nil, List.cons_append, List.nil_append, List.length_cons, List.length_nil, List.replicate, List.getElem?_cons_zero, List.getElem?_cons_succ, List.getElem?_nil, List.set_cons_zero, List.set_cons_succ, Nat.reduceAdd, Nat.reduceSub, ex_uu, ex_bl, ex_tup, ex_lst, ex_int, ex_cons, ex_two, gEq_int, gNe_int, gEq_p2, gNe_p2, gEq_str, ixp0, ixp1, plus_int, star_int, gI_int, gIC_int, ix0, ix1, ix2, ix3, fGcd_int, fIsq_int, fAbs_int, fInt_int, fLen_tup, fLen_lst, fMax2_int, gNeg_int, gFdv, gMod, DL.gSub, gPow, gLt, gLe, gGt, gGe, eq_self, decide_eq_true_eq, Bool.not_eq_true', decide_eq_false_iff_not, true_and, and_true, if_true, if_false, Bool.false_eq_true, Bool.not_true, Bool.not_false]
    rcases tup_or u with ⟨ts, rfl⟩ | hno
    · refine fIsi_of (b := true) rfl (by decide +kernel) ⟨_, rfl, ?_⟩
      rw [if_neg (fun z => Bool.noConfusion z)]
      simp (config := { maxSteps := 1000000 }) only [dSeq, dIfS, dTest, dOp, dUn, dVar, dC, dTup, dLst, dNil, dCons, dRet, dRetN, dDrop, dSet, dPar, dAsg, dgTup, dgCons, dgNil, dgName, dCB, dNext, dIf, dAnd, dOr, dNot, dNotV, dAndV, dOrV, dCall, dCallK, dRaise, dAug, dSl, dPart, dNoPart, startU_eq, List.map_cons, List.map_nil, List.cons_append, List.nil_append, List.length_cons, List.length_nil, List.replicate, List.getElem?_cons_zero, List.getElem?_cons_succ, List.getElem?_nil, List.set_cons_zero, List.set_cons_succ, Nat.reduceAdd, Nat.reduceSub, ex_uu, ex_bl, ex_tup, ex_lst, ex_int, ex_cons, ex_two, gEq_int, gNe_int, gEq_p2, gNe_p2, gEq_str, ixp0, ixp1, plus_int, star_int, gI_int, gIC_int, ix0, ix1, ix2, ix3, fGcd_int, fIsq_int, fAbs_int, fInt_int, fLen_tup, fLen_lst, fMax2_int, gNeg_int, gFdv, gMod, DL.gSub, gPow, gLt, gLe, gGt, gGe, eq_self, decide_eq_true_eq, Bool.not_eq_true', decide_eq_false_iff_not, true_and, and_true, if_true, if_false, Bool.false_eq_true, Bool.not_true, Bool.not_false]
      by_cases h2 : ts.length = 2
      · have e2 : ((ts.length : Nat) : Int) = 2 := by omega
        simp only [e2, decide_true, Bool.not_true, Bool.false_eq_true, if_false, not_true_eq_false]
        refine ⟨ts, rfl, ht ts rfl, hP, _, rfl, ?_⟩
        cases hw : ts.all isIntU with
        | false =>
          rw [fp_int hw] at k
          exact k
        | true =>
          obtain ⟨p, q, rfl⟩ := ints2 h2 hw
          have k' : Qd (.bl (fpF p q)) := k
          rw [if_neg (fun z => Bool.noConfusion z)]
          unfold fpF at k'
          simp (config := { maxSteps := 1000000 }) only [dSeq, dIfS, dTest, dOp, dUn, dVar, dC, dTup, dLst, dNil, dCons, dRet, dRetN, dDrop, dSet, dPar, dAsg, dgTup, dgCons, dgNil, dgName, dCB, dNext, dIf, dAnd, dOr, dNot, dNotV, dAndV, dOrV, dCall, dCallK, dRaise, dAug, dSl, dPart, dNoPart, startU_eq, List.map_cons, List.map_nil, List.cons_append, List.nil_append, List.length_cons, List.length_nil, List.replicate, List.getElem?_cons_zero, List.getElem?_cons_succ, List.getElem?_nil, List.set_cons_zero, List.set_cons_succ, Nat.reduceAdd, Nat.reduceSub, ex_uu, ex_bl, ex_tup, ex_lst, ex_int, ex_cons, ex_two, gEq_int, gNe_int, gEq_p2, gNe_p2, gEq_str, ixp0, ixp1, plus_int, star_int, gI_int, gIC_int, ix0, ix1, ix2, ix3, fGcd_int, fIsq_int, fAbs_int, fInt_int, fLen_tup, fLen_lst, fMax2_int, gNeg_int, gFdv, gMod, DL.gSub, gPow, gLt, gLe, gGt, gGe, eq_self, decide_eq_true_eq, Bool.not_eq_true', decide_eq_false_iff_not, true_and, and_true, if_true, if_false, Bool.false_eq_true, Bool.not_true, Bool.not_false]
          by_cases c1 : 1 ≤ q
          · rw [if_pos c1]
            simp only [c1, decide_true, Bool.true_and] at k'
            exact k'
          · rw [if_neg c1]
            simp only [c1, decide_false, Bool.false_and] at k'
            exact k'
      · have e2 : ¬ ((ts.length : Nat) : Int) = 2 := by omega
        rw [fp_len h2] at k
        simp only [e2, decide_false, Bool.not_false, if_true, not_false_eq_true]
        exact k
    · obtain ⟨t, h1, h2⟩ := ty_noTup hn hno
      refine fIsi_of h1 h2 ⟨_, rfl, ?_⟩
      rw [if_pos rfl]
      rw [fp_noTup hno] at k
      exact k
theorem sc_is_parameter : FnScope ["thing"] ["thing"] (defScope s_is_parameter) := ⟨rfl, rfl, rfl, by decide +kernel, rfl, by decide +kernel, by decide +kernel⟩
def sp_is_parameter (P0 : Addr) : SpD := fun m us Q _ => ∃ u, us = [u] ∧ okU u ∧ P0 ∈ m.tabs ∧ Q (.bl (isPar u))
theorem ok_is_parameter {a a1 : Addr} {fd fd1 : FuncData} {P0 : Addr} (D : DL.Def K mg "is_parameter" s_is_parameter a fd) (D_is_fraction_pair : DL.Def K mg "is_fraction_pair" s_is_fraction_pair a1 fd1) (G_is_fraction_pair : Fd P w K mg base 3 a1 fd1 ["thing"] (sp_is_fraction_pair P0)) (gabs : mg "abs" = none)
    {t1 t2 : Tok} (h_LARGEST_BOTTOM : mg "LARGEST_BOTTOM" = some (.int 12 t1)) (h_LARGEST_TOP : mg "LARGEST_TOP" = some (.int 40 t2)) : Fd P w K mg base 4 a fd ["thing"] (sp_is_parameter P0) := by
  have b_is_fraction_pair : Binds K fd1 ["thing"] [] := D_is_fraction_pair.F.binds fun _ _ _ _ _ _ us hl => match us, hl with | [_], _ => rfl
  refine fd_of D.F sc_is_parameter (fun m us Q Z h => ?_) (fun cdv A outer s H E m us Qd Zd hr hG tk h => ?_)
  · obtain ⟨u, rfl, _⟩ := h
    rfl
  · obtain ⟨u, rfl, ho, hP, k⟩ := h
    have hu := hr.units
    refine ⟨_, (dss_one (ds_ret (de_and (de_call G_is_fraction_pair (hr.mono (by decide)) hG tk (by rfl) D_is_fraction_pair.g D_is_fraction_pair.F.kp b_is_fraction_pair (da_cons (de_var (pv 0)) da_nil)) (de_and (de_le (de_ix (de_var (pv 0)) de_int (fun _ _ => rfl)) (de_gint (by rfl) h_LARGEST_BOTTOM)) (de_bool1 (de_le (de_callB cal_abs (pe_callB call_abs (by rfl) gabs PyProof.Rows.boot_abs (da_cons (de_ix (de_var (pv 0)) de_int (fun _ _ => rfl)) da_nil))) (de_gint (by rfl) h_LARGEST_TOP))))))), ?_⟩
    simp (config := { maxSteps := 1000000 }) only [dSeq, dIfS, dTest, dOp, dUn, dVar, dC, dTup, dLst, dNil, dCons, dRet, dRetN, dDrop, dSet, dPar, dAsg, dgTup, dgCons, dgNil, dgName, dCB, dNext, dIf, dAnd, dOr, dNot, dNotV, dAndV, dOrV, dCall, dCallK, dRaise, dAug, dSl, dPart, dNoPart, startU_eq, List.map_cons, List.map_nil, List.cons_append, List.nil_append, List.length_cons, List.length_nil, List.replicate, List.getElem?_cons_zero, List.getElem?_cons_succ, List.getElem?_nil, List.set_cons_zero, List.set_cons_succ, Nat.reduceAdd, Nat.reduceSub, ex_uu, ex_bl, ex_tup, ex_lst, ex_int, ex_cons, ex_two, gEq_int, gNe_int, gEq_p2, gNe_p2, gEq_str, ixp0, ixp1, plus_int, star_int, gI_int, gIC_int, ix0, ix1, ix2, ix3, fGcd_int, fIsq_int, fAbs_int, fInt_int, fLen_tup, fLen_lst, fMax2_int, gNeg_int, gFdv, gMod, DL.gSub, gPow, gLt, gLe, gGt, gGe, eq_self, decide_eq_true_eq, Bool.not_eq_true', decide_eq_false_iff_not, true_and, and_true, if_true, if_false, Bool.false_eq_true, Bool.not_true, Bool.not_false]
    refine ⟨u, rfl, ho, hP, _, rfl, ?_⟩
    cases hf : isFp u with
    | false =>
      rw [if_neg (fun z => Bool.noConfusion z)]
      rw [par_fp hf] at k
      exact k
    | true =>
      obtain ⟨p, q, rfl, hpq⟩ := fp_true hf
      rw [if_pos rfl]
      simp (config := { maxSteps := 1000000 }) only [dSeq, dIfS, dTest, dOp, dUn, dVar, dC, dTup, dLst, dNil, dCons, dRet, dRetN, dDrop, dSet, dPar, dAsg, dgTup, dgCons, dgNil, dgName, dCB, dNext, dIf, dAnd, dOr, dNot, dNotV, dAndV, dOrV, dCall, dCallK, dRaise, dAug, dSl, dPart, dNoPart, startU_eq, List.map_cons, List.map_nil, List.cons_append, List.nil_append, List.length_cons, List.length_nil, List.replicate, List.getElem?_cons_zero, List.getElem?_cons_succ, List.getElem?_nil, List.set_cons_zero, List.set_cons_succ, Nat.reduceAdd, Nat.reduceSub, ex_uu, ex_bl, ex_tup, ex_lst, ex_int, ex_cons, ex_two, gEq_int, gNe_int, gEq_p2, gNe_p2, gEq_str, ixp0, ixp1, plus_int, star_int, gI_int, gIC_int, ix0, ix1, ix2, ix3, fGcd_int, fIsq_int, fAbs_int, fInt_int, fLen_tup, fLen_lst, fMax2_int, gNeg_int, gFdv, gMod, DL.gSub, gPow, gLt, gLe, gGt, gGe, eq_self, decide_eq_true_eq, Bool.not_eq_true', decide_eq_false_iff_not, true_and, and_true, if_true, if_false, Bool.false_eq_true, Bool.not_true, Bool.not_false]
      have k' : Qd (.bl (parF p q)) := k
      unfold parF at k'
      rw [hpq, Bool.true_and] at k'
      by_cases c1 : q ≤ 12
      · rw [if_pos c1]
        simp only [c1, decide_true, Bool.true_and] at k'
        exact k'
      · rw [if_neg c1]
        simp only [c1, decide_false, Bool.false_and] at k'
        exact k'
/-- some parameters; the first that is none -/
def parsQ (CB : Addr) : List U → Prop → XQ → Prop
  | [], q, _ => q
  | u :: us, q, Z => if isPar u = true then parsQ CB us q Z else Z CB u
theorem sc_check_parameters : FnScope ["parameters", "thing"] ["parameters"] (defScope s_check_parameters) := ⟨rfl, rfl, rfl, by decide +kernel, rfl, by decide +kernel, by decide +kernel⟩
def sp_check_parameters (P0 CB : Addr) : SpD := fun m us Q Z => (∀ u ∈ us, okU u) ∧ P0 ∈ m.tabs ∧ parsQ CB us (Q .non) Z
theorem ok_check_parameters {a a1 : Addr} {fd fd1 : FuncData} {P0 CB fB : Addr} (D : DL.Def K mg "check_parameters" s_check_parameters a fd) (D_is_parameter : DL.Def K mg "is_parameter" s_is_parameter a1 fd1) (G_is_parameter : Fd P w K mg base 4 a1 fd1 ["thing"] (sp_is_parameter P0)) (xBadParameter : ExF K CB fB) (gBadParameter : mg "BadParameter" = some (.ref CB)) :
    FdR P w K mg base 5 a (fun m us Q Z => us.length ≤ sizeLine ∧ sp_check_parameters P0 CB m us Q Z) := by
  have b_is_parameter : Binds K fd1 ["thing"] [] := D_is_parameter.F.binds fun _ _ _ _ _ _ us hl => match us, hl with | [_], _ => rfl
  refine fdR_star D.F sc_check_parameters (fun rest => ?_) (fun cdv A outer s H E m us Qd Zd hr hG tk h => ?_)
  · obtain ⟨oc, od, kV, doc, pm, an, cdv, ct, osl, rfl, lk, hcd⟩ := D.F.ex
    cases rest with
    | nil => rfl
    | cons a r => rfl
  · obtain ⟨ho, hP, k⟩ := h
    have hu := hr.units
    refine ⟨_, (dss_one (ds_for (ps_for (passes_of rfl) rfl (di_tup (de_var (pv 0))) (dg_name (pg_name (i := 1) sc_check_parameters.nd rfl (.inl rfl))) (dss_one (ds_if (dt_not (dt_val (de_call G_is_parameter (hr.mono (by decide)) hG tk (by rfl) D_is_parameter.g D_is_parameter.F.kp b_is_parameter (da_cons (de_var (pv 1)) da_nil)))) (dss_one (ds_raise xBadParameter rfl tk hr (by rfl) gBadParameter (de_var (pv 1)))) dss_nil))))), ?_⟩
    simp (config := { maxSteps := 1000000 }) only [dSeq, dIfS, dTest, dOp, dUn, dVar, dC, dTup, dLst, dNil, dCons, dRet, dRetN, dDrop, dSet, dPar, dAsg, dgTup, dgCons, dgNil, dgName, dCB, dNext, dIf, dAnd, dOr, dNot, dNotV, dAndV, dOrV, dCall, dCallK, dRaise, dAug, dSl, dPart, dNoPart, startU_eq, List.map_cons, List.map_nil, List.cons_append, List.nil_append, List.length_cons, List.length_nil, List.replicate, List.getElem?_cons_zero, List.getElem?_cons_succ, List.getElem?_nil, List.set_cons_zero, List.set_cons_succ, Nat.reduceAdd, Nat.reduceSub, ex_uu, ex_bl, ex_tup, ex_lst, ex_int, ex_cons, ex_two, gEq_int, gNe_int, gEq_p2, gNe_p2, gEq_str, ixp0, ixp1, plus_int, star_int, gI_int, gIC_int, ix0, ix1, ix2, ix3, fGcd_int, fIsq_int, fAbs_int, fInt_int, fLen_tup, fLen_lst, fMax2_int, gNeg_int, gFdv, gMod, DL.gSub, gPow, gLt, gLe, gGt, gGe, eq_self, decide_eq_true_eq, Bool.not_eq_true', decide_eq_false_iff_not, true_and, and_true, if_true, if_false, Bool.false_eq_true, Bool.not_true, Bool.not_false]
    simp only [dFor, dItT]
    simp (config := { maxSteps := 1000000 }) only [dSeq, dIfS, dTest, dOp, dUn, dVar, dC, dTup, dLst, dNil, dCons, dRet, dRetN, dDrop, dSet, dPar, dAsg, dgTup, dgCons, dgNil, dgName, dCB, dNext, dIf, dAnd, dOr, dNot, dNotV, dAndV, dOrV, dCall, dCallK, dRaise, dAug, dSl, dPart, dNoPart, startU_eq, List.map_cons, List.map_nil, List.cons_append, List.nil_append, List.length_cons, List.length_nil, List.replicate, List.getElem?_cons_zero, List.getElem?_cons_succ, List.getElem?_nil, List.set_cons_zero, List.set_cons_succ, Nat.reduceAdd, Nat.reduceSub, ex_uu, ex_bl, ex_tup, ex_lst, ex_int, ex_cons, ex_two, gEq_int, gNe_int, gEq_p2, gNe_p2, gEq_str, ixp0, ixp1, plus_int, star_int, gI_int, gIC_int, ix0, ix1, ix2, ix3, fGcd_int, fIsq_int, fAbs_int, fInt_int, fLen_tup, fLen_lst, fMax2_int, gNeg_int, gFdv, gMod, DL.gSub, gPow, gLt, gLe, gGt, gGe, eq_self, decide_eq_true_eq, Bool.not_eq_true', decide_eq_false_iff_not, true_and, and_true, if_true, if_false, Bool.false_eq_true, Bool.not_true, Bool.not_false]
    refine ⟨fun i ρ' => ∃ th, ρ' = [some (.tup us), th] ∧ parsQ CB (us.drop i) (Qd .non) Zd, ⟨_, rfl, k⟩, ?_, ?_⟩
    · rintro i u ρ' hi ⟨th, rfl, hk⟩
      have hd : us.drop i = u :: us.drop (i + 1) := by
        obtain ⟨hl, e⟩ := List.getElem?_eq_some_iff.mp hi
        rw [← e]
        exact List.drop_eq_getElem_cons hl
      rw [hd] at hk
      simp (config := { maxSteps := 1000000 }) only [dSeq, dIfS, dTest, dOp, dUn, dVar, dC, dTup, dLst, dNil, dCons, dRet, dRetN, dDrop, dSet, dPar, dAsg, dgTup, dgCons, dgNil, dgName, dCB, dNext, dIf, dAnd, dOr, dNot, dNotV, dAndV, dOrV, dCall, dCallK, dRaise, dAug, dSl, dPart, dNoPart, startU_eq, List.map_cons, List.map_nil, List.cons_append, List.nil_append, List.length_cons, List.length_nil, List.replicate, List.getElem?_cons_zero, List.getElem?_cons_succ, List.getElem?_nil, List.set_cons_zero, List.set_cons_succ, Nat.reduceAdd, Nat.reduceSub, ex_uu, ex_bl, ex_tup, ex_lst, ex_int, ex_cons, ex_two, gEq_int, gNe_int, gEq_p2, gNe_p2, gEq_str, ixp0, ixp1, plus_int, star_int, gI_int, gIC_int, ix0, ix1, ix2, ix3, fGcd_int, fIsq_int, fAbs_int, fInt_int, fLen_tup, fLen_lst, fMax2_int, gNeg_int, gFdv, gMod, DL.gSub, gPow, gLt, gLe, gGt, gGe, eq_self, decide_eq_true_eq, Bool.not_eq_true', decide_eq_false_iff_not, true_and, and_true, if_true, if_false, Bool.false_eq_true, Bool.not_true, Bool.not_false]
      refine ⟨u, rfl, ho u (List.mem_of_getElem? hi), hP, _, rfl, ?_⟩
      unfold parsQ at hk
      cases hp : isPar u with
      | true =>
        rw [hp, if_pos rfl] at hk
        rw [if_neg (fun z => Bool.noConfusion z)]
        exact ⟨_, rfl, hk⟩
      | false =>
        rw [hp, if_neg (fun z => Bool.noConfusion z)] at hk
        rw [if_pos rfl]
        exact hk
    · rintro ρ' ⟨th, rfl, hk⟩
      rw [List.drop_length] at hk
      exact hk
theorem sc_check_divisor : FnScope ["t"] ["t"] (defScope s_check_divisor) := ⟨rfl, rfl, rfl, by decide +kernel, rfl, by decide +kernel, by decide +kernel⟩
/-- a parameter that is not zero -/
def divQ (CB : Addr) (t : U) (q : Prop) (Z : XQ) : Prop := if isPar t = true ∧ ueq t (p2 0 1) = false then q else Z CB t
def sp_check_divisor (P0 CB : Addr) : SpD := fun m us Q Z => ∃ t, us = [t] ∧ okU t ∧ P0 ∈ m.tabs ∧ divQ CB t (Q .non) Z
theorem ok_check_divisor {a a1 : Addr} {fd fd1 : FuncData} {P0 CB fB : Addr} (D : DL.Def K mg "check_divisor" s_check_divisor a fd) (D_check_parameters : DL.Def K mg "check_parameters" s_check_parameters a1 fd1) (G_check_parameters : FdR P w K mg base 5 a1 (fun m us Q Z => us.length ≤ sizeLine ∧ sp_check_parameters P0 CB m us Q Z)) (xBadParameter : ExF K CB fB) (gBadParameter : mg "BadParameter" = some (.ref CB)) :
    Fd P w K mg base 6 a fd ["t"] (sp_check_divisor P0 CB) := by
  refine fd_of D.F sc_check_divisor (fun m us Q Z h => ?_) (fun cdv A outer s H E m us Qd Zd hr hG tk h => ?_)
  · obtain ⟨u, rfl, _⟩ := h
    rfl
  · obtain ⟨u, rfl, ho, hP, k⟩ := h
    have hu := hr.units
    refine ⟨_, (dss_cons (ds_expr (de_callR G_check_parameters (hr.mono (by decide)) hG tk (by rfl) D_check_parameters.g D_check_parameters.F.kp (da_cons (de_var (pv 0)) da_nil)))
    (dss_one (ds_if (dt_eq hu (de_var (pv 0)) (de_tup (da_cons de_int (da_cons de_int da_nil)))) (dss_one (ds_raise xBadParameter rfl tk hr (by rfl) gBadParameter (de_var (pv 0)))) dss_nil))), ?_⟩
    simp (config := { maxSteps := 1000000 }) only [dSeq, dIfS, dTest, dOp, dUn, dVar, dC, dTup, dLst, dNil, dCons, dRet, dRetN, dDrop, dSet, dPar, dAsg, dgTup, dgCons, dgNil, dgName, dCB, dNext, dIf, dAnd, dOr, dNot, dNotV, dAndV, dOrV, dCall, dCallK, dRaise, dAug, dSl, dPart, dNoPart, startU_eq, List.map_cons, List.map_nil, List.cons_append, List.nil_append, List.length_cons, List.length_nil, List.replicate, List.getElem?_cons_zero, List.getElem?_cons_succ, List.getElem?_nil, List.set_cons_zero, List.set_cons_succ, Nat.reduceAdd, Nat.reduceSub, ex_uu, ex_bl, ex_tup, ex_lst, ex_int, ex_cons, ex_two, gEq_int, gNe_int, gEq_p2, gNe_p2, gEq_str, ixp0, ixp1, plus_int, star_int, gI_int, gIC_int, ix0, ix1, ix2, ix3, fGcd_int, fIsq_int, fAbs_int, fInt_int, fLen_tup, fLen_lst, fMax2_int, gNeg_int, gFdv, gMod, DL.gSub, gPow, gLt, gLe, gGt, gGe, eq_self, decide_eq_true_eq, Bool.not_eq_true', decide_eq_false_iff_not, true_and, and_true, if_true, if_false, Bool.false_eq_true, Bool.not_true, Bool.not_false]
    refine ⟨le_line (by decide), ?_, hP, ?_⟩
    · intro v hv
      rw [List.mem_singleton.mp hv]
      exact ho
    · unfold divQ at k
      unfold parsQ parsQ
      cases hp : isPar u with
      | false =>
        rw [if_neg (fun z => Bool.noConfusion z)]
        rw [if_neg (fun z => by rw [hp] at z; exact Bool.noConfusion z.1)] at k
        exact k
      | true =>
        rw [if_pos rfl]
        refine ⟨le_line (by decide), flat_par hp, rfl, _, rfl, ?_⟩
        cases hz : ueq u (p2 0 1) with
        | true =>
          rw [if_pos rfl]
          rw [if_neg (fun z => by rw [hz] at z; exact Bool.noConfusion z.2)] at k
          exact k
        | false =>
          rw [if_neg (fun z => Bool.noConfusion z)]
          rw [if_pos ⟨hp, hz⟩] at k
          exact k
end
end T54
set_option Elab.async false
set_option linter.all false
set_option maxRecDepth 100000
set_option maxHeartbeats 8000000
set_option exponentiation.threshold 10000
namespace T54
open PySem PySem.Spec PyProof.Rows L2 XR DL
open PySem.XK (ExF)
abbrev wF : Str := "formula"
abbrev wL : Str := "laid"
abbrev wN : Str := "nothing"
def vHer (a b : Int) : Str := if a = 0 ∧ b = 1 then wL else wN
def vBes (a b : Int) : Str := if a = 0 ∧ b = 1 then wF else wN
def vGeg (a b d : Int) : Str := if d = 1 ∨ (a = 1 ∧ b = 1) ∨ (a = -1 ∧ b = 1) then wF else if a = 0 ∧ b = 1 then wL else wN
def vCha (b : Int) : Str := if b = 1 then wF else wN
def wsum (k a b c d : Int) : Bool := decide ((k * a * d + c * b) % (b * d) = 0)
def vMei (a b c d e f : Int) : Str := if (e = 1 ∧ f = 1) ∨ b = 1 ∨ wsum 1 a b c d = true then wF else if (e = -1 ∧ f = 1) ∧ wsum 2 a b c d = true then wL else wN
structure Pr (a b : Int) : Prop where
  b1 : 1 ≤ b
  b12 : b ≤ 12
  a40 : a.natAbs ≤ 40
  g : Nat.gcd a.natAbs b.natAbs = 1
theorem pr_iff (a b : Int) : parF a b = true ↔ Pr a b := by
  unfold parF fpF
  simp only [Bool.and_eq_true, decide_eq_true_eq]
  constructor
  · rintro ⟨⟨h1, h2⟩, h3, h4⟩
    exact ⟨h1, h3, by split at h4 <;> omega, by omega⟩
  · rintro ⟨h1, h3, h4, h2⟩
    exact ⟨⟨h1, by omega⟩, h3, by split <;> omega⟩
theorem par_p2 {a b : Int} : isPar (p2 a b) = true ↔ Pr a b := pr_iff a b
theorem bd_small {x : Int} (k : Nat) (h : x.natAbs < 2 ^ k) : Bd k x := h
theorem pars_one {CB : Addr} {u : U} {q : Prop} {Z : XQ} (h : parsQ CB [u] q Z) : (∀ a b, u = p2 a b → Pr a b → q) ∧ (isPar u = false → Z CB u) := by
  unfold parsQ parsQ at h
  refine ⟨fun a b e hp => ?_, fun hp => ?_⟩
  · subst e
    rw [if_pos (par_p2.mpr hp)] at h
    exact h
  · rw [if_neg (fun z => by rw [hp] at z; exact Bool.noConfusion z)] at h
    exact h
/-- behind the questions all are parameters -/
theorem pars_imp {CB : Addr} {Z : XQ} : ∀ {us : List U} {q q' : Prop}, parsQ CB us q Z → ((∀ u ∈ us, isPar u = true) → q → q') → parsQ CB us q' Z
  | [], q, q', h, g => g (fun u hu => nomatch hu) h
  | u :: us, q, q', h, g => by
    unfold parsQ at h ⊢
    cases hp : isPar u with
    | false =>
      rw [hp, if_neg (fun z => Bool.noConfusion z)] at h
      rw [if_neg (fun z => Bool.noConfusion z)]
      exact h
    | true =>
      rw [hp, if_pos rfl] at h
      rw [if_pos rfl]
      exact pars_imp h fun a b => g (fun v hv => by
        rcases List.mem_cons.mp hv with z | z
        · rw [z]
          exact hp
        · exact a v z) b
theorem div_imp {CB : Addr} {Z : XQ} {t : U} {q q' : Prop} (h : divQ CB t q Z) (g : isPar t = true → ueq t (p2 0 1) = false → q → q') : divQ CB t q' Z := by
  unfold divQ at h ⊢
  by_cases c : isPar t = true ∧ ueq t (p2 0 1) = false
  · rw [if_pos c] at h ⊢
    exact g c.1 c.2 h
  · rw [if_neg c] at h ⊢
    exact h
theorem pars_one' {CB : Addr} {Z : XQ} {u : U} {q : Prop} (h : isPar u = true → q) (g : isPar u = false → Z CB u) : parsQ CB [u] q Z := by
  unfold parsQ parsQ
  cases hp : isPar u with
  | true =>
    rw [if_pos rfl]
    exact h hp
  | false =>
    rw [if_neg (fun z => Bool.noConfusion z)]
    exact g hp
theorem oks2 {x l : U} (hx : okU x) (hl : okU l) : ∀ u ∈ [x, l], okU u := fun u hu => by
  simp only [List.mem_cons, List.not_mem_nil, or_false] at hu
  rcases hu with rfl | rfl
  · exact hx
  · exact hl
theorem oks1 {x : U} (hx : okU x) : ∀ u ∈ [x], okU u := fun u hu => by
  rw [List.mem_singleton.mp hu]
  exact hx
section
variable {P : Program} {w : World} {K : PySem.W.Frag} {mg : Str → Option Value} {base : Heap}
theorem sc_is_whole_sum : FnScope ["k", "x", "l"] ["k", "x", "l"] (defScope s_is_whole_sum) := ⟨rfl, rfl, rfl, by decide +kernel, rfl, by decide +kernel, by decide +kernel⟩
def sp_is_whole_sum : SpD := fun m us Q _ => ∃ k a b c d : Int, us = [.int k, p2 a b, p2 c d] ∧ 0 ≤ k ∧ k ≤ 2 ∧ Pr a b ∧ Pr c d ∧ Q (.bl (wsum k a b c d))
theorem ok_is_whole_sum {a : Addr} {fd : FuncData} (D : DL.Def K mg "is_whole_sum" s_is_whole_sum a fd) : Fd P w K mg base 1 a fd ["k", "x", "l"] sp_is_whole_sum := by
  refine fd_of D.F sc_is_whole_sum (fun m us Q Z h => ?_) (fun cdv A outer s H E m us Qd Zd hr hG tk h => ?_)
  · obtain ⟨_, _, _, _, _, rfl, _⟩ := h
    rfl
  · obtain ⟨k, a, b, c, d, rfl, k0, k2, h1, h2, q⟩ := h
    have hu := hr.units
    have b1 := h1.b1
    have b2 := h1.b12
    have b3 := h1.a40
    have c1 := h2.b1
    have c2 := h2.b12
    have c3 := h2.a40
    refine ⟨_, (dss_one (ds_ret (de_eq hu (de_mod (de_plus (de_star (de_star (de_var (pv 0)) (de_ix (de_var (pv 1)) de_int (fun _ _ => rfl))) (de_ix (de_var (pv 2)) de_int (fun _ _ => rfl))) (de_star (de_ix (de_var (pv 2)) de_int (fun _ _ => rfl)) (de_ix (de_var (pv 1)) de_int (fun _ _ => rfl)))) (de_star (de_ix (de_var (pv 1)) de_int (fun _ _ => rfl)) (de_ix (de_var (pv 2)) de_int (fun _ _ => rfl)))) de_int))), ?_⟩
    simp (config := { maxSteps := 1000000 }) only [dSeq, dIfS, dTest, dOp, dUn, dVar, dC, dTup, dLst, dNil, dCons, dRet, dRetN, dDrop, dSet, dPar, dAsg, dgTup, dgCons, dgNil, dgName, dCB, dNext, dIf, dAnd, dOr, dNot, dNotV, dAndV, dOrV, dCall, dCallK, dRaise, dAug, dSl, dPart, dNoPart, startU_eq, List.map_cons, List.map_nil, List.cons_append, List.nil_append, List.length_cons, List.length_nil, List.replicate, List.getElem?_cons_zero, List.getElem?_cons_succ, List.getElem?_nil, List.set_cons_zero, List.set_cons_succ, Nat.reduceAdd, Nat.reduceSub, ex_uu, ex_bl, ex_tup, ex_lst, ex_int, ex_cons, ex_two, gEq_int, gNe_int, gEq_p2, gNe_p2, gEq_str, ixp0, ixp1, plus_int, star_int, gI_int, gIC_int, ix0, ix1, ix2, ix3, fGcd_int, fIsq_int, fAbs_int, fInt_int, fLen_tup, fLen_lst, fMax2_int, gNeg_int, gFdv, gMod, DL.gSub, gPow, gLt, gLe, gGt, gGe, eq_self, decide_eq_true_eq, Bool.not_eq_true', decide_eq_false_iff_not, true_and, and_true, if_true, if_false, Bool.false_eq_true, Bool.not_true, Bool.not_false]
    have B : ∀ x : Int, x.natAbs ≤ 100 → Bd 10 x := fun x hx => Nat.lt_of_le_of_lt hx (by decide)
    have e : (0 : Int) < b * d := Int.mul_pos (by omega) (by omega)
    refine ⟨mul_ok 10 10 (B _ (by omega)) (B _ (by omega)) (by decide) (by decide) (by decide), mul_ok 20 10 (bd_mul 10 10 (B _ (by omega)) (B _ (by omega))) (B _ (by omega)) (by decide) (by decide) (by decide),
      mul_ok 10 10 (B _ (by omega)) (B _ (by omega)) (by decide) (by decide) (by decide), mul_ok 10 10 (B _ (by omega)) (B _ (by omega)) (by decide) (by decide) (by decide), e, q⟩
theorem sc_steady_verdict : FnScope ["x", "t"] ["x", "t"] (defScope s_steady_verdict) := ⟨rfl, rfl, rfl, by decide +kernel, rfl, by decide +kernel, by decide +kernel⟩
def sp_steady_verdict (P0 CB : Addr) : SpD := fun m us Q Z => ∃ x t, us = [x, t] ∧ okU x ∧ okU t ∧ P0 ∈ m.tabs ∧ parsQ CB [x] (divQ CB t (Q (.str wF)) Z) Z
theorem ok_steady_verdict {a a1 a2 : Addr} {fd fd1 fd2 : FuncData} {P0 CB : Addr} (D : DL.Def K mg "steady_verdict" s_steady_verdict a fd) (D_check_parameters : DL.Def K mg "check_parameters" s_check_parameters a1 fd1) (G_check_parameters : FdR P w K mg base 5 a1 (fun m us Q Z => us.length ≤ sizeLine ∧ sp_check_parameters P0 CB m us Q Z)) (D_check_divisor : DL.Def K mg "check_divisor" s_check_divisor a2 fd2) (G_check_divisor : Fd P w K mg base 6 a2 fd2 ["t"] (sp_check_divisor P0 CB)) : Fd P w K mg base 7 a fd ["x", "t"] (sp_steady_verdict P0 CB) := by
  have b_check_divisor : Binds K fd2 ["t"] [] := D_check_divisor.F.binds fun _ _ _ _ _ _ us hl => match us, hl with | [_], _ => rfl
  refine fd_of D.F sc_steady_verdict (fun m us Q Z h => ?_) (fun cdv A outer s H E m us Qd Zd hr hG tk h => ?_)
  · obtain ⟨_, _, rfl, _⟩ := h
    rfl
  · obtain ⟨x, t, rfl, ox, ot, hP, k⟩ := h
    have hu := hr.units
    have two : 2 ≤ sizeLine := le_line (by decide)
    refine ⟨_, (dss_cons (ds_expr (de_callR G_check_parameters (hr.mono (by decide)) hG tk (by rfl) D_check_parameters.g D_check_parameters.F.kp (da_cons (de_var (pv 0)) da_nil)))
    (dss_cons (ds_expr (de_call G_check_divisor (hr.mono (by decide)) hG tk (by rfl) D_check_divisor.g D_check_divisor.F.kp b_check_divisor (da_cons (de_var (pv 1)) da_nil)))
    (dss_one (ds_ret de_str)))), ?_⟩
    simp (config := { maxSteps := 1000000 }) only [dSeq, dIfS, dTest, dOp, dUn, dVar, dC, dTup, dLst, dNil, dCons, dRet, dRetN, dDrop, dSet, dPar, dAsg, dgTup, dgCons, dgNil, dgName, dCB, dNext, dIf, dAnd, dOr, dNot, dNotV, dAndV, dOrV, dCall, dCallK, dRaise, dAug, dSl, dPart, dNoPart, startU_eq, List.map_cons, List.map_nil, List.cons_append, List.nil_append, List.length_cons, List.length_nil, List.replicate, List.getElem?_cons_zero, List.getElem?_cons_succ, List.getElem?_nil, List.set_cons_zero, List.set_cons_succ, Nat.reduceAdd, Nat.reduceSub, ex_uu, ex_bl, ex_tup, ex_lst, ex_int, ex_cons, ex_two, gEq_int, gNe_int, gEq_p2, gNe_p2, gEq_str, ixp0, ixp1, plus_int, star_int, gI_int, gIC_int, ix0, ix1, ix2, ix3, fGcd_int, fIsq_int, fAbs_int, fInt_int, fLen_tup, fLen_lst, fMax2_int, gNeg_int, gFdv, gMod, DL.gSub, gPow, gLt, gLe, gGt, gGe, eq_self, decide_eq_true_eq, Bool.not_eq_true', decide_eq_false_iff_not, true_and, and_true, if_true, if_false, Bool.false_eq_true, Bool.not_true, Bool.not_false]
    refine ⟨le_line (by decide), oks1 ox, hP, pars_imp k fun hp kk0 => ?_⟩
    obtain ⟨x0, x1, rfl, xp⟩ := par_true (hp x (by simp))
    rw [pr_iff] at xp
    refine ⟨t, rfl, ot, hP, div_imp kk0 fun tp tz kk => ?_⟩
    obtain ⟨t0, t1, rfl, _⟩ := par_true tp
    have tp := par_p2.mp tp
    exact kk
theorem sc_hermite_verdict : FnScope ["x", "t"] ["x", "t"] (defScope s_hermite_verdict) := ⟨rfl, rfl, rfl, by decide +kernel, rfl, by decide +kernel, by decide +kernel⟩
def sp_hermite_verdict (P0 CB : Addr) : SpD := fun m us Q Z => ∃ x t, us = [x, t] ∧ okU x ∧ okU t ∧ P0 ∈ m.tabs ∧ parsQ CB [x, t] (∀ a b, x = p2 a b → Q (.str (vHer a b))) Z
theorem ok_hermite_verdict {a a1 : Addr} {fd fd1 : FuncData} {P0 CB : Addr} (D : DL.Def K mg "hermite_verdict" s_hermite_verdict a fd) (D_check_parameters : DL.Def K mg "check_parameters" s_check_parameters a1 fd1) (G_check_parameters : FdR P w K mg base 5 a1 (fun m us Q Z => us.length ≤ sizeLine ∧ sp_check_parameters P0 CB m us Q Z)) : Fd P w K mg base 7 a fd ["x", "t"] (sp_hermite_verdict P0 CB) := by
  refine fd_of D.F sc_hermite_verdict (fun m us Q Z h => ?_) (fun cdv A outer s H E m us Qd Zd hr hG tk h => ?_)
  · obtain ⟨_, _, rfl, _⟩ := h
    rfl
  · obtain ⟨x, t, rfl, ox, ot, hP, k⟩ := h
    have hu := hr.units
    have two : 2 ≤ sizeLine := le_line (by decide)
    refine ⟨_, (dss_cons (ds_expr (de_callR G_check_parameters (hr.mono (by decide)) hG tk (by rfl) D_check_parameters.g D_check_parameters.F.kp (da_cons (de_var (pv 0)) (da_cons (de_var (pv 1)) da_nil))))
    (dss_one (ds_ret (de_if (dt_eq hu (de_var (pv 0)) (de_tup (da_cons de_int (da_cons de_int da_nil)))) de_str de_str)))), ?_⟩
    simp (config := { maxSteps := 1000000 }) only [dSeq, dIfS, dTest, dOp, dUn, dVar, dC, dTup, dLst, dNil, dCons, dRet, dRetN, dDrop, dSet, dPar, dAsg, dgTup, dgCons, dgNil, dgName, dCB, dNext, dIf, dAnd, dOr, dNot, dNotV, dAndV, dOrV, dCall, dCallK, dRaise, dAug, dSl, dPart, dNoPart, startU_eq, List.map_cons, List.map_nil, List.cons_append, List.nil_append, List.length_cons, List.length_nil, List.replicate, List.getElem?_cons_zero, List.getElem?_cons_succ, List.getElem?_nil, List.set_cons_zero, List.set_cons_succ, Nat.reduceAdd, Nat.reduceSub, ex_uu, ex_bl, ex_tup, ex_lst, ex_int, ex_cons, ex_two, gEq_int, gNe_int, gEq_p2, gNe_p2, gEq_str, ixp0, ixp1, plus_int, star_int, gI_int, gIC_int, ix0, ix1, ix2, ix3, fGcd_int, fIsq_int, fAbs_int, fInt_int, fLen_tup, fLen_lst, fMax2_int, gNeg_int, gFdv, gMod, DL.gSub, gPow, gLt, gLe, gGt, gGe, eq_self, decide_eq_true_eq, Bool.not_eq_true', decide_eq_false_iff_not, true_and, and_true, if_true, if_false, Bool.false_eq_true, Bool.not_true, Bool.not_false]
    refine ⟨le_line (by decide), oks2 ox ot, hP, pars_imp k fun hp kk => ?_⟩
    obtain ⟨x0, x1, rfl, xp⟩ := par_true (hp x (by simp))
    rw [pr_iff] at xp
    obtain ⟨t0, t1, rfl, tp⟩ := par_true (hp t (by simp))
    rw [pr_iff] at tp
    simp (config := { maxSteps := 1000000 }) only [dSeq, dIfS, dTest, dOp, dUn, dVar, dC, dTup, dLst, dNil, dCons, dRet, dRetN, dDrop, dSet, dPar, dAsg, dgTup, dgCons, dgNil, dgName, dCB, dNext, dIf, dAnd, dOr, dNot, dNotV, dAndV, dOrV, dCall, dCallK, dRaise, dAug, dSl, dPart, dNoPart, startU_eq, List.map_cons, List.map_nil, List.cons_append, List.nil_append, List.length_cons, List.length_nil, List.replicate, List.getElem?_cons_zero, List.getElem?_cons_succ, List.getElem?_nil, List.set_cons_zero, List.set_cons_succ, Nat.reduceAdd, Nat.reduceSub, ex_uu, ex_bl, ex_tup, ex_lst, ex_int, ex_cons, ex_two, gEq_int, gNe_int, gEq_p2, gNe_p2, gEq_str, ixp0, ixp1, plus_int, star_int, gI_int, gIC_int, ix0, ix1, ix2, ix3, fGcd_int, fIsq_int, fAbs_int, fInt_int, fLen_tup, fLen_lst, fMax2_int, gNeg_int, gFdv, gMod, DL.gSub, gPow, gLt, gLe, gGt, gGe, eq_self, decide_eq_true_eq, Bool.not_eq_true', decide_eq_false_iff_not, true_and, and_true, if_true, if_false, Bool.false_eq_true, Bool.not_true, Bool.not_false]
    refine ⟨two, ?_⟩
    have kk := kk x0 x1 rfl
    unfold vHer at kk
    by_cases c : x0 = 0 ∧ x1 = 1
    · rw [if_pos c] at kk
      rw [if_pos (by simp only [Bool.and_eq_true, decide_eq_true_eq]; exact c)]
      exact kk
    · rw [if_neg c] at kk
      rw [if_neg (by simp only [Bool.and_eq_true, decide_eq_true_eq]; exact c)]
      exact kk
theorem sc_bessel_verdict : FnScope ["x", "l", "t"] ["x", "l", "t"] (defScope s_bessel_verdict) := ⟨rfl, rfl, rfl, by decide +kernel, rfl, by decide +kernel, by decide +kernel⟩
def sp_bessel_verdict (P0 CB : Addr) : SpD := fun m us Q Z => ∃ x l t, us = [x, l, t] ∧ okU x ∧ okU l ∧ okU t ∧ P0 ∈ m.tabs ∧ parsQ CB [x, l] (divQ CB t (∀ a b, x = p2 a b → Q (.str (vBes a b))) Z) Z
theorem ok_bessel_verdict {a a1 a2 : Addr} {fd fd1 fd2 : FuncData} {P0 CB : Addr} (D : DL.Def K mg "bessel_verdict" s_bessel_verdict a fd) (D_check_parameters : DL.Def K mg "check_parameters" s_check_parameters a1 fd1) (G_check_parameters : FdR P w K mg base 5 a1 (fun m us Q Z => us.length ≤ sizeLine ∧ sp_check_parameters P0 CB m us Q Z)) (D_check_divisor : DL.Def K mg "check_divisor" s_check_divisor a2 fd2) (G_check_divisor : Fd P w K mg base 6 a2 fd2 ["t"] (sp_check_divisor P0 CB)) : Fd P w K mg base 7 a fd ["x", "l", "t"] (sp_bessel_verdict P0 CB) := by
  have b_check_divisor : Binds K fd2 ["t"] [] := D_check_divisor.F.binds fun _ _ _ _ _ _ us hl => match us, hl with | [_], _ => rfl
  refine fd_of D.F sc_bessel_verdict (fun m us Q Z h => ?_) (fun cdv A outer s H E m us Qd Zd hr hG tk h => ?_)
  · obtain ⟨_, _, _, rfl, _⟩ := h
    rfl
  · obtain ⟨x, l, t, rfl, ox, ol, ot, hP, k⟩ := h
    have hu := hr.units
    have two : 2 ≤ sizeLine := le_line (by decide)
    refine ⟨_, (dss_cons (ds_expr (de_callR G_check_parameters (hr.mono (by decide)) hG tk (by rfl) D_check_parameters.g D_check_parameters.F.kp (da_cons (de_var (pv 0)) (da_cons (de_var (pv 1)) da_nil))))
    (dss_cons (ds_expr (de_call G_check_divisor (hr.mono (by decide)) hG tk (by rfl) D_check_divisor.g D_check_divisor.F.kp b_check_divisor (da_cons (de_var (pv 2)) da_nil)))
    (dss_one (ds_ret (de_if (dt_eq hu (de_var (pv 0)) (de_tup (da_cons de_int (da_cons de_int da_nil)))) de_str de_str))))), ?_⟩
    simp (config := { maxSteps := 1000000 }) only [dSeq, dIfS, dTest, dOp, dUn, dVar, dC, dTup, dLst, dNil, dCons, dRet, dRetN, dDrop, dSet, dPar, dAsg, dgTup, dgCons, dgNil, dgName, dCB, dNext, dIf, dAnd, dOr, dNot, dNotV, dAndV, dOrV, dCall, dCallK, dRaise, dAug, dSl, dPart, dNoPart, startU_eq, List.map_cons, List.map_nil, List.cons_append, List.nil_append, List.length_cons, List.length_nil, List.replicate, List.getElem?_cons_zero, List.getElem?_cons_succ, List.getElem?_nil, List.set_cons_zero, List.set_cons_succ, Nat.reduceAdd, Nat.reduceSub, ex_uu, ex_bl, ex_tup, ex_lst, ex_int, ex_cons, ex_two, gEq_int, gNe_int, gEq_p2, gNe_p2, gEq_str, ixp0, ixp1, plus_int, star_int, gI_int, gIC_int, ix0, ix1, ix2, ix3, fGcd_int, fIsq_int, fAbs_int, fInt_int, fLen_tup, fLen_lst, fMax2_int, gNeg_int, gFdv, gMod, DL.gSub, gPow, gLt, gLe, gGt, gGe, eq_self, decide_eq_true_eq, Bool.not_eq_true', decide_eq_false_iff_not, true_and, and_true, if_true, if_false, Bool.false_eq_true, Bool.not_true, Bool.not_false]
    refine ⟨le_line (by decide), oks2 ox ol, hP, pars_imp k fun hp kk0 => ?_⟩
    obtain ⟨x0, x1, rfl, xp⟩ := par_true (hp x (by simp))
    rw [pr_iff] at xp
    obtain ⟨l0, l1, rfl, lp⟩ := par_true (hp l (by simp))
    rw [pr_iff] at lp
    refine ⟨t, rfl, ot, hP, div_imp kk0 fun tp tz kk => ?_⟩
    obtain ⟨t0, t1, rfl, _⟩ := par_true tp
    have tp := par_p2.mp tp
    simp (config := { maxSteps := 1000000 }) only [dSeq, dIfS, dTest, dOp, dUn, dVar, dC, dTup, dLst, dNil, dCons, dRet, dRetN, dDrop, dSet, dPar, dAsg, dgTup, dgCons, dgNil, dgName, dCB, dNext, dIf, dAnd, dOr, dNot, dNotV, dAndV, dOrV, dCall, dCallK, dRaise, dAug, dSl, dPart, dNoPart, startU_eq, List.map_cons, List.map_nil, List.cons_append, List.nil_append, List.length_cons, List.length_nil, List.replicate, List.getElem?_cons_zero, List.getElem?_cons_succ, List.getElem?_nil, List.set_cons_zero, List.set_cons_succ, Nat.reduceAdd, Nat.reduceSub, ex_uu, ex_bl, ex_tup, ex_lst, ex_int, ex_cons, ex_two, gEq_int, gNe_int, gEq_p2, gNe_p2, gEq_str, ixp0, ixp1, plus_int, star_int, gI_int, gIC_int, ix0, ix1, ix2, ix3, fGcd_int, fIsq_int, fAbs_int, fInt_int, fLen_tup, fLen_lst, fMax2_int, gNeg_int, gFdv, gMod, DL.gSub, gPow, gLt, gLe, gGt, gGe, eq_self, decide_eq_true_eq, Bool.not_eq_true', decide_eq_false_iff_not, true_and, and_true, if_true, if_false, Bool.false_eq_true, Bool.not_true, Bool.not_false]
    refine ⟨two, ?_⟩
    have kk := kk x0 x1 rfl
    unfold vBes at kk
    by_cases c : x0 = 0 ∧ x1 = 1
    · rw [if_pos c] at kk
      rw [if_pos (by simp only [Bool.and_eq_true, decide_eq_true_eq]; exact c)]
      exact kk
    · rw [if_neg c] at kk
      rw [if_neg (by simp only [Bool.and_eq_true, decide_eq_true_eq]; exact c)]
      exact kk
theorem sc_laguerre_verdict : FnScope ["x", "l"] ["x", "l"] (defScope s_laguerre_verdict) := ⟨rfl, rfl, rfl, by decide +kernel, rfl, by decide +kernel, by decide +kernel⟩
def sp_laguerre_verdict (P0 CB : Addr) : SpD := fun m us Q Z => ∃ x l, us = [x, l] ∧ okU x ∧ okU l ∧ P0 ∈ m.tabs ∧ parsQ CB [x, l] (∀ a b, x = p2 a b → Q (.str (vBes a b))) Z
theorem ok_laguerre_verdict {a a1 : Addr} {fd fd1 : FuncData} {P0 CB : Addr} (D : DL.Def K mg "laguerre_verdict" s_laguerre_verdict a fd) (D_check_parameters : DL.Def K mg "check_parameters" s_check_parameters a1 fd1) (G_check_parameters : FdR P w K mg base 5 a1 (fun m us Q Z => us.length ≤ sizeLine ∧ sp_check_parameters P0 CB m us Q Z)) : Fd P w K mg base 7 a fd ["x", "l"] (sp_laguerre_verdict P0 CB) := by
  refine fd_of D.F sc_laguerre_verdict (fun m us Q Z h => ?_) (fun cdv A outer s H E m us Qd Zd hr hG tk h => ?_)
  · obtain ⟨_, _, rfl, _⟩ := h
    rfl
  · obtain ⟨x, l, rfl, ox, ol, hP, k⟩ := h
    have hu := hr.units
    have two : 2 ≤ sizeLine := le_line (by decide)
    refine ⟨_, (dss_cons (ds_expr (de_callR G_check_parameters (hr.mono (by decide)) hG tk (by rfl) D_check_parameters.g D_check_parameters.F.kp (da_cons (de_var (pv 0)) (da_cons (de_var (pv 1)) da_nil))))
    (dss_one (ds_ret (de_if (dt_eq hu (de_var (pv 0)) (de_tup (da_cons de_int (da_cons de_int da_nil)))) de_str de_str)))), ?_⟩
    simp (config := { maxSteps := 1000000 }) only [dSeq, dIfS, dTest, dOp, dUn, dVar, dC, dTup, dLst, dNil, dCons, dRet, dRetN, dDrop, dSet, dPar, dAsg, dgTup, dgCons, dgNil, dgName, dCB, dNext, dIf, dAnd, dOr, dNot, dNotV, dAndV, dOrV, dCall, dCallK, dRaise, dAug, dSl, dPart, dNoPart, startU_eq, List.map_cons, List.map_nil, List.cons_append, List.nil_append, List.length_cons, List.length_nil, List.replicate, List.getElem?_cons_zero, List.getElem?_cons_succ, List.getElem?_nil, List.set_cons_zero, List.set_cons_succ, Nat.reduceAdd, Nat.reduceSub, ex_uu, ex_bl, ex_tup, ex_lst, ex_int, ex_cons, ex_two, gEq_int, gNe_int, gEq_p2, gNe_p2, gEq_str, ixp0, ixp1, plus_int, star_int, gI_int, gIC_int, ix0, ix1, ix2, ix3, fGcd_int, fIsq_int, fAbs_int, fInt_int, fLen_tup, fLen_lst, fMax2_int, gNeg_int, gFdv, gMod, DL.gSub, gPow, gLt, gLe, gGt, gGe, eq_self, decide_eq_true_eq, Bool.not_eq_true', decide_eq_false_iff_not, true_and, and_true, if_true, if_false, Bool.false_eq_true, Bool.not_true, Bool.not_false]
    refine ⟨le_line (by decide), oks2 ox ol, hP, pars_imp k fun hp kk => ?_⟩
    obtain ⟨x0, x1, rfl, xp⟩ := par_true (hp x (by simp))
    rw [pr_iff] at xp
    obtain ⟨l0, l1, rfl, lp⟩ := par_true (hp l (by simp))
    rw [pr_iff] at lp
    simp (config := { maxSteps := 1000000 }) only [dSeq, dIfS, dTest, dOp, dUn, dVar, dC, dTup, dLst, dNil, dCons, dRet, dRetN, dDrop, dSet, dPar, dAsg, dgTup, dgCons, dgNil, dgName, dCB, dNext, dIf, dAnd, dOr, dNot, dNotV, dAndV, dOrV, dCall, dCallK, dRaise, dAug, dSl, dPart, dNoPart, startU_eq, List.map_cons, List.map_nil, List.cons_append, List.nil_append, List.length_cons, List.length_nil, List.replicate, List.getElem?_cons_zero, List.getElem?_cons_succ, List.getElem?_nil, List.set_cons_zero, List.set_cons_succ, Nat.reduceAdd, Nat.reduceSub, ex_uu, ex_bl, ex_tup, ex_lst, ex_int, ex_cons, ex_two, gEq_int, gNe_int, gEq_p2, gNe_p2, gEq_str, ixp0, ixp1, plus_int, star_int, gI_int, gIC_int, ix0, ix1, ix2, ix3, fGcd_int, fIsq_int, fAbs_int, fInt_int, fLen_tup, fLen_lst, fMax2_int, gNeg_int, gFdv, gMod, DL.gSub, gPow, gLt, gLe, gGt, gGe, eq_self, decide_eq_true_eq, Bool.not_eq_true', decide_eq_false_iff_not, true_and, and_true, if_true, if_false, Bool.false_eq_true, Bool.not_true, Bool.not_false]
    refine ⟨two, ?_⟩
    have kk := kk x0 x1 rfl
    unfold vBes at kk
    by_cases c : x0 = 0 ∧ x1 = 1
    · rw [if_pos c] at kk
      rw [if_pos (by simp only [Bool.and_eq_true, decide_eq_true_eq]; exact c)]
      exact kk
    · rw [if_neg c] at kk
      rw [if_neg (by simp only [Bool.and_eq_true, decide_eq_true_eq]; exact c)]
      exact kk
theorem sc_gegenbauer_verdict : FnScope ["x", "l"] ["x", "l"] (defScope s_gegenbauer_verdict) := ⟨rfl, rfl, rfl, by decide +kernel, rfl, by decide +kernel, by decide +kernel⟩
def sp_gegenbauer_verdict (P0 CB : Addr) : SpD := fun m us Q Z => ∃ x l, us = [x, l] ∧ okU x ∧ okU l ∧ P0 ∈ m.tabs ∧ parsQ CB [x, l] (∀ a b c d, x = p2 a b → l = p2 c d → Q (.str (vGeg a b d))) Z
theorem ok_gegenbauer_verdict {a a1 : Addr} {fd fd1 : FuncData} {P0 CB : Addr} (D : DL.Def K mg "gegenbauer_verdict" s_gegenbauer_verdict a fd) (D_check_parameters : DL.Def K mg "check_parameters" s_check_parameters a1 fd1) (G_check_parameters : FdR P w K mg base 5 a1 (fun m us Q Z => us.length ≤ sizeLine ∧ sp_check_parameters P0 CB m us Q Z)) : Fd P w K mg base 7 a fd ["x", "l"] (sp_gegenbauer_verdict P0 CB) := by
  refine fd_of D.F sc_gegenbauer_verdict (fun m us Q Z h => ?_) (fun cdv A outer s H E m us Qd Zd hr hG tk h => ?_)
  · obtain ⟨_, _, rfl, _⟩ := h
    rfl
  · obtain ⟨x, l, rfl, ox, ol, hP, k⟩ := h
    have hu := hr.units
    have two : 2 ≤ sizeLine := le_line (by decide)
    refine ⟨_, (dss_cons (ds_expr (de_callR G_check_parameters (hr.mono (by decide)) hG tk (by rfl) D_check_parameters.g D_check_parameters.F.kp (da_cons (de_var (pv 0)) (da_cons (de_var (pv 1)) da_nil))))
    (dss_cons (ds_if (L2.PW.pt (dw_or (dt_eq hu (de_ix (de_var (pv 1)) de_int (fun _ _ => rfl)) de_int) (dw_or (dt_eq hu (de_var (pv 0)) (de_tup (da_cons de_int (da_cons de_int da_nil)))) (dw_or1 (dt_eq hu (de_var (pv 0)) (de_tup (da_cons (de_neg de_int) (da_cons de_int da_nil)))))))) (dss_one (ds_ret de_str)) dss_nil)
    (dss_one (ds_ret (de_if (dt_eq hu (de_var (pv 0)) (de_tup (da_cons de_int (da_cons de_int da_nil)))) de_str de_str))))), ?_⟩
    simp (config := { maxSteps := 1000000 }) only [dSeq, dIfS, dTest, dOp, dUn, dVar, dC, dTup, dLst, dNil, dCons, dRet, dRetN, dDrop, dSet, dPar, dAsg, dgTup, dgCons, dgNil, dgName, dCB, dNext, dIf, dAnd, dOr, dNot, dNotV, dAndV, dOrV, dCall, dCallK, dRaise, dAug, dSl, dPart, dNoPart, startU_eq, List.map_cons, List.map_nil, List.cons_append, List.nil_append, List.length_cons, List.length_nil, List.replicate, List.getElem?_cons_zero, List.getElem?_cons_succ, List.getElem?_nil, List.set_cons_zero, List.set_cons_succ, Nat.reduceAdd, Nat.reduceSub, ex_uu, ex_bl, ex_tup, ex_lst, ex_int, ex_cons, ex_two, gEq_int, gNe_int, gEq_p2, gNe_p2, gEq_str, ixp0, ixp1, plus_int, star_int, gI_int, gIC_int, ix0, ix1, ix2, ix3, fGcd_int, fIsq_int, fAbs_int, fInt_int, fLen_tup, fLen_lst, fMax2_int, gNeg_int, gFdv, gMod, DL.gSub, gPow, gLt, gLe, gGt, gGe, eq_self, decide_eq_true_eq, Bool.not_eq_true', decide_eq_false_iff_not, true_and, and_true, if_true, if_false, Bool.false_eq_true, Bool.not_true, Bool.not_false]
    refine ⟨le_line (by decide), oks2 ox ol, hP, pars_imp k fun hp kk => ?_⟩
    obtain ⟨x0, x1, rfl, xp⟩ := par_true (hp x (by simp))
    rw [pr_iff] at xp
    obtain ⟨l0, l1, rfl, lp⟩ := par_true (hp l (by simp))
    rw [pr_iff] at lp
    simp (config := { maxSteps := 1000000 }) only [dSeq, dIfS, dTest, dOp, dUn, dVar, dC, dTup, dLst, dNil, dCons, dRet, dRetN, dDrop, dSet, dPar, dAsg, dgTup, dgCons, dgNil, dgName, dCB, dNext, dIf, dAnd, dOr, dNot, dNotV, dAndV, dOrV, dCall, dCallK, dRaise, dAug, dSl, dPart, dNoPart, startU_eq, List.map_cons, List.map_nil, List.cons_append, List.nil_append, List.length_cons, List.length_nil, List.replicate, List.getElem?_cons_zero, List.getElem?_cons_succ, List.getElem?_nil, List.set_cons_zero, List.set_cons_succ, Nat.reduceAdd, Nat.reduceSub, ex_uu, ex_bl, ex_tup, ex_lst, ex_int, ex_cons, ex_two, gEq_int, gNe_int, gEq_p2, gNe_p2, gEq_str, ixp0, ixp1, plus_int, star_int, gI_int, gIC_int, ix0, ix1, ix2, ix3, fGcd_int, fIsq_int, fAbs_int, fInt_int, fLen_tup, fLen_lst, fMax2_int, gNeg_int, gFdv, gMod, DL.gSub, gPow, gLt, gLe, gGt, gGe, eq_self, decide_eq_true_eq, Bool.not_eq_true', decide_eq_false_iff_not, true_and, and_true, if_true, if_false, Bool.false_eq_true, Bool.not_true, Bool.not_false]
    have kk := kk x0 x1 l0 l1 rfl rfl
    unfold vGeg at kk
    by_cases c1 : l1 = 1
    · rw [if_pos c1]
      rw [if_pos (.inl c1)] at kk
      exact kk
    · rw [if_neg c1]
      refine ⟨two, ?_⟩
      by_cases c2 : x0 = 1 ∧ x1 = 1
      · rw [if_pos (.inr (.inl c2))] at kk
        rw [if_pos (by simp only [Bool.and_eq_true, decide_eq_true_eq]; exact c2)]
        exact kk
      · rw [if_neg (by simp only [Bool.and_eq_true, decide_eq_true_eq]; exact c2)]
        refine ⟨two, ?_⟩
        by_cases c3 : x0 = -1 ∧ x1 = 1
        · rw [if_pos (.inr (.inr c3))] at kk
          rw [if_pos (by simp only [Bool.and_eq_true, decide_eq_true_eq]; exact c3)]
          exact kk
        · rw [if_neg (by simp only [Bool.and_eq_true, decide_eq_true_eq]; exact c3)]
          rw [if_neg (by rintro (h | h | h); exact c1 h; exact c2 h; exact c3 h)] at kk
          refine ⟨two, ?_⟩
          by_cases c : x0 = 0 ∧ x1 = 1
          · rw [if_pos c] at kk
            rw [if_pos (by simp only [Bool.and_eq_true, decide_eq_true_eq]; exact c)]
            exact kk
          · rw [if_neg c] at kk
            rw [if_neg (by simp only [Bool.and_eq_true, decide_eq_true_eq]; exact c)]
            exact kk
theorem sc_charlier_verdict : FnScope ["x", "t"] ["x", "t"] (defScope s_charlier_verdict) := ⟨rfl, rfl, rfl, by decide +kernel, rfl, by decide +kernel, by decide +kernel⟩
def sp_charlier_verdict (P0 CB : Addr) : SpD := fun m us Q Z => ∃ x t, us = [x, t] ∧ okU x ∧ okU t ∧ P0 ∈ m.tabs ∧ parsQ CB [x] (divQ CB t (∀ a b, x = p2 a b → Q (.str (vCha b))) Z) Z
theorem ok_charlier_verdict {a a1 a2 : Addr} {fd fd1 fd2 : FuncData} {P0 CB : Addr} (D : DL.Def K mg "charlier_verdict" s_charlier_verdict a fd) (D_check_parameters : DL.Def K mg "check_parameters" s_check_parameters a1 fd1) (G_check_parameters : FdR P w K mg base 5 a1 (fun m us Q Z => us.length ≤ sizeLine ∧ sp_check_parameters P0 CB m us Q Z)) (D_check_divisor : DL.Def K mg "check_divisor" s_check_divisor a2 fd2) (G_check_divisor : Fd P w K mg base 6 a2 fd2 ["t"] (sp_check_divisor P0 CB)) : Fd P w K mg base 7 a fd ["x", "t"] (sp_charlier_verdict P0 CB) := by
  have b_check_divisor : Binds K fd2 ["t"] [] := D_check_divisor.F.binds fun _ _ _ _ _ _ us hl => match us, hl with | [_], _ => rfl
  refine fd_of D.F sc_charlier_verdict (fun m us Q Z h => ?_) (fun cdv A outer s H E m us Qd Zd hr hG tk h => ?_)
  · obtain ⟨_, _, rfl, _⟩ := h
    rfl
  · obtain ⟨x, t, rfl, ox, ot, hP, k⟩ := h
    have hu := hr.units
    have two : 2 ≤ sizeLine := le_line (by decide)
    refine ⟨_, (dss_cons (ds_expr (de_callR G_check_parameters (hr.mono (by decide)) hG tk (by rfl) D_check_parameters.g D_check_parameters.F.kp (da_cons (de_var (pv 0)) da_nil)))
    (dss_cons (ds_expr (de_call G_check_divisor (hr.mono (by decide)) hG tk (by rfl) D_check_divisor.g D_check_divisor.F.kp b_check_divisor (da_cons (de_var (pv 1)) da_nil)))
    (dss_one (ds_ret (de_if (dt_eq hu (de_ix (de_var (pv 0)) de_int (fun _ _ => rfl)) de_int) de_str de_str))))), ?_⟩
    simp (config := { maxSteps := 1000000 }) only [dSeq, dIfS, dTest, dOp, dUn, dVar, dC, dTup, dLst, dNil, dCons, dRet, dRetN, dDrop, dSet, dPar, dAsg, dgTup, dgCons, dgNil, dgName, dCB, dNext, dIf, dAnd, dOr, dNot, dNotV, dAndV, dOrV, dCall, dCallK, dRaise, dAug, dSl, dPart, dNoPart, startU_eq, List.map_cons, List.map_nil, List.cons_append, List.nil_append, List.length_cons, List.length_nil, List.replicate, List.getElem?_cons_zero, List.getElem?_cons_succ, List.getElem?_nil, List.set_cons_zero, List.set_cons_succ, Nat.reduceAdd, Nat.reduceSub, ex_uu, ex_bl, ex_tup, ex_lst, ex_int, ex_cons, ex_two, gEq_int, gNe_int, gEq_p2, gNe_p2, gEq_str, ixp0, ixp1, plus_int, star_int, gI_int, gIC_int, ix0, ix1, ix2, ix3, fGcd_int, fIsq_int, fAbs_int, fInt_int, fLen_tup, fLen_lst, fMax2_int, gNeg_int, gFdv, gMod, DL.gSub, gPow, gLt, gLe, gGt, gGe, eq_self, decide_eq_true_eq, Bool.not_eq_true', decide_eq_false_iff_not, true_and, and_true, if_true, if_false, Bool.false_eq_true, Bool.not_true, Bool.not_false]
    refine ⟨le_line (by decide), oks1 ox, hP, pars_imp k fun hp kk0 => ?_⟩
    obtain ⟨x0, x1, rfl, xp⟩ := par_true (hp x (by simp))
    rw [pr_iff] at xp
    refine ⟨t, rfl, ot, hP, div_imp kk0 fun tp tz kk => ?_⟩
    obtain ⟨t0, t1, rfl, _⟩ := par_true tp
    have tp := par_p2.mp tp
    simp (config := { maxSteps := 1000000 }) only [dSeq, dIfS, dTest, dOp, dUn, dVar, dC, dTup, dLst, dNil, dCons, dRet, dRetN, dDrop, dSet, dPar, dAsg, dgTup, dgCons, dgNil, dgName, dCB, dNext, dIf, dAnd, dOr, dNot, dNotV, dAndV, dOrV, dCall, dCallK, dRaise, dAug, dSl, dPart, dNoPart, startU_eq, List.map_cons, List.map_nil, List.cons_append, List.nil_append, List.length_cons, List.length_nil, List.replicate, List.getElem?_cons_zero, List.getElem?_cons_succ, List.getElem?_nil, List.set_cons_zero, List.set_cons_succ, Nat.reduceAdd, Nat.reduceSub, ex_uu, ex_bl, ex_tup, ex_lst, ex_int, ex_cons, ex_two, gEq_int, gNe_int, gEq_p2, gNe_p2, gEq_str, ixp0, ixp1, plus_int, star_int, gI_int, gIC_int, ix0, ix1, ix2, ix3, fGcd_int, fIsq_int, fAbs_int, fInt_int, fLen_tup, fLen_lst, fMax2_int, gNeg_int, gFdv, gMod, DL.gSub, gPow, gLt, gLe, gGt, gGe, eq_self, decide_eq_true_eq, Bool.not_eq_true', decide_eq_false_iff_not, true_and, and_true, if_true, if_false, Bool.false_eq_true, Bool.not_true, Bool.not_false]
    have kk := kk x0 x1 rfl
    unfold vCha at kk
    by_cases c : x1 = 1
    · rw [if_pos c] at kk ⊢
      exact kk
    · rw [if_neg c] at kk ⊢
      exact kk
theorem sc_meixner_verdict : FnScope ["x", "l", "t"] ["x", "l", "t"] (defScope s_meixner_verdict) := ⟨rfl, rfl, rfl, by decide +kernel, rfl, by decide +kernel, by decide +kernel⟩
def sp_meixner_verdict (P0 CB : Addr) : SpD := fun m us Q Z => ∃ x l t, us = [x, l, t] ∧ okU x ∧ okU l ∧ okU t ∧ P0 ∈ m.tabs ∧ parsQ CB [x, l] (divQ CB t (∀ a b c d e f, x = p2 a b → l = p2 c d → t = p2 e f → Q (.str (vMei a b c d e f))) Z) Z
theorem ok_meixner_verdict {a a1 a2 a3 : Addr} {fd fd1 fd2 fd3 : FuncData} {P0 CB : Addr} (D : DL.Def K mg "meixner_verdict" s_meixner_verdict a fd) (D_check_parameters : DL.Def K mg "check_parameters" s_check_parameters a1 fd1) (G_check_parameters : FdR P w K mg base 5 a1 (fun m us Q Z => us.length ≤ sizeLine ∧ sp_check_parameters P0 CB m us Q Z)) (D_check_divisor : DL.Def K mg "check_divisor" s_check_divisor a2 fd2) (G_check_divisor : Fd P w K mg base 6 a2 fd2 ["t"] (sp_check_divisor P0 CB)) (D_is_whole_sum : DL.Def K mg "is_whole_sum" s_is_whole_sum a3 fd3) (G_is_whole_sum : Fd P w K mg base 1 a3 fd3 ["k", "x", "l"] sp_is_whole_sum) : Fd P w K mg base 7 a fd ["x", "l", "t"] (sp_meixner_verdict P0 CB) := by
  have b_check_divisor : Binds K fd2 ["t"] [] := D_check_divisor.F.binds fun _ _ _ _ _ _ us hl => match us, hl with | [_], _ => rfl
  have b_is_whole_sum : Binds K fd3 ["k", "x", "l"] [] := D_is_whole_sum.F.binds fun _ _ _ _ _ _ us hl => match us, hl with | [_, _, _], _ => rfl
  refine fd_of D.F sc_meixner_verdict (fun m us Q Z h => ?_) (fun cdv A outer s H E m us Qd Zd hr hG tk h => ?_)
  · obtain ⟨_, _, _, rfl, _⟩ := h
    rfl
  · obtain ⟨x, l, t, rfl, ox, ol, ot, hP, k⟩ := h
    have hu := hr.units
    have two : 2 ≤ sizeLine := le_line (by decide)
    refine ⟨_, (dss_cons (ds_expr (de_callR G_check_parameters (hr.mono (by decide)) hG tk (by rfl) D_check_parameters.g D_check_parameters.F.kp (da_cons (de_var (pv 0)) (da_cons (de_var (pv 1)) da_nil))))
    (dss_cons (ds_expr (de_call G_check_divisor (hr.mono (by decide)) hG tk (by rfl) D_check_divisor.g D_check_divisor.F.kp b_check_divisor (da_cons (de_var (pv 2)) da_nil)))
    (dss_cons (ds_if (L2.PW.pt (dw_or (dt_eq hu (de_var (pv 2)) (de_tup (da_cons de_int (da_cons de_int da_nil)))) (dw_or (dt_eq hu (de_ix (de_var (pv 0)) de_int (fun _ _ => rfl)) de_int) (dw_or1 (dt_val (de_call G_is_whole_sum (hr.mono (by decide)) hG tk (by rfl) D_is_whole_sum.g D_is_whole_sum.F.kp b_is_whole_sum (da_cons de_int (da_cons (de_var (pv 0)) (da_cons (de_var (pv 1)) da_nil))))))))) (dss_one (ds_ret de_str)) dss_nil)
    (dss_one (ds_ret (de_if (L2.PW.pt (dw_and (dt_eq hu (de_var (pv 2)) (de_tup (da_cons (de_neg de_int) (da_cons de_int da_nil)))) (dw_and1 (dt_val (de_call G_is_whole_sum (hr.mono (by decide)) hG tk (by rfl) D_is_whole_sum.g D_is_whole_sum.F.kp b_is_whole_sum (da_cons de_int (da_cons (de_var (pv 0)) (da_cons (de_var (pv 1)) da_nil)))))))) de_str de_str)))))), ?_⟩
    simp (config := { maxSteps := 1000000 }) only [dSeq, dIfS, dTest, dOp, dUn, dVar, dC, dTup, dLst, dNil, dCons, dRet, dRetN, dDrop, dSet, dPar, dAsg, dgTup, dgCons, dgNil, dgName, dCB, dNext, dIf, dAnd, dOr, dNot, dNotV, dAndV, dOrV, dCall, dCallK, dRaise, dAug, dSl, dPart, dNoPart, startU_eq, List.map_cons, List.map_nil, List.cons_append, List.nil_append, List.length_cons, List.length_nil, List.replicate, List.getElem?_cons_zero, List.getElem?_cons_succ, List.getElem?_nil, List.set_cons_zero, List.set_cons_succ, Nat.reduceAdd, Nat.reduceSub, ex_uu, ex_bl, ex_tup, ex_lst, ex_int, ex_cons, ex_two, gEq_int, gNe_int, gEq_p2, gNe_p2, gEq_str, ixp0, ixp1, plus_int, star_int, gI_int, gIC_int, ix0, ix1, ix2, ix3, fGcd_int, fIsq_int, fAbs_int, fInt_int, fLen_tup, fLen_lst, fMax2_int, gNeg_int, gFdv, gMod, DL.gSub, gPow, gLt, gLe, gGt, gGe, eq_self, decide_eq_true_eq, Bool.not_eq_true', decide_eq_false_iff_not, true_and, and_true, if_true, if_false, Bool.false_eq_true, Bool.not_true, Bool.not_false]
    refine ⟨le_line (by decide), oks2 ox ol, hP, pars_imp k fun hp kk0 => ?_⟩
    obtain ⟨x0, x1, rfl, xp⟩ := par_true (hp x (by simp))
    rw [pr_iff] at xp
    obtain ⟨l0, l1, rfl, lp⟩ := par_true (hp l (by simp))
    rw [pr_iff] at lp
    refine ⟨t, rfl, ot, hP, div_imp kk0 fun tp tz kk => ?_⟩
    obtain ⟨t0, t1, rfl, _⟩ := par_true tp
    have tp := par_p2.mp tp
    simp (config := { maxSteps := 1000000 }) only [dSeq, dIfS, dTest, dOp, dUn, dVar, dC, dTup, dLst, dNil, dCons, dRet, dRetN, dDrop, dSet, dPar, dAsg, dgTup, dgCons, dgNil, dgName, dCB, dNext, dIf, dAnd, dOr, dNot, dNotV, dAndV, dOrV, dCall, dCallK, dRaise, dAug, dSl, dPart, dNoPart, startU_eq, List.map_cons, List.map_nil, List.cons_append, List.nil_append, List.length_cons, List.length_nil, List.replicate, List.getElem?_cons_zero, List.getElem?_cons_succ, List.getElem?_nil, List.set_cons_zero, List.set_cons_succ, Nat.reduceAdd, Nat.reduceSub, ex_uu, ex_bl, ex_tup, ex_lst, ex_int, ex_cons, ex_two, gEq_int, gNe_int, gEq_p2, gNe_p2, gEq_str, ixp0, ixp1, plus_int, star_int, gI_int, gIC_int, ix0, ix1, ix2, ix3, fGcd_int, fIsq_int, fAbs_int, fInt_int, fLen_tup, fLen_lst, fMax2_int, gNeg_int, gFdv, gMod, DL.gSub, gPow, gLt, gLe, gGt, gGe, eq_self, decide_eq_true_eq, Bool.not_eq_true', decide_eq_false_iff_not, true_and, and_true, if_true, if_false, Bool.false_eq_true, Bool.not_true, Bool.not_false]
    refine ⟨two, ?_⟩
    have kk := kk x0 x1 l0 l1 t0 t1 rfl rfl rfl
    unfold vMei at kk
    by_cases c1 : t0 = 1 ∧ t1 = 1
    · rw [if_pos (by simp only [Bool.and_eq_true, decide_eq_true_eq]; exact c1)]
      rw [if_pos (.inl c1)] at kk
      exact kk
    · rw [if_neg (by simp only [Bool.and_eq_true, decide_eq_true_eq]; exact c1)]
      by_cases c2 : x1 = 1
      · rw [if_pos c2]
        rw [if_pos (.inr (.inl c2))] at kk
        exact kk
      · rw [if_neg c2]
        refine ⟨1, x0, x1, l0, l1, rfl, by decide, by decide, xp, lp, _, rfl, ?_⟩
        cases c3 : wsum 1 x0 x1 l0 l1 with
        | true =>
          rw [if_pos (.inr (.inr c3))] at kk
          rw [if_pos rfl]
          exact kk
        | false =>
          rw [if_neg (fun z => Bool.noConfusion z)]
          rw [if_neg (by rintro (h | h | h); exact c1 h; exact c2 h; exact Bool.noConfusion (c3.symm.trans h))] at kk
          refine ⟨two, ?_⟩
          by_cases c4 : t0 = -1 ∧ t1 = 1
          · rw [if_pos (by simp only [Bool.and_eq_true, decide_eq_true_eq]; exact c4)]
            refine ⟨2, x0, x1, l0, l1, rfl, by decide, by decide, xp, lp, _, rfl, ?_⟩
            cases c5 : wsum 2 x0 x1 l0 l1 with
            | true =>
              rw [if_pos ⟨c4, c5⟩] at kk
              rw [if_pos rfl]
              exact kk
            | false =>
              rw [if_neg (fun z => by rw [c5] at z; exact Bool.noConfusion z.2)] at kk
              rw [if_neg (fun z => Bool.noConfusion z)]
              exact kk
          · rw [if_neg (by simp only [Bool.and_eq_true, decide_eq_true_eq]; exact c4)]
            rw [if_neg (fun z => c4 z.1)] at kk
            exact kk
end
end T54
set_option Elab.async false
set_option linter.all false
set_option maxRecDepth 100000
set_option maxHeartbeats 8000000
set_option exponentiation.threshold 10000
namespace T54
open PySem PySem.Spec PyProof.Rows L2 XR DL
open PySem.XK (ExF)
theorem rngU_len2 (i : Int) (n : Nat) : (rngU i n).length = n := by
  unfold rngU
  rw [List.length_map, List.length_range]
theorem abs_nat (a : Int) : (if a < 0 then -a else a) = (a.natAbs : Int) := by
  by_cases h : a < 0
  · rw [if_pos h]; omega
  · rw [if_neg h]; omega
/-! ### Euclid's way, counted -/
def EuI (i u v : Nat) : Prop := (i = 0 ∧ u < 2 ^ 900 ∧ v < 2 ^ 900) ∨ (1 ≤ i ∧ v < u ∧ u * v * 2 ^ (i - 1) < 2 ^ 1800)
theorem eu_step {i u v : Nat} (h : EuI i u v) (hv : v ≠ 0) : EuI (i + 1) v (u % v) := by
  have lt : u % v < v := Nat.mod_lt _ (by omega)
  refine .inr ⟨by omega, lt, ?_⟩
  rw [Nat.add_sub_cancel]
  rcases h with ⟨rfl, h1, h2⟩ | ⟨h1, h2, h3⟩
  · rw [Nat.pow_zero, Nat.mul_one]
    have : v * (u % v) < 2 ^ 900 * 2 ^ 900 := Nat.mul_lt_mul_of_lt_of_lt h2 (by omega)
    rw [← Nat.pow_add] at this
    exact this
  · have e1 : 2 * (u % v) ≤ u := by
      have h4 := Nat.div_add_mod u v
      have h5 : 1 ≤ u / v := Nat.div_pos (by omega) (by omega)
      have h6 : v * 1 ≤ v * (u / v) := Nat.mul_le_mul_left _ h5
      omega
    obtain ⟨j, rfl⟩ : ∃ j, i = j + 1 := ⟨i - 1, by omega⟩
    rw [Nat.add_sub_cancel] at h3
    have e2 : v * (u % v) * 2 ^ (j + 1) = v * (2 * (u % v)) * 2 ^ j := by
      rw [Nat.pow_succ, Nat.mul_comm (2 ^ j) 2, ← Nat.mul_assoc, Nat.mul_assoc v, Nat.mul_comm (u % v) 2]
    rw [e2]
    refine Nat.lt_of_le_of_lt (Nat.mul_le_mul_right _ ?_) h3
    rw [Nat.mul_comm u v]
    exact Nat.mul_le_mul_left _ e1
theorem eu_end {u v : Nat} (h : EuI 2000 u v) : v = 0 := by
  rcases h with ⟨z, _⟩ | ⟨h1, h2, h3⟩
  · cases z
  · rcases Nat.eq_zero_or_pos v with z | z
    · exact z
    · exfalso
      have e : 1 * 1 ≤ u * v := Nat.mul_le_mul (by omega) z
      have e2 : 1 * 2 ^ 1999 ≤ u * v * 2 ^ 1999 := Nat.mul_le_mul_right _ (by omega)
      have e3 : (2 : Nat) ^ 1800 ≤ 2 ^ 1999 := Nat.pow_le_pow_right (by decide) (by decide)
      have e4 : u * v * 2 ^ 1999 < 2 ^ 1800 := h3
      omega
/-- lowest terms of a pair, the bottom above 0 -/
def pg (a b : Int) : Int := if b < 0 then -((Int.gcd a b : Nat) : Int) else ((Int.gcd a b : Nat) : Int)
theorem pg_ne {a b : Int} (h : b ≠ 0) : pg a b ≠ 0 := by
  have := Int.gcd_pos_of_ne_zero_right a h
  unfold pg
  split <;> omega
structure Low (a b p q : Int) : Prop where
  g : ∃ k : Int, k ≠ 0 ∧ a = k * p ∧ b = k * q
  q1 : 1 ≤ q
  co : Nat.gcd p.natAbs q.natAbs = 1
  pa : p.natAbs ≤ a.natAbs
  qb : q.natAbs ≤ b.natAbs
theorem low_pair {a b : Int} (h : b ≠ 0) (h0 : 0 < b) : Low a b (a.fdiv (Int.gcd a b : Nat)) (b.fdiv (Int.gcd a b : Nat)) := by
  have gp := Int.gcd_pos_of_ne_zero_right a h
  have d1 : ((Int.gcd a b : Nat) : Int) ∣ a := Int.gcd_dvd_left ..
  have d2 : ((Int.gcd a b : Nat) : Int) ∣ b := Int.gcd_dvd_right ..
  obtain ⟨p, hp⟩ := d1
  obtain ⟨q, hq⟩ := d2
  have co : Int.gcd p q * Int.gcd a b = Int.gcd a b := by
    have e : Int.gcd (((Int.gcd a b : Nat) : Int) * p) (((Int.gcd a b : Nat) : Int) * q) = Int.gcd a b * Int.gcd p q := by
      rw [Int.gcd_mul_left, Int.natAbs_natCast]
    rw [← hp, ← hq] at e
    rw [Nat.mul_comm]
    exact e.symm
  generalize Int.gcd a b = g at *
  have gn : (g : Int) ≠ 0 := by omega
  have e1 : a.fdiv g = p := by
    rw [hp, Int.mul_fdiv_cancel_left _ gn]
  have e2 : b.fdiv g = q := by
    rw [hq, Int.mul_fdiv_cancel_left _ gn]
  rw [e1, e2]
  have na : a.natAbs = g * p.natAbs := by rw [hp, Int.natAbs_mul, Int.natAbs_natCast]
  have nb : b.natAbs = g * q.natAbs := by rw [hq, Int.natAbs_mul, Int.natAbs_natCast]
  have q0 : 0 < q := by
    rcases Int.lt_trichotomy q 0 with z | z | z
    · have : (g : Int) * q < (g : Int) * 0 := Int.mul_lt_mul_of_pos_left z (by omega)
      omega
    · rw [z, Int.mul_zero] at hq
      omega
    · exact z
  refine ⟨⟨g, gn, hp, hq⟩, by omega, ?_, ?_, ?_⟩
  · have : Int.gcd p q = 1 := Nat.eq_of_mul_eq_mul_right gp (by rw [co, Nat.one_mul])
    exact this
  · rw [na]
    exact Nat.le_mul_of_pos_left _ gp
  · rw [nb]
    exact Nat.le_mul_of_pos_left _ gp
theorem Low.flip {a b p q : Int} (h : Low (-a) (-b) p q) : Low a b p q := by
  obtain ⟨⟨k, k0, e1, e2⟩, h1, h2, h3, h4⟩ := h
  refine ⟨⟨-k, by omega, ?_, ?_⟩, h1, h2, by rw [Int.natAbs_neg] at h3; exact h3, by rw [Int.natAbs_neg] at h4; exact h4⟩
  · rw [Int.neg_mul, ← e1, Int.neg_neg]
  · rw [Int.neg_mul, ← e2, Int.neg_neg]
theorem Low.nz {a b p q : Int} (h : Low a b p q) (ha : a ≠ 0) : p ≠ 0 := fun z => by
  obtain ⟨⟨k, k0, e1, e2⟩, _⟩ := h
  rw [z, Int.mul_zero] at e1
  exact ha e1
theorem Low.pr {a b p q : Int} (h : Low a b p q) (ha : a.natAbs ≤ 40) (hb : b.natAbs ≤ 12) : Pr p q := ⟨h.q1, by have := h.qb; omega, by have := h.pa; omega, h.co⟩
section
variable {P : Program} {w : World} {K : PySem.W.Frag} {mg : Str → Option Value} {base : Heap}
theorem sc__law_common : FnScope ["one", "other", "turn"] ["one", "other"] (defScope s__law_common) := ⟨rfl, rfl, rfl, by decide +kernel, rfl, by decide +kernel, by decide +kernel⟩
def sp__law_common : SpD := fun m us Q _ => ∃ a b : Int, us = [.int a, .int b] ∧ Bd 900 a ∧ Bd 900 b ∧ Q (.int (Int.gcd a b : Nat))
theorem ok__law_common {a : Addr} {fd : FuncData} (D : DL.Def K mg "_law_common" s__law_common a fd) (gabs : mg "abs" = none) (gint : mg "int" = none) (grange : mg "range" = none) : Fd P w K mg base 1 a fd ["one", "other"] sp__law_common := by
  refine fd_of D.F sc__law_common (fun m us Q Z h => ?_) (fun cdv A outer s H E m us Qd Zd hr hG tk h => ?_)
  · obtain ⟨x, y, rfl, _⟩ := h
    rfl
  · obtain ⟨x, y, rfl, bx, by_, k⟩ := h
    have hu := hr.units
    refine ⟨_, (dss_cons (ds_of_par (ps_par (i := 0) (j := 1) (by rfl) sc__law_common.nd rfl rfl (by decide) rfl rfl (da_cons (de_callB cal_abs (pe_callB call_abs (by rfl) gabs PyProof.Rows.boot_abs (da_cons (de_var (pv 0)) da_nil))) (da_cons (de_callB cal_abs (pe_callB call_abs (by rfl) gabs PyProof.Rows.boot_abs (da_cons (de_var (pv 1)) da_nil))) da_nil)) (by rfl)))
    (dss_cons (ds_for (ps_for (passes_of rfl) rfl (di_range1 (a := .Name "" ⟨0, 0, 0, 0⟩) (pi_range1 (by rfl) grange (da_cons de_int da_nil))) (dg_name (pg_name (i := 2) sc__law_common.nd rfl (.inl rfl))) (dss_cons (ds_if (dt_eq hu (de_var (pv 1)) de_int) (dss_one (ds_ret (de_var (pv 0)))) dss_nil)
    (dss_one (ds_of_par (ps_par (i := 0) (j := 1) (by rfl) sc__law_common.nd rfl rfl (by decide) rfl rfl (da_cons (de_var (pv 1)) (da_cons (de_mod (de_callB cal_int (pe_callTy call_int1 (by rfl) gint (by decide +kernel) (da_cons (de_var (pv 0)) da_nil))) (de_var (pv 1))) da_nil)) (by rfl)))))))
    (dss_one (ds_ret (de_var (pv 0)))))), ?_⟩
    simp (config := { maxSteps := 1000000 }) only [dSeq, dIfS, dTest, dOp, dUn, dVar, dC, dTup, dLst, dNil, dCons, dRet, dRetN, dDrop, dSet, dPar, dAsg, dgTup, dgCons, dgNil, dgName, dCB, dNext, dIf, dAnd, dOr, dNot, dNotV, dAndV, dOrV, dCall, dCallK, dRaise, dAug, dSl, dPart, dNoPart, startU_eq, List.map_cons, List.map_nil, List.cons_append, List.nil_append, List.length_cons, List.length_nil, List.replicate, List.getElem?_cons_zero, List.getElem?_cons_succ, List.getElem?_nil, List.set_cons_zero, List.set_cons_succ, Nat.reduceAdd, Nat.reduceSub, ex_uu, ex_bl, ex_tup, ex_lst, ex_int, ex_cons, ex_two, gEq_int, gNe_int, gEq_p2, gNe_p2, gEq_str, ixp0, ixp1, plus_int, star_int, gI_int, gIC_int, ix0, ix1, ix2, ix3, fGcd_int, fIsq_int, fAbs_int, fInt_int, fLen_tup, fLen_lst, fMax2_int, gNeg_int, gFdv, gMod, DL.gSub, gPow, gLt, gLe, gGt, gGe, eq_self, decide_eq_true_eq, Bool.not_eq_true', decide_eq_false_iff_not, true_and, and_true, if_true, if_false, Bool.false_eq_true, Bool.not_true, Bool.not_false]
    rw [abs_nat, abs_nat]
    simp only [dFor, dItR1]
    simp (config := { maxSteps := 1000000 }) only [dSeq, dIfS, dTest, dOp, dUn, dVar, dC, dTup, dLst, dNil, dCons, dRet, dRetN, dDrop, dSet, dPar, dAsg, dgTup, dgCons, dgNil, dgName, dCB, dNext, dIf, dAnd, dOr, dNot, dNotV, dAndV, dOrV, dCall, dCallK, dRaise, dAug, dSl, dPart, dNoPart, startU_eq, List.map_cons, List.map_nil, List.cons_append, List.nil_append, List.length_cons, List.length_nil, List.replicate, List.getElem?_cons_zero, List.getElem?_cons_succ, List.getElem?_nil, List.set_cons_zero, List.set_cons_succ, Nat.reduceAdd, Nat.reduceSub, ex_uu, ex_bl, ex_tup, ex_lst, ex_int, ex_cons, ex_two, gEq_int, gNe_int, gEq_p2, gNe_p2, gEq_str, ixp0, ixp1, plus_int, star_int, gI_int, gIC_int, ix0, ix1, ix2, ix3, fGcd_int, fIsq_int, fAbs_int, fInt_int, fLen_tup, fLen_lst, fMax2_int, gNeg_int, gFdv, gMod, DL.gSub, gPow, gLt, gLe, gGt, gGe, eq_self, decide_eq_true_eq, Bool.not_eq_true', decide_eq_false_iff_not, true_and, and_true, if_true, if_false, Bool.false_eq_true, Bool.not_true, Bool.not_false]
    refine ⟨_, rfl, by decide, by decide, ?_⟩
    rw [rngU_len2]
    refine ⟨fun i ρ => ∃ (u v : Nat) (th : Option U), ρ = [some (.int (u : Int)), some (.int (v : Int)), th] ∧ Nat.gcd u v = Int.gcd x y ∧ EuI i u v, ⟨_, _, _, rfl, rfl, .inl ⟨rfl, bx, by_⟩⟩, ?_, ?_⟩
    · rintro i t ρ hi ⟨u, v, th, rfl, hg, he⟩
      simp (config := { maxSteps := 1000000 }) only [dSeq, dIfS, dTest, dOp, dUn, dVar, dC, dTup, dLst, dNil, dCons, dRet, dRetN, dDrop, dSet, dPar, dAsg, dgTup, dgCons, dgNil, dgName, dCB, dNext, dIf, dAnd, dOr, dNot, dNotV, dAndV, dOrV, dCall, dCallK, dRaise, dAug, dSl, dPart, dNoPart, startU_eq, List.map_cons, List.map_nil, List.cons_append, List.nil_append, List.length_cons, List.length_nil, List.replicate, List.getElem?_cons_zero, List.getElem?_cons_succ, List.getElem?_nil, List.set_cons_zero, List.set_cons_succ, Nat.reduceAdd, Nat.reduceSub, ex_uu, ex_bl, ex_tup, ex_lst, ex_int, ex_cons, ex_two, gEq_int, gNe_int, gEq_p2, gNe_p2, gEq_str, ixp0, ixp1, plus_int, star_int, gI_int, gIC_int, ix0, ix1, ix2, ix3, fGcd_int, fIsq_int, fAbs_int, fInt_int, fLen_tup, fLen_lst, fMax2_int, gNeg_int, gFdv, gMod, DL.gSub, gPow, gLt, gLe, gGt, gGe, eq_self, decide_eq_true_eq, Bool.not_eq_true', decide_eq_false_iff_not, true_and, and_true, if_true, if_false, Bool.false_eq_true, Bool.not_true, Bool.not_false]
      by_cases c : (v : Int) = 0
      · rw [if_pos c]
        have e : v = 0 := by omega
        subst e
        rw [Nat.gcd_zero_right] at hg
        rw [hg]
        exact k
      · rw [if_neg c]
        have v0 : v ≠ 0 := by omega
        refine ⟨by omega, v, u % v, _, by rw [Int.natCast_emod], ?_, eu_step he v0⟩
        rw [← hg, Nat.gcd_comm u v, Nat.gcd_rec v u, Nat.gcd_comm]
    · rintro ρ ⟨u, v, th, rfl, hg, he⟩
      have e : v = 0 := eu_end he
      subst e
      rw [Nat.gcd_zero_right] at hg
      simp (config := { maxSteps := 1000000 }) only [dSeq, dIfS, dTest, dOp, dUn, dVar, dC, dTup, dLst, dNil, dCons, dRet, dRetN, dDrop, dSet, dPar, dAsg, dgTup, dgCons, dgNil, dgName, dCB, dNext, dIf, dAnd, dOr, dNot, dNotV, dAndV, dOrV, dCall, dCallK, dRaise, dAug, dSl, dPart, dNoPart, startU_eq, List.map_cons, List.map_nil, List.cons_append, List.nil_append, List.length_cons, List.length_nil, List.replicate, List.getElem?_cons_zero, List.getElem?_cons_succ, List.getElem?_nil, List.set_cons_zero, List.set_cons_succ, Nat.reduceAdd, Nat.reduceSub, ex_uu, ex_bl, ex_tup, ex_lst, ex_int, ex_cons, ex_two, gEq_int, gNe_int, gEq_p2, gNe_p2, gEq_str, ixp0, ixp1, plus_int, star_int, gI_int, gIC_int, ix0, ix1, ix2, ix3, fGcd_int, fIsq_int, fAbs_int, fInt_int, fLen_tup, fLen_lst, fMax2_int, gNeg_int, gFdv, gMod, DL.gSub, gPow, gLt, gLe, gGt, gGe, eq_self, decide_eq_true_eq, Bool.not_eq_true', decide_eq_false_iff_not, true_and, and_true, if_true, if_false, Bool.false_eq_true, Bool.not_true, Bool.not_false]
      rw [hg]
      exact k
theorem sc__law_pair : FnScope ["top", "bottom", "part"] ["top", "bottom"] (defScope s__law_pair) := ⟨rfl, rfl, rfl, by decide +kernel, rfl, by decide +kernel, by decide +kernel⟩
def sp__law_pair : SpD := fun m us Q _ => ∃ a b : Int, us = [.int a, .int b] ∧ b ≠ 0 ∧ Bd 900 a ∧ Bd 900 b ∧ ∀ p q, Low a b p q → Q (p2 p q)
theorem cfdv_gcd {i a b : Int} (b0 : b ≠ 0) (hb : Bd 900 b) : CFdv i (Int.gcd a b : Nat) := by
  have h1 : 0 < Int.gcd a b := Int.gcd_pos_of_ne_zero_right _ b0
  have h2 : Int.gcd a b ≤ b.natAbs := Nat.gcd_le_right _ (by omega)
  refine ⟨by omega, ?_⟩
  rw [Int.natAbs_natCast]
  exact Nat.lt_of_lt_of_le (PySem.Flt.log2_lt_of (by decide : 0 < 900) (Nat.lt_of_le_of_lt h2 hb)) (by decide)
theorem ok__law_pair {a a1 : Addr} {fd fd1 : FuncData} (D : DL.Def K mg "_law_pair" s__law_pair a fd) (D__law_common : DL.Def K mg "_law_common" s__law_common a1 fd1) (G__law_common : Fd P w K mg base 1 a1 fd1 ["one", "other"] sp__law_common) : Fd P w K mg base 2 a fd ["top", "bottom"] sp__law_pair := by
  have b__law_common : Binds K fd1 ["one", "other"] [] := D__law_common.F.binds fun _ _ _ _ _ _ us hl => match us, hl with | [_, _], _ => rfl
  refine fd_of D.F sc__law_pair (fun m us Q Z h => ?_) (fun cdv A outer s H E m us Qd Zd hr hG tk h => ?_)
  · obtain ⟨x, y, rfl, _⟩ := h
    rfl
  · obtain ⟨x, y, rfl, y0, bx, by_, k⟩ := h
    have hu := hr.units
    have two : 2 ≤ sizeLine := le_line (by decide)
    refine ⟨_, (dss_cons (ds_if (dt_lt (de_var (pv 1)) de_int) (dss_one (ds_of_par (ps_par (i := 0) (j := 1) (by rfl) sc__law_pair.nd rfl rfl (by decide) rfl rfl (da_cons (de_neg (de_var (pv 0))) (da_cons (de_neg (de_var (pv 1))) da_nil)) (by rfl)))) dss_nil)
    (dss_cons (ds_set (i := 2) sc__law_pair.nd rfl (.inl rfl) (de_call G__law_common (hr.mono (by decide)) hG tk (by rfl) D__law_common.g D__law_common.F.kp b__law_common (da_cons (de_var (pv 0)) (da_cons (de_var (pv 1)) da_nil))))
    (dss_one (ds_ret (de_tup (da_cons (de_fdv (de_var (pv 0)) (de_var (pv 2))) (da_cons (de_fdv (de_var (pv 1)) (de_var (pv 2))) da_nil))))))), ?_⟩
    simp (config := { maxSteps := 1000000 }) only [dSeq, dIfS, dTest, dOp, dUn, dVar, dC, dTup, dLst, dNil, dCons, dRet, dRetN, dDrop, dSet, dPar, dAsg, dgTup, dgCons, dgNil, dgName, dCB, dNext, dIf, dAnd, dOr, dNot, dNotV, dAndV, dOrV, dCall, dCallK, dRaise, dAug, dSl, dPart, dNoPart, startU_eq, List.map_cons, List.map_nil, List.cons_append, List.nil_append, List.length_cons, List.length_nil, List.replicate, List.getElem?_cons_zero, List.getElem?_cons_succ, List.getElem?_nil, List.set_cons_zero, List.set_cons_succ, Nat.reduceAdd, Nat.reduceSub, ex_uu, ex_bl, ex_tup, ex_lst, ex_int, ex_cons, ex_two, gEq_int, gNe_int, gEq_p2, gNe_p2, gEq_str, ixp0, ixp1, plus_int, star_int, gI_int, gIC_int, ix0, ix1, ix2, ix3, fGcd_int, fIsq_int, fAbs_int, fInt_int, fLen_tup, fLen_lst, fMax2_int, gNeg_int, gFdv, gMod, DL.gSub, gPow, gLt, gLe, gGt, gGe, eq_self, decide_eq_true_eq, Bool.not_eq_true', decide_eq_false_iff_not, true_and, and_true, if_true, if_false, Bool.false_eq_true, Bool.not_true, Bool.not_false]
    by_cases c : y < 0
    · rw [if_pos c]
      refine ⟨-x, -y, rfl, bd_neg bx, bd_neg by_, ?_⟩
      simp (config := { maxSteps := 1000000 }) only [dSeq, dIfS, dTest, dOp, dUn, dVar, dC, dTup, dLst, dNil, dCons, dRet, dRetN, dDrop, dSet, dPar, dAsg, dgTup, dgCons, dgNil, dgName, dCB, dNext, dIf, dAnd, dOr, dNot, dNotV, dAndV, dOrV, dCall, dCallK, dRaise, dAug, dSl, dPart, dNoPart, startU_eq, List.map_cons, List.map_nil, List.cons_append, List.nil_append, List.length_cons, List.length_nil, List.replicate, List.getElem?_cons_zero, List.getElem?_cons_succ, List.getElem?_nil, List.set_cons_zero, List.set_cons_succ, Nat.reduceAdd, Nat.reduceSub, ex_uu, ex_bl, ex_tup, ex_lst, ex_int, ex_cons, ex_two, gEq_int, gNe_int, gEq_p2, gNe_p2, gEq_str, ixp0, ixp1, plus_int, star_int, gI_int, gIC_int, ix0, ix1, ix2, ix3, fGcd_int, fIsq_int, fAbs_int, fInt_int, fLen_tup, fLen_lst, fMax2_int, gNeg_int, gFdv, gMod, DL.gSub, gPow, gLt, gLe, gGt, gGe, eq_self, decide_eq_true_eq, Bool.not_eq_true', decide_eq_false_iff_not, true_and, and_true, if_true, if_false, Bool.false_eq_true, Bool.not_true, Bool.not_false]
      refine ⟨cfdv_gcd (by omega) (bd_neg by_), cfdv_gcd (by omega) (bd_neg by_), two, ?_⟩
      exact k _ _ (Low.flip (low_pair (by omega) (by omega)))
    · rw [if_neg c]
      refine ⟨x, y, rfl, bx, by_, ?_⟩
      simp (config := { maxSteps := 1000000 }) only [dSeq, dIfS, dTest, dOp, dUn, dVar, dC, dTup, dLst, dNil, dCons, dRet, dRetN, dDrop, dSet, dPar, dAsg, dgTup, dgCons, dgNil, dgName, dCB, dNext, dIf, dAnd, dOr, dNot, dNotV, dAndV, dOrV, dCall, dCallK, dRaise, dAug, dSl, dPart, dNoPart, startU_eq, List.map_cons, List.map_nil, List.cons_append, List.nil_append, List.length_cons, List.length_nil, List.replicate, List.getElem?_cons_zero, List.getElem?_cons_succ, List.getElem?_nil, List.set_cons_zero, List.set_cons_succ, Nat.reduceAdd, Nat.reduceSub, ex_uu, ex_bl, ex_tup, ex_lst, ex_int, ex_cons, ex_two, gEq_int, gNe_int, gEq_p2, gNe_p2, gEq_str, ixp0, ixp1, plus_int, star_int, gI_int, gIC_int, ix0, ix1, ix2, ix3, fGcd_int, fIsq_int, fAbs_int, fInt_int, fLen_tup, fLen_lst, fMax2_int, gNeg_int, gFdv, gMod, DL.gSub, gPow, gLt, gLe, gGt, gGe, eq_self, decide_eq_true_eq, Bool.not_eq_true', decide_eq_false_iff_not, true_and, and_true, if_true, if_false, Bool.false_eq_true, Bool.not_true, Bool.not_false]
      refine ⟨cfdv_gcd y0 by_, cfdv_gcd y0 by_, two, ?_⟩
      exact k _ _ (low_pair y0 (by omega))
theorem sc__law_is_whole : FnScope ["some", "top", "bottom", "x", "y"] ["some"] (defScope s__law_is_whole) := ⟨rfl, rfl, rfl, by decide +kernel, rfl, by decide +kernel, by decide +kernel⟩
def wsF : List U → Int → Int → Int × Int
  | .tup [.int a, .int b] :: us, T, B => wsF us (T * b + a * B) (B * b)
  | _, T, B => (T, B)
def sp__law_is_whole : SpD := fun m us Q _ => ∃ ts, us = [.lst ts] ∧ (∀ u ∈ ts, isPar u = true) ∧ ts.length ≤ 3 ∧ Q (.bl (decide ((wsF ts 0 1).1 % (wsF ts 0 1).2 = 0)))
theorem ws_bd {T B a b : Int} {i : Nat} (hT : T.natAbs ≤ 1000 ^ i) (hB : 1 ≤ B) (hB2 : B ≤ 12 ^ i) (h : Pr a b) (hi : i < 3) : (T * b + a * B).natAbs ≤ 1000 ^ (i + 1) ∧ 1 ≤ B * b ∧ B * b ≤ 12 ^ (i + 1) ∧ Bd 40 T ∧ Bd 40 B := by
  have h1 := h.b1
  have h2 := h.b12
  have h3 := h.a40
  have p1 : (T * b).natAbs ≤ 1000 ^ i * 12 := by
    rw [Int.natAbs_mul]
    exact Nat.mul_le_mul hT (by omega)
  have p2 : (a * B).natAbs ≤ 40 * B.natAbs := by
    rw [Int.natAbs_mul]
    exact Nat.mul_le_mul h3 (Nat.le_refl _)
  have p3 := Int.natAbs_add_le (T * b) (a * B)
  have p4 : 1 * 1 ≤ B * b := Int.mul_le_mul hB h1 (by decide) (by omega)
  have p5 : B * b ≤ 12 ^ i * 12 := Int.mul_le_mul hB2 h2 (by omega) (by exact Int.pow_nonneg (by decide))
  have q : i = 0 ∨ i = 1 ∨ i = 2 := by omega
  unfold Bd
  rcases q with rfl | rfl | rfl
  · have e1 : (12 : Int) ^ 0 = 1 := rfl
    have e2 : (12 : Int) ^ (0 + 1) = 12 := rfl
    have e3 : 1000 ^ 0 = 1 := rfl
    have e4 : 1000 ^ (0 + 1) = 1000 := rfl
    rw [e1] at hB2 p5
    rw [e3] at hT p1
    rw [e2, e4]
    exact ⟨by omega, by omega, by omega, Nat.lt_of_le_of_lt (show T.natAbs ≤ 100 by omega) (by decide), Nat.lt_of_le_of_lt (show B.natAbs ≤ 100 by omega) (by decide)⟩
  · have e1 : (12 : Int) ^ 1 = 12 := rfl
    have e2 : (12 : Int) ^ (1 + 1) = 144 := rfl
    have e3 : 1000 ^ 1 = 1000 := rfl
    have e4 : 1000 ^ (1 + 1) = 1000000 := rfl
    rw [e1] at hB2 p5
    rw [e3] at hT p1
    rw [e2, e4]
    exact ⟨by omega, by omega, by omega, Nat.lt_of_le_of_lt (show T.natAbs ≤ 1000 by omega) (by decide), Nat.lt_of_le_of_lt (show B.natAbs ≤ 100 by omega) (by decide)⟩
  · have e1 : (12 : Int) ^ 2 = 144 := rfl
    have e2 : (12 : Int) ^ (2 + 1) = 1728 := rfl
    have e3 : 1000 ^ 2 = 1000000 := rfl
    have e4 : 1000 ^ (2 + 1) = 1000000000 := rfl
    rw [e1] at hB2 p5
    rw [e3] at hT p1
    rw [e2, e4]
    exact ⟨by omega, by omega, by omega, Nat.lt_of_le_of_lt (show T.natAbs ≤ 1000000 by omega) (by decide), Nat.lt_of_le_of_lt (show B.natAbs ≤ 1000 by omega) (by decide)⟩
theorem ok__law_is_whole {a : Addr} {fd : FuncData} (D : DL.Def K mg "_law_is_whole" s__law_is_whole a fd) (gint : mg "int" = none) : Fd P w K mg base 1 a fd ["some"] sp__law_is_whole := by
  refine fd_of D.F sc__law_is_whole (fun m us Q Z h => ?_) (fun cdv A outer s H E m us Qd Zd hr hG tk h => ?_)
  · obtain ⟨x, rfl, _⟩ := h
    rfl
  · obtain ⟨ts, rfl, hp, hl, k⟩ := h
    have hu := hr.units
    refine ⟨_, (dss_cons (ds_asg (de_tup (da_cons de_int (da_cons de_int da_nil))) (dg_tup (n := 2) rfl (dgs_cons (dg_name (pg_name (i := 1) sc__law_is_whole.nd rfl (.inl rfl))) (dgs_cons (dg_name (pg_name (i := 2) sc__law_is_whole.nd rfl (.inl rfl))) dgs_nil))))
    (dss_cons (ds_for (ps_for (passes_of rfl) rfl (di_lst (de_var (pv 0))) (dg_tup (n := 2) rfl (dgs_cons (dg_name (pg_name (i := 3) sc__law_is_whole.nd rfl (.inl rfl))) (dgs_cons (dg_name (pg_name (i := 4) sc__law_is_whole.nd rfl (.inl rfl))) dgs_nil))) (dss_one (ds_of_par (ps_par (i := 1) (j := 2) (by rfl) sc__law_is_whole.nd rfl rfl (by decide) rfl rfl (da_cons (de_plus (de_star (de_var (pv 1)) (de_var (pv 4))) (de_star (de_var (pv 3)) (de_var (pv 2)))) (da_cons (de_star (de_var (pv 2)) (de_var (pv 4))) da_nil)) (by rfl))))))
    (dss_one (ds_ret (de_eq hu (de_mod (de_callB cal_int (pe_callTy call_int1 (by rfl) gint (by decide +kernel) (da_cons (de_var (pv 1)) da_nil))) (de_var (pv 2))) de_int))))), ?_⟩
    simp (config := { maxSteps := 1000000 }) only [dSeq, dIfS, dTest, dOp, dUn, dVar, dC, dTup, dLst, dNil, dCons, dRet, dRetN, dDrop, dSet, dPar, dAsg, dgTup, dgCons, dgNil, dgName, dCB, dNext, dIf, dAnd, dOr, dNot, dNotV, dAndV, dOrV, dCall, dCallK, dRaise, dAug, dSl, dPart, dNoPart, startU_eq, List.map_cons, List.map_nil, List.cons_append, List.nil_append, List.length_cons, List.length_nil, List.replicate, List.getElem?_cons_zero, List.getElem?_cons_succ, List.getElem?_nil, List.set_cons_zero, List.set_cons_succ, Nat.reduceAdd, Nat.reduceSub, ex_uu, ex_bl, ex_tup, ex_lst, ex_int, ex_cons, ex_two, gEq_int, gNe_int, gEq_p2, gNe_p2, gEq_str, ixp0, ixp1, plus_int, star_int, gI_int, gIC_int, ix0, ix1, ix2, ix3, fGcd_int, fIsq_int, fAbs_int, fInt_int, fLen_tup, fLen_lst, fMax2_int, gNeg_int, gFdv, gMod, DL.gSub, gPow, gLt, gLe, gGt, gGe, eq_self, decide_eq_true_eq, Bool.not_eq_true', decide_eq_false_iff_not, true_and, and_true, if_true, if_false, Bool.false_eq_true, Bool.not_true, Bool.not_false]
    simp only [dFor, dItL]
    simp (config := { maxSteps := 1000000 }) only [dSeq, dIfS, dTest, dOp, dUn, dVar, dC, dTup, dLst, dNil, dCons, dRet, dRetN, dDrop, dSet, dPar, dAsg, dgTup, dgCons, dgNil, dgName, dCB, dNext, dIf, dAnd, dOr, dNot, dNotV, dAndV, dOrV, dCall, dCallK, dRaise, dAug, dSl, dPart, dNoPart, startU_eq, List.map_cons, List.map_nil, List.cons_append, List.nil_append, List.length_cons, List.length_nil, List.replicate, List.getElem?_cons_zero, List.getElem?_cons_succ, List.getElem?_nil, List.set_cons_zero, List.set_cons_succ, Nat.reduceAdd, Nat.reduceSub, ex_uu, ex_bl, ex_tup, ex_lst, ex_int, ex_cons, ex_two, gEq_int, gNe_int, gEq_p2, gNe_p2, gEq_str, ixp0, ixp1, plus_int, star_int, gI_int, gIC_int, ix0, ix1, ix2, ix3, fGcd_int, fIsq_int, fAbs_int, fInt_int, fLen_tup, fLen_lst, fMax2_int, gNeg_int, gFdv, gMod, DL.gSub, gPow, gLt, gLe, gGt, gGe, eq_self, decide_eq_true_eq, Bool.not_eq_true', decide_eq_false_iff_not, true_and, and_true, if_true, if_false, Bool.false_eq_true, Bool.not_true, Bool.not_false]
    refine ⟨le_line (by decide), fun i ρ => ∃ (T B : Int) (t1 t2 : Option U), ρ = [some (.lst ts), some (.int T), some (.int B), t1, t2] ∧ wsF (ts.drop i) T B = wsF ts 0 1 ∧ T.natAbs ≤ 1000 ^ i ∧ 1 ≤ B ∧ B ≤ 12 ^ i, ⟨0, 1, _, _, rfl, rfl, by decide, by decide, by decide⟩, ?_, ?_⟩
    · rintro i u ρ hi ⟨T, B, t1, t2, rfl, he, hT, hB, hB2⟩
      have hil := (List.getElem?_eq_some_iff.mp hi).1
      have hd : ts.drop i = u :: ts.drop (i + 1) := by
        obtain ⟨hl, e⟩ := List.getElem?_eq_some_iff.mp hi
        rw [← e]
        exact List.drop_eq_getElem_cons hl
      obtain ⟨a, b, rfl, hab⟩ := par_true (hp u (List.mem_of_getElem? hi))
      rw [pr_iff] at hab
      rw [hd] at he
      have z := ws_bd hT hB hB2 hab (by omega)
      have h1 := hab.b1
      have h2 := hab.b12
      have h3 := hab.a40
      have Bb : Bd 10 b := Nat.lt_of_le_of_lt (show b.natAbs ≤ 100 by omega) (by decide)
      have Ba : Bd 10 a := Nat.lt_of_le_of_lt (show a.natAbs ≤ 100 by omega) (by decide)
      simp (config := { maxSteps := 1000000 }) only [dSeq, dIfS, dTest, dOp, dUn, dVar, dC, dTup, dLst, dNil, dCons, dRet, dRetN, dDrop, dSet, dPar, dAsg, dgTup, dgCons, dgNil, dgName, dCB, dNext, dIf, dAnd, dOr, dNot, dNotV, dAndV, dOrV, dCall, dCallK, dRaise, dAug, dSl, dPart, dNoPart, startU_eq, List.map_cons, List.map_nil, List.cons_append, List.nil_append, List.length_cons, List.length_nil, List.replicate, List.getElem?_cons_zero, List.getElem?_cons_succ, List.getElem?_nil, List.set_cons_zero, List.set_cons_succ, Nat.reduceAdd, Nat.reduceSub, ex_uu, ex_bl, ex_tup, ex_lst, ex_int, ex_cons, ex_two, gEq_int, gNe_int, gEq_p2, gNe_p2, gEq_str, ixp0, ixp1, plus_int, star_int, gI_int, gIC_int, ix0, ix1, ix2, ix3, fGcd_int, fIsq_int, fAbs_int, fInt_int, fLen_tup, fLen_lst, fMax2_int, gNeg_int, gFdv, gMod, DL.gSub, gPow, gLt, gLe, gGt, gGe, eq_self, decide_eq_true_eq, Bool.not_eq_true', decide_eq_false_iff_not, true_and, and_true, if_true, if_false, Bool.false_eq_true, Bool.not_true, Bool.not_false]
      exact ⟨mul_ok 40 10 z.2.2.2.1 Bb (by decide) (by decide) (by decide), mul_ok 10 40 Ba z.2.2.2.2 (by decide) (by decide) (by decide), mul_ok 40 10 z.2.2.2.2 Bb (by decide) (by decide) (by decide),
        _, _, _, _, rfl, he, z.1, z.2.1, z.2.2.1⟩
    · rintro ρ ⟨T, B, t1, t2, rfl, he, hT, hB, hB2⟩
      rw [List.drop_length] at he
      have e : (T, B) = wsF ts 0 1 := he
      rw [← e] at k
      simp (config := { maxSteps := 1000000 }) only [dSeq, dIfS, dTest, dOp, dUn, dVar, dC, dTup, dLst, dNil, dCons, dRet, dRetN, dDrop, dSet, dPar, dAsg, dgTup, dgCons, dgNil, dgName, dCB, dNext, dIf, dAnd, dOr, dNot, dNotV, dAndV, dOrV, dCall, dCallK, dRaise, dAug, dSl, dPart, dNoPart, startU_eq, List.map_cons, List.map_nil, List.cons_append, List.nil_append, List.length_cons, List.length_nil, List.replicate, List.getElem?_cons_zero, List.getElem?_cons_succ, List.getElem?_nil, List.set_cons_zero, List.set_cons_succ, Nat.reduceAdd, Nat.reduceSub, ex_uu, ex_bl, ex_tup, ex_lst, ex_int, ex_cons, ex_two, gEq_int, gNe_int, gEq_p2, gNe_p2, gEq_str, ixp0, ixp1, plus_int, star_int, gI_int, gIC_int, ix0, ix1, ix2, ix3, fGcd_int, fIsq_int, fAbs_int, fInt_int, fLen_tup, fLen_lst, fMax2_int, gNeg_int, gFdv, gMod, DL.gSub, gPow, gLt, gLe, gGt, gGe, eq_self, decide_eq_true_eq, Bool.not_eq_true', decide_eq_false_iff_not, true_and, and_true, if_true, if_false, Bool.false_eq_true, Bool.not_true, Bool.not_false]
      exact ⟨by omega, k⟩
end
end T54
set_option Elab.async false
set_option linter.all false
set_option maxRecDepth 100000
set_option maxHeartbeats 8000000
set_option exponentiation.threshold 10000
namespace T54
open PySem PySem.Spec PyProof.Rows L2 XR DL
open PySem.XK (ExF)
/-! ### the law's own verdicts -/
def wWords : List Str := ["steady", "hermite", "bessel", "laguerre", "gegenbauer", "charlier", "meixner"]
theorem words_flat {x : Str} (h : x ∈ wWords) : flat (.str x) = true := by
  have : ∀ y ∈ wWords, flat (.str y) = true := by decide +kernel
  exact this x h
def lawV (word : Str) (x l t : U) (a b d e f : Int) : Str :=
  if word = "steady" then wF else if word = "hermite" then (if a = 0 then wL else wN)
  else if word = "bessel" ∨ word = "laguerre" then (if a = 0 then wF else wN)
  else if word = "gegenbauer" then (if d = 1 then wF else if (a = 1 ∧ b = 1) ∨ (a = -1 ∧ b = 1) then wF else if a = 0 then wL else wN)
  else if word = "charlier" then (if b = 1 then wF else wN)
  else if (e = 1 ∧ f = 1) ∨ b = 1 ∨ (wsF [x, l] 0 1).1 % (wsF [x, l] 0 1).2 = 0 then wF
  else if (e = -1 ∧ f = 1) ∧ (wsF [x, x, l] 0 1).1 % (wsF [x, x, l] 0 1).2 = 0 then wL else wN
theorem gIx_tup_at {us : List U} {i : Int} {Q : U → Prop} {u : U} (h : atI us i = some u) (q : Q u) : gIx (.tup us) (.int i) Q := (ix_tup_at _ _ _ _ h).mpr q
theorem gInG_pairs {a b : Int} {us : List U} {Q : U → Prop} (h : ∀ u ∈ us, ∃ c d, u = p2 c d) (q : Q (.bl (us.any fun z => ueq z (p2 a b)))) (hf : flat (.tup us) = true) : gInG false (p2 a b) (.tup us) Q :=
  ⟨us, .inl rfl, rfl, hf, by rw [Bool.false_xor]; exact q⟩
section
variable {P : Program} {w : World} {K : PySem.W.Frag} {mg : Str → Option Value} {base : Heap}
theorem sc__law_named_verdict : FnScope ["word", "some", "x", "l", "t"] ["word", "some"] (defScope s__law_named_verdict) := ⟨rfl, rfl, rfl, by decide +kernel, rfl, by decide +kernel, by decide +kernel⟩
def sp_lv : SpD := fun m us Q _ => ∃ (word : Str) (ts : List U) (a b c d e f : Int), us = [.str word, .tup ts] ∧ word ∈ wWords ∧ atI ts 0 = some (p2 a b) ∧ atI ts 1 = some (p2 c d) ∧ atI ts (-1) = some (p2 e f) ∧ Pr a b ∧ (word = "meixner" → Pr c d) ∧ Q (.str (lawV word (p2 a b) (p2 c d) (p2 e f) a b d e f))
theorem ok__law_named_verdict {a a1 : Addr} {fd fd1 : FuncData} (D : DL.Def K mg "_law_named_verdict" s__law_named_verdict a fd) (D__law_is_whole : DL.Def K mg "_law_is_whole" s__law_is_whole a1 fd1) (G__law_is_whole : Fd P w K mg base 1 a1 fd1 ["some"] sp__law_is_whole) : Fd P w K mg base 2 a fd ["word", "some"] sp_lv := by
  have b__law_is_whole : Binds K fd1 ["some"] [] := D__law_is_whole.F.binds fun _ _ _ _ _ _ us hl => match us, hl with | [_], _ => rfl
  refine fd_of D.F sc__law_named_verdict (fun m us Q Z h => ?_) (fun cdv A outer s H E m us Qd Zd hr hG tk h => ?_)
  · obtain ⟨_, _, _, _, _, _, _, _, rfl, _⟩ := h
    rfl
  · obtain ⟨word, ts, a, b, c, d, e, f, rfl, hw, h0, h1, h2, pab, pcd, k⟩ := h
    have hu := hr.units
    have hu5 := Room.u65 hr
    have two : 2 ≤ sizeLine := le_line (by decide)
    have three : 3 ≤ sizeLine := le_line (by decide)
    have fw := words_flat hw
    refine ⟨_, (dss_cons (ds_of_par3 (ps_par3 (i := 2) (j := 3) (l := 4) (by rfl) sc__law_named_verdict.nd rfl rfl rfl (by decide) (by decide) (by decide) rfl rfl rfl (da_cons (de_ix (de_var (pv 1)) de_int (fun _ _ => rfl)) (da_cons (de_ix (de_var (pv 1)) de_int (fun _ _ => rfl)) (da_cons (de_ix (de_var (pv 1)) (de_neg de_int) (fun _ _ => rfl)) da_nil))) (by rfl)))
    (dss_cons (ds_if (dt_eq hu (de_var (pv 0)) de_str) (dss_one (ds_ret de_str)) dss_nil)
    (dss_cons (ds_if (dt_eq hu (de_var (pv 0)) de_str) (dss_one (ds_ret (de_if (dt_eq hu (de_ix (de_var (pv 2)) de_int (fun _ _ => rfl)) de_int) de_str de_str))) dss_nil)
    (dss_cons (ds_if (dt_inG (Room.u65 hr) (de_var (pv 0)) (de_tup (da_cons de_str (da_cons de_str da_nil))) rfl) (dss_one (ds_ret (de_if (dt_eq hu (de_ix (de_var (pv 2)) de_int (fun _ _ => rfl)) de_int) de_str de_str))) dss_nil)
    (dss_cons (ds_if (dt_eq hu (de_var (pv 0)) de_str) (dss_cons (ds_if (L2.PW.pt (dw_or (dt_eq hu (de_ix (de_var (pv 3)) de_int (fun _ _ => rfl)) de_int) (dw_or1 (dt_inG (Room.u65 hr) (de_var (pv 2)) (de_tup (da_cons (de_tup (da_cons de_int (da_cons de_int da_nil))) (da_cons (de_tup (da_cons (de_neg de_int) (da_cons de_int da_nil))) da_nil))) rfl)))) (dss_one (ds_ret de_str)) dss_nil)
    (dss_one (ds_ret (de_if (dt_eq hu (de_ix (de_var (pv 2)) de_int (fun _ _ => rfl)) de_int) de_str de_str)))) dss_nil)
    (dss_cons (ds_if (dt_eq hu (de_var (pv 0)) de_str) (dss_one (ds_ret (de_if (dt_eq hu (de_ix (de_var (pv 2)) de_int (fun _ _ => rfl)) de_int) de_str de_str))) dss_nil)
    (dss_cons (ds_if (L2.PW.pt (dw_or (dt_eq hu (de_var (pv 4)) (de_tup (da_cons de_int (da_cons de_int da_nil)))) (dw_or (dt_eq hu (de_ix (de_var (pv 2)) de_int (fun _ _ => rfl)) de_int) (dw_or1 (dt_val (de_call G__law_is_whole (hr.mono (by decide)) hG tk (by rfl) D__law_is_whole.g D__law_is_whole.F.kp b__law_is_whole (da_cons (de_lst (da_cons (de_var (pv 2)) (da_cons (de_var (pv 3)) da_nil))) da_nil))))))) (dss_one (ds_ret de_str)) dss_nil)
    (dss_one (ds_ret (de_if (L2.PW.pt (dw_and (dt_eq hu (de_var (pv 4)) (de_tup (da_cons (de_neg de_int) (da_cons de_int da_nil)))) (dw_and1 (dt_val (de_call G__law_is_whole (hr.mono (by decide)) hG tk (by rfl) D__law_is_whole.g D__law_is_whole.F.kp b__law_is_whole (da_cons (de_lst (da_cons (de_var (pv 2)) (da_cons (de_var (pv 2)) (da_cons (de_var (pv 3)) da_nil)))) da_nil)))))) de_str de_str)))))))))), ?_⟩
    simp only [dSeq, dPar3]
    simp (config := { maxSteps := 1000000 }) only [dSeq, dIfS, dTest, dOp, dUn, dVar, dC, dTup, dLst, dNil, dCons, dRet, dRetN, dDrop, dSet, dPar, dAsg, dgTup, dgCons, dgNil, dgName, dCB, dNext, dIf, dAnd, dOr, dNot, dNotV, dAndV, dOrV, dCall, dCallK, dRaise, dAug, dSl, dPart, dNoPart, startU_eq, List.map_cons, List.map_nil, List.cons_append, List.nil_append, List.length_cons, List.length_nil, List.replicate, List.getElem?_cons_zero, List.getElem?_cons_succ, List.getElem?_nil, List.set_cons_zero, List.set_cons_succ, Nat.reduceAdd, Nat.reduceSub, ex_uu, ex_bl, ex_tup, ex_lst, ex_int, ex_cons, ex_two, gEq_int, gNe_int, gEq_p2, gNe_p2, gEq_str, ixp0, ixp1, plus_int, star_int, gI_int, gIC_int, ix0, ix1, ix2, ix3, fGcd_int, fIsq_int, fAbs_int, fInt_int, fLen_tup, fLen_lst, fMax2_int, gNeg_int, gFdv, gMod, DL.gSub, gPow, gLt, gLe, gGt, gGe, eq_self, decide_eq_true_eq, Bool.not_eq_true', decide_eq_false_iff_not, true_and, and_true, if_true, if_false, Bool.false_eq_true, Bool.not_true, Bool.not_false]
    refine gIx_tup_at h0 ?_
    refine gIx_tup_at h1 ?_
    refine gIx_tup_at h2 ?_
    refine ⟨_, _, _, rfl, ?_⟩
    simp (config := { maxSteps := 1000000 }) only [dSeq, dIfS, dTest, dOp, dUn, dVar, dC, dTup, dLst, dNil, dCons, dRet, dRetN, dDrop, dSet, dPar, dAsg, dgTup, dgCons, dgNil, dgName, dCB, dNext, dIf, dAnd, dOr, dNot, dNotV, dAndV, dOrV, dCall, dCallK, dRaise, dAug, dSl, dPart, dNoPart, startU_eq, List.map_cons, List.map_nil, List.cons_append, List.nil_append, List.length_cons, List.length_nil, List.replicate, List.getElem?_cons_zero, List.getElem?_cons_succ, List.getElem?_nil, List.set_cons_zero, List.set_cons_succ, Nat.reduceAdd, Nat.reduceSub, ex_uu, ex_bl, ex_tup, ex_lst, ex_int, ex_cons, ex_two, gEq_int, gNe_int, gEq_p2, gNe_p2, gEq_str, ixp0, ixp1, plus_int, star_int, gI_int, gIC_int, ix0, ix1, ix2, ix3, fGcd_int, fIsq_int, fAbs_int, fInt_int, fLen_tup, fLen_lst, fMax2_int, gNeg_int, gFdv, gMod, DL.gSub, gPow, gLt, gLe, gGt, gGe, eq_self, decide_eq_true_eq, Bool.not_eq_true', decide_eq_false_iff_not, true_and, and_true, if_true, if_false, Bool.false_eq_true, Bool.not_true, Bool.not_false]
    have fl : ∀ y : Str, y ∈ wWords → flat (.str y) = true := fun y hy => words_flat hy
    unfold lawV at k
    refine ⟨fw, fl "steady" (by decide), ?_⟩
    by_cases w1 : word = "steady"
    · rw [if_pos w1] at k ⊢
      exact k
    rw [if_neg w1] at k ⊢
    refine ⟨fw, fl "hermite" (by decide), ?_⟩
    by_cases w2 : word = "hermite"
    · rw [if_pos w2] at k ⊢
      by_cases c : a = 0
      · rw [if_pos c] at k ⊢
        exact k
      · rw [if_neg c] at k ⊢
        exact k
    rw [if_neg w2] at k ⊢
    refine ⟨two, _, .inl rfl, fw, by decide +kernel, _, rfl, ?_⟩
    have anyb : (xor false (([U.str "bessel", U.str "laguerre"] : List U).any fun z => ueq z (.str word))) = decide (word = "bessel" ∨ word = "laguerre") := by
      rw [Bool.false_xor]
      show (ueq (.str "bessel") (.str word) || (ueq (.str "laguerre") (.str word) || false)) = _
      rw [ueq_str, ueq_str, Bool.or_false, Bool.decide_or]
      rw [show decide (("bessel" : Str) = word) = decide (word = "bessel") from decide_eq_decide.mpr ⟨Eq.symm, Eq.symm⟩, show decide (("laguerre" : Str) = word) = decide (word = "laguerre") from decide_eq_decide.mpr ⟨Eq.symm, Eq.symm⟩]
    rw [anyb]
    by_cases w3 : word = "bessel" ∨ word = "laguerre"
    · rw [if_pos w3] at k
      rw [if_pos (decide_eq_true w3)]
      by_cases c : a = 0
      · rw [if_pos c] at k ⊢
        exact k
      · rw [if_neg c] at k ⊢
        exact k
    rw [if_neg w3] at k
    rw [if_neg (by rw [decide_eq_true_eq]; exact w3)]
    refine ⟨fw, fl "gegenbauer" (by decide), ?_⟩
    by_cases w4 : word = "gegenbauer"
    · rw [if_pos w4] at k ⊢
      by_cases c1 : d = 1
      · rw [if_pos c1] at k ⊢
        exact k
      rw [if_neg c1] at k ⊢
      refine ⟨two, two, two, _, .inl rfl, rfl, rfl, _, rfl, ?_⟩
      have anyp : (xor false (([p2 1 1, p2 (-1) 1] : List U).any fun z => ueq z (p2 a b))) = decide ((a = 1 ∧ b = 1) ∨ (a = -1 ∧ b = 1)) := by
        rw [Bool.false_xor]
        show (ueq (p2 1 1) (p2 a b) || (ueq (p2 (-1) 1) (p2 a b) || false)) = _
        rw [ueq_p2, ueq_p2, Bool.or_false, Bool.eq_iff_iff]
        simp only [Bool.or_eq_true, Bool.and_eq_true, decide_eq_true_eq]
        omega
      rw [anyp]
      by_cases c2 : (a = 1 ∧ b = 1) ∨ (a = -1 ∧ b = 1)
      · rw [if_pos c2] at k
        rw [if_pos (decide_eq_true c2)]
        exact k
      rw [if_neg c2] at k
      rw [if_neg (by rw [decide_eq_true_eq]; exact c2)]
      by_cases c3 : a = 0
      · rw [if_pos c3] at k ⊢
        exact k
      · rw [if_neg c3] at k ⊢
        exact k
    rw [if_neg w4] at k ⊢
    refine ⟨fw, fl "charlier" (by decide), ?_⟩
    by_cases w5 : word = "charlier"
    · rw [if_pos w5] at k ⊢
      by_cases c : b = 1
      · rw [if_pos c] at k ⊢
        exact k
      · rw [if_neg c] at k ⊢
        exact k
    rw [if_neg w5] at k ⊢
    have w6 : word = "meixner" := by
      unfold wWords at hw
      simp only [List.mem_cons, List.not_mem_nil, or_false] at hw
      rcases hw with h | h | h | h | h | h | h
      · exact absurd h w1
      · exact absurd h w2
      · exact absurd (.inl h) w3
      · exact absurd (.inr h) w3
      · exact absurd h w4
      · exact absurd h w5
      · exact h
    have pcd := pcd w6
    refine ⟨two, ?_⟩
    by_cases c1 : e = 1 ∧ f = 1
    · rw [if_pos (by simp only [Bool.and_eq_true, decide_eq_true_eq]; exact c1)]
      rw [if_pos (.inl c1)] at k
      exact k
    rw [if_neg (by simp only [Bool.and_eq_true, decide_eq_true_eq]; exact c1)]
    by_cases c2 : b = 1
    · rw [if_pos c2]
      rw [if_pos (.inr (.inl c2))] at k
      exact k
    rw [if_neg c2]
    refine ⟨two, _, rfl, ?_, by show 2 ≤ 3; decide, _, rfl, ?_⟩
    · intro u hu
      simp only [List.mem_cons, List.not_mem_nil, or_false] at hu
      rcases hu with rfl | rfl
      · exact par_p2.mpr pab
      · exact par_p2.mpr pcd
    by_cases c3 : (wsF [p2 a b, p2 c d] 0 1).1 % (wsF [p2 a b, p2 c d] 0 1).2 = 0
    · rw [if_pos (.inr (.inr c3))] at k
      rw [if_pos (decide_eq_true c3)]
      exact k
    rw [if_neg (by rintro (h | h | h); exact c1 h; exact c2 h; exact c3 h)] at k
    rw [if_neg (by rw [decide_eq_true_eq]; exact c3)]
    refine ⟨two, ?_⟩
    by_cases c4 : e = -1 ∧ f = 1
    · rw [if_pos (by simp only [Bool.and_eq_true, decide_eq_true_eq]; exact c4)]
      refine ⟨three, _, rfl, ?_, by show 3 ≤ 3; decide, _, rfl, ?_⟩
      · intro u hu
        simp only [List.mem_cons, List.not_mem_nil, or_false] at hu
        rcases hu with rfl | rfl | rfl
        · exact par_p2.mpr pab
        · exact par_p2.mpr pab
        · exact par_p2.mpr pcd
      by_cases c5 : (wsF [p2 a b, p2 a b, p2 c d] 0 1).1 % (wsF [p2 a b, p2 a b, p2 c d] 0 1).2 = 0
      · rw [if_pos ⟨c4, c5⟩] at k
        rw [if_pos (decide_eq_true c5)]
        exact k
      · rw [if_neg (fun z => c5 z.2)] at k
        rw [if_neg (by rw [decide_eq_true_eq]; exact c5)]
        exact k
    · rw [if_neg (by simp only [Bool.and_eq_true, decide_eq_true_eq]; exact c4)]
      rw [if_neg (fun z => c4 z.1)] at k
      exact k
/-! ### drawn parameters -/
theorem sc__law_parameter : FnScope ["deck", "may_be_nil", "way", "top", "bottom"] ["deck", "may_be_nil"] (defScope s__law_parameter) := ⟨rfl, rfl, rfl, by decide +kernel, rfl, by decide +kernel, by decide +kernel⟩
def sp_param : SpD := fun m us Q _ => ∃ (d l : Addr) (may : Bool), m.deck = some (d, l) ∧ us = [.raw (.ref d), .bl may] ∧ ∀ a b, Pr a b → (may = false → a ≠ 0) → Q (p2 a b)
theorem ok__law_parameter {a a1 a2 a3 : Addr} {fd fd1 fd2 fd3 : FuncData} (D : DL.Def K mg "_law_parameter" s__law_parameter a fd) (D__law_draw : DL.Def K mg "_law_draw" sDraw a1 fd1) (D__law_pick : DL.Def K mg "_law_pick" s__law_pick a2 fd2) (D__law_pair : DL.Def K mg "_law_pair" s__law_pair a3 fd3) (G__law_draw : Fd P w K mg base 1 a1 fd1 ["deck", "many"] sp_draw) (G__law_pick : Fd P w K mg base 2 a2 fd2 ["deck", "some"] sp_pick) (G__law_pair : Fd P w K mg base 2 a3 fd3 ["top", "bottom"] sp__law_pair) :
    Fd P w K mg base 3 a fd ["deck", "may_be_nil"] sp_param := by
  have b__law_draw : Binds K fd1 ["deck", "many"] [] := D__law_draw.F.binds fun _ _ _ _ _ _ us hl => match us, hl with | [_, _], _ => rfl
  have b__law_pick : Binds K fd2 ["deck", "some"] [] := D__law_pick.F.binds fun _ _ _ _ _ _ us hl => match us, hl with | [_, _], _ => rfl
  have b__law_pair : Binds K fd3 ["top", "bottom"] [] := D__law_pair.F.binds fun _ _ _ _ _ _ us hl => match us, hl with | [_, _], _ => rfl
  refine fd_of D.F sc__law_parameter (fun m us Q Z h => ?_) (fun cdv A outer s H E m us Qd Zd hr hG tk h => ?_)
  · obtain ⟨d, l, may, _, rfl, _⟩ := h
    rfl
  · obtain ⟨d, l, may, e, rfl, k⟩ := h
    have hu := hr.units
    have two : 2 ≤ sizeLine := le_line (by decide)
    have twelve : 12 ≤ sizeLine := le_line (by decide)
    have eight : 8 ≤ sizeLine := le_line (by decide)
    have seven : 7 ≤ sizeLine := le_line (by decide)
    have go : ∀ (top bottom : Int), top.natAbs ≤ 40 → 1 ≤ bottom → bottom ≤ 12 → (may = false → top ≠ 0) → sp__law_pair m [.int top, .int bottom] Qd Zd := fun top bottom h1 h2 h3 h4 =>
      ⟨top, bottom, rfl, by omega, Nat.lt_of_le_of_lt (show top.natAbs ≤ 100 by omega) (by decide), Nat.lt_of_le_of_lt (show bottom.natAbs ≤ 100 by omega) (by decide), fun p q hl => k p q (hl.pr h1 (by omega)) fun z => hl.nz (h4 z)⟩
    refine ⟨_, (dss_cons (ds_set (i := 2) sc__law_parameter.nd rfl (.inl rfl) (de_call G__law_draw (hr.mono (by decide)) hG tk (by rfl) D__law_draw.g D__law_draw.F.kp b__law_draw (da_cons (de_var (pv 0)) (da_cons de_int da_nil))))
    (dss_cons (ds_if (dt_lt (de_var (pv 2)) de_int) (dss_one (ds_asg (de_call G__law_pick (hr.mono (by decide)) hG tk (by rfl) D__law_pick.g D__law_pick.F.kp b__law_pick (da_cons (de_var (pv 0)) (da_cons (de_lst (da_cons (de_tup (da_cons de_int (da_cons de_int da_nil))) (da_cons (de_tup (da_cons (de_neg de_int) (da_cons de_int da_nil))) (da_cons (de_tup (da_cons de_int (da_cons de_int da_nil))) (da_cons (de_tup (da_cons de_int (da_cons de_int da_nil))) (da_cons (de_tup (da_cons (de_neg de_int) (da_cons de_int da_nil))) (da_cons (de_tup (da_cons de_int (da_cons de_int da_nil))) (da_cons (de_tup (da_cons de_int (da_cons de_int da_nil))) (da_cons (de_tup (da_cons (de_neg de_int) (da_cons de_int da_nil))) (da_cons (de_tup (da_cons de_int (da_cons de_int da_nil))) (da_cons (de_tup (da_cons (de_neg de_int) (da_cons de_int da_nil))) (da_cons (de_tup (da_cons de_int (da_cons de_int da_nil))) (da_cons (de_tup (da_cons de_int (da_cons de_int da_nil))) da_nil))))))))))))) da_nil))) (dg_tup (n := 2) rfl (dgs_cons (dg_name (pg_name (i := 3) sc__law_parameter.nd rfl (.inl rfl))) (dgs_cons (dg_name (pg_name (i := 4) sc__law_parameter.nd rfl (.inl rfl))) dgs_nil))))) (dss_one (ds_of_par (ps_par (i := 3) (j := 4) (by rfl) sc__law_parameter.nd rfl rfl (by decide) rfl rfl (da_cons (de_sub (de_call G__law_draw (hr.mono (by decide)) hG tk (by rfl) D__law_draw.g D__law_draw.F.kp b__law_draw (da_cons (de_var (pv 0)) (da_cons de_int da_nil))) de_int) (da_cons (de_plus de_int (de_call G__law_draw (hr.mono (by decide)) hG tk (by rfl) D__law_draw.g D__law_draw.F.kp b__law_draw (da_cons (de_var (pv 0)) (da_cons (de_if (dt_eq hu (de_var (pv 2)) de_int) de_int de_int) da_nil)))) da_nil)) (by rfl)))))
    (dss_one (ds_ret (de_if (L2.PW.pt (dw_or (dt_ne hu (de_var (pv 3)) de_int) (dw_or1 (dt_val (de_var (pv 1)))))) (de_call G__law_pair (hr.mono (by decide)) hG tk (by rfl) D__law_pair.g D__law_pair.F.kp b__law_pair (da_cons (de_var (pv 3)) (da_cons (de_var (pv 4)) da_nil))) (de_tup (da_cons (de_neg de_int) (da_cons de_int da_nil)))))))), ?_⟩
    simp (config := { maxSteps := 1000000 }) only [dSeq, dIfS, dTest, dOp, dUn, dVar, dC, dTup, dLst, dNil, dCons, dRet, dRetN, dDrop, dSet, dPar, dAsg, dgTup, dgCons, dgNil, dgName, dCB, dNext, dIf, dAnd, dOr, dNot, dNotV, dAndV, dOrV, dCall, dCallK, dRaise, dAug, dSl, dPart, dNoPart, startU_eq, List.map_cons, List.map_nil, List.cons_append, List.nil_append, List.length_cons, List.length_nil, List.replicate, List.getElem?_cons_zero, List.getElem?_cons_succ, List.getElem?_nil, List.set_cons_zero, List.set_cons_succ, Nat.reduceAdd, Nat.reduceSub, ex_uu, ex_bl, ex_tup, ex_lst, ex_int, ex_cons, ex_two, gEq_int, gNe_int, gEq_p2, gNe_p2, gEq_str, ixp0, ixp1, plus_int, star_int, gI_int, gIC_int, ix0, ix1, ix2, ix3, fGcd_int, fIsq_int, fAbs_int, fInt_int, fLen_tup, fLen_lst, fMax2_int, gNeg_int, gFdv, gMod, DL.gSub, gPow, gLt, gLe, gGt, gGe, eq_self, decide_eq_true_eq, Bool.not_eq_true', decide_eq_false_iff_not, true_and, and_true, if_true, if_false, Bool.false_eq_true, Bool.not_true, Bool.not_false]
    refine ⟨d, l, 5, e, rfl, by decide, by decide, fun way w0 w1 => ?_⟩
    simp (config := { maxSteps := 1000000 }) only [dSeq, dIfS, dTest, dOp, dUn, dVar, dC, dTup, dLst, dNil, dCons, dRet, dRetN, dDrop, dSet, dPar, dAsg, dgTup, dgCons, dgNil, dgName, dCB, dNext, dIf, dAnd, dOr, dNot, dNotV, dAndV, dOrV, dCall, dCallK, dRaise, dAug, dSl, dPart, dNoPart, startU_eq, List.map_cons, List.map_nil, List.cons_append, List.nil_append, List.length_cons, List.length_nil, List.replicate, List.getElem?_cons_zero, List.getElem?_cons_succ, List.getElem?_nil, List.set_cons_zero, List.set_cons_succ, Nat.reduceAdd, Nat.reduceSub, ex_uu, ex_bl, ex_tup, ex_lst, ex_int, ex_cons, ex_two, gEq_int, gNe_int, gEq_p2, gNe_p2, gEq_str, ixp0, ixp1, plus_int, star_int, gI_int, gIC_int, ix0, ix1, ix2, ix3, fGcd_int, fIsq_int, fAbs_int, fInt_int, fLen_tup, fLen_lst, fMax2_int, gNeg_int, gFdv, gMod, DL.gSub, gPow, gLt, gLe, gGt, gGe, eq_self, decide_eq_true_eq, Bool.not_eq_true', decide_eq_false_iff_not, true_and, and_true, if_true, if_false, Bool.false_eq_true, Bool.not_true, Bool.not_false]
    have last : ∀ top bottom : Int, top.natAbs ≤ 40 → 1 ≤ bottom → bottom ≤ 12 → (if ¬top = 0 then sp__law_pair m [.int top, .int bottom] Qd Zd else if may = true then sp__law_pair m [.int top, .int bottom] Qd Zd else 2 ≤ sizeLine ∧ Qd (.tup [.int (-1), .int 1])) := fun top bottom h1 h2 h3 => by
      by_cases c : top = 0
      · rw [if_neg (not_not_intro c)]
        cases hm : may with
        | true =>
          rw [if_pos rfl]
          exact go top bottom h1 h2 h3 fun z => by rw [hm] at z; cases z
        | false =>
          rw [if_neg (fun z => Bool.noConfusion z)]
          exact ⟨two, k (-1) 1 ⟨by decide, by decide, by decide, by decide⟩ fun _ => by decide⟩
      · rw [if_pos c]
        exact go top bottom h1 h2 h3 fun _ => c
    by_cases c : way < 3
    · rw [if_pos c]
      simp only [two, twelve, true_and]
      refine ⟨d, l, _, e, rfl, by decide, by decide, fun u hu => ?_⟩
      have hb : ∃ i j : Int, u = p2 i j ∧ i.natAbs ≤ 40 ∧ 1 ≤ j ∧ j ≤ 12 := by
        simp only [List.mem_cons, List.not_mem_nil, or_false] at hu
        rcases hu with rfl | rfl | rfl | rfl | rfl | rfl | rfl | rfl | rfl | rfl | rfl | rfl <;> exact ⟨_, _, rfl, by decide, by decide, by decide⟩
      obtain ⟨i, j, rfl, i1, j1, j2⟩ := hb
      refine ⟨_, rfl, rfl, _, _, rfl, _, _, rfl, rfl, ?_⟩
      simp (config := { maxSteps := 1000000 }) only [dSeq, dIfS, dTest, dOp, dUn, dVar, dC, dTup, dLst, dNil, dCons, dRet, dRetN, dDrop, dSet, dPar, dAsg, dgTup, dgCons, dgNil, dgName, dCB, dNext, dIf, dAnd, dOr, dNot, dNotV, dAndV, dOrV, dCall, dCallK, dRaise, dAug, dSl, dPart, dNoPart, startU_eq, List.map_cons, List.map_nil, List.cons_append, List.nil_append, List.length_cons, List.length_nil, List.replicate, List.getElem?_cons_zero, List.getElem?_cons_succ, List.getElem?_nil, List.set_cons_zero, List.set_cons_succ, Nat.reduceAdd, Nat.reduceSub, ex_uu, ex_bl, ex_tup, ex_lst, ex_int, ex_cons, ex_two, gEq_int, gNe_int, gEq_p2, gNe_p2, gEq_str, ixp0, ixp1, plus_int, star_int, gI_int, gIC_int, ix0, ix1, ix2, ix3, fGcd_int, fIsq_int, fAbs_int, fInt_int, fLen_tup, fLen_lst, fMax2_int, gNeg_int, gFdv, gMod, DL.gSub, gPow, gLt, gLe, gGt, gGe, eq_self, decide_eq_true_eq, Bool.not_eq_true', decide_eq_false_iff_not, true_and, and_true, if_true, if_false, Bool.false_eq_true, Bool.not_true, Bool.not_false]
      have := last i j i1 j1 j2
      simp only [two, true_and] at this
      exact this
    · rw [if_neg c]
      refine ⟨d, l, 81, e, rfl, by decide, by decide, fun t t0 t1 => ?_⟩
      simp (config := { maxSteps := 1000000 }) only [dSeq, dIfS, dTest, dOp, dUn, dVar, dC, dTup, dLst, dNil, dCons, dRet, dRetN, dDrop, dSet, dPar, dAsg, dgTup, dgCons, dgNil, dgName, dCB, dNext, dIf, dAnd, dOr, dNot, dNotV, dAndV, dOrV, dCall, dCallK, dRaise, dAug, dSl, dPart, dNoPart, startU_eq, List.map_cons, List.map_nil, List.cons_append, List.nil_append, List.length_cons, List.length_nil, List.replicate, List.getElem?_cons_zero, List.getElem?_cons_succ, List.getElem?_nil, List.set_cons_zero, List.set_cons_succ, Nat.reduceAdd, Nat.reduceSub, ex_uu, ex_bl, ex_tup, ex_lst, ex_int, ex_cons, ex_two, gEq_int, gNe_int, gEq_p2, gNe_p2, gEq_str, ixp0, ixp1, plus_int, star_int, gI_int, gIC_int, ix0, ix1, ix2, ix3, fGcd_int, fIsq_int, fAbs_int, fInt_int, fLen_tup, fLen_lst, fMax2_int, gNeg_int, gFdv, gMod, DL.gSub, gPow, gLt, gLe, gGt, gGe, eq_self, decide_eq_true_eq, Bool.not_eq_true', decide_eq_false_iff_not, true_and, and_true, if_true, if_false, Bool.false_eq_true, Bool.not_true, Bool.not_false]
      have fin : ∀ n : Int, 0 < n → n ≤ 12 → sp_draw m [.raw (.ref d), .int n] (fun y => gPlus (.int 1) y fun x_1 => gNe (.int (t - 40)) (.int 0) fun u => ∃ b, u = .bl b ∧ if b = true then sp__law_pair m [.int (t - 40), x_1] Qd Zd else if may = true then sp__law_pair m [.int (t - 40), x_1] Qd Zd else 2 ≤ sizeLine ∧ Qd (.tup [.int (-1), .int 1])) Zd := fun n n0 n1 =>
        ⟨d, l, n, e, rfl, n0, by omega, fun r r0 r1 => by
          simp (config := { maxSteps := 1000000 }) only [dSeq, dIfS, dTest, dOp, dUn, dVar, dC, dTup, dLst, dNil, dCons, dRet, dRetN, dDrop, dSet, dPar, dAsg, dgTup, dgCons, dgNil, dgName, dCB, dNext, dIf, dAnd, dOr, dNot, dNotV, dAndV, dOrV, dCall, dCallK, dRaise, dAug, dSl, dPart, dNoPart, startU_eq, List.map_cons, List.map_nil, List.cons_append, List.nil_append, List.length_cons, List.length_nil, List.replicate, List.getElem?_cons_zero, List.getElem?_cons_succ, List.getElem?_nil, List.set_cons_zero, List.set_cons_succ, Nat.reduceAdd, Nat.reduceSub, ex_uu, ex_bl, ex_tup, ex_lst, ex_int, ex_cons, ex_two, gEq_int, gNe_int, gEq_p2, gNe_p2, gEq_str, ixp0, ixp1, plus_int, star_int, gI_int, gIC_int, ix0, ix1, ix2, ix3, fGcd_int, fIsq_int, fAbs_int, fInt_int, fLen_tup, fLen_lst, fMax2_int, gNeg_int, gFdv, gMod, DL.gSub, gPow, gLt, gLe, gGt, gGe, eq_self, decide_eq_true_eq, Bool.not_eq_true', decide_eq_false_iff_not, true_and, and_true, if_true, if_false, Bool.false_eq_true, Bool.not_true, Bool.not_false]
          exact last _ _ (by omega) (by omega) (by omega)⟩
      by_cases c3 : way = 3
      · rw [if_pos c3]
        have := fin 12 (by decide) (by decide)
        simp only [gNe_int, ex_bl, Bool.not_eq_true', decide_eq_false_iff_not] at this
        exact this
      · rw [if_neg c3]
        have := fin 2 (by decide) (by decide)
        simp only [gNe_int, ex_bl, Bool.not_eq_true', decide_eq_false_iff_not] at this
        exact this
theorem sc__law_near : FnScope ["deck", "x", "top", "bottom", "found"] ["deck", "x"] (defScope s__law_near) := ⟨rfl, rfl, rfl, by decide +kernel, rfl, by decide +kernel, by decide +kernel⟩
def sp_nearP : SpD := fun m us Q _ => ∃ (d l : Addr) (a b : Int), m.deck = some (d, l) ∧ us = [.raw (.ref d), p2 a b] ∧ Pr a b ∧ ∀ i j, Pr i j → Q (p2 i j)
theorem ok__law_near {a a2 a3 : Addr} {fd fd2 fd3 : FuncData} (D : DL.Def K mg "_law_near" s__law_near a fd) (D__law_pick : DL.Def K mg "_law_pick" s__law_pick a2 fd2) (D__law_pair : DL.Def K mg "_law_pair" s__law_pair a3 fd3) (G__law_pick : Fd P w K mg base 2 a2 fd2 ["deck", "some"] sp_pick) (G__law_pair : Fd P w K mg base 2 a3 fd3 ["top", "bottom"] sp__law_pair) (gabs : mg "abs" = none) :
    Fd P w K mg base 3 a fd ["deck", "x"] sp_nearP := by
  have b__law_pick : Binds K fd2 ["deck", "some"] [] := D__law_pick.F.binds fun _ _ _ _ _ _ us hl => match us, hl with | [_, _], _ => rfl
  have b__law_pair : Binds K fd3 ["top", "bottom"] [] := D__law_pair.F.binds fun _ _ _ _ _ _ us hl => match us, hl with | [_, _], _ => rfl
  refine fd_of D.F sc__law_near (fun m us Q Z h => ?_) (fun cdv A outer s H E m us Qd Zd hr hG tk h => ?_)
  · obtain ⟨d, l, x, y, _, rfl, _⟩ := h
    rfl
  · obtain ⟨d, l, x, y, e, rfl, hp, k⟩ := h
    have hu := hr.units
    have two : 2 ≤ sizeLine := le_line (by decide)
    have five : 5 ≤ sizeLine := le_line (by decide)
    have h1 := hp.b1
    have h2 := hp.b12
    have h3 := hp.a40
    have sm : ∀ z : Int, z.natAbs ≤ 500 → Bd 10 z := fun z hz => Nat.lt_of_le_of_lt (show z.natAbs ≤ 500 from hz) (by decide)
    have cm : ∀ z t : Int, z.natAbs ≤ 500 → t.natAbs ≤ 500 → CMulW z t := fun z t hz ht => mul_ok 10 10 (sm z hz) (sm t ht) (by decide) (by decide) (by decide)
    refine ⟨_, (dss_cons (ds_asg (de_call G__law_pick (hr.mono (by decide)) hG tk (by rfl) D__law_pick.g D__law_pick.F.kp b__law_pick (da_cons (de_var (pv 0)) (da_cons (de_lst (da_cons (de_tup (da_cons (de_neg (de_ix (de_var (pv 1)) de_int (fun _ _ => rfl))) (da_cons (de_ix (de_var (pv 1)) de_int (fun _ _ => rfl)) da_nil))) (da_cons (de_tup (da_cons (de_sub (de_ix (de_var (pv 1)) de_int (fun _ _ => rfl)) (de_ix (de_var (pv 1)) de_int (fun _ _ => rfl))) (da_cons (de_ix (de_var (pv 1)) de_int (fun _ _ => rfl)) da_nil))) (da_cons (de_tup (da_cons (de_star (de_neg de_int) (de_ix (de_var (pv 1)) de_int (fun _ _ => rfl))) (da_cons (de_ix (de_var (pv 1)) de_int (fun _ _ => rfl)) da_nil))) (da_cons (de_tup (da_cons (de_sub (de_star de_int (de_ix (de_var (pv 1)) de_int (fun _ _ => rfl))) (de_star de_int (de_ix (de_var (pv 1)) de_int (fun _ _ => rfl)))) (da_cons (de_ix (de_var (pv 1)) de_int (fun _ _ => rfl)) da_nil))) (da_cons (de_tup (da_cons (de_sub (de_neg (de_ix (de_var (pv 1)) de_int (fun _ _ => rfl))) (de_star de_int (de_ix (de_var (pv 1)) de_int (fun _ _ => rfl)))) (da_cons (de_ix (de_var (pv 1)) de_int (fun _ _ => rfl)) da_nil))) da_nil)))))) da_nil))) (dg_tup (n := 2) rfl (dgs_cons (dg_name (pg_name (i := 2) sc__law_near.nd rfl (.inl rfl))) (dgs_cons (dg_name (pg_name (i := 3) sc__law_near.nd rfl (.inl rfl))) dgs_nil))))
    (dss_cons (ds_set (i := 4) sc__law_near.nd rfl (.inl rfl) (de_call G__law_pair (hr.mono (by decide)) hG tk (by rfl) D__law_pair.g D__law_pair.F.kp b__law_pair (da_cons (de_var (pv 2)) (da_cons (de_var (pv 3)) da_nil))))
    (dss_one (ds_ret (de_if (dt_le (de_callB cal_abs (pe_callB call_abs (by rfl) gabs PyProof.Rows.boot_abs (da_cons (de_ix (de_var (pv 4)) de_int (fun _ _ => rfl)) da_nil))) de_int) (de_var (pv 4)) (de_tup (da_cons de_int (da_cons de_int da_nil)))))))), ?_⟩
    simp (config := { maxSteps := 1000000 }) only [dSeq, dIfS, dTest, dOp, dUn, dVar, dC, dTup, dLst, dNil, dCons, dRet, dRetN, dDrop, dSet, dPar, dAsg, dgTup, dgCons, dgNil, dgName, dCB, dNext, dIf, dAnd, dOr, dNot, dNotV, dAndV, dOrV, dCall, dCallK, dRaise, dAug, dSl, dPart, dNoPart, startU_eq, List.map_cons, List.map_nil, List.cons_append, List.nil_append, List.length_cons, List.length_nil, List.replicate, List.getElem?_cons_zero, List.getElem?_cons_succ, List.getElem?_nil, List.set_cons_zero, List.set_cons_succ, Nat.reduceAdd, Nat.reduceSub, ex_uu, ex_bl, ex_tup, ex_lst, ex_int, ex_cons, ex_two, gEq_int, gNe_int, gEq_p2, gNe_p2, gEq_str, ixp0, ixp1, plus_int, star_int, gI_int, gIC_int, ix0, ix1, ix2, ix3, fGcd_int, fIsq_int, fAbs_int, fInt_int, fLen_tup, fLen_lst, fMax2_int, gNeg_int, gFdv, gMod, DL.gSub, gPow, gLt, gLe, gGt, gGe, eq_self, decide_eq_true_eq, Bool.not_eq_true', decide_eq_false_iff_not, true_and, and_true, if_true, if_false, Bool.false_eq_true, Bool.not_true, Bool.not_false]
    refine ⟨two, two, cm _ _ (by omega) (by omega), two, cm _ _ (by omega) (by omega), cm _ _ (by omega) (by omega), two, cm _ _ (by omega) (by omega), two, five, d, l, _, e, rfl, by show 0 < 5; decide, by show 5 < 1000; decide, fun u hu => ?_⟩
    have hb : ∃ i : Int, u = p2 i y ∧ i.natAbs ≤ 500 := by
      simp only [List.mem_cons, List.not_mem_nil, or_false] at hu
      rcases hu with rfl | rfl | rfl | rfl | rfl
      · exact ⟨_, rfl, by omega⟩
      · exact ⟨_, rfl, by omega⟩
      · exact ⟨_, rfl, by omega⟩
      · exact ⟨_, rfl, by omega⟩
      · exact ⟨_, rfl, by omega⟩
    obtain ⟨i, rfl, hi⟩ := hb
    refine ⟨_, rfl, rfl, _, _, rfl, _, _, rfl, rfl, ?_⟩
    refine ⟨i, y, rfl, by omega, bd_up 900 (sm i hi) (by decide), bd_up 900 (sm y (by omega)) (by decide), fun p q hl => ?_⟩
    simp (config := { maxSteps := 1000000 }) only [dSeq, dIfS, dTest, dOp, dUn, dVar, dC, dTup, dLst, dNil, dCons, dRet, dRetN, dDrop, dSet, dPar, dAsg, dgTup, dgCons, dgNil, dgName, dCB, dNext, dIf, dAnd, dOr, dNot, dNotV, dAndV, dOrV, dCall, dCallK, dRaise, dAug, dSl, dPart, dNoPart, startU_eq, List.map_cons, List.map_nil, List.cons_append, List.nil_append, List.length_cons, List.length_nil, List.replicate, List.getElem?_cons_zero, List.getElem?_cons_succ, List.getElem?_nil, List.set_cons_zero, List.set_cons_succ, Nat.reduceAdd, Nat.reduceSub, ex_uu, ex_bl, ex_tup, ex_lst, ex_int, ex_cons, ex_two, gEq_int, gNe_int, gEq_p2, gNe_p2, gEq_str, ixp0, ixp1, plus_int, star_int, gI_int, gIC_int, ix0, ix1, ix2, ix3, fGcd_int, fIsq_int, fAbs_int, fInt_int, fLen_tup, fLen_lst, fMax2_int, gNeg_int, gFdv, gMod, DL.gSub, gPow, gLt, gLe, gGt, gGe, eq_self, decide_eq_true_eq, Bool.not_eq_true', decide_eq_false_iff_not, true_and, and_true, if_true, if_false, Bool.false_eq_true, Bool.not_true, Bool.not_false]
    have q1 := hl.q1
    have q2 := hl.qb
    rw [abs_nat]
    by_cases c : (p.natAbs : Int) ≤ 40
    · rw [if_pos c]
      exact k p q ⟨q1, by omega, by omega, hl.co⟩
    · rw [if_neg c]
      exact ⟨two, k 1 2 ⟨by decide, by decide, by decide, by decide⟩⟩
end
end T54
set_option Elab.async false
set_option linter.all false
set_option maxRecDepth 100000
set_option maxHeartbeats 8000000
set_option exponentiation.threshold 10000
namespace T54
open PySem PySem.Spec PyProof.Rows L2 XR DL
open PySem.XK (ExF)
/-! ### what the two sides tell is one -/
theorem pr_zero {a b : Int} (h : Pr a b) : a = 0 ↔ a = 0 ∧ b = 1 := by
  constructor
  · intro z
    have g := h.g
    have b1 := h.b1
    rw [z] at g
    rw [Int.natAbs_zero, Nat.gcd_zero_left] at g
    exact ⟨z, by omega⟩
  · exact fun z => z.1
theorem lv_her {a b d e f : Int} {x l t : U} (h : Pr a b) : lawV "hermite" x l t a b d e f = vHer a b := by
  unfold lawV vHer
  rw [if_neg (by decide), if_pos rfl]
  simp only [← pr_zero h]
theorem lv_bes {a b d e f : Int} {x l t : U} (h : Pr a b) : lawV "bessel" x l t a b d e f = vBes a b := by
  unfold lawV vBes
  rw [if_neg (by decide), if_neg (by decide), if_pos (by decide)]
  simp only [← pr_zero h]
theorem lv_lag {a b d e f : Int} {x l t : U} (h : Pr a b) : lawV "laguerre" x l t a b d e f = vBes a b := by
  unfold lawV vBes
  rw [if_neg (by decide), if_neg (by decide), if_pos (by decide)]
  simp only [← pr_zero h]
theorem lv_geg {a b d e f : Int} {x l t : U} (h : Pr a b) : lawV "gegenbauer" x l t a b d e f = vGeg a b d := by
  unfold lawV vGeg
  rw [if_neg (by decide), if_neg (by decide), if_neg (by decide), if_pos rfl]
  simp only [← pr_zero h]
  by_cases c1 : d = 1
  · simp only [c1, if_true, true_or]
  · simp only [c1, if_false, false_or]
theorem lv_cha {a b d e f : Int} {x l t : U} : lawV "charlier" x l t a b d e f = vCha b := by
  unfold lawV vCha
  rw [if_neg (by decide), if_neg (by decide), if_neg (by decide), if_neg (by decide), if_pos rfl]
theorem lv_ste {a b d e f : Int} {x l t : U} : lawV "steady" x l t a b d e f = wF := by
  unfold lawV
  rw [if_pos rfl]
theorem ws_two (a b c d : Int) : wsF [p2 a b, p2 c d] 0 1 = (a * d + c * b, b * d) := by
  show ((0 * b + a * 1) * d + c * (1 * b), 1 * b * d) = _
  rw [Int.zero_mul, Int.zero_add, Int.mul_one, Int.one_mul]
theorem ws_three (a b c d : Int) : wsF [p2 a b, p2 a b, p2 c d] 0 1 = (b * (2 * a * d + c * b), b * (b * d)) := by
  show (((0 * b + a * 1) * b + a * (1 * b)) * d + c * (1 * b * b), 1 * b * b * d) = _
  congr 1
  · grind
  · grind
theorem lv_mei {a b c d e f : Int} (h : Pr a b) : lawV "meixner" (p2 a b) (p2 c d) (p2 e f) a b d e f = vMei a b c d e f := by
  unfold lawV vMei wsum
  rw [if_neg (by decide), if_neg (by decide), if_neg (by decide), if_neg (by decide), if_neg (by decide), ws_two, ws_three]
  have b1 := h.b1
  have e2 : (b * (2 * a * d + c * b) % (b * (b * d)) = 0) ↔ ((2 * a * d + c * b) % (b * d) = 0) := by
    rw [Int.mul_emod_mul_of_pos _ _ (by omega)]
    constructor
    · intro z
      rcases Int.mul_eq_zero.mp z with z | z
      · omega
      · exact z
    · intro z
      rw [z, Int.mul_zero]
  dsimp only
  simp only [e2, decide_eq_true_eq, Int.one_mul]
/-! ### mirrors -/
theorem pr_neg {a b : Int} (h : Pr a b) : Pr (-a) b := ⟨h.b1, h.b12, by rw [Int.natAbs_neg]; exact h.a40, by rw [Int.natAbs_neg]; exact h.g⟩
theorem her_neg (a b : Int) : vHer (-a) b = vHer a b := by
  unfold vHer
  simp only [Int.neg_eq_zero]
theorem bes_neg (a b : Int) : vBes (-a) b = vBes a b := by
  unfold vBes
  simp only [Int.neg_eq_zero]
theorem geg_neg (a b d : Int) : vGeg (-a) b d = vGeg a b d := by
  unfold vGeg
  have e1 : (d = 1 ∨ -a = 1 ∧ b = 1 ∨ -a = -1 ∧ b = 1) ↔ (d = 1 ∨ a = 1 ∧ b = 1 ∨ a = -1 ∧ b = 1) := by omega
  simp only [Int.neg_eq_zero, e1]
theorem mod_iff {x y : Int} : x % y = 0 ↔ y ∣ x := ⟨Int.dvd_of_emod_eq_zero, Int.emod_eq_zero_of_dvd⟩
theorem dvd_k {k x y : Int} (h : k ≠ 0) : k * x ∣ k * y ↔ x ∣ y := ⟨Int.dvd_of_mul_dvd_mul_left h, Int.mul_dvd_mul_left k⟩
theorem mei_mirror {a b c d e f p q u v : Int} (h : Pr a b) (hl : Pr c d) (ht : Pr e f) (e0 : e ≠ 0) (hf : Low (-a * d - c * b) (b * d) p q) (ho : Low f e u v) : vMei p q c d u v = vMei a b c d e f := by
  obtain ⟨⟨k, k0, e1, e2⟩, q1, co, _, _⟩ := hf
  obtain ⟨⟨j, j0, g1, g2⟩, v1, co2, _, _⟩ := ho
  have b1 := h.b1
  have d1 := hl.b1
  have f1 := ht.b1
  have hb0 : b ≠ 0 := by omega
  have hd0 : d ≠ 0 := by omega
  -- t
  have t1 : (u = 1 ∧ v = 1) ↔ (e = 1 ∧ f = 1) := by
    constructor
    · rintro ⟨rfl, rfl⟩
      have := ht.g
      have e3 : e = f := by rw [g1, g2]
      subst e3
      rw [Nat.gcd_self] at this
      omega
    · rintro ⟨rfl, rfl⟩
      have e3 : j * u = j * v := by rw [← g1, ← g2]
      have e4 : u = v := Int.eq_of_mul_eq_mul_left j0 e3
      subst e4
      rw [Nat.gcd_self] at co2
      omega
  have t2 : (u = -1 ∧ v = 1) ↔ (e = -1 ∧ f = 1) := by
    constructor
    · rintro ⟨rfl, rfl⟩
      have := ht.g
      have e3 : e = -f := by rw [g1, g2]; omega
      subst e3
      rw [Int.natAbs_neg, Nat.gcd_self] at this
      omega
    · rintro ⟨rfl, rfl⟩
      have e3 : j * u = j * (-v) := by rw [Int.mul_neg, ← g1, ← g2]; rfl
      have e4 : u = -v := Int.eq_of_mul_eq_mul_left j0 e3
      subst e4
      rw [Int.natAbs_neg, Nat.gcd_self] at co2
      omega
  -- x + l
  have w1 : q = 1 ↔ wsum 1 a b c d = true := by
    unfold wsum
    rw [decide_eq_true_eq, mod_iff, Int.one_mul]
    have n : b * d ∣ a * d + c * b ↔ b * d ∣ -a * d - c * b := by
      have e3 : -a * d - c * b = -(a * d + c * b) := by grind
      rw [e3, Int.dvd_neg]
    rw [n, e1, e2, dvd_k k0]
    constructor
    · intro z
      rw [z]
      exact Int.one_dvd _
    · intro z
      have : (q.natAbs : Nat) ∣ p.natAbs := Int.natAbs_dvd_natAbs.mpr z
      have e3 := Nat.gcd_eq_right this
      rw [co] at e3
      omega
  have w2 : wsum 1 p q c d = true ↔ b = 1 := by
    unfold wsum
    rw [decide_eq_true_eq, mod_iff, Int.one_mul, ← dvd_k k0]
    have n1 : k * (q * d) = d * d * b := by
      have : k * (q * d) = (k * q) * d := by grind
      rw [this, ← e2]
      grind
    have n2 : k * (p * d + c * q) = d * d * (-a) := by
      have : k * (p * d + c * q) = (k * p) * d + c * (k * q) := by grind
      rw [this, ← e2, ← e1]
      grind
    rw [n1, n2, dvd_k (Int.mul_ne_zero hd0 hd0), Int.dvd_neg]
    constructor
    · intro z
      have : (b.natAbs : Nat) ∣ a.natAbs := Int.natAbs_dvd_natAbs.mpr z
      have e3 := Nat.gcd_eq_right this
      rw [h.g] at e3
      omega
    · intro z
      rw [z]
      exact Int.one_dvd _
  have w3 : wsum 2 p q c d = true ↔ wsum 2 a b c d = true := by
    unfold wsum
    rw [decide_eq_true_eq, decide_eq_true_eq, mod_iff, mod_iff, ← dvd_k k0]
    have n1 : k * (q * d) = d * (b * d) := by
      have : k * (q * d) = (k * q) * d := by grind
      rw [this, ← e2]
      grind
    have n2 : k * (2 * p * d + c * q) = d * (-(2 * a * d + c * b)) := by
      have : k * (2 * p * d + c * q) = 2 * (k * p) * d + c * (k * q) := by grind
      rw [this, ← e2, ← e1]
      grind
    rw [n1, n2, dvd_k hd0, Int.dvd_neg]
  unfold vMei
  have c1 : ((u = 1 ∧ v = 1) ∨ q = 1 ∨ wsum 1 p q c d = true) ↔ ((e = 1 ∧ f = 1) ∨ b = 1 ∨ wsum 1 a b c d = true) := by
    rw [t1, w1, w2]
    constructor
    · rintro (z | z | z)
      · exact .inl z
      · exact .inr (.inr z)
      · exact .inr (.inl z)
    · rintro (z | z | z)
      · exact .inl z
      · exact .inr (.inr z)
      · exact .inr (.inl z)
  have c2 : ((u = -1 ∧ v = 1) ∧ wsum 2 p q c d = true) ↔ ((e = -1 ∧ f = 1) ∧ wsum 2 a b c d = true) := by rw [t2, w3]
  simp only [c1, c2]
/-! ### texts of verdicts -/
theorem rp_word {x : Str} (h : x = wF ∨ x = wL ∨ x = wN) : Rp 0 20 (.str x) := by
  rcases h with rfl | rfl | rfl <;> exact ⟨by decide +kernel, by decide +kernel, by decide +kernel, by decide +kernel⟩
theorem her_w (a b : Int) : vHer a b = wF ∨ vHer a b = wL ∨ vHer a b = wN := by
  unfold vHer
  split <;> simp
theorem bes_w (a b : Int) : vBes a b = wF ∨ vBes a b = wL ∨ vBes a b = wN := by
  unfold vBes
  split <;> simp
theorem geg_w (a b d : Int) : vGeg a b d = wF ∨ vGeg a b d = wL ∨ vGeg a b d = wN := by
  unfold vGeg
  split
  · simp
  · split <;> simp
theorem cha_w (b : Int) : vCha b = wF ∨ vCha b = wL ∨ vCha b = wN := by
  unfold vCha
  split <;> simp
theorem mei_w (a b c d e f : Int) : vMei a b c d e f = wF ∨ vMei a b c d e f = wL ∨ vMei a b c d e f = wN := by
  unfold vMei
  split
  · simp
  · split <;> simp
end T54
set_option Elab.async false
set_option linter.all false
set_option maxRecDepth 100000
set_option maxHeartbeats 8000000
set_option exponentiation.threshold 10000
namespace T54
open PySem PySem.Spec PyProof.Rows L2 XR DL
open PySem.XK (ExF)
def rv3 {α : Type} : List α → List α
  | [a, b, c] => [c, b, a]
  | l => l
theorem rv3_vals {vs : List V} {ws : List Value} (h : vs.length = 3) (r : Vals vs ws) : Vals (rv3 vs) (rv3 ws) := by
  match vs, ws, r with
  | [], _, .nil => cases h
  | [_], _, .cons a .nil => cases h
  | [_, _], _, .cons a (.cons b .nil) => cases h
  | [_, _, _], _, .cons a (.cons b (.cons c .nil)) => exact .cons c (.cons b (.cons a .nil))
  | _ :: _ :: _ :: _ :: _, _, .cons a (.cons b (.cons c (.cons d r))) =>
    simp at h
theorem rv3_rel {K : PySem.W.Frag} {m : Mo} {H : Hp} {vs : List V} {us : List U} (h : vs.length = 3) (r : RelL K m H vs us) : RelL K m H (rv3 vs) (rv3 us) := by
  match vs, us, r with
  | [], _, .nil => cases h
  | [_], _, .cons a .nil => cases h
  | [_, _], _, .cons a (.cons b .nil) => cases h
  | [_, _, _], _, .cons a (.cons b (.cons c .nil)) => exact .cons c (.cons b (.cons a .nil))
  | _ :: _ :: _ :: _ :: _, _, .cons a (.cons b (.cons c (.cons d r))) =>
    simp at h
theorem p2_inj {a b c d : Int} (h : p2 a b = p2 c d) : a = c ∧ b = d := by
  injection h with h
  injection h with h1 h2
  injection h2 with h2 _
  injection h1 with h1
  injection h2 with h2
  exact ⟨h1, h2⟩
theorem okU_p2 (a b : Int) : okU (p2 a b) := ⟨rfl, fun ts e => by
  injection e with e
  subst e
  rfl⟩
theorem pars_ok {CB : Addr} {q : Prop} {Z : XQ} (h : q) : ∀ {us : List U}, (∀ u ∈ us, isPar u = true) → parsQ CB us q Z
  | [], _ => h
  | u :: us, hp => by
    unfold parsQ
    rw [if_pos (hp u (by simp))]
    exact pars_ok h fun v hv => hp v (List.mem_cons_of_mem _ hv)
theorem div_ok {CB : Addr} {a b : Int} {q : Prop} {Z : XQ} (hp : Pr a b) (h0 : a ≠ 0) (h : q) : divQ CB (p2 a b) q Z := by
  unfold divQ
  rw [if_pos ⟨par_p2.mpr hp, by rw [ueq_p2, decide_eq_false h0]; rfl⟩]
  exact h
theorem par_one {a b : Int} (h : Pr a b) : ∀ u ∈ [p2 a b], isPar u = true := fun u hu => by
  rw [List.mem_singleton.mp hu]
  exact par_p2.mpr h
theorem par_two {a b c d : Int} (h : Pr a b) (g : Pr c d) : ∀ u ∈ [p2 a b, p2 c d], isPar u = true := fun u hu => by
  simp only [List.mem_cons, List.not_mem_nil, or_false] at hu
  rcases hu with rfl | rfl
  · exact par_p2.mpr h
  · exact par_p2.mpr g
section
variable {P0 CB : Addr} {m : Mo} {Q : U → Prop} {Z : XQ} {a b c d e f : Int}
theorem use_ste (hP : P0 ∈ m.tabs) (hx : Pr a b) (ht : Pr e f) (e0 : e ≠ 0) (q : Q (.str wF)) : sp_steady_verdict P0 CB m [p2 a b, p2 e f] Q Z := ⟨_, _, rfl, okU_p2 _ _, okU_p2 _ _, hP, pars_ok (div_ok ht e0 q) (par_one hx)⟩
theorem use_her (hP : P0 ∈ m.tabs) (hx : Pr a b) (ht : Pr e f) (q : Q (.str (vHer a b))) : sp_hermite_verdict P0 CB m [p2 a b, p2 e f] Q Z := ⟨_, _, rfl, okU_p2 _ _, okU_p2 _ _, hP, pars_ok (fun a' b' z => by obtain ⟨rfl, rfl⟩ := p2_inj z; exact q) (par_two hx ht)⟩
theorem use_bes (hP : P0 ∈ m.tabs) (hx : Pr a b) (hl : Pr c d) (ht : Pr e f) (e0 : e ≠ 0) (q : Q (.str (vBes a b))) : sp_bessel_verdict P0 CB m [p2 a b, p2 c d, p2 e f] Q Z := ⟨_, _, _, rfl, okU_p2 _ _, okU_p2 _ _, okU_p2 _ _, hP, pars_ok (div_ok ht e0 fun a' b' z => by obtain ⟨rfl, rfl⟩ := p2_inj z; exact q) (par_two hx hl)⟩
theorem use_geg (hP : P0 ∈ m.tabs) (hx : Pr a b) (hl : Pr c d) (q : Q (.str (vGeg a b d))) : sp_gegenbauer_verdict P0 CB m [p2 a b, p2 c d] Q Z := ⟨_, _, rfl, okU_p2 _ _, okU_p2 _ _, hP, pars_ok (fun a' b' c' d' z y => by obtain ⟨rfl, rfl⟩ := p2_inj z; obtain ⟨rfl, rfl⟩ := p2_inj y; exact q) (par_two hx hl)⟩
theorem use_lag (hP : P0 ∈ m.tabs) (hx : Pr a b) (hl : Pr c d) (q : Q (.str (vBes a b))) : sp_laguerre_verdict P0 CB m [p2 a b, p2 c d] Q Z := ⟨_, _, rfl, okU_p2 _ _, okU_p2 _ _, hP, pars_ok (fun a' b' z => by obtain ⟨rfl, rfl⟩ := p2_inj z; exact q) (par_two hx hl)⟩
theorem use_cha (hP : P0 ∈ m.tabs) (hx : Pr a b) (ht : Pr e f) (e0 : e ≠ 0) (q : Q (.str (vCha b))) : sp_charlier_verdict P0 CB m [p2 a b, p2 e f] Q Z := ⟨_, _, rfl, okU_p2 _ _, okU_p2 _ _, hP, pars_ok (div_ok ht e0 fun a' b' z => by obtain ⟨rfl, rfl⟩ := p2_inj z; exact q) (par_one hx)⟩
theorem use_mei (hP : P0 ∈ m.tabs) (hx : Pr a b) (hl : Pr c d) (ht : Pr e f) (e0 : e ≠ 0) (q : Q (.str (vMei a b c d e f))) : sp_meixner_verdict P0 CB m [p2 a b, p2 c d, p2 e f] Q Z := ⟨_, _, _, rfl, okU_p2 _ _, okU_p2 _ _, okU_p2 _ _, hP, pars_ok (div_ok ht e0 fun a' b' c' d' e' f' z y x => by obtain ⟨rfl, rfl⟩ := p2_inj z; obtain ⟨rfl, rfl⟩ := p2_inj y; obtain ⟨rfl, rfl⟩ := p2_inj x; exact q) (par_two hx hl)⟩
theorem use_lv {word : Str} {ts : List U} (hw : word ∈ wWords) (h0 : atI ts 0 = some (p2 a b)) (h1 : atI ts 1 = some (p2 c d)) (h2 : atI ts (-1) = some (p2 e f)) (hx : Pr a b) (hl : Pr c d) (q : Q (.str (lawV word (p2 a b) (p2 c d) (p2 e f) a b d e f))) : sp_lv m [.str word, .tup ts] Q Z :=
  ⟨_, _, _, _, _, _, _, _, rfl, hw, h0, h1, h2, hx, fun _ => hl, q⟩
end
theorem flat_word {x : Str} (h : x = wF ∨ x = wL ∨ x = wN) : flat (.str x) = true := by
  rcases h with rfl | rfl | rfl <;> decide +kernel
theorem ueq_three (x y z : Str) : ueq (.lst [.str x, .str y, .str z]) (.lst [.str x, .str y, .str z]) = true := by
  show (ueq (.str x) (.str x) && (ueq (.str y) (.str y) && (ueq (.str z) (.str z) && true))) = true
  rw [ueq_str, ueq_str, ueq_str]
  simp
section
variable {P : Program} {w : World} {K : PySem.W.Frag} {mg : Str → Option Value} {base : Heap}
theorem sc_law : FnScope ["script", "deck", "turn", "l", "t", "told", "again", "due", "less", "x", "h", "far", "over"] ["script"] (defScope s_law) := ⟨rfl, rfl, rfl, by decide +kernel, rfl, by decide +kernel, by decide +kernel⟩
theorem ok_law {f aD a0 a1 a2 a3 a4 a5 a6 a7 a8 a9 a10 a11 a12 : Addr} {fdL fD f0 f1 f2 f3 f4 f5 f6 f7 f8 f9 f10 f11 f12 : FuncData} {P0 CB : Addr} (D : DL.Def K mg "law" s_law f fdL) (D__law_deck : DL.Def K mg "_law_deck" sDeck aD fD)
    (D__law_draw : DL.Def K mg "_law_draw" sDraw a0 f0) (G__law_draw : Fd P w K mg base 1 a0 f0 ["deck", "many"] sp_draw)
    (D__law_pick : DL.Def K mg "_law_pick" s__law_pick a1 f1) (G__law_pick : Fd P w K mg base 2 a1 f1 ["deck", "some"] sp_pick)
    (D__law_parameter : DL.Def K mg "_law_parameter" s__law_parameter a2 f2) (G__law_parameter : Fd P w K mg base 3 a2 f2 ["deck", "may_be_nil"] sp_param)
    (D__law_near : DL.Def K mg "_law_near" s__law_near a3 f3) (G__law_near : Fd P w K mg base 3 a3 f3 ["deck", "x"] sp_nearP)
    (D__law_pair : DL.Def K mg "_law_pair" s__law_pair a4 f4) (G__law_pair : Fd P w K mg base 2 a4 f4 ["top", "bottom"] sp__law_pair)
    (D__law_named_verdict : DL.Def K mg "_law_named_verdict" s__law_named_verdict a5 f5) (G__law_named_verdict : Fd P w K mg base 2 a5 f5 ["word", "some"] sp_lv)
    (D_steady_verdict : DL.Def K mg "steady_verdict" s_steady_verdict a6 f6) (G_steady_verdict : Fd P w K mg base 7 a6 f6 ["x", "t"] (sp_steady_verdict P0 CB))
    (D_hermite_verdict : DL.Def K mg "hermite_verdict" s_hermite_verdict a7 f7) (G_hermite_verdict : Fd P w K mg base 7 a7 f7 ["x", "t"] (sp_hermite_verdict P0 CB))
    (D_bessel_verdict : DL.Def K mg "bessel_verdict" s_bessel_verdict a8 f8) (G_bessel_verdict : Fd P w K mg base 7 a8 f8 ["x", "l", "t"] (sp_bessel_verdict P0 CB))
    (D_gegenbauer_verdict : DL.Def K mg "gegenbauer_verdict" s_gegenbauer_verdict a9 f9) (G_gegenbauer_verdict : Fd P w K mg base 7 a9 f9 ["x", "l"] (sp_gegenbauer_verdict P0 CB))
    (D_laguerre_verdict : DL.Def K mg "laguerre_verdict" s_laguerre_verdict a10 f10) (G_laguerre_verdict : Fd P w K mg base 7 a10 f10 ["x", "l"] (sp_laguerre_verdict P0 CB))
    (D_charlier_verdict : DL.Def K mg "charlier_verdict" s_charlier_verdict a11 f11) (G_charlier_verdict : Fd P w K mg base 7 a11 f11 ["x", "t"] (sp_charlier_verdict P0 CB))
    (D_meixner_verdict : DL.Def K mg "meixner_verdict" s_meixner_verdict a12 f12) (G_meixner_verdict : Fd P w K mg base 7 a12 f12 ["x", "l", "t"] (sp_meixner_verdict P0 CB))
    (grepr : mg "repr" = none) (gint : mg "int" = none) (glist : mg "list" = none) (grange : mg "range" = none) (gabs : mg "abs" = none) : LawFn P w K mg base 9 63 f fdL "script" [P0] := by
  have GD : FnOk P w K mg base CX0 1 aD fD ["script"] (spDeck K) := ok_deck D__law_deck.F gint glist
  have bD : Binds K fD ["script"] [] := D__law_deck.F.binds fun _ _ _ _ _ _ us hl => match us, hl with | [_], _ => rfl
  have b__law_draw : Binds K f0 ["deck", "many"] [] := D__law_draw.F.binds fun _ _ _ _ _ _ us hl => match us, hl with | [_, _], _ => rfl
  have b__law_pick : Binds K f1 ["deck", "some"] [] := D__law_pick.F.binds fun _ _ _ _ _ _ us hl => match us, hl with | [_, _], _ => rfl
  have b__law_parameter : Binds K f2 ["deck", "may_be_nil"] [] := D__law_parameter.F.binds fun _ _ _ _ _ _ us hl => match us, hl with | [_, _], _ => rfl
  have b__law_near : Binds K f3 ["deck", "x"] [] := D__law_near.F.binds fun _ _ _ _ _ _ us hl => match us, hl with | [_, _], _ => rfl
  have b__law_pair : Binds K f4 ["top", "bottom"] [] := D__law_pair.F.binds fun _ _ _ _ _ _ us hl => match us, hl with | [_, _], _ => rfl
  have b__law_named_verdict : Binds K f5 ["word", "some"] [] := D__law_named_verdict.F.binds fun _ _ _ _ _ _ us hl => match us, hl with | [_, _], _ => rfl
  have b_steady_verdict : Binds K f6 ["x", "t"] [] := D_steady_verdict.F.binds fun _ _ _ _ _ _ us hl => match us, hl with | [_, _], _ => rfl
  have b_hermite_verdict : Binds K f7 ["x", "t"] [] := D_hermite_verdict.F.binds fun _ _ _ _ _ _ us hl => match us, hl with | [_, _], _ => rfl
  have b_bessel_verdict : Binds K f8 ["x", "l", "t"] [] := D_bessel_verdict.F.binds fun _ _ _ _ _ _ us hl => match us, hl with | [_, _, _], _ => rfl
  have b_gegenbauer_verdict : Binds K f9 ["x", "l"] [] := D_gegenbauer_verdict.F.binds fun _ _ _ _ _ _ us hl => match us, hl with | [_, _], _ => rfl
  have b_laguerre_verdict : Binds K f10 ["x", "l"] [] := D_laguerre_verdict.F.binds fun _ _ _ _ _ _ us hl => match us, hl with | [_, _], _ => rfl
  have b_charlier_verdict : Binds K f11 ["x", "t"] [] := D_charlier_verdict.F.binds fun _ _ _ _ _ _ us hl => match us, hl with | [_, _], _ => rfl
  have b_meixner_verdict : Binds K f12 ["x", "l", "t"] [] := D_meixner_verdict.F.binds fun _ _ _ _ _ _ us hl => match us, hl with | [_, _, _], _ => rfl
  have k_steady_verdict : KBd K f6 ["x", "t"] ["t", "x"] 2 sw2 := kbd_of D_steady_verdict.F (fun _ _ _ _ _ _ us hl => match us, hl with | [_, _], _ => rfl) sw2_vals sw2_rel
  have k_hermite_verdict : KBd K f7 ["x", "t"] ["t", "x"] 2 sw2 := kbd_of D_hermite_verdict.F (fun _ _ _ _ _ _ us hl => match us, hl with | [_, _], _ => rfl) sw2_vals sw2_rel
  have k_bessel_verdict : KBd K f8 ["x", "l", "t"] ["t", "l", "x"] 3 rv3 := kbd_of D_bessel_verdict.F (fun _ _ _ _ _ _ us hl => match us, hl with | [_, _, _], _ => rfl) rv3_vals rv3_rel
  have k_gegenbauer_verdict : KBd K f9 ["x", "l"] ["l", "x"] 2 sw2 := kbd_of D_gegenbauer_verdict.F (fun _ _ _ _ _ _ us hl => match us, hl with | [_, _], _ => rfl) sw2_vals sw2_rel
  have k_laguerre_verdict : KBd K f10 ["x", "l"] ["l", "x"] 2 sw2 := kbd_of D_laguerre_verdict.F (fun _ _ _ _ _ _ us hl => match us, hl with | [_, _], _ => rfl) sw2_vals sw2_rel
  have k_charlier_verdict : KBd K f11 ["x", "t"] ["t", "x"] 2 sw2 := kbd_of D_charlier_verdict.F (fun _ _ _ _ _ _ us hl => match us, hl with | [_, _], _ => rfl) sw2_vals sw2_rel
  have k_meixner_verdict : KBd K f12 ["x", "l", "t"] ["t", "l", "x"] 3 rv3 := kbd_of D_meixner_verdict.F (fun _ _ _ _ _ _ us hl => match us, hl with | [_, _, _], _ => rfl) rv3_vals rv3_rel
  refine law_of D.F sc_law fun cdv A outer s H sa ns hr hG tk hlen hS hT => ?_
  have hu := hr.units
  refine ⟨_, pss_cons (ps_set (i := 1) sc_law.nd rfl (.inl rfl) (pe_call GD (hr.mono (by decide)) (by rfl) D__law_deck.g D__law_deck.F.kp bD .nil pass0 (pa_cons (pv 0) pa_nil)))
    (dss_cons (ds_for (ps_for (passes_of rfl) rfl (di_range1 (a := .Name "" ⟨0, 0, 0, 0⟩) (pi_range1 (by rfl) grange (da_cons de_int da_nil))) (dg_name (pg_name (i := 2) sc_law.nd rfl (.inl rfl))) (dss_cons (ds_of_par (ps_par (i := 9) (j := 10) (by rfl) sc_law.nd rfl rfl (by decide) rfl rfl (da_cons (de_call G__law_parameter (hr.mono (by decide)) hG tk (by rfl) D__law_parameter.g D__law_parameter.F.kp b__law_parameter (da_cons (de_var (pv 1)) (da_cons de_bl da_nil))) (da_cons (de_call G__law_parameter (hr.mono (by decide)) hG tk (by rfl) D__law_parameter.g D__law_parameter.F.kp b__law_parameter (da_cons (de_var (pv 1)) (da_cons de_bl da_nil))) da_nil)) (by rfl)))
    (dss_cons (ds_set (i := 3) sc_law.nd rfl (.inl rfl) (de_if (dt_eq hu (de_call G__law_draw (hr.mono (by decide)) hG tk (by rfl) D__law_draw.g D__law_draw.F.kp b__law_draw (da_cons (de_var (pv 1)) (da_cons de_int da_nil))) de_int) (de_call G__law_near (hr.mono (by decide)) hG tk (by rfl) D__law_near.g D__law_near.F.kp b__law_near (da_cons (de_var (pv 1)) (da_cons (de_var (pv 9)) da_nil))) (de_call G__law_parameter (hr.mono (by decide)) hG tk (by rfl) D__law_parameter.g D__law_parameter.F.kp b__law_parameter (da_cons (de_var (pv 1)) (da_cons de_bl da_nil)))))
    (dss_cons (ds_set (i := 4) sc_law.nd rfl (.inl rfl) (de_call G__law_pick (hr.mono (by decide)) hG tk (by rfl) D__law_pick.g D__law_pick.F.kp b__law_pick (da_cons (de_var (pv 1)) (da_cons (de_lst (da_cons (de_tup (da_cons de_int (da_cons de_int da_nil))) (da_cons (de_tup (da_cons (de_neg de_int) (da_cons de_int da_nil))) (da_cons (de_tup (da_cons (de_neg de_int) (da_cons de_int da_nil))) (da_cons (de_call G__law_parameter (hr.mono (by decide)) hG tk (by rfl) D__law_parameter.g D__law_parameter.F.kp b__law_parameter (da_cons (de_var (pv 1)) (da_cons de_bl da_nil))) (da_cons (de_call G__law_parameter (hr.mono (by decide)) hG tk (by rfl) D__law_parameter.g D__law_parameter.F.kp b__law_parameter (da_cons (de_var (pv 1)) (da_cons de_bl da_nil))) da_nil)))))) da_nil))))
    (dss_cons (ds_set (i := 5) sc_law.nd rfl (.inl rfl) (de_lst (da_cons (de_call G_steady_verdict (hr.mono (by decide)) hG tk (by rfl) D_steady_verdict.g D_steady_verdict.F.kp b_steady_verdict (da_cons (de_var (pv 9)) (da_cons (de_var (pv 4)) da_nil))) (da_cons (de_call G_hermite_verdict (hr.mono (by decide)) hG tk (by rfl) D_hermite_verdict.g D_hermite_verdict.F.kp b_hermite_verdict (da_cons (de_var (pv 9)) (da_cons (de_var (pv 10)) da_nil))) (da_cons (de_call G_bessel_verdict (hr.mono (by decide)) hG tk (by rfl) D_bessel_verdict.g D_bessel_verdict.F.kp b_bessel_verdict (da_cons (de_var (pv 9)) (da_cons (de_var (pv 3)) (da_cons (de_var (pv 4)) da_nil)))) (da_cons (de_call G_gegenbauer_verdict (hr.mono (by decide)) hG tk (by rfl) D_gegenbauer_verdict.g D_gegenbauer_verdict.F.kp b_gegenbauer_verdict (da_cons (de_var (pv 9)) (da_cons (de_var (pv 3)) da_nil))) (da_cons (de_call G_laguerre_verdict (hr.mono (by decide)) hG tk (by rfl) D_laguerre_verdict.g D_laguerre_verdict.F.kp b_laguerre_verdict (da_cons (de_var (pv 9)) (da_cons (de_var (pv 3)) da_nil))) da_nil)))))))
    (dss_cons (ds_set (i := 5) sc_law.nd rfl (.inl rfl) (de_plus (de_var (pv 5)) (de_lst (da_cons (de_call G_charlier_verdict (hr.mono (by decide)) hG tk (by rfl) D_charlier_verdict.g D_charlier_verdict.F.kp b_charlier_verdict (da_cons (de_var (pv 9)) (da_cons (de_var (pv 4)) da_nil))) (da_cons (de_call G_meixner_verdict (hr.mono (by decide)) hG tk (by rfl) D_meixner_verdict.g D_meixner_verdict.F.kp b_meixner_verdict (da_cons (de_var (pv 9)) (da_cons (de_var (pv 3)) (da_cons (de_var (pv 4)) da_nil)))) da_nil)))))
    (dss_cons (ds_set (i := 6) sc_law.nd rfl (.inl rfl) (de_lst (da_cons (de_callK G_steady_verdict (hr.mono (by decide)) hG tk (by rfl) D_steady_verdict.g D_steady_verdict.F.kp k_steady_verdict (dk_cons (de_var (pv 4)) (dk_cons (de_var (pv 9)) dk_nil))) (da_cons (de_callK G_hermite_verdict (hr.mono (by decide)) hG tk (by rfl) D_hermite_verdict.g D_hermite_verdict.F.kp k_hermite_verdict (dk_cons (de_var (pv 10)) (dk_cons (de_var (pv 9)) dk_nil))) (da_cons (de_callK G_bessel_verdict (hr.mono (by decide)) hG tk (by rfl) D_bessel_verdict.g D_bessel_verdict.F.kp k_bessel_verdict (dk_cons (de_var (pv 4)) (dk_cons (de_var (pv 3)) (dk_cons (de_var (pv 9)) dk_nil)))) (da_cons (de_callK G_gegenbauer_verdict (hr.mono (by decide)) hG tk (by rfl) D_gegenbauer_verdict.g D_gegenbauer_verdict.F.kp k_gegenbauer_verdict (dk_cons (de_var (pv 3)) (dk_cons (de_var (pv 9)) dk_nil))) da_nil))))))
    (dss_cons (ds_set (i := 6) sc_law.nd rfl (.inl rfl) (de_plus (de_var (pv 6)) (de_lst (da_cons (de_callK G_laguerre_verdict (hr.mono (by decide)) hG tk (by rfl) D_laguerre_verdict.g D_laguerre_verdict.F.kp k_laguerre_verdict (dk_cons (de_var (pv 3)) (dk_cons (de_var (pv 9)) dk_nil))) (da_cons (de_callK G_charlier_verdict (hr.mono (by decide)) hG tk (by rfl) D_charlier_verdict.g D_charlier_verdict.F.kp k_charlier_verdict (dk_cons (de_var (pv 4)) (dk_cons (de_var (pv 9)) dk_nil))) (da_cons (de_callK G_meixner_verdict (hr.mono (by decide)) hG tk (by rfl) D_meixner_verdict.g D_meixner_verdict.F.kp k_meixner_verdict (dk_cons (de_var (pv 4)) (dk_cons (de_var (pv 3)) (dk_cons (de_var (pv 9)) dk_nil)))) da_nil))))))
    (dss_cons (ds_set (i := 7) sc_law.nd rfl (.inl rfl) (de_lst (da_cons (de_call G__law_named_verdict (hr.mono (by decide)) hG tk (by rfl) D__law_named_verdict.g D__law_named_verdict.F.kp b__law_named_verdict (da_cons de_str (da_cons (de_tup (da_cons (de_var (pv 9)) (da_cons (de_var (pv 4)) da_nil))) da_nil))) (da_cons (de_call G__law_named_verdict (hr.mono (by decide)) hG tk (by rfl) D__law_named_verdict.g D__law_named_verdict.F.kp b__law_named_verdict (da_cons de_str (da_cons (de_tup (da_cons (de_var (pv 9)) (da_cons (de_var (pv 10)) da_nil))) da_nil))) (da_cons (de_call G__law_named_verdict (hr.mono (by decide)) hG tk (by rfl) D__law_named_verdict.g D__law_named_verdict.F.kp b__law_named_verdict (da_cons de_str (da_cons (de_tup (da_cons (de_var (pv 9)) (da_cons (de_var (pv 3)) (da_cons (de_var (pv 4)) da_nil)))) da_nil))) da_nil)))))
    (dss_cons (ds_set (i := 7) sc_law.nd rfl (.inl rfl) (de_plus (de_var (pv 7)) (de_lst (da_cons (de_call G__law_named_verdict (hr.mono (by decide)) hG tk (by rfl) D__law_named_verdict.g D__law_named_verdict.F.kp b__law_named_verdict (da_cons de_str (da_cons (de_tup (da_cons (de_var (pv 9)) (da_cons (de_var (pv 3)) da_nil))) da_nil))) (da_cons (de_call G__law_named_verdict (hr.mono (by decide)) hG tk (by rfl) D__law_named_verdict.g D__law_named_verdict.F.kp b__law_named_verdict (da_cons de_str (da_cons (de_tup (da_cons (de_var (pv 9)) (da_cons (de_var (pv 3)) da_nil))) da_nil))) da_nil)))))
    (dss_cons (ds_set (i := 7) sc_law.nd rfl (.inl rfl) (de_plus (de_var (pv 7)) (de_lst (da_cons (de_call G__law_named_verdict (hr.mono (by decide)) hG tk (by rfl) D__law_named_verdict.g D__law_named_verdict.F.kp b__law_named_verdict (da_cons de_str (da_cons (de_tup (da_cons (de_var (pv 9)) (da_cons (de_var (pv 4)) da_nil))) da_nil))) (da_cons (de_call G__law_named_verdict (hr.mono (by decide)) hG tk (by rfl) D__law_named_verdict.g D__law_named_verdict.F.kp b__law_named_verdict (da_cons de_str (da_cons (de_tup (da_cons (de_var (pv 9)) (da_cons (de_var (pv 3)) (da_cons (de_var (pv 4)) da_nil)))) da_nil))) da_nil)))))
    (dss_cons (ds_if (dt_neS (de_callB cal_rp (pe_callB (call_rp hG hu) (by rfl) grepr (by decide +kernel) (da_cons (de_tup (da_cons (de_var (pv 5)) (da_cons (de_var (pv 6)) da_nil))) da_nil))) (de_callB cal_rp (pe_callB (call_rp hG hu) (by rfl) grepr (by decide +kernel) (da_cons (de_tup (da_cons (de_var (pv 7)) (da_cons (de_var (pv 7)) da_nil))) da_nil)))) (dss_one (ds_ret de_bl)) dss_nil)
    (dss_cons (ds_set (i := 8) sc_law.nd rfl (.inl rfl) (de_tup (da_cons (de_neg (de_ix (de_var (pv 9)) de_int (fun _ _ => rfl))) (da_cons (de_ix (de_var (pv 9)) de_int (fun _ _ => rfl)) da_nil))))
    (dss_cons (ds_if (dt_ne hu (de_lst (da_cons (de_call G_hermite_verdict (hr.mono (by decide)) hG tk (by rfl) D_hermite_verdict.g D_hermite_verdict.F.kp b_hermite_verdict (da_cons (de_var (pv 8)) (da_cons (de_var (pv 10)) da_nil))) (da_cons (de_call G_bessel_verdict (hr.mono (by decide)) hG tk (by rfl) D_bessel_verdict.g D_bessel_verdict.F.kp b_bessel_verdict (da_cons (de_var (pv 8)) (da_cons (de_var (pv 3)) (da_cons (de_var (pv 4)) da_nil)))) (da_cons (de_call G_gegenbauer_verdict (hr.mono (by decide)) hG tk (by rfl) D_gegenbauer_verdict.g D_gegenbauer_verdict.F.kp b_gegenbauer_verdict (da_cons (de_var (pv 8)) (da_cons (de_var (pv 3)) da_nil))) da_nil)))) (de_sl (de_var (pv 5)) (do_some de_int) (do_some de_int))) (dss_one (ds_ret de_bl)) dss_nil)
    (dss_cons (ds_of_par (ps_par (i := 11) (j := 12) (by rfl) sc_law.nd rfl rfl (by decide) rfl rfl (da_cons (de_call G__law_pair (hr.mono (by decide)) hG tk (by rfl) D__law_pair.g D__law_pair.F.kp b__law_pair (da_cons (de_sub (de_star (de_neg (de_ix (de_var (pv 9)) de_int (fun _ _ => rfl))) (de_ix (de_var (pv 3)) de_int (fun _ _ => rfl))) (de_star (de_ix (de_var (pv 3)) de_int (fun _ _ => rfl)) (de_ix (de_var (pv 9)) de_int (fun _ _ => rfl)))) (da_cons (de_star (de_ix (de_var (pv 9)) de_int (fun _ _ => rfl)) (de_ix (de_var (pv 3)) de_int (fun _ _ => rfl))) da_nil))) (da_cons (de_call G__law_pair (hr.mono (by decide)) hG tk (by rfl) D__law_pair.g D__law_pair.F.kp b__law_pair (da_cons (de_ix (de_var (pv 4)) de_int (fun _ _ => rfl)) (da_cons (de_ix (de_var (pv 4)) de_int (fun _ _ => rfl)) da_nil))) da_nil)) (by rfl)))
    (dss_one (ds_if (L2.PW.pt (dw_and (dt_le (de_callB cal_abs (pe_callB call_abs (by rfl) gabs PyProof.Rows.boot_abs (da_cons (de_ix (de_var (pv 11)) de_int (fun _ _ => rfl)) da_nil))) de_int) (dw_and (dt_le (de_ix (de_var (pv 11)) de_int (fun _ _ => rfl)) de_int) (dw_and (dt_le (de_ix (de_var (pv 12)) de_int (fun _ _ => rfl)) de_int) (dw_and1 (dt_ne hu (de_call G_meixner_verdict (hr.mono (by decide)) hG tk (by rfl) D_meixner_verdict.g D_meixner_verdict.F.kp b_meixner_verdict (da_cons (de_var (pv 11)) (da_cons (de_var (pv 3)) (da_cons (de_var (pv 12)) da_nil)))) (de_ix (de_var (pv 5)) de_int (fun _ _ => rfl)))))))) (dss_one (ds_ret de_bl)) dss_nil))))))))))))))))))
    (dss_one (ds_ret de_bl))), ?_⟩
  refine ⟨_, rfl, sa, ns, rfl, hS, hlen, fun d l H' hd hl hne DA sm => ?_⟩
  refine law_go (tabs := [P0]) [some (.raw (.ref sa)), some (.raw (.ref d)), none, none, none, none, none, none, none, none, none, none, none] DA (fun b hb => ?_) rfl ?_
  · obtain ⟨ps, e, z⟩ := hT b hb
    exact ⟨ps, sm _ _ e, z⟩
  · have hP : P0 ∈ [P0] := List.mem_singleton.mpr rfl
    refine dFor_r1 (by decide) (by decide) (fun i ρ => ∃ o2 o3 o4 o5 o6 o7 o8 o9 o10 o11 o12 : Option U, ρ = [some (.raw (.ref sa)), some (.raw (.ref d)), o2, o3, o4, o5, o6, o7, o8, o9, o10, o11, o12]) ⟨_, _, _, _, _, _, _, _, _, _, _, rfl⟩ ?_ (fun ρ _ => rfl)
    rintro i u ρ' hi ⟨o2', o3, o4, o5, o6, o7, o8, o9, o10, o11, o12, rfl⟩
    have two : 2 ≤ sizeLine := le_line (by decide)
    have three : 3 ≤ sizeLine := le_line (by decide)
    have four : 4 ≤ sizeLine := le_line (by decide)
    have five : 5 ≤ sizeLine := le_line (by decide)
    have sm : ∀ z : Int, z.natAbs ≤ 500 → Bd 10 z := fun z hz => Nat.lt_of_le_of_lt (show z.natAbs ≤ 500 from hz) (by decide)
    have cm : ∀ z t : Int, z.natAbs ≤ 500 → t.natAbs ≤ 500 → CMulW z t := fun z t hz ht => mul_ok 10 10 (sm z hz) (sm t ht) (by decide) (by decide) (by decide)
    -- x, h
    refine seq_gen (fun p : (Int × Int) × Int × Int => [some (.raw (.ref sa)), some (.raw (.ref d)), some u, o3, o4, o5, o6, o7, o8, some (p2 p.1.1 p.1.2), some (p2 p.2.1 p.2.2), o11, o12]) (fun p => Pr p.1.1 p.1.2 ∧ Pr p.2.1 p.2.2) (fun D' hn ht => ?_) ?_
    · simp (config := { maxSteps := 1000000 }) only [dSeq, dIfS, dTest, dOp, dUn, dVar, dC, dTup, dLst, dNil, dCons, dRet, dRetN, dDrop, dSet, dPar, dAsg, dgTup, dgCons, dgNil, dgName, dCB, dNext, dIf, dAnd, dOr, dNot, dNotV, dAndV, dOrV, dCall, dCallK, dRaise, dAug, dSl, dPart, dNoPart, startU_eq, List.map_cons, List.map_nil, List.cons_append, List.nil_append, List.length_cons, List.length_nil, List.replicate, List.getElem?_cons_zero, List.getElem?_cons_succ, List.getElem?_nil, List.set_cons_zero, List.set_cons_succ, Nat.reduceAdd, Nat.reduceSub, ex_uu, ex_bl, ex_tup, ex_lst, ex_int, ex_cons, ex_two, gEq_int, gNe_int, gEq_p2, gNe_p2, gEq_str, ixp0, ixp1, plus_int, star_int, gI_int, gIC_int, ix0, ix1, ix2, ix3, fGcd_int, fIsq_int, fAbs_int, fInt_int, fLen_tup, fLen_lst, fMax2_int, gNeg_int, gFdv, gMod, DL.gSub, gPow, gLt, gLe, gGt, gGe, eq_self, decide_eq_true_eq, Bool.not_eq_true', decide_eq_false_iff_not, true_and, and_true, if_true, if_false, Bool.false_eq_true, Bool.not_true, Bool.not_false]
      exact ⟨d, l, true, rfl, rfl, fun x0 x1 hx _ => ⟨d, l, true, rfl, rfl, fun h0 h1 hh _ => hn ((x0, x1), h0, h1) ⟨hx, hh⟩⟩⟩
    rintro ⟨⟨x0, x1⟩, h0, h1⟩ ⟨hx, hh⟩
    replace hx : Pr x0 x1 := hx
    replace hh : Pr h0 h1 := hh
    dsimp only
    -- l
    refine seq_gen (fun p : Int × Int => [some (.raw (.ref sa)), some (.raw (.ref d)), some u, some (p2 p.1 p.2), o4, o5, o6, o7, o8, some (p2 x0 x1), some (p2 h0 h1), o11, o12]) (fun p => Pr p.1 p.2) (fun D' hn ht => ?_) ?_
    · simp (config := { maxSteps := 1000000 }) only [dSeq, dIfS, dTest, dOp, dUn, dVar, dC, dTup, dLst, dNil, dCons, dRet, dRetN, dDrop, dSet, dPar, dAsg, dgTup, dgCons, dgNil, dgName, dCB, dNext, dIf, dAnd, dOr, dNot, dNotV, dAndV, dOrV, dCall, dCallK, dRaise, dAug, dSl, dPart, dNoPart, startU_eq, List.map_cons, List.map_nil, List.cons_append, List.nil_append, List.length_cons, List.length_nil, List.replicate, List.getElem?_cons_zero, List.getElem?_cons_succ, List.getElem?_nil, List.set_cons_zero, List.set_cons_succ, Nat.reduceAdd, Nat.reduceSub, ex_uu, ex_bl, ex_tup, ex_lst, ex_int, ex_cons, ex_two, gEq_int, gNe_int, gEq_p2, gNe_p2, gEq_str, ixp0, ixp1, plus_int, star_int, gI_int, gIC_int, ix0, ix1, ix2, ix3, fGcd_int, fIsq_int, fAbs_int, fInt_int, fLen_tup, fLen_lst, fMax2_int, gNeg_int, gFdv, gMod, DL.gSub, gPow, gLt, gLe, gGt, gGe, eq_self, decide_eq_true_eq, Bool.not_eq_true', decide_eq_false_iff_not, true_and, and_true, if_true, if_false, Bool.false_eq_true, Bool.not_true, Bool.not_false]
      refine ⟨d, l, 2, rfl, rfl, by decide, by decide, fun y y0 y1 => (gEq_int _ _ _).mpr ⟨_, rfl, ?_⟩⟩
      split
      · exact ⟨d, l, _, _, rfl, rfl, hx, fun i j h => hn (i, j) h⟩
      · exact ⟨d, l, true, rfl, rfl, fun i j h _ => hn (i, j) h⟩
    rintro ⟨l0, l1⟩ hl
    replace hl : Pr l0 l1 := hl
    dsimp only
    -- t
    refine seq_gen (fun p : Int × Int => [some (.raw (.ref sa)), some (.raw (.ref d)), some u, some (p2 l0 l1), some (p2 p.1 p.2), o5, o6, o7, o8, some (p2 x0 x1), some (p2 h0 h1), o11, o12]) (fun p => Pr p.1 p.2 ∧ p.1 ≠ 0) (fun D' hn ht => ?_) ?_
    · simp (config := { maxSteps := 1000000 }) only [dSeq, dIfS, dTest, dOp, dUn, dVar, dC, dTup, dLst, dNil, dCons, dRet, dRetN, dDrop, dSet, dPar, dAsg, dgTup, dgCons, dgNil, dgName, dCB, dNext, dIf, dAnd, dOr, dNot, dNotV, dAndV, dOrV, dCall, dCallK, dRaise, dAug, dSl, dPart, dNoPart, startU_eq, List.map_cons, List.map_nil, List.cons_append, List.nil_append, List.length_cons, List.length_nil, List.replicate, List.getElem?_cons_zero, List.getElem?_cons_succ, List.getElem?_nil, List.set_cons_zero, List.set_cons_succ, Nat.reduceAdd, Nat.reduceSub, ex_uu, ex_bl, ex_tup, ex_lst, ex_int, ex_cons, ex_two, gEq_int, gNe_int, gEq_p2, gNe_p2, gEq_str, ixp0, ixp1, plus_int, star_int, gI_int, gIC_int, ix0, ix1, ix2, ix3, fGcd_int, fIsq_int, fAbs_int, fInt_int, fLen_tup, fLen_lst, fMax2_int, gNeg_int, gFdv, gMod, DL.gSub, gPow, gLt, gLe, gGt, gGe, eq_self, decide_eq_true_eq, Bool.not_eq_true', decide_eq_false_iff_not, true_and, and_true, if_true, if_false, Bool.false_eq_true, Bool.not_true, Bool.not_false]
      simp only [two, true_and]
      refine ⟨d, l, false, rfl, rfl, fun i j h n0 => ⟨d, l, false, rfl, rfl, fun i' j' h' n0' => ⟨five, d, l, _, rfl, rfl, by show 0 < 5; decide, by show 5 < 1000; decide, fun u hu => ?_⟩⟩⟩
      simp only [List.mem_cons, List.not_mem_nil, or_false] at hu
      have p1 : Pr 1 1 := ⟨by decide, by decide, by decide, by decide⟩
      have p2 : Pr (-1) 1 := ⟨by decide, by decide, by decide, by decide⟩
      rcases hu with rfl | rfl | rfl | rfl | rfl
      · exact hn (1, 1) ⟨p1, by decide⟩
      · exact hn (-1, 1) ⟨p2, by decide⟩
      · exact hn (-1, 1) ⟨p2, by decide⟩
      · exact hn (i, j) ⟨h, n0 rfl⟩
      · exact hn (i', j') ⟨h', n0' rfl⟩
    rintro ⟨t0, t1⟩ ⟨ht, tn⟩
    replace ht : Pr t0 t1 := ht
    replace tn : t0 ≠ 0 := tn
    dsimp only
    -- what is told
    refine seq_stop [some (.raw (.ref sa)), some (.raw (.ref d)), some u, some (p2 l0 l1), some (p2 t0 t1), some (.lst [.str wF, .str (vHer x0 x1), .str (vBes x0 x1), .str (vGeg x0 x1 l1), .str (vBes x0 x1)]), o6, o7, o8, some (p2 x0 x1), some (p2 h0 h1), o11, o12] (fun D' hn hrt => ?_) ?_
    · simp (config := { maxSteps := 1000000 }) only [dSeq, dIfS, dTest, dOp, dUn, dVar, dC, dTup, dLst, dNil, dCons, dRet, dRetN, dDrop, dSet, dPar, dAsg, dgTup, dgCons, dgNil, dgName, dCB, dNext, dIf, dAnd, dOr, dNot, dNotV, dAndV, dOrV, dCall, dCallK, dRaise, dAug, dSl, dPart, dNoPart, startU_eq, List.map_cons, List.map_nil, List.cons_append, List.nil_append, List.length_cons, List.length_nil, List.replicate, List.getElem?_cons_zero, List.getElem?_cons_succ, List.getElem?_nil, List.set_cons_zero, List.set_cons_succ, Nat.reduceAdd, Nat.reduceSub, ex_uu, ex_bl, ex_tup, ex_lst, ex_int, ex_cons, ex_two, gEq_int, gNe_int, gEq_p2, gNe_p2, gEq_str, ixp0, ixp1, plus_int, star_int, gI_int, gIC_int, ix0, ix1, ix2, ix3, fGcd_int, fIsq_int, fAbs_int, fInt_int, fLen_tup, fLen_lst, fMax2_int, gNeg_int, gFdv, gMod, DL.gSub, gPow, gLt, gLe, gGt, gGe, eq_self, decide_eq_true_eq, Bool.not_eq_true', decide_eq_false_iff_not, true_and, and_true, if_true, if_false, Bool.false_eq_true, Bool.not_true, Bool.not_false]
      exact use_ste hP hx ht tn (use_her hP hx hh (use_bes hP hx hl ht tn (use_geg hP hx hl (use_lag hP hx hl ⟨five, hn⟩))))
    refine seq_stop [some (.raw (.ref sa)), some (.raw (.ref d)), some u, some (p2 l0 l1), some (p2 t0 t1), some (.lst [.str wF, .str (vHer x0 x1), .str (vBes x0 x1), .str (vGeg x0 x1 l1), .str (vBes x0 x1), .str (vCha x1), .str (vMei x0 x1 l0 l1 t0 t1)]), o6, o7, o8, some (p2 x0 x1), some (p2 h0 h1), o11, o12] (fun D' hn hrt => ?_) ?_
    · simp (config := { maxSteps := 1000000 }) only [dSeq, dIfS, dTest, dOp, dUn, dVar, dC, dTup, dLst, dNil, dCons, dRet, dRetN, dDrop, dSet, dPar, dAsg, dgTup, dgCons, dgNil, dgName, dCB, dNext, dIf, dAnd, dOr, dNot, dNotV, dAndV, dOrV, dCall, dCallK, dRaise, dAug, dSl, dPart, dNoPart, startU_eq, List.map_cons, List.map_nil, List.cons_append, List.nil_append, List.length_cons, List.length_nil, List.replicate, List.getElem?_cons_zero, List.getElem?_cons_succ, List.getElem?_nil, List.set_cons_zero, List.set_cons_succ, Nat.reduceAdd, Nat.reduceSub, ex_uu, ex_bl, ex_tup, ex_lst, ex_int, ex_cons, ex_two, gEq_int, gNe_int, gEq_p2, gNe_p2, gEq_str, ixp0, ixp1, plus_int, star_int, gI_int, gIC_int, ix0, ix1, ix2, ix3, fGcd_int, fIsq_int, fAbs_int, fInt_int, fLen_tup, fLen_lst, fMax2_int, gNeg_int, gFdv, gMod, DL.gSub, gPow, gLt, gLe, gGt, gGe, eq_self, decide_eq_true_eq, Bool.not_eq_true', decide_eq_false_iff_not, true_and, and_true, if_true, if_false, Bool.false_eq_true, Bool.not_true, Bool.not_false]
      exact use_cha hP hx ht tn (use_mei hP hx hl ht tn ⟨two, (plus_lst _ _ _).mpr ⟨le_line (by show 7 ≤ 1000; decide), hn⟩⟩)
    -- again, by name
    refine seq_stop [some (.raw (.ref sa)), some (.raw (.ref d)), some u, some (p2 l0 l1), some (p2 t0 t1), some (.lst [.str wF, .str (vHer x0 x1), .str (vBes x0 x1), .str (vGeg x0 x1 l1), .str (vBes x0 x1), .str (vCha x1), .str (vMei x0 x1 l0 l1 t0 t1)]), some (.lst [.str wF, .str (vHer x0 x1), .str (vBes x0 x1), .str (vGeg x0 x1 l1)]), o7, o8, some (p2 x0 x1), some (p2 h0 h1), o11, o12] (fun D' hn hrt => ?_) ?_
    · simp (config := { maxSteps := 1000000 }) only [dSeq, dIfS, dTest, dOp, dUn, dVar, dC, dTup, dLst, dNil, dCons, dRet, dRetN, dDrop, dSet, dPar, dAsg, dgTup, dgCons, dgNil, dgName, dCB, dNext, dIf, dAnd, dOr, dNot, dNotV, dAndV, dOrV, dCall, dCallK, dRaise, dAug, dSl, dPart, dNoPart, startU_eq, List.map_cons, List.map_nil, List.cons_append, List.nil_append, List.length_cons, List.length_nil, List.replicate, List.getElem?_cons_zero, List.getElem?_cons_succ, List.getElem?_nil, List.set_cons_zero, List.set_cons_succ, Nat.reduceAdd, Nat.reduceSub, ex_uu, ex_bl, ex_tup, ex_lst, ex_int, ex_cons, ex_two, gEq_int, gNe_int, gEq_p2, gNe_p2, gEq_str, ixp0, ixp1, plus_int, star_int, gI_int, gIC_int, ix0, ix1, ix2, ix3, fGcd_int, fIsq_int, fAbs_int, fInt_int, fLen_tup, fLen_lst, fMax2_int, gNeg_int, gFdv, gMod, DL.gSub, gPow, gLt, gLe, gGt, gGe, eq_self, decide_eq_true_eq, Bool.not_eq_true', decide_eq_false_iff_not, true_and, and_true, if_true, if_false, Bool.false_eq_true, Bool.not_true, Bool.not_false]
      exact use_ste hP hx ht tn (use_her hP hx hh (use_bes hP hx hl ht tn (use_geg hP hx hl ⟨four, hn⟩)))
    refine seq_stop [some (.raw (.ref sa)), some (.raw (.ref d)), some u, some (p2 l0 l1), some (p2 t0 t1), some (.lst [.str wF, .str (vHer x0 x1), .str (vBes x0 x1), .str (vGeg x0 x1 l1), .str (vBes x0 x1), .str (vCha x1), .str (vMei x0 x1 l0 l1 t0 t1)]), some (.lst [.str wF, .str (vHer x0 x1), .str (vBes x0 x1), .str (vGeg x0 x1 l1), .str (vBes x0 x1), .str (vCha x1), .str (vMei x0 x1 l0 l1 t0 t1)]), o7, o8, some (p2 x0 x1), some (p2 h0 h1), o11, o12] (fun D' hn hrt => ?_) ?_
    · simp (config := { maxSteps := 1000000 }) only [dSeq, dIfS, dTest, dOp, dUn, dVar, dC, dTup, dLst, dNil, dCons, dRet, dRetN, dDrop, dSet, dPar, dAsg, dgTup, dgCons, dgNil, dgName, dCB, dNext, dIf, dAnd, dOr, dNot, dNotV, dAndV, dOrV, dCall, dCallK, dRaise, dAug, dSl, dPart, dNoPart, startU_eq, List.map_cons, List.map_nil, List.cons_append, List.nil_append, List.length_cons, List.length_nil, List.replicate, List.getElem?_cons_zero, List.getElem?_cons_succ, List.getElem?_nil, List.set_cons_zero, List.set_cons_succ, Nat.reduceAdd, Nat.reduceSub, ex_uu, ex_bl, ex_tup, ex_lst, ex_int, ex_cons, ex_two, gEq_int, gNe_int, gEq_p2, gNe_p2, gEq_str, ixp0, ixp1, plus_int, star_int, gI_int, gIC_int, ix0, ix1, ix2, ix3, fGcd_int, fIsq_int, fAbs_int, fInt_int, fLen_tup, fLen_lst, fMax2_int, gNeg_int, gFdv, gMod, DL.gSub, gPow, gLt, gLe, gGt, gGe, eq_self, decide_eq_true_eq, Bool.not_eq_true', decide_eq_false_iff_not, true_and, and_true, if_true, if_false, Bool.false_eq_true, Bool.not_true, Bool.not_false]
      exact use_lag hP hx hl (use_cha hP hx ht tn (use_mei hP hx hl ht tn ⟨three, (plus_lst _ _ _).mpr ⟨le_line (by show 7 ≤ 1000; decide), hn⟩⟩))
    -- what is due
    refine seq_stop [some (.raw (.ref sa)), some (.raw (.ref d)), some u, some (p2 l0 l1), some (p2 t0 t1), some (.lst [.str wF, .str (vHer x0 x1), .str (vBes x0 x1), .str (vGeg x0 x1 l1), .str (vBes x0 x1), .str (vCha x1), .str (vMei x0 x1 l0 l1 t0 t1)]), some (.lst [.str wF, .str (vHer x0 x1), .str (vBes x0 x1), .str (vGeg x0 x1 l1), .str (vBes x0 x1), .str (vCha x1), .str (vMei x0 x1 l0 l1 t0 t1)]), some (.lst [.str wF, .str (vHer x0 x1), .str (vBes x0 x1)]), o8, some (p2 x0 x1), some (p2 h0 h1), o11, o12] (fun D' hn hrt => ?_) ?_
    · simp (config := { maxSteps := 1000000 }) only [dSeq, dIfS, dTest, dOp, dUn, dVar, dC, dTup, dLst, dNil, dCons, dRet, dRetN, dDrop, dSet, dPar, dAsg, dgTup, dgCons, dgNil, dgName, dCB, dNext, dIf, dAnd, dOr, dNot, dNotV, dAndV, dOrV, dCall, dCallK, dRaise, dAug, dSl, dPart, dNoPart, startU_eq, List.map_cons, List.map_nil, List.cons_append, List.nil_append, List.length_cons, List.length_nil, List.replicate, List.getElem?_cons_zero, List.getElem?_cons_succ, List.getElem?_nil, List.set_cons_zero, List.set_cons_succ, Nat.reduceAdd, Nat.reduceSub, ex_uu, ex_bl, ex_tup, ex_lst, ex_int, ex_cons, ex_two, gEq_int, gNe_int, gEq_p2, gNe_p2, gEq_str, ixp0, ixp1, plus_int, star_int, gI_int, gIC_int, ix0, ix1, ix2, ix3, fGcd_int, fIsq_int, fAbs_int, fInt_int, fLen_tup, fLen_lst, fMax2_int, gNeg_int, gFdv, gMod, DL.gSub, gPow, gLt, gLe, gGt, gGe, eq_self, decide_eq_true_eq, Bool.not_eq_true', decide_eq_false_iff_not, true_and, and_true, if_true, if_false, Bool.false_eq_true, Bool.not_true, Bool.not_false]
      refine ⟨two, use_lv (by decide) rfl rfl rfl hx ht ?_⟩
      rw [lv_ste]
      refine ⟨two, use_lv (by decide) rfl rfl rfl hx hh ?_⟩
      rw [lv_her hx]
      refine ⟨three, use_lv (by decide) rfl rfl rfl hx hl ?_⟩
      rw [lv_bes hx]
      exact ⟨three, hn⟩
    refine seq_stop [some (.raw (.ref sa)), some (.raw (.ref d)), some u, some (p2 l0 l1), some (p2 t0 t1), some (.lst [.str wF, .str (vHer x0 x1), .str (vBes x0 x1), .str (vGeg x0 x1 l1), .str (vBes x0 x1), .str (vCha x1), .str (vMei x0 x1 l0 l1 t0 t1)]), some (.lst [.str wF, .str (vHer x0 x1), .str (vBes x0 x1), .str (vGeg x0 x1 l1), .str (vBes x0 x1), .str (vCha x1), .str (vMei x0 x1 l0 l1 t0 t1)]), some (.lst [.str wF, .str (vHer x0 x1), .str (vBes x0 x1), .str (vGeg x0 x1 l1), .str (vBes x0 x1)]), o8, some (p2 x0 x1), some (p2 h0 h1), o11, o12] (fun D' hn hrt => ?_) ?_
    · simp (config := { maxSteps := 1000000 }) only [dSeq, dIfS, dTest, dOp, dUn, dVar, dC, dTup, dLst, dNil, dCons, dRet, dRetN, dDrop, dSet, dPar, dAsg, dgTup, dgCons, dgNil, dgName, dCB, dNext, dIf, dAnd, dOr, dNot, dNotV, dAndV, dOrV, dCall, dCallK, dRaise, dAug, dSl, dPart, dNoPart, startU_eq, List.map_cons, List.map_nil, List.cons_append, List.nil_append, List.length_cons, List.length_nil, List.replicate, List.getElem?_cons_zero, List.getElem?_cons_succ, List.getElem?_nil, List.set_cons_zero, List.set_cons_succ, Nat.reduceAdd, Nat.reduceSub, ex_uu, ex_bl, ex_tup, ex_lst, ex_int, ex_cons, ex_two, gEq_int, gNe_int, gEq_p2, gNe_p2, gEq_str, ixp0, ixp1, plus_int, star_int, gI_int, gIC_int, ix0, ix1, ix2, ix3, fGcd_int, fIsq_int, fAbs_int, fInt_int, fLen_tup, fLen_lst, fMax2_int, gNeg_int, gFdv, gMod, DL.gSub, gPow, gLt, gLe, gGt, gGe, eq_self, decide_eq_true_eq, Bool.not_eq_true', decide_eq_false_iff_not, true_and, and_true, if_true, if_false, Bool.false_eq_true, Bool.not_true, Bool.not_false]
      refine ⟨two, use_lv (by decide) rfl rfl rfl hx hl ?_⟩
      rw [lv_geg hx]
      refine ⟨two, use_lv (by decide) rfl rfl rfl hx hl ?_⟩
      rw [lv_lag hx]
      exact ⟨two, (plus_lst _ _ _).mpr ⟨le_line (by show 5 ≤ 1000; decide), hn⟩⟩
    refine seq_stop [some (.raw (.ref sa)), some (.raw (.ref d)), some u, some (p2 l0 l1), some (p2 t0 t1), some (.lst [.str wF, .str (vHer x0 x1), .str (vBes x0 x1), .str (vGeg x0 x1 l1), .str (vBes x0 x1), .str (vCha x1), .str (vMei x0 x1 l0 l1 t0 t1)]), some (.lst [.str wF, .str (vHer x0 x1), .str (vBes x0 x1), .str (vGeg x0 x1 l1), .str (vBes x0 x1), .str (vCha x1), .str (vMei x0 x1 l0 l1 t0 t1)]), some (.lst [.str wF, .str (vHer x0 x1), .str (vBes x0 x1), .str (vGeg x0 x1 l1), .str (vBes x0 x1), .str (vCha x1), .str (vMei x0 x1 l0 l1 t0 t1)]), o8, some (p2 x0 x1), some (p2 h0 h1), o11, o12] (fun D' hn hrt => ?_) ?_
    · simp (config := { maxSteps := 1000000 }) only [dSeq, dIfS, dTest, dOp, dUn, dVar, dC, dTup, dLst, dNil, dCons, dRet, dRetN, dDrop, dSet, dPar, dAsg, dgTup, dgCons, dgNil, dgName, dCB, dNext, dIf, dAnd, dOr, dNot, dNotV, dAndV, dOrV, dCall, dCallK, dRaise, dAug, dSl, dPart, dNoPart, startU_eq, List.map_cons, List.map_nil, List.cons_append, List.nil_append, List.length_cons, List.length_nil, List.replicate, List.getElem?_cons_zero, List.getElem?_cons_succ, List.getElem?_nil, List.set_cons_zero, List.set_cons_succ, Nat.reduceAdd, Nat.reduceSub, ex_uu, ex_bl, ex_tup, ex_lst, ex_int, ex_cons, ex_two, gEq_int, gNe_int, gEq_p2, gNe_p2, gEq_str, ixp0, ixp1, plus_int, star_int, gI_int, gIC_int, ix0, ix1, ix2, ix3, fGcd_int, fIsq_int, fAbs_int, fInt_int, fLen_tup, fLen_lst, fMax2_int, gNeg_int, gFdv, gMod, DL.gSub, gPow, gLt, gLe, gGt, gGe, eq_self, decide_eq_true_eq, Bool.not_eq_true', decide_eq_false_iff_not, true_and, and_true, if_true, if_false, Bool.false_eq_true, Bool.not_true, Bool.not_false]
      refine ⟨two, use_lv (by decide) rfl rfl rfl hx ht ?_⟩
      rw [lv_cha]
      refine ⟨three, use_lv (by decide) rfl rfl rfl hx hl ?_⟩
      rw [lv_mei hx]
      exact ⟨two, (plus_lst _ _ _).mpr ⟨le_line (by show 7 ≤ 1000; decide), hn⟩⟩
    have rp7 : Rp 1 157 (.lst [.str wF, .str (vHer x0 x1), .str (vBes x0 x1), .str (vGeg x0 x1 l1), .str (vBes x0 x1), .str (vCha x1), .str (vMei x0 x1 l0 l1 t0 t1)]) := rp_lst (L := 7) (n := 20) (dep := 0) (fun u hu => by
      simp only [List.mem_cons, List.not_mem_nil, or_false] at hu
      rcases hu with rfl | rfl | rfl | rfl | rfl | rfl | rfl
      · exact rp_word (.inl rfl)
      · exact rp_word (her_w _ _)
      · exact rp_word (bes_w _ _)
      · exact rp_word (geg_w _ _ _)
      · exact rp_word (bes_w _ _)
      · exact rp_word (cha_w _)
      · exact rp_word (mei_w _ _ _ _ _ _)) (by show 7 ≤ 7; decide)
    have rp : rpOk (.tup [.lst [.str wF, .str (vHer x0 x1), .str (vBes x0 x1), .str (vGeg x0 x1 l1), .str (vBes x0 x1), .str (vCha x1), .str (vMei x0 x1 l0 l1 t0 t1)], .lst [.str wF, .str (vHer x0 x1), .str (vBes x0 x1), .str (vGeg x0 x1 l1), .str (vBes x0 x1), .str (vCha x1), .str (vMei x0 x1 l0 l1 t0 t1)]]) := Rp.ok (rp_tup (L := 2) (n := 157) (dep := 1) (fun u hu => by
      simp only [List.mem_cons, List.not_mem_nil, or_false] at hu
      rcases hu with rfl | rfl
      · exact rp7
      · exact rp7) (by show 2 ≤ 2; decide)) (by decide) (by decide)
    refine seq_stop [some (.raw (.ref sa)), some (.raw (.ref d)), some u, some (p2 l0 l1), some (p2 t0 t1), some (.lst [.str wF, .str (vHer x0 x1), .str (vBes x0 x1), .str (vGeg x0 x1 l1), .str (vBes x0 x1), .str (vCha x1), .str (vMei x0 x1 l0 l1 t0 t1)]), some (.lst [.str wF, .str (vHer x0 x1), .str (vBes x0 x1), .str (vGeg x0 x1 l1), .str (vBes x0 x1), .str (vCha x1), .str (vMei x0 x1 l0 l1 t0 t1)]), some (.lst [.str wF, .str (vHer x0 x1), .str (vBes x0 x1), .str (vGeg x0 x1 l1), .str (vBes x0 x1), .str (vCha x1), .str (vMei x0 x1 l0 l1 t0 t1)]), o8, some (p2 x0 x1), some (p2 h0 h1), o11, o12] (fun D' hn hrt => ?_) ?_
    · simp (config := { maxSteps := 1000000 }) only [dSeq, dIfS, dTest, dOp, dUn, dVar, dC, dTup, dLst, dNil, dCons, dRet, dRetN, dDrop, dSet, dPar, dAsg, dgTup, dgCons, dgNil, dgName, dCB, dNext, dIf, dAnd, dOr, dNot, dNotV, dAndV, dOrV, dCall, dCallK, dRaise, dAug, dSl, dPart, dNoPart, startU_eq, List.map_cons, List.map_nil, List.cons_append, List.nil_append, List.length_cons, List.length_nil, List.replicate, List.getElem?_cons_zero, List.getElem?_cons_succ, List.getElem?_nil, List.set_cons_zero, List.set_cons_succ, Nat.reduceAdd, Nat.reduceSub, ex_uu, ex_bl, ex_tup, ex_lst, ex_int, ex_cons, ex_two, gEq_int, gNe_int, gEq_p2, gNe_p2, gEq_str, ixp0, ixp1, plus_int, star_int, gI_int, gIC_int, ix0, ix1, ix2, ix3, fGcd_int, fIsq_int, fAbs_int, fInt_int, fLen_tup, fLen_lst, fMax2_int, gNeg_int, gFdv, gMod, DL.gSub, gPow, gLt, gLe, gGt, gGe, eq_self, decide_eq_true_eq, Bool.not_eq_true', decide_eq_false_iff_not, true_and, and_true, if_true, if_false, Bool.false_eq_true, Bool.not_true, Bool.not_false]
      refine ⟨two, fRp_tup _ _ rp ⟨two, fRp_tup _ _ rp ((neS_same _ _).mpr ⟨_, rfl, ?_⟩)⟩⟩
      rw [if_neg (fun z => Bool.noConfusion z)]
      exact hn
    -- a mirror
    refine seq_stop [some (.raw (.ref sa)), some (.raw (.ref d)), some u, some (p2 l0 l1), some (p2 t0 t1), some (.lst [.str wF, .str (vHer x0 x1), .str (vBes x0 x1), .str (vGeg x0 x1 l1), .str (vBes x0 x1), .str (vCha x1), .str (vMei x0 x1 l0 l1 t0 t1)]), some (.lst [.str wF, .str (vHer x0 x1), .str (vBes x0 x1), .str (vGeg x0 x1 l1), .str (vBes x0 x1), .str (vCha x1), .str (vMei x0 x1 l0 l1 t0 t1)]), some (.lst [.str wF, .str (vHer x0 x1), .str (vBes x0 x1), .str (vGeg x0 x1 l1), .str (vBes x0 x1), .str (vCha x1), .str (vMei x0 x1 l0 l1 t0 t1)]), some (p2 (-x0) x1), some (p2 x0 x1), some (p2 h0 h1), o11, o12] (fun D' hn hrt => ?_) ?_
    · simp (config := { maxSteps := 1000000 }) only [dSeq, dIfS, dTest, dOp, dUn, dVar, dC, dTup, dLst, dNil, dCons, dRet, dRetN, dDrop, dSet, dPar, dAsg, dgTup, dgCons, dgNil, dgName, dCB, dNext, dIf, dAnd, dOr, dNot, dNotV, dAndV, dOrV, dCall, dCallK, dRaise, dAug, dSl, dPart, dNoPart, startU_eq, List.map_cons, List.map_nil, List.cons_append, List.nil_append, List.length_cons, List.length_nil, List.replicate, List.getElem?_cons_zero, List.getElem?_cons_succ, List.getElem?_nil, List.set_cons_zero, List.set_cons_succ, Nat.reduceAdd, Nat.reduceSub, ex_uu, ex_bl, ex_tup, ex_lst, ex_int, ex_cons, ex_two, gEq_int, gNe_int, gEq_p2, gNe_p2, gEq_str, ixp0, ixp1, plus_int, star_int, gI_int, gIC_int, ix0, ix1, ix2, ix3, fGcd_int, fIsq_int, fAbs_int, fInt_int, fLen_tup, fLen_lst, fMax2_int, gNeg_int, gFdv, gMod, DL.gSub, gPow, gLt, gLe, gGt, gGe, eq_self, decide_eq_true_eq, Bool.not_eq_true', decide_eq_false_iff_not, true_and, and_true, if_true, if_false, Bool.false_eq_true, Bool.not_true, Bool.not_false]
      exact ⟨two, hn⟩
    refine seq_stop [some (.raw (.ref sa)), some (.raw (.ref d)), some u, some (p2 l0 l1), some (p2 t0 t1), some (.lst [.str wF, .str (vHer x0 x1), .str (vBes x0 x1), .str (vGeg x0 x1 l1), .str (vBes x0 x1), .str (vCha x1), .str (vMei x0 x1 l0 l1 t0 t1)]), some (.lst [.str wF, .str (vHer x0 x1), .str (vBes x0 x1), .str (vGeg x0 x1 l1), .str (vBes x0 x1), .str (vCha x1), .str (vMei x0 x1 l0 l1 t0 t1)]), some (.lst [.str wF, .str (vHer x0 x1), .str (vBes x0 x1), .str (vGeg x0 x1 l1), .str (vBes x0 x1), .str (vCha x1), .str (vMei x0 x1 l0 l1 t0 t1)]), some (p2 (-x0) x1), some (p2 x0 x1), some (p2 h0 h1), o11, o12] (fun D' hn hrt => ?_) ?_
    · simp (config := { maxSteps := 1000000 }) only [dSeq, dIfS, dTest, dOp, dUn, dVar, dC, dTup, dLst, dNil, dCons, dRet, dRetN, dDrop, dSet, dPar, dAsg, dgTup, dgCons, dgNil, dgName, dCB, dNext, dIf, dAnd, dOr, dNot, dNotV, dAndV, dOrV, dCall, dCallK, dRaise, dAug, dSl, dPart, dNoPart, startU_eq, List.map_cons, List.map_nil, List.cons_append, List.nil_append, List.length_cons, List.length_nil, List.replicate, List.getElem?_cons_zero, List.getElem?_cons_succ, List.getElem?_nil, List.set_cons_zero, List.set_cons_succ, Nat.reduceAdd, Nat.reduceSub, ex_uu, ex_bl, ex_tup, ex_lst, ex_int, ex_cons, ex_two, gEq_int, gNe_int, gEq_p2, gNe_p2, gEq_str, ixp0, ixp1, plus_int, star_int, gI_int, gIC_int, ix0, ix1, ix2, ix3, fGcd_int, fIsq_int, fAbs_int, fInt_int, fLen_tup, fLen_lst, fMax2_int, gNeg_int, gFdv, gMod, DL.gSub, gPow, gLt, gLe, gGt, gGe, eq_self, decide_eq_true_eq, Bool.not_eq_true', decide_eq_false_iff_not, true_and, and_true, if_true, if_false, Bool.false_eq_true, Bool.not_true, Bool.not_false]
      have hx' := pr_neg hx
      have fl : flat (.lst [.str (vHer x0 x1), .str (vBes x0 x1), .str (vGeg x0 x1 l1)]) = true := flat_lst_strs fun u hu => by
        simp only [List.mem_cons, List.not_mem_nil, or_false] at hu
        rcases hu with rfl | rfl | rfl
        · exact ⟨_, rfl, flat_word (her_w _ _)⟩
        · exact ⟨_, rfl, flat_word (bes_w _ _)⟩
        · exact ⟨_, rfl, flat_word (geg_w _ _ _)⟩
      refine use_her hP hx' hh (use_bes hP hx' hl ht tn (use_geg hP hx' hl ?_))
      rw [her_neg, bes_neg, geg_neg]
      refine ⟨three, .inl ⟨_, rfl, fl, fl, _, rfl, ?_⟩⟩
      have e : cutU [.str wF, .str (vHer x0 x1), .str (vBes x0 x1), .str (vGeg x0 x1 l1), .str (vBes x0 x1), .str (vCha x1), .str (vMei x0 x1 l0 l1 t0 t1)] (some 1) (some 4) = [.str (vHer x0 x1), .str (vBes x0 x1), .str (vGeg x0 x1 l1)] := rfl
      rw [e, ueq_three]
      exact hn
    -- the far mirror
    have x2 := hx.b1
    have x3 := hx.b12
    have x4 := hx.a40
    have l2 := hl.b1
    have l3 := hl.b12
    have l4 := hl.a40
    have t2 := ht.b1
    have t3 := ht.b12
    have t4 := ht.a40
    refine seq_gen (fun q : Int × Int × Int × Int => [some (.raw (.ref sa)), some (.raw (.ref d)), some u, some (p2 l0 l1), some (p2 t0 t1), some (.lst [.str wF, .str (vHer x0 x1), .str (vBes x0 x1), .str (vGeg x0 x1 l1), .str (vBes x0 x1), .str (vCha x1), .str (vMei x0 x1 l0 l1 t0 t1)]), some (.lst [.str wF, .str (vHer x0 x1), .str (vBes x0 x1), .str (vGeg x0 x1 l1), .str (vBes x0 x1), .str (vCha x1), .str (vMei x0 x1 l0 l1 t0 t1)]), some (.lst [.str wF, .str (vHer x0 x1), .str (vBes x0 x1), .str (vGeg x0 x1 l1), .str (vBes x0 x1), .str (vCha x1), .str (vMei x0 x1 l0 l1 t0 t1)]), some (p2 (-x0) x1), some (p2 x0 x1), some (p2 h0 h1), some (p2 q.1 q.2.1), some (p2 q.2.2.1 q.2.2.2)]) (fun q => Low (-x0 * l1 - l0 * x1) (x1 * l1) q.1 q.2.1 ∧ Low t1 t0 q.2.2.1 q.2.2.2) (fun D' hn hrt => ?_) ?_
    · simp (config := { maxSteps := 1000000 }) only [dSeq, dIfS, dTest, dOp, dUn, dVar, dC, dTup, dLst, dNil, dCons, dRet, dRetN, dDrop, dSet, dPar, dAsg, dgTup, dgCons, dgNil, dgName, dCB, dNext, dIf, dAnd, dOr, dNot, dNotV, dAndV, dOrV, dCall, dCallK, dRaise, dAug, dSl, dPart, dNoPart, startU_eq, List.map_cons, List.map_nil, List.cons_append, List.nil_append, List.length_cons, List.length_nil, List.replicate, List.getElem?_cons_zero, List.getElem?_cons_succ, List.getElem?_nil, List.set_cons_zero, List.set_cons_succ, Nat.reduceAdd, Nat.reduceSub, ex_uu, ex_bl, ex_tup, ex_lst, ex_int, ex_cons, ex_two, gEq_int, gNe_int, gEq_p2, gNe_p2, gEq_str, ixp0, ixp1, plus_int, star_int, gI_int, gIC_int, ix0, ix1, ix2, ix3, fGcd_int, fIsq_int, fAbs_int, fInt_int, fLen_tup, fLen_lst, fMax2_int, gNeg_int, gFdv, gMod, DL.gSub, gPow, gLt, gLe, gGt, gGe, eq_self, decide_eq_true_eq, Bool.not_eq_true', decide_eq_false_iff_not, true_and, and_true, if_true, if_false, Bool.false_eq_true, Bool.not_true, Bool.not_false]
      have B1 : Bd 20 (-x0 * l1) := bd_mul 10 10 (sm _ (by omega)) (sm _ (by omega))
      have B2 : Bd 20 (l0 * x1) := bd_mul 10 10 (sm _ (by omega)) (sm _ (by omega))
      have B3 : Bd 20 (x1 * l1) := bd_mul 10 10 (sm _ (by omega)) (sm _ (by omega))
      have B4 : Bd 21 (-x0 * l1 - l0 * x1) := by
        rw [Int.sub_eq_add_neg]
        exact bd_add 20 B1 (bd_neg B2)
      refine ⟨cm _ _ (by omega) (by omega), cm _ _ (by omega) (by omega), cm _ _ (by omega) (by omega), _, _, rfl, Int.mul_ne_zero (by omega) (by omega), bd_up 900 B4 (by decide), bd_up 900 B3 (by decide), fun p q hq => ?_⟩
      simp (config := { maxSteps := 1000000 }) only [dSeq, dIfS, dTest, dOp, dUn, dVar, dC, dTup, dLst, dNil, dCons, dRet, dRetN, dDrop, dSet, dPar, dAsg, dgTup, dgCons, dgNil, dgName, dCB, dNext, dIf, dAnd, dOr, dNot, dNotV, dAndV, dOrV, dCall, dCallK, dRaise, dAug, dSl, dPart, dNoPart, startU_eq, List.map_cons, List.map_nil, List.cons_append, List.nil_append, List.length_cons, List.length_nil, List.replicate, List.getElem?_cons_zero, List.getElem?_cons_succ, List.getElem?_nil, List.set_cons_zero, List.set_cons_succ, Nat.reduceAdd, Nat.reduceSub, ex_uu, ex_bl, ex_tup, ex_lst, ex_int, ex_cons, ex_two, gEq_int, gNe_int, gEq_p2, gNe_p2, gEq_str, ixp0, ixp1, plus_int, star_int, gI_int, gIC_int, ix0, ix1, ix2, ix3, fGcd_int, fIsq_int, fAbs_int, fInt_int, fLen_tup, fLen_lst, fMax2_int, gNeg_int, gFdv, gMod, DL.gSub, gPow, gLt, gLe, gGt, gGe, eq_self, decide_eq_true_eq, Bool.not_eq_true', decide_eq_false_iff_not, true_and, and_true, if_true, if_false, Bool.false_eq_true, Bool.not_true, Bool.not_false]
      exact ⟨_, _, rfl, tn, bd_up 900 (sm _ (by omega)) (by decide), bd_up 900 (sm _ (by omega)) (by decide), fun p' q' hq' => hn (p, q, p', q') ⟨hq, hq'⟩⟩
    rintro ⟨p, q, p', q'⟩ ⟨hf, ho⟩
    replace hf : Low (-x0 * l1 - l0 * x1) (x1 * l1) p q := hf
    replace ho : Low t1 t0 p' q' := ho
    dsimp only
    simp (config := { maxSteps := 1000000 }) only [dSeq, dIfS, dTest, dOp, dUn, dVar, dC, dTup, dLst, dNil, dCons, dRet, dRetN, dDrop, dSet, dPar, dAsg, dgTup, dgCons, dgNil, dgName, dCB, dNext, dIf, dAnd, dOr, dNot, dNotV, dAndV, dOrV, dCall, dCallK, dRaise, dAug, dSl, dPart, dNoPart, startU_eq, List.map_cons, List.map_nil, List.cons_append, List.nil_append, List.length_cons, List.length_nil, List.replicate, List.getElem?_cons_zero, List.getElem?_cons_succ, List.getElem?_nil, List.set_cons_zero, List.set_cons_succ, Nat.reduceAdd, Nat.reduceSub, ex_uu, ex_bl, ex_tup, ex_lst, ex_int, ex_cons, ex_two, gEq_int, gNe_int, gEq_p2, gNe_p2, gEq_str, ixp0, ixp1, plus_int, star_int, gI_int, gIC_int, ix0, ix1, ix2, ix3, fGcd_int, fIsq_int, fAbs_int, fInt_int, fLen_tup, fLen_lst, fMax2_int, gNeg_int, gFdv, gMod, DL.gSub, gPow, gLt, gLe, gGt, gGe, eq_self, decide_eq_true_eq, Bool.not_eq_true', decide_eq_false_iff_not, true_and, and_true, if_true, if_false, Bool.false_eq_true, Bool.not_true, Bool.not_false]
    rw [abs_nat]
    by_cases c1 : (p.natAbs : Int) ≤ 40
    · rw [if_pos c1]
      by_cases c2 : q ≤ 12
      · rw [if_pos c2]
        by_cases c3 : q' ≤ 12
        · rw [if_pos c3]
          have hpq : Pr p q := ⟨hf.q1, c2, by omega, hf.co⟩
          have hpq' : Pr p' q' := ⟨ho.q1, c3, by have := ho.pa; omega, ho.co⟩
          refine use_mei hP hpq hl hpq' (ho.nz (by omega)) ?_
          rw [mei_mirror hx hl ht tn hf ho]
          refine (ix_lst_at _ _ _ _ rfl).mpr ((gNe_str _ _ _).mpr ⟨flat_word (mei_w _ _ _ _ _ _), flat_word (mei_w _ _ _ _ _ _), _, rfl, ?_⟩)
          rw [decide_eq_true rfl, Bool.not_true, if_neg (fun z => Bool.noConfusion z)]
          exact ⟨_, _, _, _, _, _, _, _, _, _, _, rfl⟩
        · rw [if_neg c3]
          exact ⟨_, _, _, _, _, _, _, _, _, _, _, rfl⟩
      · rw [if_neg c2]
        exact ⟨_, _, _, _, _, _, _, _, _, _, _, rfl⟩
    · rw [if_neg c1]
      exact ⟨_, _, _, _, _, _, _, _, _, _, _, rfl⟩
end
end T54
set_option Elab.async false
set_option linter.all false
set_option maxRecDepth 100000
set_option maxHeartbeats 0
namespace T54
open PySem PySem.Spec PyProof.Rows L2 XR DL
open PySem.XK (ExF)
section
variable {K : PySem.W.Frag}
theorem exf_ok {C fI : Addr} (h : hexB K C fI = true)
    (hf : ∃ (oc : Value) (od : Option Addr) (qual : Str) (kV doc pm : Value) (an : Option Addr) (cdv ct : Value) (osl : Array (Option Value)) (p1 p2 q1 q2 q3 q4 : Pos),
      K.lookup fI = some ⟨oc, od, .func (PySem.W.fnOf "__init__" qual (PySem.XK.xA p1 p2) (PySem.XK.xB q1 q2 q3 q4) PySem.XK.xS .none kV doc pm an cdv ct), osl⟩ ∧ PySem.W.codeIn K cdv qual = true) : ExF K C fI := by
  obtain ⟨x, y⟩ := He.ba h
  obtain ⟨a1, x⟩ := He.ba x
  obtain ⟨a2, x⟩ := He.ba x
  obtain ⟨a3, x⟩ := He.ba x
  obtain ⟨a4, x⟩ := He.ba x
  obtain ⟨a5, x⟩ := He.ba x
  obtain ⟨a6, x⟩ := He.ba x
  obtain ⟨a7, x⟩ := He.ba x
  obtain ⟨a8, a9⟩ := He.ba x
  obtain ⟨b1, y⟩ := He.ba y
  obtain ⟨b2, y⟩ := He.ba y
  obtain ⟨b3, y⟩ := He.ba y
  obtain ⟨b4, y⟩ := He.ba y
  obtain ⟨b5, y⟩ := He.ba y
  obtain ⟨b6, b7⟩ := He.ba y
  exact ⟨a1, a2, He.eqO_ok a3, He.eqO_ok a4, He.eqO_ok a5, He.eqO_ok a6, a7, He.eqO_ok a8, of_decide_eq_true a9, b1, of_decide_eq_true b2, of_decide_eq_true b3, He.eqO_ok b4, of_decide_eq_true b5, He.eqO_ok b6, of_decide_eq_true b7, hf⟩
theorem no_dfl {dV : Value} (h : DflV K dV []) : dV = .none := by
  rcases h with ⟨_, e⟩ | ⟨e, _⟩
  · exact e
  · exact absurd rfl e
theorem init_ok (c : He.SaysD fa fn K) {x q : Str} {st : Stmt} (hm : dI x q st ∈ fn) (hs : ∃ (p1 p2 q1 q2 q3 q4 : Pos), defArgs st = PySem.XK.xA p1 p2 ∧ defBody st = PySem.XK.xB q1 q2 q3 q4 ∧ defScope st = PySem.XK.xS) :
    ∃ (oc : Value) (od : Option Addr) (qual : Str) (kV doc pm : Value) (an : Option Addr) (cdv ct : Value) (osl : Array (Option Value)) (p1 p2 q1 q2 q3 q4 : Pos),
      K.lookup (hI K x) = some ⟨oc, od, .func (PySem.W.fnOf "__init__" qual (PySem.XK.xA p1 p2) (PySem.XK.xB q1 q2 q3 q4) PySem.XK.xS .none kV doc pm an cdv ct), osl⟩ ∧ PySem.W.codeIn K cdv qual = true := by
  obtain ⟨fd, F⟩ := c.defs hm
  obtain ⟨oc, od, dV, kV, doc, pm, an, cdv, ct, osl, rfl, lk, hcd, dv, _⟩ := F.ex
  obtain ⟨p1, p2, q1, q2, q3, q4, e1, e2, e3⟩ := hs
  have ed : dV = .none := no_dfl dv
  subst ed
  have lk2 : K.lookup (hI K x) = some ⟨oc, od, .func (PySem.W.fnOf "__init__" q (defArgs st) (defBody st) (defScope st) .none kV doc pm an cdv ct), osl⟩ := lk
  rw [e1, e2, e3] at lk2
  exact ⟨oc, od, q, kV, doc, pm, an, cdv, ct, osl, p1, p2, q1, q2, q3, q4, lk2, hcd⟩
theorem fun_of {x qual : Str} {st : Stmt} {f : Addr} {fd : FuncData} (F : FunD K x qual (defArgs st) (defBody st) (defScope st) [] [] f fd) : Fun K x qual st f fd := by
  obtain ⟨oc, od, dV, kV, doc, pm, an, cdv, ct, osl, rfl, lk, hcd, dv, _⟩ := F.ex
  have ed : dV = .none := no_dfl dv
  subst ed
  exact ⟨⟨oc, od, kV, doc, pm, an, cdv, ct, osl, rfl, lk, hcd⟩, F.kp⟩
theorem ktup_ok {x : Str} {is : List Int} (h : He.tupB K x (is.map He.Dv.int) = true) : KTup K (He.ga K x) (is.map U.int) := by
  have s := He.tupB_ok h (fun _ => none)
  have e : (is.map He.Dv.int).map (He.Dv.v K) = is.map V.int := by
    rw [List.map_map]
    rfl
  rw [e] at s
  rcases s with (z | ⟨o, z⟩) | z
  · cases z
  · cases z
  · exact ⟨is.map V.int, z, fun m H => RelL.ints is⟩
theorem whole_ok {mg : Str → Option Value} {f : Addr} {fd : FuncData} {st : Stmt} (F : Fun K "is_whole" "is_whole" st f fd) (g : mg "is_whole" = some (.ref f)) (h1 : mg "isinstance" = none) (h2 : mg "int" = none) (h3 : mg "bool" = none)
    (hs : ∃ (p1 a1 a2 a3 a4 b1 b2 b3 b4 c d e : Pos), defArgs st = wArgs p1 ∧ defBody st = wBody a1 a2 a3 a4 b1 b2 b3 b4 c d e ∧ defScope st = wScope) : WholeAt K mg f := by
  obtain ⟨oc, od, kV, doc, pm, an, cdv, ct, osl, rfl, lk, hcd⟩ := F.ex
  obtain ⟨p1, a1, a2, a3, a4, b1, b2, b3, b4, c, d, e, e1, e2, e3⟩ := hs
  rw [e1, e2, e3] at lk
  exact ⟨g, F.kp, h1, h2, h3, oc, od, osl, "is_whole", kV, doc, pm, cdv, ct, an, p1, a1, a2, a3, a4, b1, b2, b3, b4, c, d, e, lk, hcd⟩
end
theorem facts {w : World} {h : Heap} {mg : Str → Option Value} {f : Addr} {K : PySem.W.Frag} (X : K.In h) (G : h.Ns mainGlobals mg) (hfa : mg ("law" : Str) = some (.ref f)) (c : He.SaysX fa fn [] tf exB w h K) : LawAt PySem.Challenge.rw_twicestep_k54_verdicts_of_named_rules w 9 63 "script" mg f h := by
  have cd : He.SaysD fa fn K := c.t.d
  have fr : ∀ x, x ∈ freeN → mg x = none := fun x hx => He.free_ok X G (cd.facts (List.mem_append_left _ (List.mem_append_right _ (List.mem_map_of_mem hx))))
  have gl : ∀ x, x ∈ gloN → mg x = some (.ref (He.ga K x)) := fun x hx => He.glo_ok X G (cd.facts (List.mem_append_left _ (List.mem_append_left _ (List.mem_map_of_mem hx))))
  have more := c.more
  unfold exB at more
  obtain ⟨errB, more⟩ := He.ba more
  have imp_gcd := more
  have errR : ∀ x, x ∈ errN → rowB K x = true := fun x hx => List.all_eq_true.mp errB x hx
  have gException : mg "Exception" = none := fr _ (by decide +kernel)
  have gabs : mg "abs" = none := fr _ (by decide +kernel)
  have gall : mg "all" = none := fr _ (by decide +kernel)
  have gbool : mg "bool" = none := fr _ (by decide +kernel)
  have gint : mg "int" = none := fr _ (by decide +kernel)
  have gisi : mg "isinstance" = none := fr _ (by decide +kernel)
  have glen : mg "len" = none := fr _ (by decide +kernel)
  have glist : mg "list" = none := fr _ (by decide +kernel)
  have gmax : mg "max" = none := fr _ (by decide +kernel)
  have grange : mg "range" = none := fr _ (by decide +kernel)
  have grepr : mg "repr" = none := fr _ (by decide +kernel)
  have gtup : mg "tuple" = none := fr _ (by decide +kernel)
  have i_gcd : mg "gcd" = some (.builtin "math.gcd") := PySem.W.mg_of X G (He.eqO_ok imp_gcd)
  obtain ⟨t_LARGEST_BOTTOM, h_LARGEST_BOTTOM⟩ := He.int_ok X G (cd.facts (f := He.Fa.int "LARGEST_BOTTOM" 12) (List.mem_append_right _ (List.mem_of_getElem? (i := 0) rfl)))
  obtain ⟨t_LARGEST_TOP, h_LARGEST_TOP⟩ := He.int_ok X G (cd.facts (f := He.Fa.int "LARGEST_TOP" 40) (List.mem_append_right _ (List.mem_of_getElem? (i := 1) rfl)))
  have gStepError : mg "StepError" = some (.ref (hA K "StepError")) := gl _ (by decide +kernel)
  have gBadParameter : mg "BadParameter" = some (.ref (hA K "BadParameter")) := gl _ (by decide +kernel)
  have rBadParameter := He.ba (errR "BadParameter" (by decide +kernel))
  have xBadParameter : ExF K (hA K "BadParameter") (hI K "BadParameter") := exf_ok rBadParameter.1 (init_ok cd (x := "BadParameter") (q := "BadParameter.__init__") (st := ini_BadParameter) (List.mem_of_getElem? (show fn[0]? = some _ from rfl)) ⟨_, _, _, _, _, _, rfl, rfl, rfl⟩)
  have i_BadParameter_StepError : PySem.W.kitOne K (.ref (hA K "BadParameter")) (.ref (hA K "StepError")) = some true := of_decide_eq_true (He.ba rBadParameter.2).1
  have q_BadParameter_BadParameter := He.ba (List.all_eq_true.mp (He.ba rBadParameter.2).2 "BadParameter" (by decide +kernel))
  have i_BadParameter_BadParameter : PySem.W.kitOne K (.ref (hA K "BadParameter")) (.ref (hA K "BadParameter")) = some true := of_decide_eq_true q_BadParameter_BadParameter.1
  have m_BadParameter_BadParameter : PySem.W.exmOne K (.ref (hA K "BadParameter")) (.ref (hA K "BadParameter")) = some true := of_decide_eq_true q_BadParameter_BadParameter.2
  obtain ⟨fd_is_whole, F_is_whole⟩ : ∃ fd, Fun K "is_whole" "is_whole" s_is_whole (He.ga K "is_whole") fd := by
    obtain ⟨fd, F⟩ := cd.defs (d := dD "is_whole" "is_whole" s_is_whole) (List.mem_of_getElem? (show fn[1]? = some _ from rfl))
    exact ⟨fd, fun_of F⟩
  have e_is_whole : mg "is_whole" = some (.ref (He.ga K "is_whole")) := gl _ (by decide +kernel)
  have D_is_whole : DL.Def K mg "is_whole" s_is_whole (He.ga K "is_whole") fd_is_whole := ⟨F_is_whole, e_is_whole⟩
  obtain ⟨fd_are_whole, F_are_whole⟩ : ∃ fd, Fun K "are_whole" "are_whole" s_are_whole (He.ga K "are_whole") fd := by
    obtain ⟨fd, F⟩ := cd.defs (d := dD "are_whole" "are_whole" s_are_whole) (List.mem_of_getElem? (show fn[2]? = some _ from rfl))
    exact ⟨fd, fun_of F⟩
  have e_are_whole : mg "are_whole" = some (.ref (He.ga K "are_whole")) := gl _ (by decide +kernel)
  have D_are_whole : DL.Def K mg "are_whole" s_are_whole (He.ga K "are_whole") fd_are_whole := ⟨F_are_whole, e_are_whole⟩
  obtain ⟨fd_is_fraction_pair, F_is_fraction_pair⟩ : ∃ fd, Fun K "is_fraction_pair" "is_fraction_pair" s_is_fraction_pair (He.ga K "is_fraction_pair") fd := by
    obtain ⟨fd, F⟩ := cd.defs (d := dD "is_fraction_pair" "is_fraction_pair" s_is_fraction_pair) (List.mem_of_getElem? (show fn[3]? = some _ from rfl))
    exact ⟨fd, fun_of F⟩
  have e_is_fraction_pair : mg "is_fraction_pair" = some (.ref (He.ga K "is_fraction_pair")) := gl _ (by decide +kernel)
  have D_is_fraction_pair : DL.Def K mg "is_fraction_pair" s_is_fraction_pair (He.ga K "is_fraction_pair") fd_is_fraction_pair := ⟨F_is_fraction_pair, e_is_fraction_pair⟩
  obtain ⟨fd_is_parameter, F_is_parameter⟩ : ∃ fd, Fun K "is_parameter" "is_parameter" s_is_parameter (He.ga K "is_parameter") fd := by
    obtain ⟨fd, F⟩ := cd.defs (d := dD "is_parameter" "is_parameter" s_is_parameter) (List.mem_of_getElem? (show fn[4]? = some _ from rfl))
    exact ⟨fd, fun_of F⟩
  have e_is_parameter : mg "is_parameter" = some (.ref (He.ga K "is_parameter")) := gl _ (by decide +kernel)
  have D_is_parameter : DL.Def K mg "is_parameter" s_is_parameter (He.ga K "is_parameter") fd_is_parameter := ⟨F_is_parameter, e_is_parameter⟩
  obtain ⟨fd_check_parameters, F_check_parameters⟩ : ∃ fd, Fun K "check_parameters" "check_parameters" s_check_parameters (He.ga K "check_parameters") fd := by
    obtain ⟨fd, F⟩ := cd.defs (d := dD "check_parameters" "check_parameters" s_check_parameters) (List.mem_of_getElem? (show fn[5]? = some _ from rfl))
    exact ⟨fd, fun_of F⟩
  have e_check_parameters : mg "check_parameters" = some (.ref (He.ga K "check_parameters")) := gl _ (by decide +kernel)
  have D_check_parameters : DL.Def K mg "check_parameters" s_check_parameters (He.ga K "check_parameters") fd_check_parameters := ⟨F_check_parameters, e_check_parameters⟩
  obtain ⟨fd_check_divisor, F_check_divisor⟩ : ∃ fd, Fun K "check_divisor" "check_divisor" s_check_divisor (He.ga K "check_divisor") fd := by
    obtain ⟨fd, F⟩ := cd.defs (d := dD "check_divisor" "check_divisor" s_check_divisor) (List.mem_of_getElem? (show fn[6]? = some _ from rfl))
    exact ⟨fd, fun_of F⟩
  have e_check_divisor : mg "check_divisor" = some (.ref (He.ga K "check_divisor")) := gl _ (by decide +kernel)
  have D_check_divisor : DL.Def K mg "check_divisor" s_check_divisor (He.ga K "check_divisor") fd_check_divisor := ⟨F_check_divisor, e_check_divisor⟩
  obtain ⟨fd_steady_verdict, F_steady_verdict⟩ : ∃ fd, Fun K "steady_verdict" "steady_verdict" s_steady_verdict (He.ga K "steady_verdict") fd := by
    obtain ⟨fd, F⟩ := cd.defs (d := dD "steady_verdict" "steady_verdict" s_steady_verdict) (List.mem_of_getElem? (show fn[7]? = some _ from rfl))
    exact ⟨fd, fun_of F⟩
  have e_steady_verdict : mg "steady_verdict" = some (.ref (He.ga K "steady_verdict")) := gl _ (by decide +kernel)
  have D_steady_verdict : DL.Def K mg "steady_verdict" s_steady_verdict (He.ga K "steady_verdict") fd_steady_verdict := ⟨F_steady_verdict, e_steady_verdict⟩
  obtain ⟨fd_hermite_verdict, F_hermite_verdict⟩ : ∃ fd, Fun K "hermite_verdict" "hermite_verdict" s_hermite_verdict (He.ga K "hermite_verdict") fd := by
    obtain ⟨fd, F⟩ := cd.defs (d := dD "hermite_verdict" "hermite_verdict" s_hermite_verdict) (List.mem_of_getElem? (show fn[8]? = some _ from rfl))
    exact ⟨fd, fun_of F⟩
  have e_hermite_verdict : mg "hermite_verdict" = some (.ref (He.ga K "hermite_verdict")) := gl _ (by decide +kernel)
  have D_hermite_verdict : DL.Def K mg "hermite_verdict" s_hermite_verdict (He.ga K "hermite_verdict") fd_hermite_verdict := ⟨F_hermite_verdict, e_hermite_verdict⟩
  obtain ⟨fd_bessel_verdict, F_bessel_verdict⟩ : ∃ fd, Fun K "bessel_verdict" "bessel_verdict" s_bessel_verdict (He.ga K "bessel_verdict") fd := by
    obtain ⟨fd, F⟩ := cd.defs (d := dD "bessel_verdict" "bessel_verdict" s_bessel_verdict) (List.mem_of_getElem? (show fn[9]? = some _ from rfl))
    exact ⟨fd, fun_of F⟩
  have e_bessel_verdict : mg "bessel_verdict" = some (.ref (He.ga K "bessel_verdict")) := gl _ (by decide +kernel)
  have D_bessel_verdict : DL.Def K mg "bessel_verdict" s_bessel_verdict (He.ga K "bessel_verdict") fd_bessel_verdict := ⟨F_bessel_verdict, e_bessel_verdict⟩
  obtain ⟨fd_gegenbauer_verdict, F_gegenbauer_verdict⟩ : ∃ fd, Fun K "gegenbauer_verdict" "gegenbauer_verdict" s_gegenbauer_verdict (He.ga K "gegenbauer_verdict") fd := by
    obtain ⟨fd, F⟩ := cd.defs (d := dD "gegenbauer_verdict" "gegenbauer_verdict" s_gegenbauer_verdict) (List.mem_of_getElem? (show fn[10]? = some _ from rfl))
    exact ⟨fd, fun_of F⟩
  have e_gegenbauer_verdict : mg "gegenbauer_verdict" = some (.ref (He.ga K "gegenbauer_verdict")) := gl _ (by decide +kernel)
  have D_gegenbauer_verdict : DL.Def K mg "gegenbauer_verdict" s_gegenbauer_verdict (He.ga K "gegenbauer_verdict") fd_gegenbauer_verdict := ⟨F_gegenbauer_verdict, e_gegenbauer_verdict⟩
  obtain ⟨fd_laguerre_verdict, F_laguerre_verdict⟩ : ∃ fd, Fun K "laguerre_verdict" "laguerre_verdict" s_laguerre_verdict (He.ga K "laguerre_verdict") fd := by
    obtain ⟨fd, F⟩ := cd.defs (d := dD "laguerre_verdict" "laguerre_verdict" s_laguerre_verdict) (List.mem_of_getElem? (show fn[11]? = some _ from rfl))
    exact ⟨fd, fun_of F⟩
  have e_laguerre_verdict : mg "laguerre_verdict" = some (.ref (He.ga K "laguerre_verdict")) := gl _ (by decide +kernel)
  have D_laguerre_verdict : DL.Def K mg "laguerre_verdict" s_laguerre_verdict (He.ga K "laguerre_verdict") fd_laguerre_verdict := ⟨F_laguerre_verdict, e_laguerre_verdict⟩
  obtain ⟨fd_charlier_verdict, F_charlier_verdict⟩ : ∃ fd, Fun K "charlier_verdict" "charlier_verdict" s_charlier_verdict (He.ga K "charlier_verdict") fd := by
    obtain ⟨fd, F⟩ := cd.defs (d := dD "charlier_verdict" "charlier_verdict" s_charlier_verdict) (List.mem_of_getElem? (show fn[12]? = some _ from rfl))
    exact ⟨fd, fun_of F⟩
  have e_charlier_verdict : mg "charlier_verdict" = some (.ref (He.ga K "charlier_verdict")) := gl _ (by decide +kernel)
  have D_charlier_verdict : DL.Def K mg "charlier_verdict" s_charlier_verdict (He.ga K "charlier_verdict") fd_charlier_verdict := ⟨F_charlier_verdict, e_charlier_verdict⟩
  obtain ⟨fd_meixner_verdict, F_meixner_verdict⟩ : ∃ fd, Fun K "meixner_verdict" "meixner_verdict" s_meixner_verdict (He.ga K "meixner_verdict") fd := by
    obtain ⟨fd, F⟩ := cd.defs (d := dD "meixner_verdict" "meixner_verdict" s_meixner_verdict) (List.mem_of_getElem? (show fn[13]? = some _ from rfl))
    exact ⟨fd, fun_of F⟩
  have e_meixner_verdict : mg "meixner_verdict" = some (.ref (He.ga K "meixner_verdict")) := gl _ (by decide +kernel)
  have D_meixner_verdict : DL.Def K mg "meixner_verdict" s_meixner_verdict (He.ga K "meixner_verdict") fd_meixner_verdict := ⟨F_meixner_verdict, e_meixner_verdict⟩
  obtain ⟨fd_is_whole_sum, F_is_whole_sum⟩ : ∃ fd, Fun K "is_whole_sum" "is_whole_sum" s_is_whole_sum (He.ga K "is_whole_sum") fd := by
    obtain ⟨fd, F⟩ := cd.defs (d := dD "is_whole_sum" "is_whole_sum" s_is_whole_sum) (List.mem_of_getElem? (show fn[14]? = some _ from rfl))
    exact ⟨fd, fun_of F⟩
  have e_is_whole_sum : mg "is_whole_sum" = some (.ref (He.ga K "is_whole_sum")) := gl _ (by decide +kernel)
  have D_is_whole_sum : DL.Def K mg "is_whole_sum" s_is_whole_sum (He.ga K "is_whole_sum") fd_is_whole_sum := ⟨F_is_whole_sum, e_is_whole_sum⟩
  obtain ⟨fd__law_deck, F__law_deck⟩ : ∃ fd, Fun K "_law_deck" "_law_deck" sDeck (He.ga K "_law_deck") fd := by
    obtain ⟨fd, F⟩ := cd.defs (d := dD "_law_deck" "_law_deck" sDeck) (List.mem_of_getElem? (show fn[15]? = some _ from rfl))
    exact ⟨fd, fun_of F⟩
  have e__law_deck : mg "_law_deck" = some (.ref (He.ga K "_law_deck")) := gl _ (by decide +kernel)
  have D__law_deck : DL.Def K mg "_law_deck" sDeck (He.ga K "_law_deck") fd__law_deck := ⟨F__law_deck, e__law_deck⟩
  obtain ⟨fd__law_draw, F__law_draw⟩ : ∃ fd, Fun K "_law_draw" "_law_draw" sDraw (He.ga K "_law_draw") fd := by
    obtain ⟨fd, F⟩ := cd.defs (d := dD "_law_draw" "_law_draw" sDraw) (List.mem_of_getElem? (show fn[16]? = some _ from rfl))
    exact ⟨fd, fun_of F⟩
  have e__law_draw : mg "_law_draw" = some (.ref (He.ga K "_law_draw")) := gl _ (by decide +kernel)
  have D__law_draw : DL.Def K mg "_law_draw" sDraw (He.ga K "_law_draw") fd__law_draw := ⟨F__law_draw, e__law_draw⟩
  obtain ⟨fd__law_pick, F__law_pick⟩ : ∃ fd, Fun K "_law_pick" "_law_pick" s__law_pick (He.ga K "_law_pick") fd := by
    obtain ⟨fd, F⟩ := cd.defs (d := dD "_law_pick" "_law_pick" s__law_pick) (List.mem_of_getElem? (show fn[17]? = some _ from rfl))
    exact ⟨fd, fun_of F⟩
  have e__law_pick : mg "_law_pick" = some (.ref (He.ga K "_law_pick")) := gl _ (by decide +kernel)
  have D__law_pick : DL.Def K mg "_law_pick" s__law_pick (He.ga K "_law_pick") fd__law_pick := ⟨F__law_pick, e__law_pick⟩
  obtain ⟨fd__law_common, F__law_common⟩ : ∃ fd, Fun K "_law_common" "_law_common" s__law_common (He.ga K "_law_common") fd := by
    obtain ⟨fd, F⟩ := cd.defs (d := dD "_law_common" "_law_common" s__law_common) (List.mem_of_getElem? (show fn[18]? = some _ from rfl))
    exact ⟨fd, fun_of F⟩
  have e__law_common : mg "_law_common" = some (.ref (He.ga K "_law_common")) := gl _ (by decide +kernel)
  have D__law_common : DL.Def K mg "_law_common" s__law_common (He.ga K "_law_common") fd__law_common := ⟨F__law_common, e__law_common⟩
  obtain ⟨fd__law_pair, F__law_pair⟩ : ∃ fd, Fun K "_law_pair" "_law_pair" s__law_pair (He.ga K "_law_pair") fd := by
    obtain ⟨fd, F⟩ := cd.defs (d := dD "_law_pair" "_law_pair" s__law_pair) (List.mem_of_getElem? (show fn[19]? = some _ from rfl))
    exact ⟨fd, fun_of F⟩
  have e__law_pair : mg "_law_pair" = some (.ref (He.ga K "_law_pair")) := gl _ (by decide +kernel)
  have D__law_pair : DL.Def K mg "_law_pair" s__law_pair (He.ga K "_law_pair") fd__law_pair := ⟨F__law_pair, e__law_pair⟩
  obtain ⟨fd__law_is_whole, F__law_is_whole⟩ : ∃ fd, Fun K "_law_is_whole" "_law_is_whole" s__law_is_whole (He.ga K "_law_is_whole") fd := by
    obtain ⟨fd, F⟩ := cd.defs (d := dD "_law_is_whole" "_law_is_whole" s__law_is_whole) (List.mem_of_getElem? (show fn[20]? = some _ from rfl))
    exact ⟨fd, fun_of F⟩
  have e__law_is_whole : mg "_law_is_whole" = some (.ref (He.ga K "_law_is_whole")) := gl _ (by decide +kernel)
  have D__law_is_whole : DL.Def K mg "_law_is_whole" s__law_is_whole (He.ga K "_law_is_whole") fd__law_is_whole := ⟨F__law_is_whole, e__law_is_whole⟩
  obtain ⟨fd__law_named_verdict, F__law_named_verdict⟩ : ∃ fd, Fun K "_law_named_verdict" "_law_named_verdict" s__law_named_verdict (He.ga K "_law_named_verdict") fd := by
    obtain ⟨fd, F⟩ := cd.defs (d := dD "_law_named_verdict" "_law_named_verdict" s__law_named_verdict) (List.mem_of_getElem? (show fn[21]? = some _ from rfl))
    exact ⟨fd, fun_of F⟩
  have e__law_named_verdict : mg "_law_named_verdict" = some (.ref (He.ga K "_law_named_verdict")) := gl _ (by decide +kernel)
  have D__law_named_verdict : DL.Def K mg "_law_named_verdict" s__law_named_verdict (He.ga K "_law_named_verdict") fd__law_named_verdict := ⟨F__law_named_verdict, e__law_named_verdict⟩
  obtain ⟨fd__law_parameter, F__law_parameter⟩ : ∃ fd, Fun K "_law_parameter" "_law_parameter" s__law_parameter (He.ga K "_law_parameter") fd := by
    obtain ⟨fd, F⟩ := cd.defs (d := dD "_law_parameter" "_law_parameter" s__law_parameter) (List.mem_of_getElem? (show fn[22]? = some _ from rfl))
    exact ⟨fd, fun_of F⟩
  have e__law_parameter : mg "_law_parameter" = some (.ref (He.ga K "_law_parameter")) := gl _ (by decide +kernel)
  have D__law_parameter : DL.Def K mg "_law_parameter" s__law_parameter (He.ga K "_law_parameter") fd__law_parameter := ⟨F__law_parameter, e__law_parameter⟩
  obtain ⟨fd__law_near, F__law_near⟩ : ∃ fd, Fun K "_law_near" "_law_near" s__law_near (He.ga K "_law_near") fd := by
    obtain ⟨fd, F⟩ := cd.defs (d := dD "_law_near" "_law_near" s__law_near) (List.mem_of_getElem? (show fn[23]? = some _ from rfl))
    exact ⟨fd, fun_of F⟩
  have e__law_near : mg "_law_near" = some (.ref (He.ga K "_law_near")) := gl _ (by decide +kernel)
  have D__law_near : DL.Def K mg "_law_near" s__law_near (He.ga K "_law_near") fd__law_near := ⟨F__law_near, e__law_near⟩
  obtain ⟨fd_law, F_law⟩ : ∃ fd, Fun K "law" "law" s_law (He.ga K "law") fd := by
    obtain ⟨fd, F⟩ := cd.defs (d := dD "law" "law" s_law) (List.mem_of_getElem? (show fn[24]? = some _ from rfl))
    exact ⟨fd, fun_of F⟩
  have e_law : mg "law" = some (.ref (He.ga K "law")) := gl _ (by decide +kernel)
  have D_law : DL.Def K mg "law" s_law (He.ga K "law") fd_law := ⟨F_law, e_law⟩
  have Wh : WholeAt K mg (He.ga K "is_whole") := whole_ok F_is_whole e_is_whole gisi gint gbool ⟨_, _, _, _, _, _, _, _, _, _, _, _, rfl, rfl, rfl⟩
  have hc : fd_are_whole.code = .ref (He.cT K ("are_whole", none)).1 := by
    obtain ⟨oc, od, kV, doc, pm, an, cdv, ct, osl, e, lk, hcd⟩ := F_are_whole.ex
    obtain ⟨c, ec⟩ := He.codeIn_ref hcd
    have e2 : fd_are_whole.code = .ref c := by rw [e]; exact ec
    have e3 : He.codeOf K ("are_whole", none) = c := He.codeOf_eq (fd := fd_are_whole) lk e2
    rw [e2]
    exact congrArg Value.ref e3.symm
  have hd := c.hd ("are_whole", none) (by decide +kernel)
  have law_b : ∀ (s : Shared) (u : Value), BindsTo s fd_law ⟨[u], []⟩ [("script", u)] := fun s u => by
    obtain ⟨oc, od, kV, doc, pm, an, cdv, ct, osl, rfl, _, _⟩ := F_law.ex
    exact .of_eq rfl
  have ef := hfa.symm.trans e_law
  cases ef
  refine ⟨K, fd_law, [He.cT K ("are_whole", none)], X, fun p hp => ?_, fun p hp => ?_, fun p hp => ?_, law_b, fun base Kb Gb TB => ?_⟩
  · rw [List.mem_singleton.mp hp]
    exact c.empty _ (by decide +kernel)
  · rw [List.mem_singleton.mp hp]
    exact c.out _ (by decide +kernel)
  · rw [List.mem_singleton.mp hp]
    exact PySem.W.codeHd_of_K X hd
  have C : CodeAt base mg fd_are_whole (He.cT K ("are_whole", none)).1 (He.cT K ("are_whole", none)).2 := ⟨hc, TB _ (List.mem_singleton.mpr rfl)⟩
  have G_are_whole := ok_are_whole (P := (PySem.Challenge.rw_twicestep_k54_verdicts_of_named_rules).prog) (w := w) (base := base) D_are_whole C Wh gall
  have G_is_fraction_pair := ok_is_fraction_pair (P := (PySem.Challenge.rw_twicestep_k54_verdicts_of_named_rules).prog) (w := w) (base := base) D_is_fraction_pair D_are_whole C Wh gall i_gcd gisi glen gtup
  have G_is_parameter := ok_is_parameter (P := (PySem.Challenge.rw_twicestep_k54_verdicts_of_named_rules).prog) (w := w) (base := base) D_is_parameter D_is_fraction_pair G_is_fraction_pair gabs h_LARGEST_BOTTOM h_LARGEST_TOP
  have G_check_parameters := ok_check_parameters (P := (PySem.Challenge.rw_twicestep_k54_verdicts_of_named_rules).prog) (w := w) (base := base) D_check_parameters D_is_parameter G_is_parameter xBadParameter gBadParameter
  have G_check_divisor := ok_check_divisor (P := (PySem.Challenge.rw_twicestep_k54_verdicts_of_named_rules).prog) (w := w) (base := base) D_check_divisor D_check_parameters G_check_parameters xBadParameter gBadParameter
  have G_steady_verdict := ok_steady_verdict (P := (PySem.Challenge.rw_twicestep_k54_verdicts_of_named_rules).prog) (w := w) (base := base) D_steady_verdict D_check_parameters G_check_parameters D_check_divisor G_check_divisor
  have G_hermite_verdict := ok_hermite_verdict (P := (PySem.Challenge.rw_twicestep_k54_verdicts_of_named_rules).prog) (w := w) (base := base) D_hermite_verdict D_check_parameters G_check_parameters
  have G_bessel_verdict := ok_bessel_verdict (P := (PySem.Challenge.rw_twicestep_k54_verdicts_of_named_rules).prog) (w := w) (base := base) D_bessel_verdict D_check_parameters G_check_parameters D_check_divisor G_check_divisor
  have G_gegenbauer_verdict := ok_gegenbauer_verdict (P := (PySem.Challenge.rw_twicestep_k54_verdicts_of_named_rules).prog) (w := w) (base := base) D_gegenbauer_verdict D_check_parameters G_check_parameters
  have G_laguerre_verdict := ok_laguerre_verdict (P := (PySem.Challenge.rw_twicestep_k54_verdicts_of_named_rules).prog) (w := w) (base := base) D_laguerre_verdict D_check_parameters G_check_parameters
  have G_charlier_verdict := ok_charlier_verdict (P := (PySem.Challenge.rw_twicestep_k54_verdicts_of_named_rules).prog) (w := w) (base := base) D_charlier_verdict D_check_parameters G_check_parameters D_check_divisor G_check_divisor
  have G_is_whole_sum := ok_is_whole_sum (P := (PySem.Challenge.rw_twicestep_k54_verdicts_of_named_rules).prog) (w := w) (base := base) D_is_whole_sum
  have G__law_draw := ok__law_draw (P := (PySem.Challenge.rw_twicestep_k54_verdicts_of_named_rules).prog) (w := w) (base := base) D__law_draw gint gmax
  have G__law_pick := ok__law_pick (P := (PySem.Challenge.rw_twicestep_k54_verdicts_of_named_rules).prog) (w := w) (base := base) D__law_pick D__law_draw gint gmax glen
  have G__law_common := ok__law_common (P := (PySem.Challenge.rw_twicestep_k54_verdicts_of_named_rules).prog) (w := w) (base := base) D__law_common gabs gint grange
  have G__law_pair := ok__law_pair (P := (PySem.Challenge.rw_twicestep_k54_verdicts_of_named_rules).prog) (w := w) (base := base) D__law_pair D__law_common G__law_common
  have G__law_is_whole := ok__law_is_whole (P := (PySem.Challenge.rw_twicestep_k54_verdicts_of_named_rules).prog) (w := w) (base := base) D__law_is_whole gint
  have G__law_named_verdict := ok__law_named_verdict (P := (PySem.Challenge.rw_twicestep_k54_verdicts_of_named_rules).prog) (w := w) (base := base) D__law_named_verdict D__law_is_whole G__law_is_whole
  have G__law_parameter := ok__law_parameter (P := (PySem.Challenge.rw_twicestep_k54_verdicts_of_named_rules).prog) (w := w) (base := base) D__law_parameter D__law_draw D__law_pick D__law_pair G__law_draw G__law_pick G__law_pair
  have G__law_near := ok__law_near (P := (PySem.Challenge.rw_twicestep_k54_verdicts_of_named_rules).prog) (w := w) (base := base) D__law_near D__law_pick D__law_pair G__law_pick G__law_pair gabs
  have G_meixner_verdict := ok_meixner_verdict (P := (PySem.Challenge.rw_twicestep_k54_verdicts_of_named_rules).prog) (w := w) (base := base) D_meixner_verdict D_check_parameters G_check_parameters D_check_divisor G_check_divisor D_is_whole_sum G_is_whole_sum
  exact ok_law (P := (PySem.Challenge.rw_twicestep_k54_verdicts_of_named_rules).prog) (w := w) (base := base) (P0 := (He.cT K ("are_whole", none)).2) (CB := hA K "BadParameter") D_law D__law_deck D__law_draw G__law_draw D__law_pick G__law_pick D__law_parameter G__law_parameter D__law_near G__law_near D__law_pair G__law_pair D__law_named_verdict G__law_named_verdict D_steady_verdict G_steady_verdict D_hermite_verdict G_hermite_verdict D_bessel_verdict G_bessel_verdict D_gegenbauer_verdict G_gegenbauer_verdict D_laguerre_verdict G_laguerre_verdict D_charlier_verdict G_charlier_verdict D_meixner_verdict G_meixner_verdict grepr gint glist grange gabs
end T54
open PySem PySem.W PySem.Calls PyProof.Rows
theorem PySem.Challenge.cw_twicestep_k54_verdicts_of_named_rules_holds : PySem.Challenge.rw_twicestep_k54_verdicts_of_named_rules.Holds := by
  w_on; o_law
  refine HandSHeadRun.head_imp (r := OpenLaw.row PySem.Challenge.rw_twicestep_k54_verdicts_of_named_rules) (q := T54.qv) (H := T54.hk) (ob := T54.ob) (M := 6000) (loose := T54.looseN) (d := HandSHeadRun.topDef (OpenLaw.row PySem.Challenge.rw_twicestep_k54_verdicts_of_named_rules).prog 33) (kwd := []) T54.ob_eq T54.run
    (by kernel_rfl) (by kernel_rfl) (by kernel_rfl) (by rfl) (by first | assumption | decide +kernel) (by decide +kernel) ⟨rfl, rfl, rfl, rfl, rfl, by decide +kernel⟩ ?hw ?hc
  case hw => w_witness2
  case hc =>
    refine DL.law_walk (l := PySem.Challenge.rw_twicestep_k54_verdicts_of_named_rules) (n := 63) (k := 9) (x := "script") rfl (by decide) (by kernel_rfl) ⟨rfl, by decide, by decide⟩ ?F
    intro w mg fa h Y G hmg0
    obtain ⟨K, KX, c⟩ := Y
    have hmg : mg ("law" : PySem.Str) = some (.ref fa) := by
      have e : (HandSHeadRun.topDef (OpenLaw.row PySem.Challenge.rw_twicestep_k54_verdicts_of_named_rules).prog 33).name = ("law" : PySem.Str) := by kernel_rfl
      rw [← e]
      exact hmg0
    exact T54.facts KX G hmg c
