import PyProof.Rows.All
import Wide.All
import OpenK.AllK
import Wide.FinOn
import HandS.ForExc
import HandS.ExcInit
import HandS.ExcIs
import HandS.IsInst
import HandS.TryMany
import HandS.ExcField
import KE.KExcInit
import PyProof.InstStoreFacts
import HandS.ExcValue
import KE.KExcIs
import HandS.HotCalls
import HandS.ForMost
import HandS.Walk
import KE.GoesEnum
import KE.GoesMore
import HandS.Style
import HandS.Flow
import HandS.Conv
import PySem.Challenge.RW_twicestep_k00_errors_by_position_and_by
import KE.KStateDown
import Lean
import HandS.Head0
import HandS.Head1
import HandS.Head2
import HandS.HeadEnd
import HandS.HeadHook1
import HandS.HeadHook2
import HandS.HeadHook3
import HandS.HeadHook4
set_option Elab.async false
set_option linter.all false
set_option maxRecDepth 100000
set_option maxHeartbeats 4000000
namespace PySem
namespace XK
open PySem PySem.Spec PyProof.Rows PySem.Calls
open PySem.HandSPX (excO)
section
variable {M : Model} {A : Around} {E : Value → Shared → Prop} {h : Heap} {g : Array GenState} {dr : Drawn} {tk : Nat} {os : OsState}
  {prog : Program} {w : World} {R : Result → Shared → Prop}
  {nm qn : Str} {C N : Addr} {bs bm bB : List Value} {hd : Bool} {sn : List Str} {sb : List Value} {ab : Bool} {col : Option Bool} {dd : Option Addr}
  {m0 m1 m2 m3 m5 : Option Value} {B nw ini : String}
/-- the check ahead of the maker, keywords or not -/
theorem xcheck (F : ExcBaseFacts B nw ini bB) (hT : ∀ X : String, bm.contains (.type X) = bB.contains (.type X))
    {rest : List Value} {kw : List (Str × Value)} {Q : Unit → Shared → Prop}
    (hC : h.get? C = some (excClassObj nm qn C N bs bm hd sn sb ab col dd m0 m1 m2 m3 m5 nw))
    (hq : Q () ⟨h, g, dr, tk, os⟩) :
    wpAny M A (checkBuiltinCall nw ⟨.ref C :: rest, kw⟩) Q E ⟨h, g, dr, tk, os⟩ := by
  have z1 : (Value.ref C :: bm).contains (.type B) = true := by
    rw [List.contains_cons, hT, F.hasB, Bool.or_true]
  have z2 := F.noStar
  simp only [checkBuiltinCall, F.newKind, F.newSplit, F.newRow]
  repeat (first
    | refine wpAny_loadPart_at hC ?_
    | (refine wpAny_isSubtype_exc hC ?_
       rw [z1])
    | refine wpAny_staticBase_exc hC ?_
    | refine wpAny_madeBy_exc hC ?_
    | simp only [bne_self_eq_false, Bool.false_eq_true, if_false]
    | wp_step)
  exact hq
end
section
variable {A : Around} {E : Value → Shared → Prop} {h : Heap} {g : Array GenState} {dr : Drawn} {tk : Nat} {os : OsState}
  {prog : Program} {w : World} {R : Result → Shared → Prop}
  {nm qn : Str} {C N : Addr} {bs bm bB : List Value} {hd : Bool} {sn : List Str} {sb : List Value} {ab : Bool} {col : Option Bool} {dd : Option Addr}
  {m0 m1 m2 m3 m5 : Option Value} {B nw ini : String}
/-- the maker: a tuple of the positional values, then the exception's object -/
theorem xnew (F : ExcBaseFacts B nw ini bB) (hT : ∀ X : String, bm.contains (.type X) = bB.contains (.type X))
    {rest : List Value} {kw : List (Str × Value)} (hz : rest.length ≤ sizeLine)
    (hC : h.get? C = some (excClassObj nm qn C N bs bm hd sn sb ab col dd m0 m1 m2 m3 m5 nw))
    (hq : R (.ok (.ret (.ref (h.objs.size + 1))))
      ⟨(h.push (W.kdv_tup rest)).push (excO C h.objs.size), g, dr, tk, os⟩) :
    codeAny (model prog w) A (.builtin nw ⟨.ref C :: rest, kw⟩) R ⟨h, g, dr, tk, os⟩ := by
  have y0 := F.ends
  have y1 : (Value.ref C :: bm).contains (.type B) = true := by
    rw [List.contains_cons, hT, F.hasB, Bool.or_true]
  have y2 : (Value.ref C :: bm).contains (.type "AttributeError") = false := by
    rw [List.contains_cons, hT, F.noAttr]
    rfl
  have y3 : (Value.ref C :: bm).contains (.type "NameError") = false := by
    rw [List.contains_cons, hT, F.noName]
    rfl
  refine codeAny_builtinAt F.entry ?_
  unfold Builtin.«BaseException.__new__»
  refine wpAt_bind ?_
  show wpAt _ _ _ (stack >>= _) _ _ _
  refine wpAt_bind (wpAt_stack fun p below => wpAt_of_wpAny ?_)
  wp_walk
  refine wpAt_of_wpAny ?_
  rw [F.owner]
  repeat (first
    | with_reducible refine wpAny_madeHere_exc F.canon hC ?_
    | with_reducible refine wpAny_loadPart_at hC ?_
    | (with_reducible refine wpAny_isSubtype_exc hC ?_
       first | rw [y1] | rw [y2] | rw [y3])
    | wp_step)
  show R _ _
  rw [Heap.size_push]
  exact hq
/-- type.__call__: the maker, then the class's own __init__ -/
theorem xtype (F : ExcBaseFacts B nw ini bB) (hT : ∀ X : String, bm.contains (.type X) = bB.contains (.type X))
    {rest : List Value} {kw : List (Str × Value)} {fI : Addr} {Q : Fin → Shared → Prop} (hz : rest.length ≤ sizeLine)
    (hC : h.get? C = some (excClassObj nm qn C N bs bm hd sn sb ab col dd m0 m1 m2 m3 m5 nw))
    (hi : W.Looks (model prog w) h (typeLookup (.ref C) "__init__") (some (.ref fI)))
    (hb : ∀ self, W.Looks (model prog w) h (bindSpecial (.ref fI) self) (.ref fI, [self]))
    (hq : codeAny (model prog w) A (.call (.ref fI) ⟨.ref (h.objs.size + 1) :: rest, kw⟩)
      (fun r s' => match r with
        | .ok (.ret v) => v = .none ∧ Q (.done (.ret (.ref (h.objs.size + 1)))) s'
        | .ok _ => False
        | .error e => E e s')
      ⟨(h.push (W.kdv_tup rest)).push (excO C h.objs.size), g, dr, tk, os⟩) :
    wpAny (model prog w) A (Builtin.«type.__call__» ⟨.ref C :: rest, kw⟩) Q E ⟨h, g, dr, tk, os⟩ := by
  repeat (first
    | with_reducible refine wpAny_loadPart_at hC ?_
    | with_reducible refine wpAny_madeBy_exc hC ?_
    | wp_step)
  refine codeAny_call_builtin_code (Code.quiet_builtin _ F.quiet) (xcheck F hT hC ?_)
  refine xnew F hT hz hC ?_
  show wpAny _ _ _ _ _ _
  have k1 : ∀ b o, h.get? b = some o → ((h.push (W.kdv_tup rest)).push (excO C h.objs.size)).get? b = some o :=
    fun b o e => Heap.get?_push_of_some _ (Heap.get?_push_of_some _ e)
  have hC1 := k1 _ _ hC
  have at1 : ((h.push (W.kdv_tup rest)).push (excO C h.objs.size)).get? (h.objs.size + 1) = some (excO C h.objs.size) := by heap_get
  have own : (Value.ref C :: bm).contains (.ref C) = true := by simp
  have hi1 := hi.keeps k1
  have hb1 := (hb (.ref (h.objs.size + 1))).keeps k1
  unfold isInstance
  repeat (first
    | with_reducible refine wpAny_loadPart_at at1 ?_
    | (with_reducible refine wpAny_isSubtype_exc hC1 ?_
       rw [own])
    | wp_step)
  show wpAny _ _ (typeLookup (.ref C) _) _ _ _
  refine hi1.at ?_
  refine wpAny_holding (wpAny_bind (hb1.at ?_))
  refine wpAny_bind (wpAny_call (codeAny_mono hq fun r s' z => ?_))
  rcases r with e | (v | _ | _ | _) <;> first | exact z | exact z.elim | skip
  obtain ⟨rfl, z⟩ := z
  first
    | exact wpAny_pure (wpAny_pure z)
    | (wp_walk; exact z)
theorem xcall (F : ExcBaseFacts B nw ini bB) (hT : ∀ X : String, bm.contains (.type X) = bB.contains (.type X))
    {rest : List Value} {kw : List (Str × Value)} {fI : Addr} (hz : rest.length ≤ sizeLine)
    (hC : h.get? C = some (excClassObj nm qn C N bs bm hd sn sb ab col dd m0 m1 m2 m3 m5 nw))
    (hi : W.Looks (model prog w) h (typeLookup (.ref C) "__init__") (some (.ref fI)))
    (hb : ∀ self, W.Looks (model prog w) h (bindSpecial (.ref fI) self) (.ref fI, [self]))
    (hq : codeAny (model prog w) (A.under (.builtin "type.__call__" ⟨.ref C :: rest, kw⟩)) (.call (.ref fI) ⟨.ref (h.objs.size + 1) :: rest, kw⟩)
      (W.InitBack (h.objs.size + 1) R) ⟨(h.push (W.kdv_tup rest)).push (excO C h.objs.size), g, dr, tk, os⟩) :
    codeAny (model prog w) A (.call (.ref C) ⟨rest, kw⟩) R ⟨h, g, dr, tk, os⟩ := by
  have f1 := tc_lookup
  have f2 := tc_bind (.ref C)
  have hTy : (⟨h, g, dr, tk, os⟩ : Shared).TypeIs (.ref C) "type" := ⟨_, hC, rfl⟩
  refine codeAny_of_tree ?_
  show wpAny _ _ (callAny (.ref C) _) _ _ _
  repeat (any_goals (first
    | assumption
    | with_reducible refine wpAny_loadPart_at hC ?_
    | wp_step))
  refine ⟨rfl, ?_⟩
  refine codeAny_call_builtin_at (Code.quiet_builtin _ (by decide +kernel)) entry_typeCall (wpAny_check_type_call_sub hC (xtype F hT hz hC hi hb ?_))
  refine codeAny_mono hq fun r s' z => ?_
  rcases r with e | (v | _ | _ | _) <;> exact z
end
end XK
end PySem
set_option Elab.async false
set_option linter.all false
set_option maxRecDepth 100000
set_option maxHeartbeats 4000000
namespace PySem
namespace XK
open PySem PySem.W PySem.Calls PyProof.Rows PySem.HandSPX Builtin Builtin.ObjectAttr
abbrev bmE : List Value := [.type "Exception", .type "BaseException", .type "object"]
def xA (p1 p2 : Pos) : Arguments := { posonlyargs := [], args := [{ arg := "self", annotation := none, pos := p1 }, { arg := "thing", annotation := none, pos := p2 }], vararg := none, kwonlyargs := [], kw_defaults := [], kwarg := none, defaults := [] }
def xB (q1 q2 q3 q4 : Pos) : List Stmt := [.Assign [.Attribute (.Name "self" q1) "thing" q2] (.Name "thing" q3) q4]
def xS : Scope := { kind := .function, names := [(PySem.Str.ofString "self", .local), (PySem.Str.ofString "thing", .local)], isGenerator := false, isCoroutine := false, more := [] }
/-- what is told of an error's class at C and of its __init__ at fI -/
structure ExF (K : Frag) (C fI : Addr) : Prop where
  ini : excInitIn K C bmE "Exception.__new__" = true
  ov : excOver K C bmE = true
  sa : findIn K (.ref C) "__setattr__" = some (some (.builtin "object.__setattr__"))
  ga : findIn K (.ref C) "__getattribute__" = some (some (.builtin "BaseException.__getattribute__"))
  gg : findIn K (.ref C) "__getattr__" = some none
  no : findIn K (.ref C) "thing" = some none
  hd : hasDictIn K C = true
  ic : findIn K (.ref C) "__init__" = some (some (.ref fI))
  ti : typeIn K (.ref fI) = some (.type "function")
  kc : keepIn K (.ref C) = true
  ex : subIn K (.ref C) (.type "BaseException") = some true
  ty : typeIn K (.ref C) = some (.type "type")
  cl : findIn K (.ref C) "__class__" = some (some (.builtin "object.__class__"))
  mo : mroIn K C (.type "object") = some true
  dn : specialIn K (.builtin "object.__class__") "__get__" = some (some (.builtin "getset_descriptor.__get__"))
  dt : takesIn K (.builtin "object.__class__") = some true
  fn : ∃ (oc : Value) (od : Option Addr) (qual : Str) (kV doc pm : Value) (an : Option Addr) (cdv ct : Value) (osl : Array (Option Value)) (p1 p2 q1 q2 q3 q4 : Pos),
    K.lookup fI = some ⟨oc, od, .func (fnOf "__init__" qual (xA p1 p2) (xB q1 q2 q3 q4) xS .none kV doc pm an cdv ct), osl⟩ ∧ codeIn K cdv qual = true
/-- the map of an error's own dict -/
def thingM (v : Value) : Str → Option Value := fun y => if y = "thing" then some v else none
section
variable {prog : Program} {w : World} {A : Around} {E : Value → Shared → Prop} {R : Result → Shared → Prop} {s : Shared} {K : Frag} {C fI : Addr}
theorem xld {M : Model} {name : Str} {scope : Scope} {L a : Addr} {cd : Value} {m : Str → Option Value} {x : Str} {pos : Pos} {v : Value} {Q : Value → Shared → Prop}
    (hn : s.heap.Ns L m) (hv : m x = some v) (h : Q v s)
    (hk : scope.kind = .function := by rfl) (hl : (envOfC name scope L a cd).kindOf x = some .local := by rfl) (hd : (x == ("__debug__" : Str)) = false := by decide) :
    wpAny M A (eval (.Name x pos) (envOfC name scope L a cd)) Q E s :=
  wpAny_Name (wpAny_loadName_local hk hl hn hv h) hd
/-- the attribute of an error that has no dict yet -/
theorem xstore {x : Addr} {fv : Array Value} {v : Value} {Q : Unit → Shared → Prop} (T : ExF K C fI) (X : K.In s.heap) (hx : s.heap.get? x = some { cls := .ref C, data := .fields fv })
    (hq : ∀ h' tk dx, (∀ b o, b ≠ x → s.heap.get? b = some o → h'.get? b = some o) → s.heap.objs.size ≤ dx → dx ≠ x →
      h'.get? x = some { cls := .ref C, dict := some dx, data := .fields fv } → h'.Ns1 dx (thingM v) → Q () { s with heap := h', toks := tk }) :
    wpAny (model prog w) A (setAttr (.ref x) "thing" v) Q E s := by
  obtain ⟨cd, hcd, hh⟩ := any_some T.hd
  obtain ⟨hp, g, d, t, os⟩ := s
  have I : InstAt hp x { cls := .ref C, data := .fields fv } C none := ⟨hx, rfl, rfl, trivial⟩
  have hcls : Looks (model prog w) hp (classData C) cd := looks_clsIn X hcd
  have hxs : x ≠ hp.objs.size := Nat.ne_of_lt (Heap.lt_size hx)
  refine set_plain X I T.sa ?_
  refine osa_openX F.store_Exception X I T.ov (r := none) (by unfold takerIn; rw [T.no]; rfl) fun b => ?_
  show wpAny _ _ (storeInOwnDict (.ref x) (.ref C) (.str "thing" t) "thing" v b) _ _ _
  obtain ⟨nm, bs, mro, ns, qn, hd, sn, sb, ab, col, del⟩ := cd
  dsimp only at hh
  subst hh
  unfold storeInOwnDict ownDictForStores
  repeat (first
    | with_reducible refine store_in_new ?_ ?_
    | with_reducible refine wpAny_loadPart_at hx ?_
    | with_reducible refine hcls.at ?_
    | wp_step)
  · exact ⟨_, #[], _, (Heap.get?_update_ne _ _ _ _ hxs.symm).trans (Heap.get?_push_at rfl rfl), rfl, fun e he => absurd he (by simp), fun _ => rfl⟩
  · intro h' tk' hn' hs
    have hx1 : (hp.push { cls := .type "dict", data := .dict #[] }).get? x = some { cls := .ref C, data := .fields fv } :=
      Heap.get?_push_of_some _ hx
    refine hq h' tk' hp.objs.size (fun c o hc ho => ?_) (Nat.le_refl _) hxs.symm ?_ hn'
    · exact (hs.2 c (Nat.ne_of_lt (Heap.lt_size ho))).trans ((Heap.get?_update_ne _ _ _ _ hc).trans (Heap.get?_push_of_some _ ho))
    · exact (hs.2 x hxs).trans (Heap.get?_update_self _ hx1 rfl)
/-- what stands behind the making of an error at x: its dict at dx -/
structure XEnd (h h' : Heap) (x C dx t0 : Addr) (v : Value) : Prop where
  keep : ∀ b o, b ≠ x → h.get? b = some o → h'.get? b = some o
  big : h.objs.size ≤ dx
  ne : dx ≠ x
  ob : h'.get? x = some { cls := .ref C, dict := some dx, data := .fields #[.ref t0, .none, .none, .none, .bool false, .none] }
  ns : h'.Ns1 dx (thingM v)
theorem xinit (T : ExF K C fI) {args : Args} {x t0 : Addr} {v : Value} (X : K.In s.heap) (hlim : s.heap.NoLimit) (hx : s.heap.get? x = some (excO C t0)) (hroom : A.depth < recursionLimit)
    (ha : args = ⟨[.ref x, v], []⟩ ∨ args = ⟨[.ref x], [("thing", v)]⟩)
    (hq : ∀ h' tk dx, XEnd s.heap h' x C dx t0 v → R (.ok (.ret .none)) { s with heap := h', toks := tk }) :
    codeAny (model prog w) A (.call (.ref fI) args) R s := by
  obtain ⟨oc, od, qual, kV, doc, pm, an, cdv, ct, osl, p1, p2, q1, q2, q3, q4, ho, hcd⟩ := T.fn
  have hb : BindsTo s (fnOf "__init__" qual (xA p1 p2) (xB q1 q2 q3 q4) xS .none kV doc pm an cdv ct) args [("self", .ref x), ("thing", v)] := by
    rcases ha with rfl | rfl
    · exact BindsTo.of_eq (by first | rfl | with_unfolding_all rfl)
    · exact BindsTo.of_eq (by first | rfl | with_unfolding_all rfl)
  refine Att.call_fn (binds := [("self", .ref x), ("thing", v)]) X hlim ho hcd hroom hb (by first | rfl | decide | with_unfolding_all rfl) (fun s1 IC => ?_) rfl rfl rfl
  obtain ⟨h1, t1, rfl⟩ := IC.toInCall.same
  have k : ∀ b o, s.heap.get? b = some o → h1.get? b = some o := IC.toInCall.keep
  have hn := IC.toInCall.ns
  show wpAny _ _ (execs _ _) _ _ _
  refine wpAny_execs_cons (plainObj_wpAny_Assign_Attribute ?_)
  refine xld (v := v) hn (by first | rfl | with_unfolding_all rfl | kernel_rfl) (xld (v := .ref x) hn (by first | rfl | with_unfolding_all rfl | kernel_rfl) ?_)
  refine xstore T (X.keeps k) (k _ _ hx) fun h3 t3 dx k3 big ne at3 ns3 => ?_
  have z : s.heap.objs.size < h1.objs.size := hn.lt
  exact wpAny_execs_nil (hq h3 t3 dx ⟨fun b o hb e => k3 b o hb (k b o e), Nat.le_of_lt (Nat.lt_of_lt_of_le z big), ne, at3, ns3⟩)
/-- an error that has been made: at e, its dict at d -/
structure XMade (h h' : Heap) (e C d : Addr) (v : Value) : Prop where
  keep : ∀ b o, h.get? b = some o → h'.get? b = some o
  new : h.objs.size ≤ e
  big : h.objs.size ≤ d
  ne : d ≠ e
  ob : ∃ t0 : Addr, h'.get? e = some { cls := .ref C, dict := some d, data := .fields #[.ref t0, .none, .none, .none, .bool false, .none] }
  ns : h'.Ns1 d (thingM v)
theorem xmade (T : ExF K C fI) {args : Args} {v : Value} (X : K.In s.heap) (hlim : s.heap.NoLimit) (hroom : A.depth + 1 < recursionLimit)
    (ha : args = ⟨[v], []⟩ ∨ args = ⟨[], [("thing", v)]⟩)
    (hq : ∀ h' tk e d, XMade s.heap h' e C d v → R (.ok (.ret (.ref e))) { s with heap := h', toks := tk }) :
    codeAny (model prog w) A (.call (.ref C) args) R s := by
  obtain ⟨nm, N', qn, bs, bm, hdct, sn, sub, ab, col, dd, k0, k1, k2, k3, k5, hC, hT⟩ := excInit_of X T.ini
  obtain ⟨hp, g, dr, tk, os⟩ := s
  obtain ⟨rest, kw⟩ := args
  have hz : rest.length ≤ sizeLine := by
    rcases ha with e | e <;> cases e
    · show 1 ≤ sizeLine
      rw [sizeLine_eq]
      decide
    · exact Nat.zero_le _
  have k : ∀ b o, hp.get? b = some o → ((hp.push (kdv_tup rest)).push (excO C hp.objs.size)).get? b = some o :=
    fun b o e => Heap.get?_push_of_some _ (Heap.get?_push_of_some _ e)
  have at1 : ((hp.push (kdv_tup rest)).push (excO C hp.objs.size)).get? (hp.objs.size + 1) = some (excO C hp.objs.size) := by heap_get
  refine xcall F.excBase_Exception hT hz hC (looks_findIn X T.ic) (fun self => bind_fn X self T.ti) ?_
  refine xinit (v := v) (s := ⟨(hp.push (kdv_tup rest)).push (excO C hp.objs.size), g, dr, tk, os⟩) T (X.keeps k) (hlim.keeps k) at1 ?_ ?_ fun h' tk' dx Z => ?_
  · have e : (A.under (.builtin "type.__call__" ⟨.ref C :: rest, kw⟩)).depth = A.depth + 1 := L2.make_depth
    rw [e]
    exact hroom
  · rcases ha with e | e <;> cases e
    · exact .inl rfl
    · exact .inr rfl
  · have z : hp.objs.size ≤ dx := by
      have q := Z.big
      have q2 : ((hp.push (kdv_tup rest)).push (excO C hp.objs.size)).objs.size = hp.objs.size + 1 + 1 := by rw [Heap.size_push, Heap.size_push]
      have q3 : ((hp.push (kdv_tup rest)).push (excO C hp.objs.size)).objs.size ≤ dx := q
      omega
    exact ⟨rfl, hq h' tk' (hp.objs.size + 1) dx ⟨fun b o e => Z.keep b o (Nat.ne_of_lt (Nat.lt_succ_of_lt (Heap.lt_size e))) (k b o e), Nat.le_succ _, z, Z.ne, ⟨_, Z.ob⟩, Z.ns⟩⟩
end
end XK
end PySem
set_option Elab.async false
set_option linter.all false
set_option maxRecDepth 100000
set_option maxHeartbeats 4000000
namespace XR
open PySem PySem.Spec PyProof.Rows L2
open PySem.XK (ExF thingM XMade xmade)
/-- an exception's object stands at a, as it is -/
def exq (a : Addr) (oe : Obj) : HO := .ext fun h => h.get? a = some oe
theorem exq_ok {P : Program} {w : World} {H : Hp} {h : Heap} {a : Addr} {oe : Obj} (e : h.get? a = some oe) : ObjOk P w H h a (exq a oe) :=
  ⟨e, ⟨oe, e⟩, fun _ _ z k => k _ z⟩
theorem exq_get {P : Program} {w : World} {H : Hp} {h : Heap} {a : Addr} {oe : Obj} (hok : HOk P w H h) (e : H a = some (exq a oe)) : h.get? a = some oe :=
  (show ObjOk P w H h a (.ext fun h => h.get? a = some oe) from hok a _ e).1
/-- of the class at C, its own dict at d -/
structure ErrO (C d : Addr) (oe : Obj) : Prop where
  cls : oe.cls = .ref C
  dict : oe.dict = some d
  data : ∃ vs, oe.data = .fields vs
/-- an error of the class at C that carries v stands at a -/
def Err (H : Hp) (a C : Addr) (v : V) : Prop := ∃ d oe, H a = some (exq a oe) ∧ ErrO C d oe ∧ H d = some (.xd [(("thing" : Str), v)])
theorem relO_thing {v : V} {u : Value} (r : RelV v u) (f : Str) : RelO (List.lookup f [(("thing" : Str), v)]) (thingM u f) := by
  unfold thingM
  by_cases hw : f = "thing"
  · subst hw
    rw [if_pos rfl]
    have q : List.lookup ("thing" : Str) [(("thing" : Str), v)] = some v := by simp [List.lookup]
    rw [q]
    exact r
  · rw [if_neg hw]
    have qw : (f == ("thing" : Str)) = false := by simpa using hw
    have q2 : List.lookup f [(("thing" : Str), v)] = none := by simp [List.lookup, qw]
    rw [q2]
    trivial
/-- C(e): a new error, its dict new too -/
def tExv (C : Addr) (t : TA) : TE := fun σ H Q => t σ H fun vs H1 => ∃ v, vs = [v] ∧ ∀ a d oe, H1 a = none → H1 d = none → d ≠ a → ErrO C d oe →
  Q (.ref a) (upd (upd H1 d (.xd [(("thing" : Str), v)])) a (exq a oe))
section
variable {X : Cx} {C fI : Addr} {x : Str} {p pos : Pos} {e : Expr} {t : TA} {k : Nat} {kn : Str} {kp : Pos}
/-- behind a made error: the dict is tracked, the object stands apart -/
theorem exv_inv {pins : List (Addr × Obj)} {σ : L2.St} {H1 : Hp} {hp h' : Heap} {g : Array GenState} {dr : Drawn} {tk tk' : Nat} {os : OsState} {a d : Addr} {v : V} {u : Value}
    (I1 : Inv X pins σ H1 ⟨hp, g, dr, tk, os⟩) (Z : XMade hp h' a C d u) (r : RelV v u) :
    ∃ G oe, (∀ b o, G.get? b = some o → h'.get? b = some o) ∧ G.get? a = none ∧ h'.get? a = some oe ∧ ErrO C d oe ∧
      (∃ t0 : Addr, oe.data = .fields #[.ref t0, .none, .none, .none, .bool false, .none]) ∧
      Inv X pins σ (upd H1 d (.xd [(("thing" : Str), v)])) ⟨G, g, dr, tk', os⟩ ∧ H1 a = none ∧ H1 d = none := by
  obtain ⟨t0, hob⟩ := Z.ob
  obtain ⟨G, g1, g2⟩ := restrict h' fun b => decide (b ≠ a)
  have gk : ∀ b, b ≠ a → G.get? b = h'.get? b := fun b hb => g1 b (decide_eq_true hb)
  have ge : G.get? a = none := g2 a (by simp)
  have sub : ∀ b o, G.get? b = some o → h'.get? b = some o := fun b o q => by
    by_cases hb : b = a
    · rw [hb, ge] at q
      cases q
    · exact (gk b hb).symm.trans q
  have old : ∀ b o, hp.get? b = some o → G.get? b = some o := fun b o q =>
    (gk b (Nat.ne_of_lt (Nat.lt_of_lt_of_le (Heap.lt_size q) Z.new))).trans (Z.keep b o q)
  have ob : ObjOk X.prog X.w (upd H1 d (.xd [(("thing" : Str), v)])) G d (.xd [(("thing" : Str), v)]) :=
    ⟨_, Z.ns.at (fun o q => (gk d Z.ne).trans q), fun f => relO_thing r f⟩
  exact ⟨G, _, sub, ge, hob, ⟨rfl, rfl, ⟨_, rfl⟩⟩, ⟨t0, rfl⟩, I1.laid (t' := tk') old Z.big ob, I1.hok.fresh Z.new, I1.hok.fresh Z.big⟩
theorem exv_run {pins : List (Addr × Obj)} {σ : L2.St} {H1 : Hp} {s1 : Shared} {Q : VK} {args : List Value} {kw : List (Str × Value)} {v : V} {u : Value} (T : ExF X.K C fI) (hr : Room k X.A)
    (I1 : Inv X pins σ H1 s1) (r : RelV v u) (ha : (⟨args, kw⟩ : Args) = ⟨[u], []⟩ ∨ (⟨args, kw⟩ : Args) = ⟨[], [("thing", u)]⟩)
    (q : ∀ a d oe, H1 a = none → H1 d = none → d ≠ a → ErrO C d oe → Q (.ref a) (upd (upd H1 d (.xd [(("thing" : Str), v)])) a (exq a oe))) :
    wpAny (model X.prog X.w) X.A (call (.ref C) args kw) (EP X pins σ Q) X.xe s1 := by
  have hlim := I1.nolimit
  have hK := I1.kIn
  obtain ⟨hp, g, dr, tk, os⟩ := s1
  refine wpAny_call (xmade T hK hlim (by have := hr.dp; omega) ha fun h' tk' a d Z => ?_)
  obtain ⟨G, oe, sub, ge, hob, EO, _, J, na, nd⟩ := exv_inv (tk' := tk') I1 Z r
  have na2 : upd H1 d (.xd [(("thing" : Str), v)]) a = none := by
    rw [upd_ne (Ne.symm Z.ne)]
    exact na
  exact ⟨.ref a, _, J.laidN (h' := h') (t' := tk') sub ge na2 (exq_ok hob), rfl, q a d oe na nd Z.ne EO⟩
theorem pe_exv (T : ExF X.K C fI) (hr : Room k X.A) (hg : Gl X x) (hm : X.mg x = some (.ref C)) (ha : PA X [e] t)
    (hdb : (x == ("__debug__" : Str)) = false := by decide) (he : starEach (e :: []) X.env = (false, eval e X.env) :: starEach [] X.env := by rfl)
    (hpl : (backTo pos (starEach [] X.env)).any (·.1) = false := by rfl) : PE X (.Call (.Name x p) [e] [] pos) (tExv C t) := by
  refine ⟨fun pins s σ H Q I h => ?_⟩
  refine wpAny_Call_Name_kw (ld_glob I hg hm ?_ hdb)
  refine PySem.W.callWith_K (h₀ := X.base) I.ok.mod.kin T.kc (thn (ha.run pos pins s σ H _ I h) fun us s1 ⟨vs, H1, I1, r, v, ev, q⟩ => ⟨I1.kIn, ?_⟩) he hpl
  subst ev
  obtain ⟨u, rfl, r1⟩ : ∃ u, us = [u] ∧ RelV v u := by
    cases r with
    | cons rv rn =>
      cases rn
      exact ⟨_, rfl, rv⟩
  exact exv_run T hr I1 r1 (.inl rfl) q
/-- C(thing=e) -/
theorem pe_exvK (T : ExF X.K C fI) (hr : Room k X.A) (hg : Gl X x) (hm : X.mg x = some (.ref C)) (ha : PK X [⟨some "thing", e, kp⟩] t)
    (hdb : (x == ("__debug__" : Str)) = false := by decide)
    (hall : (backToKw pos (keywordEach [⟨some "thing", e, kp⟩] X.env)).all (·.1.isSome) = true := by rfl)
    (hks : (backToKw pos (keywordEach [⟨some "thing", e, kp⟩] X.env)).filterMap (·.1) = [("thing" : Str)] := by rfl)
    (hpl : ((backTo pos (starEach [] X.env)).any (·.1) || (backToKw pos (keywordEach [⟨some "thing", e, kp⟩] X.env)).any (·.1.isNone)) = false := by rfl) :
    PE X (.Call (.Name x p) [] [⟨some "thing", e, kp⟩] pos) (tExv C t) := by
  refine ⟨fun pins s σ H Q I h => ?_⟩
  refine wpAny_Call_Name_kw (ld_glob I hg hm ?_ hdb)
  refine PySem.W.callWith_KW0 (h₀ := X.base) I.ok.mod.kin T.kc hall (thn (ha.run pos pins s σ H _ I h) fun us s1 ⟨vs, H1, I1, r, v, ev, q⟩ => ⟨I1.kIn, ?_⟩) hpl
  subst ev
  obtain ⟨u, rfl, r1⟩ : ∃ u, us = [u] ∧ RelV v u := by
    cases r with
    | cons rv rn =>
      cases rn
      exact ⟨_, rfl, rv⟩
  rw [hks]
  exact exv_run T hr I1 r1 (.inr rfl) q
/-- raise C(e), raise C(thing=e): the error's dict is tracked -/
def tExr (C : Addr) (t : TA) : L2.St → Hp → XK → Prop := fun σ H Q => t σ H fun vs H1 => ∃ v, vs = [v] ∧ ∀ d, H1 d = none → Q (.ref C) (some d) (upd H1 d (.xd [(("thing" : Str), v)]))
theorem exr_run {pins : List (Addr × Obj)} {σ : L2.St} {H1 : Hp} {s1 : Shared} {Q : XK} {args : List Value} {kw : List (Str × Value)} {v : V} {u : Value} (T : ExF X.K C fI) (hr : Room k X.A)
    (I1 : Inv X pins σ H1 s1) (r : RelV v u) (ha : (⟨args, kw⟩ : Args) = ⟨[u], []⟩ ∨ (⟨args, kw⟩ : Args) = ⟨[], [("thing", u)]⟩)
    (q : ∀ d, H1 d = none → Q (.ref C) (some d) (upd H1 d (.xd [(("thing" : Str), v)]))) :
    wpAny (model X.prog X.w) X.A (call (.ref C) args kw) (MkP X pins σ Q) X.xe s1 := by
  have hlim := I1.nolimit
  have hK := I1.kIn
  obtain ⟨hp, g, dr, tk, os⟩ := s1
  refine wpAny_call (xmade T hK hlim (by have := hr.dp; omega) ha fun h' tk' a d Z => ?_)
  obtain ⟨G, oe, sub, ge, hob, EO, ⟨t0, hdat⟩, J, na, nd⟩ := exv_inv (tk' := tk') I1 Z r
  refine ⟨a, oe, _, ⟨G, g, dr, tk', os⟩, _, .ref C, some d, rfl, J, sub, ge, hob, ⟨EO.cls, EO.dict⟩, hdat, rfl, ?_, rfl, I1.bare, raises_own T.ex T.ty, q d nd⟩
  rw [upd_ne (Ne.symm Z.ne)]
  exact na
theorem pmk_exv (T : ExF X.K C fI) (hr : Room k X.A) (hg : Gl X x) (hm : X.mg x = some (.ref C)) (ha : PA X [e] t)
    (hdb : (x == ("__debug__" : Str)) = false := by decide) (he : starEach (e :: []) X.env = (false, eval e X.env) :: starEach [] X.env := by rfl)
    (hpl : (backTo pos (starEach [] X.env)).any (·.1) = false := by rfl) : PMk X (.Call (.Name x p) [e] [] pos) (tExr C t) := by
  intro pins s σ H Q I h
  refine wpAny_Call_Name_kw (ld_glob I hg hm ?_ hdb)
  refine PySem.W.callWith_K (h₀ := X.base) I.ok.mod.kin T.kc (thn (ha.run pos pins s σ H _ I h) fun us s1 ⟨vs, H1, I1, r, v, ev, q⟩ => ⟨I1.kIn, ?_⟩) he hpl
  subst ev
  obtain ⟨u, rfl, r1⟩ : ∃ u, us = [u] ∧ RelV v u := by
    cases r with
    | cons rv rn =>
      cases rn
      exact ⟨_, rfl, rv⟩
  exact exr_run T hr I1 r1 (.inl rfl) q
theorem pmk_exvK (T : ExF X.K C fI) (hr : Room k X.A) (hg : Gl X x) (hm : X.mg x = some (.ref C)) (ha : PK X [⟨some "thing", e, kp⟩] t)
    (hdb : (x == ("__debug__" : Str)) = false := by decide)
    (hall : (backToKw pos (keywordEach [⟨some "thing", e, kp⟩] X.env)).all (·.1.isSome) = true := by rfl)
    (hks : (backToKw pos (keywordEach [⟨some "thing", e, kp⟩] X.env)).filterMap (·.1) = [("thing" : Str)] := by rfl)
    (hpl : ((backTo pos (starEach [] X.env)).any (·.1) || (backToKw pos (keywordEach [⟨some "thing", e, kp⟩] X.env)).any (·.1.isNone)) = false := by rfl) :
    PMk X (.Call (.Name x p) [] [⟨some "thing", e, kp⟩] pos) (tExr C t) := by
  intro pins s σ H Q I h
  refine wpAny_Call_Name_kw (ld_glob I hg hm ?_ hdb)
  refine PySem.W.callWith_KW0 (h₀ := X.base) I.ok.mod.kin T.kc hall (thn (ha.run pos pins s σ H _ I h) fun us s1 ⟨vs, H1, I1, r, v, ev, q⟩ => ⟨I1.kIn, ?_⟩) hpl
  subst ev
  obtain ⟨u, rfl, r1⟩ : ∃ u, us = [u] ∧ RelV v u := by
    cases r with
    | cons rv rn =>
      cases rn
      exact ⟨_, rfl, rv⟩
  rw [hks]
  exact exr_run T hr I1 r1 (.inr rfl) q
end
end XR
set_option Elab.async false
set_option linter.all false
set_option maxRecDepth 100000
set_option maxHeartbeats 4000000
namespace XR
open PySem PySem.Spec PyProof.Rows L2
open PySem.XK (ExF)
section
variable {X : Cx} {C fI a d : Addr} {oe : Obj} {v : V} {pins : List (Addr × Obj)} {σ : L2.St} {H : Hp} {s : Shared}
/-- what the library's rules ask of such an object -/
theorem err_inst (hok : HOk X.prog X.w H s.heap) (ha : s.heap.get? a = some oe) (EO : ErrO C d oe) (ed : H d = some (.xd [(("thing" : Str), v)])) :
    ∃ od u, PySem.W.InstAt s.heap a oe C (some od) ∧ PySem.W.lookIn "thing" od = some (some u) ∧ RelV v u := by
  have hx : ObjOk X.prog X.w H s.heap d (.xd [(("thing" : Str), v)]) := hok d _ ed
  obtain ⟨mA, hns, hr⟩ := hx
  obtain ⟨od, ho, hl⟩ := lookIn_ns hns
  have l : List.lookup ("thing" : Str) [(("thing" : Str), v)] = some v := by simp [List.lookup]
  obtain ⟨u, hu, ru⟩ := RelO.some_of (v := v) (o := mA "thing") (by rw [← l]; exact hr "thing")
  obtain ⟨vs, hd⟩ := EO.data
  refine ⟨od, u, ⟨ha, EO.cls, ?_, ?_⟩, by rw [hl, hu], ru⟩
  · unfold PySem.W.notCls
    rw [hd] <;> rfl
  · rw [EO.dict]
    exact ho
theorem err_read {A : Around} {E : Value → Shared → Prop} {ex : Bool} {Q : Value → Shared → Prop} (T : ExF X.K C fI) (hK : X.K.In s.heap) (hok : HOk X.prog X.w H s.heap) (ha : s.heap.get? a = some oe) (EO : ErrO C d oe)
    (ed : H d = some (.xd [(("thing" : Str), v)])) (h : ∀ u, RelV v u → Q u { s with toks := s.toks + 1 }) :
    wpAny (model X.prog X.w) A (getAttr (.ref a) "thing" ex) Q E s := by
  obtain ⟨od, u, J, hl, ru⟩ := err_inst hok ha EO ed
  exact HandSPX.exc_get hK J T.ga T.gg T.ex (PySem.W.findObj_own T.hd T.no rfl hl) (handed_of ru) (h u ru)
theorem err_is {A : Around} {E : Value → Shared → Prop} {c : Value} {b : Bool} {Q : Value → Shared → Prop} (T : ExF X.K C fI) (hK : X.K.In s.heap) (hok : HOk X.prog X.w H s.heap) (ha : s.heap.get? a = some oe) (EO : ErrO C d oe)
    (ed : H d = some (.xd [(("thing" : Str), v)])) (e : PySem.W.kitOne X.K (.ref C) c = some b) (h : ∀ tk, Q (.bool b) { s with toks := tk }) :
    wpAny (model X.prog X.w) A (call (.builtin "isinstance") [.ref a, c]) Q E s := by
  obtain ⟨od, u, J, hl, ru⟩ := err_inst hok ha EO ed
  obtain ⟨cd, hcd, _⟩ := PySem.W.any_some T.hd
  exact PySem.W.kia_one (PySem.W.kitx_exc (by rw [hcd]; rfl) T.ga T.gg T.ex T.cl T.dn T.dt T.mo) hK J e (fun z => nomatch z) h
theorem err_isT {A : Around} {E : Value → Shared → Prop} {tp : Addr} {dd : Option Addr} {its : List Value} {n : Nat} {sl : Array (Option Value)} {b : Bool} {Q : Value → Shared → Prop} (T : ExF X.K C fI) (hK : X.K.In s.heap) (hok : HOk X.prog X.w H s.heap) (ha : s.heap.get? a = some oe) (EO : ErrO C d oe)
    (ed : H d = some (.xd [(("thing" : Str), v)])) (htp : s.heap.get? tp = some ⟨.type "tuple", dd, .seq its.toArray n, sl⟩) (e : PySem.W.kitAny X.K (.ref C) its = some b) (h : ∀ tk, Q (.bool b) { s with toks := tk }) :
    wpAny (model X.prog X.w) A (call (.builtin "isinstance") [.ref a, .ref tp]) Q E s := by
  obtain ⟨od, u, J, hl, ru⟩ := err_inst hok ha EO ed
  obtain ⟨cd, hcd, _⟩ := PySem.W.any_some T.hd
  exact PySem.W.kia_tup (PySem.W.kitx_exc (by rw [hcd]; rfl) T.ga T.gg T.ex T.cl T.dn T.dt T.mo) hK J htp e (fun z => nomatch z) h
end
/-- an error that is tracked, its facts beside it -/
def ErrK (K : PySem.W.Frag) (H : Hp) (a C : Addr) (v : V) : Prop := ∃ fI d oe, ExF K C fI ∧ ErrO C d oe ∧ H a = some (exq a oe) ∧ H d = some (.xd [(("thing" : Str), v)])
/-- e.thing -/
def tEf (K : PySem.W.Frag) (te : TE) : TE := fun σ H Q => te σ H fun x H1 => ∃ a C v, x = .ref a ∧ ErrK K H1 a C v ∧ Q v H1
/-- isinstance(e, c), isinstance(e, (c, ..)) -/
def rIsX (K : PySem.W.Frag) : List V → Hp → VK → Prop := fun xs H Q => ∃ (a C : Addr) (v c : V) (u : Value) (b : Bool), xs = [.ref a, c] ∧ ErrK K H a C v ∧ ClsV c u ∧ PySem.W.kitOne K (.ref C) u = some b ∧ Q (.bl b) H
def rIsXT (K : PySem.W.Frag) : List V → Hp → VK → Prop := fun xs H Q => ∃ (a C tp : Addr) (v : V) (cs : List V) (us : List Value) (b : Bool), xs = [.ref a, .ref tp] ∧ ErrK K H a C v ∧ H tp = some (.tup cs) ∧ Paired ClsV cs us ∧
  PySem.W.kitAny K (.ref C) us = some b ∧ Q (.bl b) H
section
variable {X : Cx} {e : Expr} {te : TE} {pos : Pos}
theorem pe_ef (he : PE X e te) (hb : attributeBase e "thing" X.env (eval e X.env) = eval e X.env := by rfl) : PE X (.Attribute e "thing" pos) (tEf X.K te) := by
  refine ⟨fun pins s σ H Q I h => ?_⟩
  refine attr_of hb (thn (he.run pins s σ H _ I h) fun u s1 hh => ?_)
  obtain ⟨x, H1, I1, rx, a, C, v, ex, ⟨fI, d, oe, T, EO, ea, ed⟩, q⟩ := hh
  subst ex
  obtain rfl : u = Value.ref a := rx
  exact err_read T I1.kIn I1.hok (exq_get I1.hok ea) EO ed fun u ru => ⟨v, H1, I1.tok _, ru, q⟩
theorem call_isX : CallR X (.builtin "isinstance") (rIsX X.K) := by
  intro pins s σ H xs us Q I r h
  obtain ⟨a, C, v, c, u, b, rfl, ⟨fI, d, oe, T, EO, ea, ed⟩, k, e, q⟩ := h
  obtain ⟨u1, u2, rfl, r1, r2⟩ := vals2 r
  obtain rfl : u1 = Value.ref a := r1
  have e2 := k.eq r2
  subst e2
  exact err_is T I.kIn I.hok (exq_get I.hok ea) EO ed e fun tk => ⟨.bl b, H, I.tok tk, rfl, q⟩
theorem call_isXT : CallR X (.builtin "isinstance") (rIsXT X.K) := by
  intro pins s σ H xs us Q I r h
  obtain ⟨a, C, tp, v, cs, ws, b, rfl, ⟨fI, d, oe, T, EO, ea, ed⟩, hT, k, e, q⟩ := h
  obtain ⟨u1, u2, rfl, r1, r2⟩ := vals2 r
  obtain rfl : u1 = Value.ref a := r1
  obtain rfl : u2 = Value.ref tp := r2
  obtain ⟨_, its, rv, o, h1, h2, n, h3⟩ := (show ObjOk X.prog X.w H s.heap tp (.tup cs) from I.hok tp _ hT)
  have e3 := ClsV.all k rv
  subst e3
  obtain ⟨oc, od, dt, sl⟩ := o
  simp only at h2 h3
  subst h2 h3
  exact err_isT T I.kIn I.hok (exq_get I.hok ea) EO ed h1 e fun tk => ⟨.bl b, H, I.tok tk, rfl, q⟩
end
/-! ### in an except suite: the error that it holds -/
/-- e.thing -/
def tSf (K : PySem.W.Frag) (a : Addr) (cls : Value) (d : Option Addr) (te : TE) : TE := fun σ H Q => te σ H fun x H1 => x = .ref a ∧ ∃ C fI dd v, cls = .ref C ∧ d = some dd ∧ ExF K C fI ∧ H1 dd = some (.xd [(("thing" : Str), v)]) ∧ Q v H1
/-- isinstance(e, c) -/
def rIsS (K : PySem.W.Frag) (a : Addr) (cls : Value) (d : Option Addr) : List V → Hp → VK → Prop := fun xs H Q => ∃ (C fI dd : Addr) (v c : V) (u : Value) (b : Bool), xs = [.ref a, c] ∧ cls = .ref C ∧ d = some dd ∧ ExF K C fI ∧
  H dd = some (.xd [(("thing" : Str), v)]) ∧ ClsV c u ∧ PySem.W.kitOne K (.ref C) u = some b ∧ Q (.bl b) H
section
variable {X : Cx} {a : Addr} {oe : Obj} {cls : Value} {d : Option Addr} {pn : List (Addr × Obj)} {e : Expr} {te : TE} {pos : Pos}
theorem pe_sf (hz : Zc cls d oe) (hf : ∃ vs, oe.data = .fields vs) (he : PE (X.suite a ((a, oe) :: pn)) e te)
    (hb : attributeBase e "thing" X.env (eval e X.env) = eval e X.env := by rfl) : PE (X.suite a ((a, oe) :: pn)) (.Attribute e "thing" pos) (tSf X.K a cls d te) := by
  refine ⟨fun pins s σ H Q I h => ?_⟩
  refine attr_of hb (thn (he.run pins s σ H _ I h) fun u s1 hh => ?_)
  obtain ⟨x, H1, I1, rx, ex, C, fI, dd, v, ec, edd, T, ed, q⟩ := hh
  subst ex
  obtain rfl : u = Value.ref a := rx
  subst ec
  subst edd
  have pa := (I1.pin (a, oe) (List.mem_append_left _ List.mem_cons_self)).1
  exact err_read (X := X) T I1.kIn I1.hok pa ⟨hz.1, hz.2, hf⟩ ed fun u ru => ⟨v, H1, I1.tok _, ru, q⟩
theorem call_isS (hz : Zc cls d oe) (hf : ∃ vs, oe.data = .fields vs) : CallR (X.suite a ((a, oe) :: pn)) (.builtin "isinstance") (rIsS X.K a cls d) := by
  intro pins s σ H xs us Q I r h
  obtain ⟨C, fI, dd, v, c, u, b, rfl, ec, edd, T, ed, k, e, q⟩ := h
  obtain ⟨u1, u2, rfl, r1, r2⟩ := vals2 r
  obtain rfl : u1 = Value.ref a := r1
  subst ec
  subst edd
  have e2 := k.eq r2
  subst e2
  have pa := (I.pin (a, oe) (List.mem_append_left _ List.mem_cons_self)).1
  exact err_is (X := X) T I.kIn I.hok pa ⟨hz.1, hz.2, hf⟩ ed e fun tk => ⟨.bl b, H, I.tok tk, rfl, q⟩
end
end XR
set_option Elab.async false
set_option linter.all false
set_option maxRecDepth 100000
set_option maxHeartbeats 4000000
namespace XR
open PySem PySem.Spec PyProof.Rows L2
open PySem.XK (ExF)
/-- the ways out of a suite: the clause's name goes -/
def goE (i : Nat) (D : Ends) : Ends := { nx := fun σ H => D.nx (σ.set i none) H, rt := D.rt, bk := fun σ H => D.bk (σ.set i none) H, ct := fun σ H => D.ct (σ.set i none) H }
/-- what the clauses, each with a name in slot i, wish of an exception of the body, one behind the other -/
def wMa (K : PySem.W.Frag) (Wout : WX) (i : Nat) (D : Ends) : List (Value × (Addr → Value → Option Addr → TS)) → WX
  | [] => Wout
  | (c, ts) :: r => fun cls d σ H => ∃ b, PySem.W.exmOne K cls c = some b ∧ (b = true → ∀ a, H a = none → ts a cls d (goE i D) (σ.set i (some (.ref a))) H) ∧ (b = false → wMa K Wout i D r cls d σ H)
inductive HdA (X : Cx) (n : Str) : List ExceptHandler → List (Value × (Addr → Value → Option Addr → TS)) → Prop
  | nil : HdA X n [] []
  | cons {x : Str} {c : Value} {ts : Addr → Value → Option Addr → TS} {b₀ : Stmt} {su : List Stmt} {np pos' : Pos} {hds : List ExceptHandler} {l : List (Value × (Addr → Value → Option Addr → TS))}
      (hc : Names X x c)
      (hs : ∀ (a : Addr) (oe : Obj) (cls : Value) (d : Option Addr) (pn : List (Addr × Obj)), Zc cls d oe → (∃ vs, oe.data = .fields vs) → X.base.get? a = none → PSs (X.suite a ((a, oe) :: pn)) (b₀ :: su) (ts a cls d))
      (r : HdA X n hds l) : HdA X n (.ExceptHandler (some (.Name x np)) (some n) (b₀ :: su) pos' :: hds) ((c, ts) :: l)
section
variable {X : Cx} {n : Str} {i : Nat} {body : List Stmt} {h₀ : ExceptHandler} {hds : List ExceptHandler} {l : List (Value × (Addr → Value → Option Addr → TS))} {pos : Pos} {tb : WX → TS} {Wout : WX}
theorem ps_try_ma (hs : X.stack = X.env :: X.outer) (hf : X.env.frame = some X.env.locals) (hN : X.N.Nodup) (hi : X.N[i]? = some n) (hln : X.env.kindOf n = some .local) (tk : Takes X Wout)
    (hb : ∀ (W : WX) (pn : List (Addr × Obj)) (xe : Value → Shared → Prop), Takes (X.tr pn xe) W → PassesOwn (model X.prog X.w) X.A X.env xe → PSs (X.tr pn xe) body (tb W))
    (hh : HdA X n (h₀ :: hds) l) : PS X (.Try body (h₀ :: hds) [] [] pos) (fun D σ H => tb (wMa X.K Wout i D l) D σ H) := by
  refine ⟨fun pins s σ H D I h => ?_⟩
  have ok := I.ok
  have fr : X.A.frames = some (X.env :: X.outer) := by
    rw [ok.frames, hs]
  have lc : Loc X.env.scope n := .inl hln
  refine wpAny_Try_except ?_
  refine wpAny_mono ((hb (wMa X.K Wout i D l) (X.pn ++ pins)
    (fun e sA => wpAny (model X.prog X.w) X.A (noteFrame e X.env) (fun _ sB => wpAny (model X.prog X.w) X.A (setFlight e none)
      (fun _ sC => wpAny (model X.prog X.w) X.A (handleBy e X.env (h₀ :: hds)) (SP X pins D) X.xe sC) X.xe sB) X.xe sA)
    (fun u sX xx => ?_) PassesOwn.looking).run [] s σ H D (I.toTry _) h) (fun f sY fin => ?_) (fun _ _ z => z)
  · obtain ⟨a, B, sI, pq, σ', H', cls, d, rfl, J', nb, up, sky, na, os, ag, w⟩ := xx
    have J : Inv X pins σ' H' sI := J'.ofTry ok
    have sky2 : Sky B (X.env :: X.outer) a (Zc cls d) X.env.locals sX.heap := by
      rw [← hs]
      exact sky
    show wpAny (model X.prog X.w) X.A (noteFrame (.ref a) X.env) _ _ _
    refine Sky.land Zc.steady fr hf sky2 fun hL flL upL => ?_
    have JL : Inv X pins σ' H' { sX with heap := hL } := J.landed nb flL.1 (up.trans upL) os ag
    obtain ⟨oL, vL, eL, zL, dL⟩ := flL.there
    have notFrame : a ∉ frs (X.env :: X.outer) := fun hm => by
      obtain ⟨_, o', e', hnf⟩ := flL.2.2.1.mem hm
      rw [eL] at e'
      cases e'
      exact hnf _ dL
    have nL : a ≠ X.env.locals := fun z => notFrame (List.mem_filterMap.mpr ⟨X.env, List.mem_cons_self, by rw [hf, z]⟩)
    have nF : a ∉ X.fs := fun hm => by
      obtain ⟨e, he, q⟩ := List.mem_filterMap.mp hm
      exact notFrame (List.mem_filterMap.mpr ⟨e, List.mem_cons_of_mem _ he, q⟩)
    have nB : X.base.get? a = none := by
      cases q : X.base.get? a with
      | none => rfl
      | some o =>
        have z := nb a o (J.bk a o q) (by rw [hs]; exact notFrame)
        rw [flL.2.1] at z
        cases z
    have SL := JL.suite eL dL na nL nF
    have go : ∀ {hk : List ExceptHandler} {lk : List (Value × (Addr → Value → Option Addr → TS))}, HdA X n hk lk → wMa X.K Wout i D lk cls d σ' H' →
        wpAny (model X.prog X.w) X.A (handleBy (.ref a) X.env hk) (SP X pins D) X.xe { sX with heap := hL } := by
      intro hk lk z
      induction z with
      | nil =>
        intro w
        refine wpAny_handleBy_nil ?_
        obtain ⟨k1, k2, k3, oe, vs, T, oT, ts', he, hz, hd, h1, hr⟩ := id flL
        unfold PySem.passOn
        refine wpAny_bind (wpAny_field he hd h1 ?_)
        rw [if_neg (show ¬ ((Value.ref T == Value.none) = true) from by simp)]
        have out : wpAny (model X.prog X.w) X.A (setFlight (.ref a) X.env.frame)
            (fun _ s4 => wpAny (model X.prog X.w) X.A (throw (.ref a) : Sem Flow) (SP X pins D) X.xe s4) X.xe { sX with heap := hL } := by
          rw [hf]
          refine HandSPX.setFlight_upZ flL fun h4 hh4 up4 => wpAny_throw (tk _ _ ?_)
          exact ⟨a, B, sI, pins, σ', H', cls, d, rfl, J, nb, (up.trans upL).trans up4, .inr (.inr (by rw [hs]; exact hh4)), na, os, ag, w⟩
        first
          | exact wpAny_bind (wpAny_pure (wpAny_bind out))
          | exact wpAny_bind out
      | @cons x c ts b₁ su np pos' hds2 l2 hc hsu r ih =>
        intro w
        obtain ⟨b, hb1, yes, no⟩ := w
        refine wpAny_handleBy_cons (codeAny_handlers_test ?_) (by intro q; cases q)
        have LT : PySem.W.Looks (model X.prog X.w) hL (typeOf (.ref a)) cls := fun A Q E s k q => wpAny_typeOf_ref (k _ _ eL) (by rw [zL.1]; exact q)
        have LM := PySem.W.exm_one (M := model X.prog X.w) (JL.kIn) LT hb1
        have test : ∀ {Q : Value → Shared → Prop} {E : Value → Shared → Prop}, Q c { sX with heap := hL } →
            wpAny (model X.prog X.w) (X.A.mark (some (.ref a))) (eval (.Name x np) X.env) Q E { sX with heap := hL } := fun {Q E} q => by
          obtain ⟨g1, g2, m1 | ⟨m1, m2, m3⟩⟩ := hc
          · exact ld_glob (X := X.suite a ((a, oL) :: (X.pn ++ pins))) SL g1 m1 q g2
          · exact ld_blt (X := X.suite a ((a, oL) :: (X.pn ++ pins))) SL g1 m1 m2 q m3 g2
        refine test (LM.here ?_)
        cases b with
        | true =>
          refine codeAny_handlers_suite_as ?_
          refine HandSPX.lands_againZ flL fun h4 fl4 up4 => ?_
          have J4 : Inv X pins σ' H' { sX with heap := h4 } := J.landed nb fl4.1 ((up.trans upL).trans up4) os ag
          obtain ⟨o4, v4, e4, z4, d4⟩ := fl4.there
          have S4 := J4.suite e4 d4 na nL nF
          refine store_ok (X := X.suite a ((a, o4) :: (X.pn ++ pins))) (v := .ref a) S4 hN hi lc rfl (fun s5 S5 => ?_) (.inr hln)
          refine wpAny_mono ((hsu a o4 cls d (X.pn ++ pins) z4 ⟨_, d4⟩ nB).run [] s5 _ H' _ S5 (yes rfl a na)) (fun f s6 hsp => ?_) (fun _ _ z => False.elim z)
          have fin : ∀ {σ6 : L2.St} {H6 : Hp} {Q : Shared → Prop}, Inv (X.suite a ((a, o4) :: (X.pn ++ pins))) [] σ6 H6 s6 → (∀ s7, Inv X pins (σ6.set i none) H6 s7 → Q s7) →
              wpAny (model X.prog X.w) X.A (do bindName X.env n .none; unbindBehindTheSuite X.env n pos') (fun _ s7 => Q s7) X.xe s6 :=
            fun {σ6 H6 Q} S6 hq => gone_ok (S6.unsuite ok) hN hi hln hq
          cases f with
          | next =>
            obtain ⟨σ6, H6, S6, q6⟩ := hsp
            exact fin S6 fun s7 J7 => ⟨_, _, J7, q6⟩
          | brk =>
            obtain ⟨σ6, H6, S6, q6⟩ := hsp
            exact fin S6 fun s7 J7 => ⟨_, _, J7, q6⟩
          | cont =>
            obtain ⟨σ6, H6, S6, q6⟩ := hsp
            exact fin S6 fun s7 J7 => ⟨_, _, J7, q6⟩
          | ret u =>
            obtain ⟨v6, σ6, H6, S6, r6, q6⟩ := hsp
            exact fin S6 fun s7 J7 => ⟨_, _, _, J7, r6, q6⟩
        | false =>
          show wpAny _ X.A (handleBy (.ref a) X.env hds2) _ _ _
          exact ih (no rfl)
    exact go hh w
  · cases f with
    | next =>
      obtain ⟨σ', H', J', q⟩ := fin
      exact wpAny_execs_nil ⟨σ', H', J'.ofTry ok, q⟩
    | brk =>
      obtain ⟨σ', H', J', q⟩ := fin
      exact ⟨σ', H', J'.ofTry ok, q⟩
    | cont =>
      obtain ⟨σ', H', J', q⟩ := fin
      exact ⟨σ', H', J'.ofTry ok, q⟩
    | ret u =>
      obtain ⟨v, σ', H', J', r, q⟩ := fin
      exact ⟨v, σ', H', J'.ofTry ok, r, q⟩
end
end XR
set_option Elab.async false
set_option linter.all false
set_option maxRecDepth 100000
set_option maxHeartbeats 4000000
namespace XR
open PySem PySem.Spec PyProof.Rows L2 L2H
/-- a def that may run while an exception is handled, too -/
structure FnC (P : Program) (w : World) (K : PySem.W.Frag) (mg : Str → Option Value) (base : Heap) (k : Nat) (f : Addr) (fd : FuncData) (ps : List Str) (sp : Sp) : Prop where
  len : ∀ vs H Q E, sp vs H Q E → vs.length = ps.length
  run : ∀ (A : Around) (outer : List Env) (s : Shared) (H : Hp) (args : Args) (us : List Value) (vs : List V) (Q : VK) (E : XK), RoomH k A → Env0 P w K mg base A outer s H → BindsTo s fd args (ps.zip us) → Vals vs us → sp vs H Q E →
    codeAny (model P w) A (.call (.ref f) args) (CR CX0 outer P w H s Q E) s
theorem FnC.ok {P : Program} {w : World} {K : PySem.W.Frag} {mg : Str → Option Value} {base : Heap} {k : Nat} {f : Addr} {fd : FuncData} {ps : List Str} {sp : Sp} (F : FnC P w K mg base k f fd ps sp) : FnOk P w K mg base CX0 k f fd ps sp :=
  ⟨F.len, fun A outer s H args us vs Q E hr => F.run A outer s H args us vs Q E (roomH_of hr)⟩
/-- an object of the base that stands still through every call -/
theorem base_pin {P : Program} {w : World} {K : PySem.W.Frag} {mg : Str → Option Value} {base : Heap} {A : Around} {outer : List Env} {s : Shared} {H : Hp} (e0 : Env0 P w K mg base A outer s H) : ∃ p, PinOk outer H s p := by
  obtain ⟨o, es, ep, e, hd, _⟩ := e0.mod.glob
  obtain ⟨q, n⟩ := e0.bs _ o e
  refine ⟨(mainGlobals, o), q, n, fun hm => ?_, fun v z => ?_⟩
  · have z := (e0.funs.mem hm).1
    rw [e] at z
    cases z
  · have z2 : o.data = .cell v := z
    rw [hd] at z2
    cases z2
theorem fnc_of {P : Program} {w : World} {K : PySem.W.Frag} {mg : Str → Option Value} {base : Heap} {k : Nat} {f : Addr} {x qual : Str} {st : Stmt} {fd : FuncData} {N ps : List Str} {sp : Sp} (F : Fun K x qual st f fd) (S : FnScope N ps (defScope st))
    (len : ∀ vs H Q E, sp vs H Q E → vs.length = ps.length)
    (hbody : ∀ (cdv : Value) (A : Around) (outer : List Env) (s : Shared) (H : Hp) (vs : List V) (Q : VK) (E : XK) (p : Addr × Obj), RoomH k (A.deeper (envOfC qual (defScope st) s.heap.objs.size f cdv)) → sp vs H Q E →
      ∃ t, PSs (cxH CX0 P w K mg base N qual (defScope st) f cdv A outer s H E p) (defBody st) t ∧ t { nx := fun _ H' => Q .non H', rt := Q } (L2.start N vs) H) :
    FnC P w K mg base (k + 1) f fd ps sp := by
  obtain ⟨oc, od, kV, doc, pm, an, cdv, ct, osl, rfl, lk, hcd⟩ := F.ex
  refine ⟨len, fun A outer s H args us vs Q E hr e0 hb r hsp => ?_⟩
  obtain ⟨p, hp⟩ := base_pin e0
  have hl := len _ _ _ _ hsp
  have KX : K.In s.heap := e0.mod.kin.keeps fun b o e => (e0.bs b o e).1
  have lim : s.heap.NoLimit := e0.mod.nolimit.keeps fun b o e => (e0.bs b o e).1
  have kinds : ∀ y ∈ ps.zip us, (defScope st).names.lookup y.1 = some .local ∨
      ((defScope st).names.lookup y.1 = some .cell ∧ ((cellsFrom (s.heap.objs.size + 1) (defScope st).names []).lookup y.1).isSome = true) := fun ⟨n, v⟩ hy => by
    rcases S.par n (List.of_mem_zip hy).1 with q | q
    · exact .inl q
    · exact .inr ⟨q, PySem.W.cellsFrom_some _ _ _ (.inl q)⟩
  refine codeAny_call_function hr.depth (KX _ _ lk) rfl S.co S.gen rfl (PySem.W.codeRec_of KX hcd) (hb _ _ _ _ ?_)
  refine wpAny_newFunctionEnv_cells S.kind kinds fun env he s1 ic => ?_
  subst he
  refine ⟨lim.keeps ic.toInCall.keep, codeAny_func ?_⟩
  obtain ⟨t, ht, hq⟩ := hbody cdv A outer s H vs Q E p (hr.deeper _) hsp
  have I := inv_startH (CX := CX0) (E := E) S hp e0 hl r ic
  refine wpAny_mono (ht.run [] s1 (L2.start N vs) H _ I hq) (fun fl s' hs => ?_) fun e s' hs => hs
  have out : ∀ {σ' : L2.St} {H' : Hp} {v : V} {u : Value}, Inv (cxH CX0 P w K mg base N qual (defScope st) f cdv A outer s H E p) [] σ' H' s' → RelV v u → Q v H' → CE outer P w H s Q u s' :=
    fun {σ' H' v u} J rv q => ⟨v, H', J.os, J.bare, J.base, J.hok, rv, q⟩
  cases fl with
  | ret u =>
    obtain ⟨v, σ', H', J, rv, q⟩ := hs
    exact out J rv q
  | next =>
    obtain ⟨σ', H', J, q⟩ := hs
    exact out (v := V.non) (u := Value.none) J rfl q
  | brk =>
    obtain ⟨_, _, _, q⟩ := hs
    exact q.elim
  | cont =>
    obtain ⟨_, _, _, q⟩ := hs
    exact q.elim
/-- f(e), e the error that the suite holds: it is tracked through the call -/
def tHc (a : Addr) (cls : Value) (d : Option Addr) (sp : Sp) (t : TA) : TE := fun σ H Q => t σ H fun vs H1 => vs = [.ref a] ∧ H1 a = none ∧
  ∀ oe : Obj, oe.cls = cls → oe.dict = d → (∃ fv, oe.data = .fields fv) → sp [.ref a] (upd H1 a (exq a oe)) (fun v H2 => H2 a = some (exq a oe) ∧ Q v (delH H2 a)) E0
theorem exq_own {a x : Addr} {oe : Obj} : exq a oe ≠ .own x := fun z => by
  have z' : HO.ext _ = HO.own x := z
  cases z'
section
variable {X : Cx} {a : Addr} {oe : Obj} {cls : Value} {d : Option Addr} {pn : List (Addr × Obj)} {k : Nat} {f : Addr} {fd : FuncData} {ps : List Str} {sp : Sp} {x : Str} {p pos : Pos} {e : Expr} {t : TA}
theorem pe_hc (hz : Zc cls d oe) (hf : ∃ vs, oe.data = .fields vs) (nB : X.base.get? a = none) (F : FnC X.prog X.w X.K X.mg X.base k f fd ps sp) (hr : RoomH k (X.suite a ((a, oe) :: pn)).A) (hg : Gl (X.suite a ((a, oe) :: pn)) x) (hm : X.mg x = some (.ref f)) (hk : PySem.W.keepIn X.K (.ref f) = true) (hb : Binds X.K fd ps [])
    (ha : PA (X.suite a ((a, oe) :: pn)) [e] t) (hdb : (x == ("__debug__" : Str)) = false := by decide)
    (hst : starEach [e] X.env = (false, eval e X.env) :: starEach [] X.env := by rfl) :
    PE (X.suite a ((a, oe) :: pn)) (.Call (.Name x p) [e] [] pos) (tHc a cls d sp t) := by
  refine ⟨fun pins s σ H Q I h => ?_⟩
  refine wpAny_Call_Name_kw (ld_glob I hg hm ?_ hdb)
  refine PySem.W.callWith_K (h₀ := X.base) I.ok.mod.kin hk (thn (ha.run pos pins s σ H _ I h) fun us s1 ⟨vs, H1, I1, r, ev, _, hall⟩ => ⟨I1.kIn, ?_⟩) hst (by rfl)
  subst ev
  have hsp := hall oe hz.1 hz.2 hf
  cases r with
  | cons ry rn =>
  cases rn
  cases ry
  obtain ⟨pg, pf, pL, pF, pc⟩ := I1.pin (a, oe) (List.mem_append_left _ List.mem_cons_self)
  have nst : a ∉ frs (X.suite a ((a, oe) :: pn)).stack := fun hm => (List.mem_cons.mp (I1.stkSub a hm)).elim pL pF
  have e0 := I1.env0
  have e1 : Env0 X.prog X.w X.K X.mg X.base (X.suite a ((a, oe) :: pn)).A (X.suite a ((a, oe) :: pn)).stack s1 (upd H1 a (exq a oe)) := by
    refine ⟨e0.frames, e0.mod, fun b o q => ?_, e0.bsz, e0.funs, fun b hb => ?_, ?_, e0.bare⟩
    · have ne : b ≠ a := fun z => by
        rw [z, nB] at q
        cases q
      rw [upd_ne ne]
      exact e0.bs b o q
    · have ne : b ≠ a := fun z => nst (by rw [← z]; exact hb)
      rw [upd_ne ne]
      exact e0.frf b hb
    · exact I1.hok.laidN (fun _ _ q => q) pf (exq_ok pg)
  have b := hb s1 [.ref a] I1.kIn (by rw [List.append_nil]; exact (F.len _ _ _ _ hsp))
  rw [List.append_nil] at b
  refine wpAny_call (codeAny_mono (F.run _ _ s1 _ ⟨[.ref a], []⟩ [.ref a] [.ref a] _ E0 hr e1 b (.cons rfl .nil) hsp) fun r s' hq => ?_)
  cases r with
  | error z => exact False.elim hq
  | ok fl =>
    cases fl with
    | next => exact False.elim hq
    | brk => exact False.elim hq
    | cont => exact False.elim hq
    | ret u =>
      obtain ⟨v, H2, os2, bare2, un, hok2, rv, ea, q⟩ := hq
      have at2 := exq_get hok2 ea
      have U : Un (frs (X.suite a ((a, oe) :: pn)).stack) [] H1 (delH H2 a) s1.heap s'.heap := {
        keep := fun b o z n hb hx => by
          by_cases hba : b = a
          · rw [hba] at z ⊢
            rw [pg] at z
            cases z
            exact at2
          · exact un.keep b o z (by rw [upd_ne hba]; exact n) hb hx
        slot := fun b o z n hb hx => by
          have hba : b ≠ a := fun y => nst (by rw [← y]; exact hb)
          exact un.slot b o z (by rw [upd_ne hba]; exact n) hb hx
        free := fun b o z n hx => by
          by_cases hba : b = a
          · rw [hba, delH_same]
          · rw [delH_ne hba]
            exact un.free b o z (by rw [upd_ne hba]; exact n) hx
        there := fun b o z hx => un.there b o z hx
        tups := fun b xs z => by
          have hba : b ≠ a := ne_of_none z pf
          rw [delH_ne hba]
          exact un.tups b xs (by rw [upd_ne hba]; exact z)
        frzs := fun b o y z => by
          have hba : b ≠ a := ne_of_none z pf
          rw [delH_ne hba]
          exact un.frzs b o y (by rw [upd_ne hba]; exact z)
        tbls := fun b qs z => by
          have hba : b ≠ a := ne_of_none z pf
          rw [delH_ne hba]
          exact un.tbls b qs (by rw [upd_ne hba]; exact z) }
      have hok3 : HOk X.prog X.w (delH H2 a) s'.heap := fun b o z => by
        have hba : b ≠ a := fun y => by
          rw [y, delH_same] at z
          cases z
        rw [delH_ne hba] at z
        refine (hok2 b o z).stay (fun _ _ _ y => y) (fun c y => ?_) fun c xs y => ?_
        · rw [delH_ne (fun w => by rw [w, ea] at y; exact exq_own (Option.some.inj y))]
          exact y
        · rw [delH_ne (fun w => by
            rw [w, ea] at y
            have y2 : HO.ext _ = HO.tup xs := Option.some.inj y
            cases y2)]
          exact y
      exact ⟨v, delH H2 a, I1.call' (ch := []) os2 U hok3 bare2 (fun b z => absurd z (by simp)), rv, q⟩
end
end XR
set_option Elab.async false
set_option linter.all false
set_option maxRecDepth 100000
set_option maxHeartbeats 4000000
namespace PySem
theorem meets_enum1 {v : Value} {o : Obj} {H : Heap → Prop} (B : Begins v o H) :
    Meets (Builtin.«enumerate.__new__» ⟨[.type "enumerate", v], []⟩) (fun _ R s => H s.heap ∧
      R (.ok (.ret (.ref (s.heap.push o).objs.size)))
        { s with heap := (s.heap.push o).push { cls := .type "enumerate", data := .fields #[.none, .bool false, .ref s.heap.objs.size, rawInt 0, .none, .none] } }) :=
  .of_wp fun prog w A R s h => by
    obtain ⟨hp, g, d, tk, os⟩ := s
    obtain ⟨h1, h⟩ := h
    have sb := sub_enumerate
    have q1 : ∀ {A' : Around} {E : Value → Shared → Prop} {Q : Value → Shared → Prop}, Q (.ref hp.objs.size) ⟨hp.push o, g, d, tk, os⟩ → wpAny (model prog w) A' (pyIter v) Q E ⟨hp, g, d, tk, os⟩ :=
      fun q => B.iter prog w _ _ ⟨hp, g, d, tk, os⟩ _ h1 q
    wp_walk using q1
    refine wpAny_stack_any fun st => wpAny_pure ?_
    split
    · rename_i c _ _ _ _ _
      cases (c == Value.type "enumerate") <;> (wp_walk using q1) <;> exact ⟨_, rfl, h⟩
    · wp_walk using q1
      exact ⟨_, rfl, h⟩
section
variable {prog : Program} {w : World} {A : Around} {E : Value → Shared → Prop} {s : Shared}
/-- enumerate(v): its two new cells -/
theorem enum_begins1 {v : Value} {o : Obj} {H : Heap → Prop} {Q : Value → Shared → Prop} (B : Begins v o H) (h1 : H s.heap)
    (h : ∀ h', IsEnum h' (s.heap.objs.size + 1) s.heap.objs.size 0 .none → h'.get? s.heap.objs.size = some o → h'.objs.size = s.heap.objs.size + 2 →
      (∀ b o, s.heap.get? b = some o → h'.get? b = some o) → Q (.ref (s.heap.objs.size + 1)) { s with heap := h' }) :
    wpAny (model prog w) A (call (.type "enumerate") [v]) Q E s := by
  refine callType_new F.called_enumerate (by decide) (F.typeCall_enumerate_1 _) (F.newCall_enumerate_1 _) (fun obj => F.args_object_init_2 obj _) F.entry_enumerate_new
    (meets_enum1 B) ⟨h1, ?_⟩
  have hz : (s.heap.push o).objs.size = s.heap.objs.size + 1 := Heap.size_push ..
  show _ ∧ _
  rw [hz]
  have he : IsEnum ((s.heap.push o).push { cls := .type "enumerate", data := .fields #[.none, .bool false, .ref s.heap.objs.size, rawInt 0, .none, .none] }) (s.heap.objs.size + 1) s.heap.objs.size 0 .none := by
    have z := Heap.get?_push_size (s.heap.push o) (o := { cls := .type "enumerate", data := .fields #[.none, .bool false, .ref s.heap.objs.size, rawInt 0, .none, .none] }) rfl
    rw [hz] at z
    exact z
  refine ⟨⟨_, he, rfl⟩, h _ he (Heap.get?_push_of_some _ (Heap.get?_push_size _ B.free)) ?_ fun b o x => Heap.get?_push_of_some _ (Heap.get?_push_of_some _ x)⟩
  rw [Heap.size_push, hz]
end
end PySem
namespace XR
open PySem PySem.Spec PyProof.Rows L2
/-- a tuple's items with their places -/
def IteT (K : PySem.W.Frag) (a : Addr) : It :=
  ⟨fun i H => ∃ (xs : List V) (x : V), SqT K H a xs ∧ xs[i]? = some x,
   fun i H v H' => ∃ T x, v = .ref T ∧ H T = none ∧ H' = upd H T (.tup [.int (i : Nat), x]) ∧ ∀ xs, SqT K H a xs → xs[i]? = some x,
   fun i H => ∃ xs : List V, SqT K H a xs ∧ xs.length = i⟩
theorem turn_enumT {P : Program} {w : World} {K : PySem.W.Frag} {elts : List Expr} {kk : Nat} {tpos : Pos} (a e it : Addr) :
    Turn P w K (.Tuple elts kk tpos) (IteT K a) [e, it] e (fun i h => (∃ old, IsEnum h e it ((i : Nat) : Int) old) ∧ h.IsTupleIter it a i ∧ e ≠ it) where
  mem := by simp
  obj := fun i h st b hb => by
    obtain ⟨⟨old, he⟩, ⟨o, ho, hc, hd⟩, _⟩ := st
    have e' : b = e ∨ b = it := by simpa using hb
    rcases e' with z | z
    · rw [z]
      exact ⟨_, he, fun v q => nomatch q⟩
    · rw [z]
      exact ⟨o, ho, fun v q => by rw [hd] at q; cases q⟩
  keep := fun i h h' st k => by
    obtain ⟨⟨old, he⟩, hi, hne⟩ := st
    exact ⟨⟨old, k e (by simp) _ he⟩, hi.at fun o q => k it (by simp) o q, hne⟩
  item := by
    intro X hP hw hK hc i pins s σ H E I hf st hg
    subst hP hw hK
    obtain ⟨⟨old, he⟩, hit, hne⟩ := st
    obtain ⟨xs, x, hq, hx⟩ := hg
    obtain ⟨its, rv, p, hz⟩ := I.tuple hq
    obtain ⟨u, hu, ru⟩ := rv.get hx
    have p2 : s.heap.IsTuple a its.toArray := p
    have hel : e < s.heap.objs.size := Heap.lt_size he
    have hil : it < s.heap.objs.size := by
      obtain ⟨_, q, _⟩ := hit
      exact Heap.lt_size q
    have nai : a ≠ it := fun z => by
      obtain ⟨o1, e1, c1, _⟩ := hit
      obtain ⟨o2, e2, c2, _⟩ := p2
      rw [z, e1] at e2
      cases e2
      rw [c1] at c2
      exact absurd c2 (by decide)
    have nea : e ∉ [it, a] := fun z => by
      have z' : e = it ∨ e = a := by simpa using z
      rcases z' with z' | z'
      · exact hne z'
      · obtain ⟨o2, e2, c2, _⟩ := p2
        have he2 : s.heap.get? e = some _ := he
        rw [z', e2] at he2
        cases he2
        have c3 : Value.type "enumerate" = Value.type "tuple" := c2
        exact absurd c3 (by decide)
    have lt : i < its.toArray.size := by
      have q := (List.getElem?_eq_some_iff.mp hu).1
      simpa using q
    refine wpAny_pyNext_enum_itemD (Draws.tuple (A := X.A.in1) (I.ok.hd hc) it a nai its.toArray) he ⟨hit, p2⟩ lt hne nea fun y h' tk hy ho hst' hT hsz hk => ?_
    have ey : y = u := by
      have hy2 : its.toArray[i]? = some y := hy
      have hu2 : its.toArray[i]? = some u := by simpa using hu
      rw [hu2] at hy2
      exact (Option.some.inj hy2).symm
    subst ey
    refine ⟨_, rfl, wpAny_letOwnedTupleGo_enum (s := { s with heap := h', toks := tk + 1 }) ho fun h'' he' sb => ?_⟩
    have hT2 : h''.get? s.heap.objs.size = some { cls := .type "tuple", data := .seq #[.int i tk, y] } := (sb.2 _ (Nat.ne_of_gt hel)).trans hT
    have new : ObjOk X.prog X.w (upd H s.heap.objs.size (.tup [.int (i : Nat), x])) h'' s.heap.objs.size (.tup [.int (i : Nat), x]) :=
      ⟨by show 2 ≤ sizeLine; decide, [.int i tk, y], .cons ⟨_, rfl⟩ (.cons ru .nil), ⟨_, hT2, rfl, _, rfl⟩⟩
    have I1 : Inv X pins σ (upd H s.heap.objs.size (.tup [.int (i : Nat), x])) { s with heap := h'', toks := tk + 1 } :=
      I.turnedNew (ch := [e, it]) (fun b ob hb q => (sb.2 b (fun z => hb (by simp [z]))).trans (hk b ob (fun z => hb (by simp [z])) (fun z => hb (by simp [z])) q)) hf (Nat.le_refl _) new
    refine ⟨.ref s.heap.objs.size, _, I1, rfl, ⟨_, x, rfl, I.hok.fresh (Nat.le_refl _), rfl, fun ys hy => by rw [I.tuple_inj hy hq]; exact hx⟩, ⟨⟨y, ?_⟩, hst'.1.at fun o q => (sb.2 it (Ne.symm hne)).trans q, hne⟩, fun b hb => ?_⟩
    · have e1 : ((i + 1 : Nat) : Int) = (i : Int) + 1 := by omega
      rw [e1]
      exact he'
    · have hb' : b < s.heap.objs.size := by
        have e' : b = e ∨ b = it := by simpa using hb
        rcases e' with z | z
        · rw [z]
          exact hel
        · rw [z]
          exact hil
      rw [upd_ne (Nat.ne_of_lt hb')]
      exact (hf b hb).1
  done := by
    intro X hP hw hK hc i pins s σ H E I hf st hg
    subst hP hw hK
    obtain ⟨⟨old, he⟩, hit, hne⟩ := st
    obtain ⟨xs, hq, hx⟩ := hg
    obtain ⟨its, rv, p, hz⟩ := I.tuple hq
    have p2 : s.heap.IsTuple a its.toArray := p
    obtain ⟨f0, f1, f2, f3, f4, f5⟩ := hf it (by simp)
    have hl := rv.length
    have nai : a ≠ it := fun z => by
      obtain ⟨o1, e1, c1, _⟩ := hit
      obtain ⟨o2, e2, c2, _⟩ := p2
      rw [z, e1] at e2
      cases e2
      rw [c1] at c2
      exact absurd c2 (by decide)
    have sz : its.toArray.size = i := by
      rw [← hx, hl]
      simp
    refine wpAny_pyNext_enum_endD (Draws.tuple (A := X.A.in1) (I.ok.hd hc) it a nai its.toArray) he ⟨?_, p2⟩ fun h' eb => ⟨rfl, I.turned (t' := s.toks) (fun b o hb q => eb b o hb q) f0 f1 f3 f4 f5⟩
    rw [sz]
    exact hit
  self := fun A i s Q E st h => by
    obtain ⟨⟨_, he⟩, _⟩ := st
    exact wpAny_pyIter_enum he h
/-- enumerate(x), x a list or a tuple -/
def iEnumX (K : PySem.W.Frag) (ta : TA) : TI := fun σ H R => ta σ H fun vs H1 => ∃ a xs, vs = [.ref a] ∧ ((SqL K H1 a xs ∧ R (Ite K a) H1) ∨ (SqT K H1 a xs ∧ R (IteT K a) H1))
theorem pi_enumX {X : Cx} {e : Expr} {ta : TA} {p pos tpos : Pos} {elts : List Expr} {kk : Nat} (hg : Gl X "enumerate") (hm : X.mg "enumerate" = none) (ha : PA X [e] ta) (hs : starEach [e] X.env = [(false, eval e X.env)] := by rfl) :
    PI X (.Tuple elts kk tpos) (.Call (.Name "enumerate" p) [e] [] pos) (iEnumX X.K ta) := by
  refine ⟨fun pins s σ H R I h => ?_⟩
  refine Call_ (ld_blt I hg hm boot_enumerate (PyProof.Rows.callWith_type1 (thn (ha.run pos pins s σ H _ I h) fun us s1 ⟨vs, H1, I1, r1, a, xs, ex, hq⟩ => ?_) hs rfl))
  subst ex
  cases r1 with
  | cons r rr =>
    cases rr
    cases r
    have fin : ∀ b ∈ [s1.heap.objs.size + 1, s1.heap.objs.size], s1.heap.objs.size ≤ b := fun b hb => by
      have e' : b = s1.heap.objs.size + 1 ∨ b = s1.heap.objs.size := by simpa using hb
      rcases e' with z | z
      · rw [z]
        exact Nat.le_add_right _ _
      · rw [z]
        exact Nat.le_refl _
    rcases hq with ⟨hq, q⟩ | ⟨hq, q⟩
    · obtain ⟨its, rv, p', hz⟩ := I1.list hq
      refine enum_begins1 (begins_list a its.toArray) p'.isList fun h' he hit hsz hk => wpAny_pyIter_enum he ?_
      have I2 : Inv X pins σ H1 { s1 with heap := h' } := I1.kept (t' := s1.toks) hk
      exact ⟨s1.heap.objs.size + 1, [s1.heap.objs.size + 1, s1.heap.objs.size], _, _, H1, rfl, I2, turn_enum a (s1.heap.objs.size + 1) s1.heap.objs.size,
        ⟨⟨.none, he⟩, ⟨_, hit, rfl, rfl⟩, Nat.succ_ne_self _⟩, fun b hb => I1.fpOk (fin b hb) (I1.hok.fresh (fin b hb)), q⟩
    · obtain ⟨its, rv, p', hz⟩ := I1.tuple hq
      have p2 : s1.heap.IsTuple a its.toArray := p'
      refine enum_begins1 (begins_tuple a its.toArray) p2 fun h' he hit hsz hk => wpAny_pyIter_enum he ?_
      have I2 : Inv X pins σ H1 { s1 with heap := h' } := I1.kept (t' := s1.toks) hk
      exact ⟨s1.heap.objs.size + 1, [s1.heap.objs.size + 1, s1.heap.objs.size], _, _, H1, rfl, I2, turn_enumT a (s1.heap.objs.size + 1) s1.heap.objs.size,
        ⟨⟨.none, he⟩, ⟨_, hit, rfl, rfl⟩, Nat.succ_ne_self _⟩, fun b hb => I1.fpOk (fin b hb) (I1.hok.fresh (fin b hb)), q⟩
theorem walk_enumT {K : PySem.W.Frag} {a : Addr} {xs : List V} : Walk (IteT K a) xs.length (fun H => SqT K H a xs) (YPair (fun i => some (.int (i : Nat))) (fun i => xs[i]?)) :=
  ⟨fun i H hi h => ⟨xs, xs[i], h, by simp [hi]⟩, fun H h => ⟨xs, h, rfl⟩, fun i H x H' hi h ⟨T, y, e1, e2, e3, e4⟩ => ⟨T, _, y, e1, e2, e3, rfl, e4 xs h⟩⟩
end XR
set_option Elab.async false
set_option linter.all false
set_option maxRecDepth 100000
set_option maxHeartbeats 2000000
namespace T00
open PySem PySem.Spec PyProof.Rows L2 XR
def top (i : Nat) : Stmt := PySem.Challenge.pw_twicestep_k00_errors_by_position_and_by.main.body.getD i (.Pass ⟨0, 0, 0, 0⟩)
abbrev sDeck : Stmt := top 18
abbrev sDraw : Stmt := top 19
abbrev sPick : Stmt := top 20
/-! ### the deck -/
def kL : Key := Sum.inr ("left" : Str)
def kM : Key := Sum.inr ("mixed" : Str)
def kD : Key := Sum.inr ("draws" : Str)
def deckL (l : Addr) (m n : Int) : List (Key × V) := [(kL, .ref l), (kM, .int m), (kD, .int n)]
def DeckAt (H : Hp) (d l : Addr) : Prop := ∃ (m n : Int) (ns : List Int), H d = some (.dK (deckL l m n)) ∧ H l = some (.lst (ns.map V.int)) ∧ ns.length ≤ 63 ∧ 0 ≤ m ∧ m < 2147483648
/-- all but the deck is as it was -/
def Dk (d l : Addr) (H H' : Hp) : Prop := ∀ b o, H b = some o → b ≠ d → b ≠ l → H' b = some o
theorem Dk.refl (d l : Addr) (H : Hp) : Dk d l H H := fun _ _ h _ _ => h
theorem Dk.trans {d l : Addr} {H H1 H2 : Hp} (a : Dk d l H H1) (b : Dk d l H1 H2) : Dk d l H H2 := fun c o h h1 h2 => b c o (a c o h h1 h2) h1 h2
theorem Dk.of_same {d l : Addr} {H H' : Hp} (a : Same H H') : Dk d l H H' := fun c o h _ _ => a c o h
theorem Same.new {H : Hp} {p : Addr} {o : HO} (h : H p = none) : Same H (upd H p o) := fun b u e => by
  rw [upd_ne (ne_of_none e h)]
  exact e
structure Txt0 (mg : Str → Option Value) : Prop where
  int : mg "int" = none
  list : mg "list" = none
  max : mg "max" = none
  len : mg "len" = none
  range : mg "range" = none
  tuple : mg "tuple" = none
  isi : mg "isinstance" = none
  enu : mg "enumerate" = none
  dict : mg "dict" = none
  repr : mg "repr" = none
theorem pos1 : (fun (_ j : Int) => 0 < j) 0 2147483629 := by decide
theorem pos2 : (fun (_ j : Int) => 0 < j) 0 2147483563 := by decide
theorem cut63 {ns : List Int} (h : ns.length ≤ 63) : cutV (ns.map V.int) none (some 63) = ns.map V.int := by
  unfold cutV
  rw [HT.sIx_none, show (some (63 : Int)) = some ((63 : Nat) : Int) from rfl, HT.sIx_nat, List.length_map, Nat.min_eq_right h, List.drop_zero, Nat.sub_zero]
  exact List.take_of_length_le (by rw [List.length_map]; exact Nat.le_refl _)
theorem int_at {ns : List Int} {i : Nat} {y : V} (h : (ns.map V.int)[i]? = some y) : ∃ z, y = V.int z := by
  rw [List.getElem?_map] at h
  cases e : ns[i]? with
  | none =>
    rw [e] at h
    cases h
  | some z =>
    rw [e] at h
    exact ⟨z, (Option.some.inj h).symm⟩
theorem deck_merge {l : Addr} {m n : Int} : mergeK [] (deckL l m n) = deckL l m n := by rfl
def spDeck (K : PySem.W.Frag) : Sp := fun vs H Q _ => ∃ (a : Addr) (ns : List Int) (seed : Int), vs = [.ref a, .int seed] ∧ SqL K H a (ns.map V.int) ∧ ns.length ≤ 63 ∧ 0 ≤ seed ∧ seed < 2147483648 ∧
  ∀ (d l : Addr) (H' : Hp), H d = none → H l = none → d ≠ l → DeckAt H' d l → Same H H' → Q (.ref d) H'
section
variable {P : Program} {w : World} {K : PySem.W.Frag} {mg : Str → Option Value} {base : Heap}
theorem scDeck : FnScope ["script", "seed", "mixed", "cell"] ["script", "seed"] (defScope sDeck) := ⟨rfl, rfl, rfl, by decide +kernel, rfl, by decide +kernel, by decide +kernel⟩
theorem ok_deck {f : Addr} {fd : FuncData} (F : Fun K "_law_deck" "_law_deck" sDeck f fd) (T : Txt0 mg) : FnOk P w K mg base CX0 1 f fd ["script", "seed"] (spDeck K) := by
  refine F.ok scDeck (fun vs H Q E h => ?_) (fun cdv A outer s H vs Q E hr h => ?_)
  · obtain ⟨a, ns, seed, rfl, _⟩ := h
    rfl
  · obtain ⟨a, ns, seed, rfl, hS, hlen, s0, s1, k⟩ := h
    refine ⟨_, pss_cons (ps_set (i := 2) scDeck.nd rfl (Or.inl rfl) (pv 1))
      (pss_cons (ps_for PassesOwn.never rfl (pi_list (pe_slice sl_list (pv 0) po_none (po_some pe_int))) (pg_name (i := 3) scDeck.nd rfl (Or.inl rfl))
        (pss_one (ps_set (i := 2) scDeck.nd rfl (Or.inl rfl) (pe_op op_mod (pe_callTy call_int1 (by rfl) T.int (by decide +kernel) (pa_cons
          (pe_op op_add (pe_op op_add (pe_op op_mul (pv 2) pe_int) (pe_op op_mod (pe_callTy call_int1 (by rfl) T.int (by decide +kernel) (pa_cons (pv 3) pa_nil)) pe_int)) pe_int) pa_nil)) pe_int))))
      (pss_one (ps_ret (pe_disp (pps_cons pe_str (pe_revL (pe_callTy call_list_of (by rfl) T.list (by decide +kernel) (pa_cons (pe_slice sl_list (pv 0) po_none (po_some pe_int)) pa_nil)))
        (pps_cons pe_str (pv 2) (pps_cons pe_str pe_int pps_nil))) (by rfl) (by rfl) (fun z => by cases z) (by decide))))), ?_⟩
    refine ⟨_, rfl, _, rfl, _, rfl, a, _, rfl, hS, fun p hp => ⟨p, rfl, ⟨_, SqL.of upd_same⟩, ?_⟩⟩
    refine for_list (K := K) (a := p) (xs := cutV (ns.map V.int) none (some 63)) (fun i σ H' => ∃ (m : Int) (v : Option V), σ = [some (.ref a), some (.int seed), some (.int m), v] ∧ 0 ≤ m ∧ m < 2147483648 ∧ H' = upd H p (.lst (cutV (ns.map V.int) none (some 63))))
      ⟨seed, none, rfl, s0, s1, rfl⟩ (fun i σ H' _ ⟨_, _, _, _, _, e⟩ => by rw [e]; exact SqL.of upd_same) ?_ ?_
    · rintro i y σ H' hi ⟨m, v, rfl, m0, m1, rfl⟩
      rw [cut63 hlen] at hi
      obtain ⟨z, rfl⟩ := int_at hi
      refine ⟨_, rfl, _, _, rfl, rfl, .inl ⟨by omega, by omega⟩, _, rfl, .inl ⟨_, rfl, _, _, rfl, rfl, pos1, _, _, rfl, rfl, _, _, rfl, rfl, .inl ⟨_, rfl, _, _, rfl, rfl, pos2, ?_⟩⟩⟩
      exact ⟨_, some (.int z), rfl, Int.emod_nonneg _ (by decide), Int.lt_trans (Int.emod_lt_of_pos _ (by decide)) (by decide), rfl⟩
    · rintro σ H' ⟨m, v, rfl, m0, m1, rfl⟩
      intro q hq
      have np : p ≠ q := ne_of_none (o := .lst (cutV (ns.map V.int) none (some 63))) upd_same hq
      have sqp : ∀ o, SqL K (upd (upd H p (.lst (cutV (ns.map V.int) none (some 63)))) q o) a (ns.map V.int) := fun o => Same.seq (fun b u e => by
        rw [upd_ne (ne_of_none (show (upd H p (.lst (cutV (ns.map V.int) none (some 63)))) b = some u by rw [upd_ne (ne_of_none e hp)]; exact e) hq), upd_ne (ne_of_none e hp)]
        exact e) hS
      refine ⟨_, rfl, _, rfl, a, _, rfl, sqp _, fun r hr2 => ⟨r, _, rfl, .inl (SqL.of upd_same), fun t ht => ⟨t, _, rfl, SqL.of upd_same, fun u hu => ?_⟩⟩⟩
      rw [cut63 hlen] at *
      have e1 : Same H (upd H p (.lst (ns.map V.int))) := Same.new hp
      have e2 := e1.trans (Same.new (o := .dK []) hq)
      have e3 := e2.trans (Same.new (o := .lst (ns.map V.int)) hr2)
      have e4 := e3.trans (Same.new (o := .lst (ns.map V.int)) ht)
      have e5 := e4.trans (Same.new (o := .lst (ns.map V.int).reverse) hu)
      have hqd : (upd H p (.lst (ns.map V.int))) q = none := hq
      have nqr : q ≠ r := ne_of_none (o := .dK []) upd_same hr2
      have f3 := (Same.new (o := .lst (ns.map V.int)) hr2) q _ upd_same
      have f4 := (Same.new (o := .lst (ns.map V.int)) ht) q _ f3
      have f5 := (Same.new (o := .lst (ns.map V.int).reverse) hu) q _ f4
      have nq : H q = none := e1.free hqd
      have nu : H u = none := e4.free hu
      have nqu : q ≠ u := ne_of_none f4 hu
      refine ⟨_, rfl, f5, deckL u m 0, rfl, (by show 3 ≤ 15; decide), ?_⟩
      rw [deck_merge]
      refine k q u _ nq nu nqu ⟨m, 0, ns.reverse, upd_same, ?_, ?_, m0, m1⟩ fun b o e => ?_
      · rw [upd_ne nqu.symm, upd_same, List.map_reverse]
      · rw [List.length_reverse]
        exact hlen
      · rw [upd_ne (ne_of_none e nq)]
        exact e5 b o e
theorem dg_left {H : Hp} {d l : Addr} {m n : Int} (h : H d = some (.dK (deckL l m n))) : DGet H d (.str "left") (some (.ref l)) := DGet.k (k := kL) h
theorem dg_mixed {H : Hp} {d l : Addr} {m n : Int} (h : H d = some (.dK (deckL l m n))) : DGet H d (.str "mixed") (some (.int m)) := DGet.k (k := kM) h
theorem dg_draws {H : Hp} {d l : Addr} {m n : Int} (h : H d = some (.dK (deckL l m n))) : DGet H d (.str "draws") (some (.int n)) := DGet.k (k := kD) h
theorem dp_mixed {H : Hp} {d l : Addr} {m n x : Int} (h : H d = some (.dK (deckL l m n))) : DPut H d (.str "mixed") (.int x) (upd H d (.dK (deckL l x n))) :=
  DPut.k (k := kM) (v := .int x) h (by show 3 < sizeLine; decide)
theorem dp_draws {H : Hp} {d l : Addr} {m n x : Int} (h : H d = some (.dK (deckL l m n))) : DPut H d (.str "draws") (.int x) (upd H d (.dK (deckL l m x))) :=
  DPut.k (k := kD) (v := .int x) h (by show 3 < sizeLine; decide)
theorem dpInts {H : Hp} : ∀ ns : List Int, DpAll K H (ns.map V.int) (ns.map PyData.int)
  | [] => .nil
  | n :: r => .cons (.int n) (dpInts r)
theorem shInts : ∀ ns : List Int, SeqAt.shaped (.list (ns.map PyData.int)) = true := by
  intro ns
  have h1 : ∀ l : List Int, PyData.depthAll (l.map PyData.int) = 0 := fun l => by
    induction l with
    | nil => rfl
    | cons a r ih => simp [PyData.depthAll, PyData.depth, ih]
  have h2 : ∀ l : List Int, PyData.canLayAll0 (l.map PyData.int) = true := fun l => by
    induction l with
    | nil => rfl
    | cons a r ih => simp [PyData.canLayAll0, PyData.canLay0, ih]
  simp [SeqAt.shaped, PyData.depth, PyData.canLay0, h1, h2]
theorem neNil (ns : List Int) : (!PyData.eqv (.list (ns.map PyData.int)) (.list [])) = !ns.isEmpty := by
  cases ns with
  | nil => rfl
  | cons n r => rfl
def spDraw : Sp := fun vs H Q _ => ∃ (d l : Addr) (many : Int), vs = [.ref d, .int many] ∧ DeckAt H d l ∧ 0 < many ∧ many < 1073741824 ∧
  ∀ (r : Int) (H' : Hp), 0 ≤ r → r < many → DeckAt H' d l → Dk d l H H' → Q (.int r) H'
abbrev tInt (t : TE) : TE := tCB (fun xs H Q => (∃ i, xs = [V.int i] ∧ Q (V.int i) H) ∨ ∃ k, xs = [V.bl k] ∧ Q (V.int (if k = true then 1 else 0)) H) (tCons t tNil)
abbrev rAddI : R2 := rI0 fun i j => V.int (i + j)
abbrev rMulI : R2 := rI CMul fun i j => V.int (i * j)
abbrev rModP : R2 := rI (fun _ j => 0 < j) fun i j => V.int (i % j)
def tTail : TS :=
  tSeq (tAsg (tOp rModP (tInt (tOp rAddI (tDGet (tVar 0) (tC (V.str "mixed"))) (tOp rMulI (tC (V.int 31337)) (tDGet (tVar 0) (tC (V.str "draws")))))) (tC (V.int 2147483647))) (gName 3))
    (tSeq (tAsg (tOp rModP (tInt (tOp rAddI (tOp rAddI (tOp rMulI (tVar 3) (tVar 3)) (tOp rMulI (tC (V.int 48271)) (tDGet (tVar 0) (tC (V.str "draws"))))) (tC (V.int 11)))) (tC (V.int 2147483629))) (gName 3))
      (tSeq (tAsg (tOp rModP (tInt (tOp rAddI (tOp rMulI (tVar 3) (tC (V.int 69621))) (tC (V.int 77)))) (tC (V.int 2147483563))) (gName 3))
        (tRet (tOp (rI (fun _ j => j ≠ 0) fun i j => V.int (i.fmod j)) (tInt (tOp (rI CDiv fun i j => V.int (i / j)) (tVar 3) (tC (V.int 64)))) (tVar 1)))))
theorem scDraw : FnScope ["deck", "many", "cell", "figure"] ["deck", "many"] (defScope sDraw) := ⟨rfl, rfl, rfl, by decide +kernel, rfl, by decide +kernel, by decide +kernel⟩
theorem ok_draw {f : Addr} {fd : FuncData} (F : Fun K "_law_draw" "_law_draw" sDraw f fd) (T : Txt0 mg) : FnOk P w K mg base CX0 1 f fd ["deck", "many"] spDraw := by
  refine F.ok scDraw (fun vs H Q E h => ?_) (fun cdv A outer s H vs Q E hr h => ?_)
  · obtain ⟨d, l, many, rfl, _⟩ := h
    rfl
  · obtain ⟨d, l, many, rfl, ⟨m, n, ns, hd, hl, hz, m0, m1⟩, p0, p1, k⟩ := h
    have hu := hu_of hr
    refine ⟨_, pss_cons (ps_dput hu (pv 0) pe_str (pe_op op_add (pe_dget hu (pv 0) pe_str (fun _ _ => rfl)) pe_int) rfl)
      (pss_cons (ps_if (pt_cmpR (op_neD hr.units) (pe_dget hu (pv 0) pe_str (fun _ _ => rfl)) (pe_lst pa_nil) (nomark _))
        (pss_cons (ps_set (i := 2) scDraw.nd rfl (Or.inl rfl) (pe_bm0 PySem.F.plainAttrs_list PySem.F.slot_list_pop PySem.F.type_list_pop mt_pop (pe_dget hu (pv 0) pe_str (fun _ _ => rfl))))
        (pss_cons (ps_if (pt_cmpR op_ge (pv 2) (pe_op op_pow pe_int pe_int) (nomark _))
          (pss_cons (ps_expr (pe_bm PySem.F.plainAttrs_list PySem.F.slot_list_append PySem.F.type_list_append mt_append (pe_dget hu (pv 0) pe_str (fun _ _ => rfl))
            (pa_cons (pe_op op_fdivN (pv 2) (pe_callB (call_max2 rfl) (by rfl) T.max (by decide +kernel) (pa_cons pe_int (pa_cons (pv 1) pa_nil)))) pa_nil)))
          (pss_one (ps_ret (pe_op op_modN (pe_callTy call_int1 (by rfl) T.int (by decide +kernel) (pa_cons (pv 2) pa_nil)) (pv 1))))) pss_nil)
        (pss_one (ps_dput hu (pv 0) pe_str (pe_op op_mod (pe_callTy call_int1 (by rfl) T.int (by decide +kernel) (pa_cons
          (pe_op op_add (pe_op op_add (pe_op op_mul (pe_dget hu (pv 0) pe_str (fun _ _ => rfl)) pe_int) (pe_op op_mod (pe_callTy call_int1 (by rfl) T.int (by decide +kernel) (pa_cons (pv 2) pa_nil)) pe_int)) pe_int) pa_nil)) pe_int) rfl)))) pss_nil)
      (pss_cons (ps_set (i := 3) scDraw.nd rfl (Or.inl rfl) (pe_op op_mod (pe_callTy call_int1 (by rfl) T.int (by decide +kernel) (pa_cons
          (pe_op op_add (pe_dget hu (pv 0) pe_str (fun _ _ => rfl)) (pe_op op_mul pe_int (pe_dget hu (pv 0) pe_str (fun _ _ => rfl)))) pa_nil)) pe_int))
      (pss_cons (ps_set (i := 3) scDraw.nd rfl (Or.inl rfl) (pe_op op_mod (pe_callTy call_int1 (by rfl) T.int (by decide +kernel) (pa_cons
          (pe_op op_add (pe_op op_add (pe_op op_mul (pv 3) (pv 3)) (pe_op op_mul pe_int (pe_dget hu (pv 0) pe_str (fun _ _ => rfl)))) pe_int) pa_nil)) pe_int))
      (pss_cons (ps_set (i := 3) scDraw.nd rfl (Or.inl rfl) (pe_op op_mod (pe_callTy call_int1 (by rfl) T.int (by decide +kernel) (pa_cons
          (pe_op op_add (pe_op op_mul (pv 3) pe_int) pe_int) pa_nil)) pe_int))
      (pss_one (ps_ret (pe_op op_modN (pe_callTy call_int1 (by rfl) T.int (by decide +kernel) (pa_cons (pe_op op_fdiv (pv 3) pe_int) pa_nil)) (pv 1)))))))), ?_⟩
    refine ⟨_, rfl, d, _, rfl, dg_draws hd, _, _, rfl, rfl, _, rfl, d, _, rfl, dp_draws hd, ?_⟩
    have hd1 : (upd H d (.dK (deckL l m (n + 1)))) d = some (.dK (deckL l m (n + 1))) := upd_same
    have nld : l ≠ d := fun z => by
      rw [z, hd] at hl
      cases hl
    have hl1 : (upd H d (.dK (deckL l m (n + 1)))) l = some (.lst (ns.map V.int)) := by
      rw [upd_ne nld]
      exact hl
    have D1 : Dk d l H (upd H d (.dK (deckL l m (n + 1)))) := fun b o e h1 _ => by
      rw [upd_ne h1]
      exact e
    generalize upd H d (.dK (deckL l m (n + 1))) = H1 at hd1 hl1 D1 ⊢
    refine ⟨_, rfl, d, _, rfl, dg_left hd1, (by show 0 ≤ sizeLine; decide), fun p hp => ?_⟩
    have hd2 : (upd H1 p (.lst [])) d = some (.dK (deckL l m (n + 1))) := Same.new hp _ _ hd1
    have hl2 : (upd H1 p (.lst [])) l = some (.lst (ns.map V.int)) := Same.new hp _ _ hl1
    have D2 : Dk d l H (upd H1 p (.lst [])) := D1.trans (Dk.of_same (Same.new hp))
    have hp2 : (upd H1 p (.lst [])) p = some (.lst []) := upd_same
    generalize upd H1 p (.lst []) = H2 at hd2 hl2 D2 hp2 ⊢
    refine ⟨_, _, .lst (SqL.of hl2) (dpInts ns), .lst (SqL.of hp2) .nil, shInts ns, rfl, _, rfl, ?_⟩
    rw [neNil]
    have tail : ∀ (c : Option V) (m' n' : Int) (ns' : List Int) (H' : Hp), H' d = some (.dK (deckL l m' n')) → H' l = some (.lst (ns'.map V.int)) → ns'.length ≤ 63 → 0 ≤ m' → m' < 2147483648 → Dk d l H H' →
        tTail { nx := fun _ H' => Q .non H', rt := Q } [some (.ref d), some (.int many), c, none] H' := by
      intro c m' n' ns' H' hd' hl' hz' a0 a1 D'
      refine ⟨_, rfl, d, _, rfl, dg_mixed hd', _, rfl, d, _, rfl, dg_draws hd', _, _, rfl, rfl, .inl ⟨by decide, by decide⟩, _, _, rfl, rfl, .inl ⟨_, rfl, _, _, rfl, rfl, (by show (0 : Int) < 2147483647; decide), ?_⟩⟩
      have f0 := Int.emod_nonneg (m' + 31337 * n') (b := 2147483647) (by decide)
      have f1 := Int.emod_lt_of_pos (m' + 31337 * n') (b := 2147483647) (by decide)
      generalize (m' + 31337 * n') % 2147483647 = f at f0 f1 ⊢
      refine ⟨_, rfl, _, rfl, _, _, rfl, rfl, .inl ⟨by omega, by omega⟩, _, rfl, d, _, rfl, dg_draws hd', _, _, rfl, rfl, .inl ⟨by decide, by decide⟩, _, _, rfl, rfl, _, _, rfl, rfl, .inl ⟨_, rfl, _, _, rfl, rfl, (by show (0 : Int) < 2147483629; decide), ?_⟩⟩
      have g0 := Int.emod_nonneg (f * f + 48271 * n' + 11) (b := 2147483629) (by decide)
      have g1 := Int.emod_lt_of_pos (f * f + 48271 * n' + 11) (b := 2147483629) (by decide)
      generalize (f * f + 48271 * n' + 11) % 2147483629 = g at g0 g1 ⊢
      refine ⟨_, rfl, _, _, rfl, rfl, .inl ⟨by omega, by omega⟩, _, _, rfl, rfl, .inl ⟨_, rfl, _, _, rfl, rfl, (by show (0 : Int) < 2147483563; decide), ?_⟩⟩
      refine ⟨_, rfl, _, _, rfl, rfl, ⟨by decide, by decide⟩, .inl ⟨_, rfl, _, rfl, _, _, rfl, rfl, (by show many ≠ 0; omega), ?_⟩⟩
      exact k _ _ (Int.fmod_nonneg_of_pos _ p0) (Int.fmod_lt_of_pos _ p0) ⟨m', n', ns', hd', hl', hz', a0, a1⟩ D'
    cases ns with
    | nil => exact iteF (tail none m (n + 1) [] H2 hd2 hl2 hz m0 m1 D2)
    | cons x r =>
      refine iteT ?_
      have lst : ((x :: r).map V.int)[((x :: r).map V.int).length - 1]? = some (.int ((x :: r).getLast (by simp))) := by
        rw [← List.getLast?_eq_getElem?, List.getLast?_map, List.getLast?_eq_some_getLast (by simp)]
        rfl
      have dl : ((x :: r).map V.int).dropLast = ((x :: r).dropLast).map V.int := by rw [List.map_dropLast]
      have hz2 : ((x :: r).dropLast).length ≤ 62 := by
        rw [List.length_dropLast]
        omega
      generalize (x :: r).getLast (by simp) = c at lst
      refine ⟨_, rfl, d, _, rfl, dg_left hd2, .inl ⟨rfl, _, SqL.of hl2⟩, l, _, _, rfl, rfl, hl2, lst, ?_⟩
      rw [dl]
      generalize (x :: r).dropLast = q at hz2 ⊢
      have hd3 : (upd H2 l (.lst (q.map V.int))) d = some (.dK (deckL l m (n + 1))) := by
        rw [upd_ne nld.symm]
        exact hd2
      have hl3 : (upd H2 l (.lst (q.map V.int))) l = some (.lst (q.map V.int)) := upd_same
      have D3 : Dk d l H (upd H2 l (.lst (q.map V.int))) := fun b o e h1 h2 => by
        rw [upd_ne h2]
        exact D2 b o e h1 h2
      generalize upd H2 l (.lst (q.map V.int)) = H3 at hd3 hl3 D3 ⊢
      refine ⟨_, rfl, _, _, rfl, rfl, ⟨by decide, by decide, by decide⟩, _, _, rfl, rfl, _, rfl, ?_⟩
      refine ite2 (fun _ => ?_) (fun _ => ?_)
      · refine ⟨_, rfl, d, _, rfl, dg_left hd3, .inl ⟨rfl, _, SqL.of hl3⟩, _, rfl, _, rfl, _, _, rfl, _, _, rfl, rfl, ⟨by split <;> omega, by split <;> omega⟩, l, _, _, rfl, rfl, hl3, small1000 (by rw [List.length_map]; omega), ?_⟩
        refine ⟨_, rfl, .inl ⟨_, rfl, _, rfl, _, _, rfl, rfl, (by show many ≠ 0; omega), ?_⟩⟩
        refine k _ _ (Int.fmod_nonneg_of_pos _ p0) (Int.fmod_lt_of_pos _ p0) ⟨m, n + 1, q ++ [c.fdiv (if many > 2 then many else 2)], ?_, ?_, ?_, m0, m1⟩ fun b o e h1 h2 => ?_
        · rw [upd_ne nld.symm]
          exact hd3
        · rw [upd_same, List.map_append]
          rfl
        · rw [List.length_append]
          show q.length + 1 ≤ 63
          omega
        · rw [upd_ne h2]
          exact D3 b o e h1 h2
      · refine ⟨_, rfl, d, _, rfl, dg_mixed hd3, _, _, rfl, rfl, .inl ⟨by omega, by omega⟩, _, rfl, .inl ⟨_, rfl, _, _, rfl, rfl, (by show (0 : Int) < 2147483629; decide), _, _, rfl, rfl, _, _, rfl, rfl, .inl ⟨_, rfl, _, _, rfl, rfl, (by show (0 : Int) < 2147483587; decide), ?_⟩⟩⟩
        refine ⟨_, rfl, d, _, rfl, dp_mixed hd3, ?_⟩
        refine tail (some (.int c)) _ (n + 1) q _ upd_same ?_ (by omega) (Int.emod_nonneg _ (by decide)) (Int.lt_trans (Int.emod_lt_of_pos _ (by decide)) (by decide)) fun b o e h1 h2 => ?_
        · rw [upd_ne nld]
          exact hl3
        · rw [upd_ne h1]
          exact D3 b o e h1 h2
end
end T00
set_option Elab.async false
set_option linter.all false
set_option maxRecDepth 100000
set_option maxHeartbeats 2000000
namespace T00
open PySem PySem.Spec PyProof.Rows L2 XR
abbrev sAny : Stmt := top 21
/-! ### any values -/
def words : List Str := ["", "a", "(0, 1)", "1/2", "x\ny", "~"]
def Flat : V → Prop
  | .int i => i.natAbs < 2 ^ 200
  | .str z => z ∈ words
  | .bl _ => True
  | .non => True
  | _ => False
inductive Dat (H : Hp) : (Addr → Prop) → Nat → V → Prop
  | flat {av : Addr → Prop} {n : Nat} {v : V} (h : Flat v) : Dat H av n v
  | seq {av : Addr → Prop} {n : Nat} {a : Addr} {xs : List V} (ha : ¬ av a) (h : H a = some (.lst xs) ∨ H a = some (.tup xs)) (hl : xs.length ≤ 3)
      (hx : ∀ x ∈ xs, Dat H (fun b => av b ∨ b = a) n x) : Dat H av (n + 1) (.ref a)
  | dct {av : Addr → Prop} {n : Nat} {a : Addr} {x : V} {k : Int} (ha : ¬ av a) (h : H a = some (.dK [(Sum.inr ("key" : Str), x), (Sum.inl 1, .int k)])) (hk : 0 ≤ k ∧ k ≤ 3)
      (hx : Dat H (fun b => av b ∨ b = a) n x) : Dat H av (n + 1) (.ref a)
theorem Dat.less {H : Hp} {n : Nat} {v : V} {av : Addr → Prop} (h : Dat H av n v) : ∀ {av' : Addr → Prop}, (∀ b, av' b → av b) → Dat H av' n v := by
  induction h with
  | flat h => exact fun _ => .flat h
  | @seq av n a xs ha h hl hx ih => exact fun {av'} q => .seq (fun z => ha (q a z)) h hl fun x hx' => ih x hx' fun b z => z.elim (fun z => .inl (q b z)) .inr
  | @dct av n a x k ha h hk hx ih => exact fun {av'} q => .dct (fun z => ha (q a z)) h hk (ih fun b z => z.elim (fun z => .inl (q b z)) .inr)
theorem Dat.frame {H H' : Hp} {n : Nat} {v : V} {av : Addr → Prop} (h : Dat H av n v) : (∀ b o, H b = some o → ¬ av b → H' b = some o) → Dat H' av n v := by
  induction h with
  | flat h => exact fun _ => .flat h
  | @seq av n a xs ha h hl hx ih => exact fun q => .seq ha (h.elim (fun z => .inl (q a _ z ha)) fun z => .inr (q a _ z ha)) hl fun x hx' => ih x hx' fun b o e z => q b o e fun y => z (.inl y)
  | @dct av n a x k ha h hk hx ih => exact fun q => .dct ha (q a _ h ha) hk (ih fun b o e z => q b o e fun y => z (.inl y))
theorem Dat.new {H : Hp} {n : Nat} {v : V} {av : Addr → Prop} {p : Addr} (hp : H p = none) (h : Dat H av n v) : Dat H (fun b => av b ∨ b = p) n v := by
  induction h with
  | flat h => exact .flat h
  | @seq av n a xs ha h hl hx ih =>
    have na : a ≠ p := h.elim (fun z => ne_of_none z hp) fun z => ne_of_none z hp
    refine .seq (fun z => z.elim ha na) h hl fun x hx' => (ih x hx').less fun b z => ?_
    rcases z with (z | z) | z
    · exact .inl (.inl z)
    · exact .inr z
    · exact .inl (.inr z)
  | @dct av n a x k ha h hk hx ih =>
    have na : a ≠ p := ne_of_none h hp
    refine .dct (fun z => z.elim ha na) h hk (ih.less fun b z => ?_)
    rcases z with (z | z) | z
    · exact .inl (.inl z)
    · exact .inr z
    · exact .inl (.inr z)
theorem Dat.up {H : Hp} {n : Nat} {v : V} {av : Addr → Prop} (h : Dat H av n v) : Dat H av (n + 1) v := by
  induction h with
  | flat h => exact .flat h
  | seq ha h hl hx ih => exact .seq ha h hl ih
  | dct ha h hk hx ih => exact .dct ha h hk ih
/-- what stands in H -/
abbrev Old (H : Hp) : Addr → Prop := fun b => H b ≠ none
theorem Dk.old {d l : Addr} {H H' : Hp} (D : Dk d l H H') (hd : H' d ≠ none) (hl : H' l ≠ none) {p : Addr} (hp : H' p = none) : H p = none := by
  cases e : H p with
  | none => rfl
  | some o =>
    have n1 : p ≠ d := fun z => hd (z ▸ hp)
    have n2 : p ≠ l := fun z => hl (z ▸ hp)
    rw [D p o e n1 n2] at hp
    cases hp
theorem Dk.olds {d l : Addr} {H H' : Hp} (D : Dk d l H H') (hd : H' d ≠ none) (hl : H' l ≠ none) {b : Addr} (h : Old H b) : Old H' b := fun z => h (D.old hd hl z)
theorem DeckAt.nd {H : Hp} {d l : Addr} (h : DeckAt H d l) : H d ≠ none := by
  obtain ⟨m, n, ns, hd, _⟩ := h
  rw [hd]
  exact fun z => nomatch z
theorem DeckAt.nl {H : Hp} {d l : Addr} (h : DeckAt H d l) : H l ≠ none := by
  obtain ⟨m, n, ns, _, hl, _⟩ := h
  rw [hl]
  exact fun z => nomatch z
theorem DeckAt.same {H H' : Hp} {d l : Addr} (h : DeckAt H d l) (e : Same H H') : DeckAt H' d l := by
  obtain ⟨m, n, ns, hd, hl, r⟩ := h
  exact ⟨m, n, ns, e _ _ hd, e _ _ hl, r⟩
theorem Dk.dat {d l : Addr} {H H1 H2 : Hp} {n : Nat} {v : V} (hd : H d ≠ none) (hl : H l ≠ none) (D : Dk d l H1 H2) {av : Addr → Prop} (ho : ∀ b, Old H b → av b) (h : Dat H1 av n v) : Dat H2 av n v :=
  h.frame fun b o e z => D b o e (fun y => z (ho b (y ▸ hd))) fun y => z (ho b (y ▸ hl))
def spPick : Sp := fun vs H Q _ => ∃ (d l s : Addr) (xs : List V), vs = [.ref d, .ref s] ∧ DeckAt H d l ∧ H s = some (.lst xs) ∧ s ≠ l ∧ 0 < xs.length ∧ xs.length < 1000 ∧
  ∀ x ∈ xs, ∀ H', DeckAt H' d l → Dk d l H H' → Q x H'
def spAny (n : Nat) : Sp := fun vs H Q _ => ∃ (d l : Addr), vs = [.ref d, .int (n : Int)] ∧ DeckAt H d l ∧
  ∀ v H', Dat H' (Old H) (2 * n + 2) v → DeckAt H' d l → Dk d l H H' → Q v H'
section
variable {P : Program} {w : World} {K : PySem.W.Frag} {mg : Str → Option Value} {base : Heap}
/-- a def as it is called -/
structure Def (K : PySem.W.Frag) (mg : Str → Option Value) (x : Str) (st : Stmt) (f : Addr) (fd : FuncData) : Prop where
  F : Fun K x x st f fd
  g : mg x = some (.ref f)
theorem scPick : FnScope ["deck", "some"] ["deck", "some"] (defScope sPick) := ⟨rfl, rfl, rfl, by decide +kernel, rfl, by decide +kernel, by decide +kernel⟩
theorem ok_pick {f fD : Addr} {fd fdD : FuncData} (F : Fun K "_law_pick" "_law_pick" sPick f fd) (T : Txt0 mg) (D : Def K mg "_law_draw" sDraw fD fdD) : FnOk P w K mg base CX0 2 f fd ["deck", "some"] spPick := by
  have GD : FnOk P w K mg base CX0 1 fD fdD ["deck", "many"] spDraw := ok_draw D.F T
  have bD : Binds K fdD ["deck", "many"] [] := D.F.binds fun _ _ _ _ _ _ us hl => match us, hl with | [_, _], _ => rfl
  refine F.ok scPick (fun vs H Q E h => ?_) (fun cdv A outer s H vs Q E hr h => ?_)
  · obtain ⟨d, l, s, xs, rfl, _⟩ := h
    rfl
  · obtain ⟨d, l, s, xs, rfl, DA, hs, nsl, x0, x1, k⟩ := h
    refine ⟨_, pss_one (ps_ret (pe_ix ix_list (pv 1) (pe_call GD hr (by rfl) D.g D.F.kp bD .nil pass0 (pa_cons (pv 0) (pa_cons (pe_callB call_len_seq (by rfl) T.len PySem.boot_len (pa_cons (pv 1) pa_nil)) pa_nil))) (fun _ _ => rfl))), ?_⟩
    refine ⟨_, rfl, _, rfl, _, rfl, s, _, rfl, .inl (SqL.of hs), d, l, _, rfl, DA, by omega, by omega, fun r H' r0 r1 DA' D' => ?_⟩
    have nsd : s ≠ d := fun z => by
      obtain ⟨m, n, ns, hd, _⟩ := DA
      rw [z, hd] at hs
      cases hs
    have hs' := D' s _ hs nsd nsl
    obtain ⟨j, rfl⟩ : ∃ j : Nat, r = (j : Int) := ⟨r.toNat, by omega⟩
    have lt : j < xs.length := by omega
    refine ⟨s, _, _, xs[j], rfl, rfl, SqL.of hs', atI_nat (by simp [lt]), k _ (List.getElem_mem lt) H' DA' D'⟩
end
end T00
set_option Elab.async false
set_option linter.all false
set_option maxRecDepth 100000
set_option maxHeartbeats 4000000
namespace T00
open PySem PySem.Spec PyProof.Rows L2 XR
section
variable {P : Program} {w : World} {K : PySem.W.Frag} {mg : Str → Option Value} {base : Heap}
theorem scAny : FnScope ["deck", "deep", "way", "some", "turn"] ["deck", "deep"] (defScope sAny) := ⟨rfl, rfl, rfl, by decide +kernel, rfl, by decide +kernel, by decide +kernel⟩
/-- a promise that nobody asks for -/
abbrev spNo : Sp := fun _ _ _ _ => False
theorem ok_no {k : Nat} {f : Addr} {fd : FuncData} {ps : List Str} : FnOk P w K mg base CX0 k f fd ps spNo := ⟨fun _ _ _ _ h => h.elim, fun _ _ _ _ _ _ _ _ _ _ _ _ _ h => h.elim⟩
def spPrev : Nat → Sp
  | 0 => spNo
  | n + 1 => spAny n
theorem pick_flat {n : Nat} {d l : Addr} {H H1 : Hp} {Q : VK} {E : XK} (kq : ∀ v H', Dat H' (Old H) n v → DeckAt H' d l → Dk d l H H' → Q v H') (DA1 : DeckAt H1 d l) (D1 : Dk d l H H1)
    {xs : List V} (hx : ∀ x ∈ xs, Flat x) (h0 : 0 < xs.length) (h1 : xs.length < 1000) {p : Addr} (hp : H1 p = none) : spPick [.ref d, .ref p] (upd H1 p (.lst xs)) Q E := by
  have e := Same.new (o := .lst xs) hp
  refine ⟨d, l, p, xs, rfl, DA1.same e, upd_same, fun z => DA1.nl (z ▸ hp), h0, h1, fun x hx' H' DA' D' => ?_⟩
  exact kq x H' (.flat (hx x hx')) DA' (D1.trans ((Dk.of_same e).trans D'))
abbrev rLenS (K : PySem.W.Frag) : List V → Hp → VK → Prop := fun xs H Q => ∃ p ys, xs = [V.ref p] ∧ (SqL K H p ys ∨ SqT K H p ys) ∧ Q (V.int ys.length) H
abbrev rTupO (K : PySem.W.Frag) : List V → Hp → VK → Prop := fun xs H Q => ∃ p ys, xs = [V.ref p] ∧ ((SqL K H p ys ∧ ∀ l, H l = none → Q (V.ref l) (upd H l (.tup ys))) ∨ (SqT K H p ys ∧ Q (V.ref p) H))
def tTailA (K : PySem.W.Frag) : TS :=
  tSeq (tIfS (tTest (tOp rEq (tVar 2) (tC (V.int 5)))) (tRet (tVar 3)) tNext)
    (tRet (tIf (tTest (tOp rEq (tVar 2) (tC (V.int 6)))) (tDisp [(tC (V.str "key"), tVar 3), (tC (V.int 1), tCB (rLenS K) (tCons (tVar 3) tNil))]) (tCB (rTupO K) (tCons (tVar 3) tNil))))
theorem any_body {n k : Nat} {f fD fP : Addr} {fd fdD fdP : FuncData} (hk : 2 ≤ k) (F : Fun K "_law_any" "_law_any" sAny f fd) (T : Txt0 mg) (g : mg "_law_any" = some (.ref f)) (D : Def K mg "_law_draw" sDraw fD fdD) (Pk : Def K mg "_law_pick" sPick fP fdP)
    (G : FnOk P w K mg base CX0 k f fd ["deck", "deep"] (spPrev n)) : FnOk P w K mg base CX0 (k + 1) f fd ["deck", "deep"] (spAny n) := by
  have GD : FnOk P w K mg base CX0 1 fD fdD ["deck", "many"] spDraw := ok_draw D.F T
  have GP : FnOk P w K mg base CX0 2 fP fdP ["deck", "some"] spPick := ok_pick Pk.F T D
  have bD : Binds K fdD ["deck", "many"] [] := D.F.binds fun _ _ _ _ _ _ us hl => match us, hl with | [_, _], _ => rfl
  have bP : Binds K fdP ["deck", "some"] [] := Pk.F.binds fun _ _ _ _ _ _ us hl => match us, hl with | [_, _], _ => rfl
  have bA : Binds K fd ["deck", "deep"] [] := F.binds fun _ _ _ _ _ _ us hl => match us, hl with | [_, _], _ => rfl
  refine F.ok scAny (fun vs H Q E h => ?_) (fun cdv A outer s H vs Q E hr h => ?_)
  · obtain ⟨d, l, rfl, _⟩ := h
    rfl
  · obtain ⟨d, l, rfl, DA, kq⟩ := h
    have hu := hu_of hr
    have hr1 : Room 1 _ := hr.mono (by omega)
    have hr2 : Room 2 _ := hr.mono hk
    refine ⟨_, pss_cons (ps_set (i := 2) scAny.nd rfl (Or.inl rfl) (pe_call GD hr1 (by rfl) D.g D.F.kp bD .nil pass0 (pa_cons (pv 0) (pa_cons pe_int pa_nil))))
      (pss_cons (ps_if (pt_cmpR op_lt (pv 2) pe_int (nomark _)) (pss_one (ps_ret (pe_call GP hr2 (by rfl) Pk.g Pk.F.kp bP .nil pass0 (pa_cons (pv 0) (pa_cons
        (pe_lst (pa_cons pe_int (pa_cons pe_int (pa_cons (pe_un un_neg pe_int) (pa_cons pe_int (pa_cons (pe_op op_mul pe_int (pe_op op_pow pe_int pe_int)) (pa_cons (pe_un un_neg (pe_op op_pow pe_int pe_int)) (pa_cons pe_int (pa_cons pe_int pa_nil))))))))) pa_nil))))) pss_nil)
      (pss_cons (ps_if (pt_cmpR op_lt (pv 2) pe_int (nomark _)) (pss_one (ps_ret (pe_call GP hr2 (by rfl) Pk.g Pk.F.kp bP .nil pass0 (pa_cons (pv 0) (pa_cons
        (pe_lst (pa_cons pe_str (pa_cons pe_str (pa_cons pe_str (pa_cons pe_str (pa_cons pe_str (pa_cons pe_str pa_nil))))))) pa_nil))))) pss_nil)
      (pss_cons (ps_if (pt_cmpR op_eq (pv 2) pe_int (nomark _)) (pss_one (ps_ret (pe_call GP hr2 (by rfl) Pk.g Pk.F.kp bP .nil pass0 (pa_cons (pv 0) (pa_cons
        (pe_lst (pa_cons pe_bl (pa_cons pe_bl (pa_cons pe_non pa_nil)))) pa_nil))))) pss_nil)
      (pss_cons (ps_set (i := 3) scAny.nd rfl (Or.inl rfl) (pe_ifExp (pt_cmpR op_gt (pv 1) pe_int (nomark _))
        (pe_lc (own := [("turn", 4)]) (g := gName 4) (by rfl) scAny.nd (pi_range1 (by rfl) T.range (pa_cons (pe_call GD hr1 (by rfl) D.g D.F.kp bD .nil pass0 (pa_cons (pv 0) (pa_cons pe_int pa_nil))) pa_nil))
          (blkOk_by (own := [("turn", 4)]) (N := ["deck", "deep", "way", "some", "turn"]) (sc := defScope sAny) (by decide +kernel)) (fun _ _ _ _ _ => pg_name (i := 4) scAny.nd rfl (Or.inl rfl)) (fun _ _ _ _ _ => pts_nil)
          (fun _ _ _ _ _ => pe_call G hr (by rfl) g F.kp bA .nil pass0 (pa_cons (pv 0) (pa_cons (pe_op op_sub (pv 1) pe_int) pa_nil))))
        (pe_lst pa_nil)))
      (pss_cons (ps_if (pt_cmpR op_eq (pv 2) pe_int (nomark _)) (pss_one (ps_ret (pv 3))) pss_nil)
      (pss_one (ps_ret (pe_ifExp (pt_cmpR op_eq (pv 2) pe_int (nomark _))
        (pe_disp (pps_cons pe_str (pv 3) (pps_cons pe_int (pe_callB call_len_seq (by rfl) T.len PySem.boot_len (pa_cons (pv 3) pa_nil)) pps_nil)) (by rfl) (by rfl) (fun z => by cases z) (by decide))
        (pe_callTy call_tuple_of (by rfl) T.tuple (by decide +kernel) (pa_cons (pv 3) pa_nil)))))))))), ?_⟩
    refine ⟨_, rfl, d, l, _, rfl, DA, by decide, by decide, fun way H1 w0 w1 DA1 D1 => ?_⟩
    refine ⟨_, rfl, _, _, rfl, rfl, _, rfl, ite2 (fun c => ?_) (fun c => ?_)⟩
    · refine ⟨_, rfl, _, rfl, _, _, rfl, rfl, ⟨by decide, by decide, by decide⟩, _, _, rfl, rfl, .inl ⟨by decide, by decide⟩, _, _, rfl, rfl, ⟨by decide, by decide, by decide⟩, _, rfl, (by show 8 ≤ sizeLine; decide), fun p hp => ?_⟩
      refine pick_flat (E := E0) kq DA1 D1 (fun x hx => ?_) (by show 0 < 8; decide) (by show 8 < 1000; decide) hp
      simp only [List.mem_cons, List.not_mem_nil, or_false] at hx
      rcases hx with rfl | rfl | rfl | rfl | rfl | rfl | rfl | rfl <;> (show Int.natAbs _ < 2 ^ 200; decide +kernel)
    refine ⟨_, rfl, _, _, rfl, rfl, _, rfl, ite2 (fun c2 => ?_) (fun c2 => ?_)⟩
    · refine ⟨_, rfl, (by show 6 ≤ sizeLine; decide), fun p hp => ?_⟩
      refine pick_flat (E := E0) kq DA1 D1 (fun x hx => ?_) (by show 0 < 6; decide) (by show 6 < 1000; decide) hp
      simp only [List.mem_cons, List.not_mem_nil, or_false] at hx
      rcases hx with rfl | rfl | rfl | rfl | rfl | rfl <;> (show _ ∈ words; simp [words])
    refine ⟨_, rfl, rfl, _, rfl, ite2 (fun c3 => ?_) (fun c3 => ?_)⟩
    · refine ⟨_, rfl, (by show 3 ≤ sizeLine; decide), fun p hp => ?_⟩
      refine pick_flat (E := E0) kq DA1 D1 (fun x hx => ?_) (by show 0 < 3; decide) (by show 3 < 1000; decide) hp
      simp only [List.mem_cons, List.not_mem_nil, or_false] at hx
      rcases hx with rfl | rfl | rfl <;> exact True.intro
    have tail : ∀ (H2 : Hp) (D : Addr) (xs : List V) (t : Option V), H D = none → H2 D = some (.lst xs) → xs.length ≤ 3 → (∀ x ∈ xs, Dat H2 (fun b => Old H b ∨ b = D) (2 * n) x) → DeckAt H2 d l → Dk d l H H2 →
        tTailA K { nx := fun _ H' => Q .non H', rt := Q } [some (.ref d), some (.int (n : Int)), some (.int way), some (.ref D), t] H2 := by
      intro H2 D xs t nD hD h3 hx DA2 D2
      have dD : Dat H2 (Old H) (2 * n + 1) (.ref D) := .seq (fun z => z nD) (.inl hD) h3 hx
      refine ⟨_, rfl, rfl, _, rfl, ite2 (fun c5 => ?_) (fun c5 => ?_)⟩
      · exact ⟨_, rfl, kq _ H2 dD.up DA2 D2⟩
      refine ⟨_, rfl, rfl, _, rfl, ite2 (fun c6 => ?_) (fun c6 => ?_)⟩
      · intro p hp
        have e := Same.new (o := .dK []) hp
        have hD3 := e _ _ hD
        refine ⟨_, rfl, _, rfl, D, _, rfl, .inl (SqL.of hD3), upd_same, [(Sum.inr ("key" : Str), .ref D), (Sum.inl 1, .int xs.length)], rfl, (by show 2 ≤ 15; decide), ?_⟩
        rw [show mergeK [] [((Sum.inr ("key" : Str) : Key), V.ref D), ((Sum.inl 1 : Key), V.int xs.length)] = [((Sum.inr ("key" : Str) : Key), V.ref D), ((Sum.inl 1 : Key), V.int xs.length)] from rfl, upd_upd]
        have e2 := Same.new (o := .dK [((Sum.inr ("key" : Str) : Key), V.ref D), ((Sum.inl 1 : Key), V.int xs.length)]) hp
        have np : H p = none := D2.old DA2.nd DA2.nl hp
        refine kq _ _ (.dct (fun z => z np) upd_same ⟨by omega, by omega⟩ ?_) (DA2.same e2) (D2.trans (Dk.of_same e2))
        exact (Dat.new hp dD).frame fun b o q _ => e2 b o q
      · refine ⟨_, rfl, D, _, rfl, .inl ⟨SqL.of hD, fun p hp => ?_⟩⟩
        have e2 := Same.new (o := .tup xs) hp
        have np : H p = none := D2.old DA2.nd DA2.nl hp
        have q : Dat (upd H2 p (.tup xs)) (Old H) (2 * n + 1) (.ref p) := .seq (fun z => z np) (.inr upd_same) h3 fun x hx' => (Dat.new hp ((hx x hx').less fun b z => .inl z)).frame fun b o q _ => e2 b o q
        exact kq _ _ q.up (DA2.same e2) (D2.trans (Dk.of_same e2))
    refine ⟨_, rfl, _, _, rfl, rfl, _, rfl, ite2 (fun c4 => ?_) (fun c4 => ?_)⟩
    · have n0 : 0 < (n : Int) := of_decide_eq_true c4
      obtain ⟨n', rfl⟩ : ∃ n', n = n' + 1 := ⟨n - 1, by omega⟩
      refine ⟨_, rfl, d, l, _, rfl, DA1, by decide, by decide, fun r H2 r0 r1 DA2 D2 => ⟨r, rfl, by omega, by omega, fun D hD => ?_⟩⟩
      have D12 := D1.trans D2
      have nD : H D = none := D12.old DA2.nd DA2.nl hD
      have e3 := Same.new (o := .lst []) hD
      refine lc_range (lo := 0) (n := r.toNat) (fun i H' => ∃ acc, H' D = some (.lst acc) ∧ acc.length = i ∧ (∀ x ∈ acc, Dat H' (fun b => Old H b ∨ b = D) (2 * n' + 2) x) ∧ DeckAt H' d l ∧ Dk d l H H')
        ⟨[], upd_same, rfl, fun x hx => absurd hx (by simp), DA2.same e3, D12.trans (Dk.of_same e3)⟩ ?_ ?_
      · rintro i H' hi ⟨acc, hacc, hlen, hx, DA', D'⟩
        have nDd : D ≠ d := fun z => DA.nd (z ▸ nD)
        have nDl : D ≠ l := fun z => DA.nl (z ▸ nD)
        have old : ∀ b, (Old H b ∨ b = D) → Old H' b := fun b z => by
          rcases z with z | z
          · exact D'.olds DA'.nd DA'.nl z
          · rw [z]
            show H' D ≠ none
            rw [hacc]
            exact fun y => nomatch y
        refine ⟨rfl, ?_⟩
        unfold tYes
        dsimp only
        rw [if_pos rfl]
        refine ⟨_, rfl, _, rfl, _, _, rfl, rfl, d, l, ?_, DA', fun v H4 dv DA4 D4 => ?_⟩
        · show [V.ref d, V.int (((n' + 1 : Nat) : Int) - 1)] = [V.ref d, V.int (n' : Int)]
          rw [show ((n' + 1 : Nat) : Int) - 1 = (n' : Int) by omega]
        have h4 := D4 D _ hacc nDd nDl
        have up : ∀ b o, H4 b = some o → b ≠ D → (upd H4 D (.lst (acc ++ [v]))) b = some o := fun b o e z => by
          rw [upd_ne z]
          exact e
        refine ⟨acc, h4, small1000 (by omega), acc ++ [v], upd_same, by rw [List.length_append, hlen]; rfl, fun x hx' => ?_, ?_, fun b o e h1 h2 => ?_⟩
        · have z : Dat H4 (fun b => Old H b ∨ b = D) (2 * n' + 2) x := by
            rcases List.mem_append.mp hx' with z | z
            · exact Dk.dat DA.nd DA.nl D4 (fun b => .inl) (hx x z)
            · rw [List.mem_singleton.mp z]
              exact dv.less old
          exact z.frame fun b o e y => up b o e fun q => y (.inr q)
        · obtain ⟨m, n2, ns, e1, e2, e3⟩ := DA4
          exact ⟨m, n2, ns, up _ _ e1 nDd.symm, up _ _ e2 nDl.symm, e3⟩
        · exact up b o (D4 b o (D' b o e h1 h2) h1 h2) fun z => by
            rw [z, nD] at e
            cases e
      · rintro H' ⟨acc, hacc, hlen, hx, DA', D'⟩
        exact tail H' D acc _ nD hacc (by omega) hx DA' D'
    · refine ⟨(by show 0 ≤ sizeLine; decide), fun p hp => ?_⟩
      have e := Same.new (o := .lst []) hp
      exact tail _ p [] _ (D1.old DA1.nd DA1.nl hp) upd_same (by decide) (fun x hx => absurd hx (by simp)) (DA1.same e) (D1.trans (Dk.of_same e))
theorem ok_any {f fD fP : Addr} {fd fdD fdP : FuncData} (A : Def K mg "_law_any" sAny f fd) (T : Txt0 mg) (D : Def K mg "_law_draw" sDraw fD fdD) (Pk : Def K mg "_law_pick" sPick fP fdP) :
    ∀ n, FnOk P w K mg base CX0 (3 + n) f fd ["deck", "deep"] (spAny n)
  | 0 => any_body (Nat.le_refl 2) A.F T A.g D Pk ok_no
  | n + 1 => any_body (n := n + 1) (k := 3 + n) (by omega) A.F T A.g D Pk (ok_any A T D Pk n)
end
end T00
set_option Elab.async false
set_option linter.all false
set_option maxRecDepth 100000
set_option maxHeartbeats 4000000
namespace T00
open PySem PySem.Spec PyProof.Rows L2 XR
abbrev sSame : Stmt := top 22
def repF : V → Str
  | .int i => toString i
  | .str z => reprText z
  | .bl b => if b then "True" else "False"
  | .non => "None"
  | _ => ""
theorem words_fit : ∀ z ∈ words, (reprText z).length ≤ sizeLine := by
  intro z hz
  simp only [words, List.mem_cons, List.not_mem_nil, or_false] at hz
  rcases hz with rfl | rfl | rfl | rfl | rfl | rfl <;> exact of_decide_eq_true (by decide +kernel)
theorem call_repF {X : Cx} : CallR X (.builtin "repr") (fun xs H Q => ∃ x, xs = [x] ∧ Flat x ∧ Q (.str (repF x)) H) := by
  intro pins s σ H xs us Q I r h
  obtain ⟨x, rfl, fx, q⟩ := h
  cases r with
  | cons rx rn =>
  cases rn
  cases x with
  | non =>
    obtain rfl := (show _ = Value.none from rx)
    exact PySem.P.repr_of_none ⟨.str _, H, I.tok _, ⟨_, rfl⟩, q⟩
  | bl b =>
    obtain rfl := (show _ = Value.bool b from rx)
    exact PySem.P.repr_of_bool ⟨.str _, H, I.tok _, ⟨_, rfl⟩, q⟩
  | int i =>
    obtain ⟨t, rfl⟩ := (show ∃ t, _ = Value.int i t from rx)
    have h2 : i.natAbs < 2 ^ 200 := fx
    exact PySem.P.repr_of_int (Nat.lt_of_lt_of_le (PySem.Flt.log2_lt_of (by decide) h2) (by decide)) ⟨.str _, H, I.tok _, ⟨_, rfl⟩, q⟩
  | str z =>
    obtain ⟨t, rfl⟩ := (show ∃ t, _ = Value.str z t from rx)
    exact PySem.P.repr_of_str ⟨.str _, H, I.tok _, ⟨_, rfl⟩, q⟩ (words_fit z fx)
  | byt b => exact False.elim fx
  | flt b => exact False.elim fx
  | ref a => exact False.elim fx
  | ty n => exact False.elim fx
section
variable {K : PySem.W.Frag}
/-- one of the three -/
theorem kList2 : PySem.W.kitAny K (.type "list") [.type "list", .type "tuple"] = some true := kitAny_cons (b := true) (kit_ty (by decide +kernel)) (fun z => nomatch z) (fun _ => rfl)
theorem kTup2 : PySem.W.kitAny K (.type "tuple") [.type "list", .type "tuple"] = some true :=
  kitAny_cons (b := false) (kit_ty (by decide +kernel)) (fun _ => kitAny_cons (b := true) (kit_ty (by decide +kernel)) (fun z => nomatch z) (fun _ => rfl)) (fun z => nomatch z)
theorem kNo2 {t : String} (h1 : kitB t "list" = some false) (h2 : kitB t "tuple" = some false) : PySem.W.kitAny K (.type t) [.type "list", .type "tuple"] = some false :=
  kitAny_cons (b := false) (kit_ty h1) (fun _ => kitAny_cons (b := false) (kit_ty h2) (fun _ => kitAny_nil) (fun z => nomatch z)) (fun z => nomatch z)
theorem kNo3 {t : String} (h1 : kitB t "list" = some false) (h2 : kitB t "tuple" = some false) (h3 : kitB t "dict" = some false) : PySem.W.kitAny K (.type t) [.type "list", .type "tuple", .type "dict"] = some false :=
  kitAny_cons (b := false) (kit_ty h1) (fun _ => kitAny_cons (b := false) (kit_ty h2) (fun _ => kitAny_cons (b := false) (kit_ty h3) (fun _ => kitAny_nil) (fun z => nomatch z)) (fun z => nomatch z)) (fun z => nomatch z)
abbrev cls2 : List V := [.ty "list", .ty "tuple"]
abbrev cls3 : List V := [.ty "list", .ty "tuple", .ty "dict"]
theorem pc2 : Paired ClsV cls2 [.type "list", .type "tuple"] := .cons (.ty _) (.cons (.ty _) .nil)
theorem pc3 : Paired ClsV cls3 [.type "list", .type "tuple", .type "dict"] := .cons (.ty _) (.cons (.ty _) (.cons (.ty _) .nil))
theorem flat_ty {H : Hp} {x : V} (h : Flat x) : ∃ t : String, TyX K H x (.type t) ∧ kitB t "list" = some false ∧ kitB t "tuple" = some false ∧ kitB t "dict" = some false := by
  cases x with
  | non => exact ⟨"NoneType", .base .non, by decide +kernel, by decide +kernel, by decide +kernel⟩
  | bl b => exact ⟨"bool", .base (.bl b), by decide +kernel, by decide +kernel, by decide +kernel⟩
  | int i => exact ⟨"int", .base (.int i), by decide +kernel, by decide +kernel, by decide +kernel⟩
  | str z => exact ⟨"str", .base (.str z), by decide +kernel, by decide +kernel, by decide +kernel⟩
  | byt b => exact h.elim
  | flt b => exact h.elim
  | ref a => exact h.elim
  | ty n => exact h.elim
end
def spSame (n : Nat) : Sp := fun vs H Q _ => ∃ (v : V) (av : Addr → Prop), vs = [v, v] ∧ Dat H av n v ∧ ∀ H', Same H H' → Q (.bl true) H'
def spPrevS : Nat → Sp
  | 0 => spNo
  | n + 1 => spSame n
section
variable {P : Program} {w : World} {K : PySem.W.Frag} {mg : Str → Option Value} {base : Heap}
abbrev nSame : List Str := ["near", "far", "at", "it", "key"]
theorem scSame : FnScope nSame ["near", "far"] (defScope sSame) := ⟨rfl, rfl, rfl, by decide +kernel, rfl, by decide +kernel, by decide +kernel⟩
theorem Same.tupT {H H' : Hp} {a : Addr} {xs : List V} (e : Same H H') (h : SqT K H a xs) : SqT K H' a xs := by
  rcases h with (h | ⟨o, h⟩) | h
  · exact .inl (.inl (e _ _ h))
  · exact .inl (.inr ⟨o, e _ _ h⟩)
  · exact .inr h
theorem Same.seqs {H H' : Hp} {a : Addr} {xs : List V} (e : Same H H') (h : SqL K H a xs ∨ SqT K H a xs) : SqL K H' a xs ∨ SqT K H' a xs := h.elim (fun z => .inl (e.seq z)) fun z => .inr (Same.tupT e z)
theorem Same.dat {H H' : Hp} {n : Nat} {v : V} {av : Addr → Prop} (e : Same H H') (h : Dat H av n v) : Dat H' av n v := h.frame fun b o q _ => e b o q
theorem ix_sel {H : Hp} {a : Addr} {xs : List V} {i : Nat} {z : V} {Q : VK} (hS : SqL K H a xs ∨ SqT K H a xs) (hx : xs[i]? = some z) (q : Q z H) : rIx K (.ref a) (.int (i : Int)) H Q :=
  hS.elim (fun y => .inl ⟨a, xs, _, z, rfl, rfl, y, atI_nat hx, q⟩) fun y => .inr (.inl ⟨a, xs, _, z, rfl, rfl, y, atI_nat hx, q⟩)
theorem dec_str (z : Str) : decide (V.str z = V.str z) = true := decide_eq_true rfl
theorem same_body {n k : Nat} {f : Addr} {fd : FuncData} (F : Fun K "_law_is_same" "_law_is_same" sSame f fd) (T : Txt0 mg) (g : mg "_law_is_same" = some (.ref f))
    (G : FnOk P w K mg base CX0 k f fd ["near", "far"] (spPrevS n)) : FnOk P w K mg base CX0 (k + 1) f fd ["near", "far"] (spSame n) := by
  have bS : Binds K fd ["near", "far"] [] := F.binds fun _ _ _ _ _ _ us hl => match us, hl with | [_, _], _ => rfl
  refine F.ok scSame (fun vs H Q E h => ?_) (fun cdv A outer s H vs Q E hr h => ?_)
  · obtain ⟨v, av, rfl, _⟩ := h
    rfl
  · obtain ⟨v, av, rfl, dv, kq⟩ := h
    have hu := hu_of hr
    refine ⟨_, pss_cons (ps_if (pt_val (pe_callB call_isiT (by rfl) T.isi (by decide +kernel) (pa_cons (pv 0) (pa_cons (pe_tup (pa_cons (pe_bltn (v := .ty "list") (by rfl) T.list (by decide +kernel) rfl) (pa_cons (pe_bltn (v := .ty "tuple") (by rfl) T.tuple (by decide +kernel) rfl) pa_nil))) pa_nil))))
        (pss_cons (ps_if (PW.pt (pw_or (pt_not (pt_val (pe_callB call_isiT (by rfl) T.isi (by decide +kernel) (pa_cons (pv 1) (pa_cons (pe_tup (pa_cons (pe_bltn (v := .ty "list") (by rfl) T.list (by decide +kernel) rfl) (pa_cons (pe_bltn (v := .ty "tuple") (by rfl) T.tuple (by decide +kernel) rfl) pa_nil))) pa_nil)))))
            (pw_or1 (pt_cmpR op_ne (pe_callB call_isi (by rfl) T.isi (by decide +kernel) (pa_cons (pv 0) (pa_cons (pe_bltn (v := .ty "list") (by rfl) T.list (by decide +kernel) rfl) pa_nil)))
              (pe_callB call_isi (by rfl) T.isi (by decide +kernel) (pa_cons (pv 1) (pa_cons (pe_bltn (v := .ty "list") (by rfl) T.list (by decide +kernel) rfl) pa_nil))) (nomark _)))))
          (pss_one (ps_ret pe_bl)) pss_nil)
        (pss_one (ps_ret (pe_and (pe_cmpR op_eq (pe_callB call_len_seq (by rfl) T.len PySem.boot_len (pa_cons (pv 0) pa_nil)) (pe_callB call_len_seq (by rfl) T.len PySem.boot_len (pa_cons (pv 1) pa_nil)) (nomark _))
          (pe_one (pe_cmpR (op_eqD hr.units)
            (pe_lc (own := [("at", 2), ("it", 3)]) (g := gTup K 2 (gCons (gName 2) (gCons (gName 3) gNil))) (by rfl) scSame.nd (pi_enumX (by rfl) T.enu (pa_cons (pv 0) pa_nil))
              (blkOk_by (own := [("at", 2), ("it", 3)]) (N := nSame) (sc := defScope sSame) (by decide +kernel)) (fun _ _ _ _ _ => pg_tup (by rfl) (pgs_cons (pg_name (i := 2) scSame.nd rfl (Or.inl rfl)) (pgs_cons (pg_name (i := 3) scSame.nd rfl (Or.inl rfl)) pgs_nil)))
              (fun _ _ _ _ _ => pts_one (pt_not (pt_val (pe_call G hr (by rfl) g F.kp bS .nil pass0 (pa_cons (pv 3) (pa_cons (pe_ix (r := rIx K) ix_seq (pv 1) (pv 2) (fun _ _ => rfl)) pa_nil))))))
              (fun _ _ _ _ _ => pv 2))
            (pe_lst pa_nil) (nomark _))))))) pss_nil)
      (pss_cons (ps_if (pt_val (pe_callB call_isi (by rfl) T.isi (by decide +kernel) (pa_cons (pv 0) (pa_cons (pe_bltn (v := .ty "dict") (by rfl) T.dict (by decide +kernel) rfl) pa_nil))))
        (pss_cons (ps_if (PW.pt (pw_or (pt_not (pt_val (pe_callB call_isi (by rfl) T.isi (by decide +kernel) (pa_cons (pv 1) (pa_cons (pe_bltn (v := .ty "dict") (by rfl) T.dict (by decide +kernel) rfl) pa_nil)))))
            (pw_or1 (pt_cmpR op_ne (pe_callB call_lenD (by rfl) T.len PySem.boot_len (pa_cons (pv 0) pa_nil)) (pe_callB call_lenD (by rfl) T.len PySem.boot_len (pa_cons (pv 1) pa_nil)) (nomark _)))))
          (pss_one (ps_ret pe_bl)) pss_nil)
        (pss_one (ps_ret (pe_cmpR (op_eqD hr.units)
            (pe_lock (pe_lc (own := [("key", 4)]) (g := gName 4) (by rfl) scSame.nd (pi_keys (pv 0))
              (blkOk_by (own := [("key", 4)]) (N := nSame) (sc := defScope sSame) (by decide +kernel)) (fun _ _ _ _ _ => pg_name (i := 4) scSame.nd rfl (Or.inl rfl))
              (fun _ _ _ _ _ => pts_one (PW.pt (pw_or (pt_cmp (pc_dnotin hu (pv 4) (pv 1))) (pw_or1 (pt_not (pt_val (pe_call G hr (by rfl) g F.kp bS .nil pass0 (pa_cons (pe_dget hu (pv 0) (pv 4) (fun _ _ => rfl)) (pa_cons (pe_dget hu (pv 1) (pv 4) (fun _ _ => rfl)) pa_nil)))))))))
              (fun _ _ _ _ _ => pv 4)))
            (pe_lst pa_nil) (nomark _))))) pss_nil)
      (pss_one (ps_ret (pe_and (pe_not (pe_callB call_isiT (by rfl) T.isi (by decide +kernel) (pa_cons (pv 1) (pa_cons (pe_tup (pa_cons (pe_bltn (v := .ty "list") (by rfl) T.list (by decide +kernel) rfl)
          (pa_cons (pe_bltn (v := .ty "tuple") (by rfl) T.tuple (by decide +kernel) rfl) (pa_cons (pe_bltn (v := .ty "dict") (by rfl) T.dict (by decide +kernel) rfl) pa_nil)))) pa_nil))))
        (pe_one (pe_cmpR op_eq (pe_callB call_repF (by rfl) T.repr (by decide +kernel) (pa_cons (pv 0) pa_nil)) (pe_callB call_repF (by rfl) T.repr (by decide +kernel) (pa_cons (pv 1) pa_nil)) (nomark _))))))), ?_⟩
    cases dv with
    | flat fl =>
      obtain ⟨t, ty, k1, k2, k3⟩ := flat_ty (K := K) (H := H) fl
      have ty' : ∀ H', TyX K H' v (.type t) := fun H' => by
        obtain ⟨t', ty', k1', k2', k3'⟩ := flat_ty (K := K) (H := H') fl
        cases v <;> first | exact fl.elim | (cases ty with | base b => cases b <;> first | exact .base .non | exact .base (.bl _) | exact .base (.int _) | exact .base (.str _))
      refine ⟨_, rfl, (by show 2 ≤ sizeLine; decide), fun p hp => ⟨v, p, cls2, _, _, false, rfl, upd_same, pc2, ty' _, kNo2 k1 k2, _, rfl, iteF ?_⟩⟩
      have e1 := Same.new (o := .tup cls2) hp
      refine ⟨_, rfl, v, .ty "dict", _, .type "dict", false, rfl, .ty _, ty' _, kit_ty k3, _, rfl, iteF ?_⟩
      refine ⟨_, rfl, (by show 3 ≤ sizeLine; decide), fun p2 hp2 => ⟨v, p2, cls3, _, _, false, rfl, upd_same, pc3, ty' _, kNo3 k1 k2 k3, _, rfl, _, rfl, iteT ?_⟩⟩
      have e2 := Same.new (o := .tup cls3) hp2
      refine ⟨_, rfl, v, rfl, fl, _, rfl, v, rfl, fl, rfl, ?_⟩
      rw [dec_str]
      exact kq _ (e1.trans e2)
    | @seq av m a xs ha h hl hx =>
      have hS : SqL K H a xs ∨ SqT K H a xs := h.elim (fun z => .inl (SqL.of z)) fun z => .inr (SqT.of z)
      obtain ⟨t, bl, tyS, kA, kO⟩ : ∃ (t : String) (bl : Bool), (∀ H', Same H H' → TyX K H' (.ref a) (.type t)) ∧ PySem.W.kitAny K (.type t) [.type "list", .type "tuple"] = some true ∧ PySem.W.kitOne K (.type t) (.type "list") = some bl := by
        rcases h with h | h
        · exact ⟨"list", true, fun H' e => .base (.lst (e _ _ h)), kList2, kit_ty (by decide +kernel)⟩
        · exact ⟨"tuple", false, fun H' e => .base (.tup (e _ _ h)), kTup2, kit_ty (by decide +kernel)⟩
      refine ⟨_, rfl, (by show 2 ≤ sizeLine; decide), fun p hp => ?_⟩
      have e1 := Same.new (o := .tup cls2) hp
      refine ⟨.ref a, p, cls2, _, _, true, rfl, upd_same, pc2, tyS _ e1, kA, _, rfl, iteT ?_⟩
      refine ⟨_, rfl, (by show 2 ≤ sizeLine; decide), fun p2 hp2 => ?_⟩
      have e2 := e1.trans (Same.new (o := .tup cls2) hp2)
      refine ⟨.ref a, p2, cls2, _, _, true, rfl, upd_same, pc2, tyS _ e2, kA, _, rfl, iteF ?_⟩
      refine ⟨_, rfl, .ref a, .ty "list", _, .type "list", bl, rfl, .ty _, tyS _ e2, kO, _, rfl, .ref a, .ty "list", _, .type "list", bl, rfl, .ty _, tyS _ e2, kO, ?_⟩
      refine ⟨by cases bl <;> rfl, _, rfl, ?_⟩
      rw [show decide (V.bl bl = V.bl bl) = true from decide_eq_true rfl]
      refine iteF ?_
      generalize upd (upd H p (.tup cls2)) p2 (.tup cls2) = H2 at e2 ⊢
      replace e2 : Same H H2 := e2
      have S2 := Same.seqs e2 hS
      refine ⟨_, rfl, a, xs, rfl, S2, _, rfl, a, xs, rfl, S2, rfl, _, rfl, ?_⟩
      rw [show decide (V.int (xs.length : Int) = V.int (xs.length : Int)) = true from decide_eq_true rfl]
      refine iteT ?_
      rcases id S2 with y0 | y0
      · refine ⟨_, rfl, a, xs, rfl, .inl ⟨y0, fun D hD => ?_⟩⟩
        refine lc_it walk_enum (fun _ H' => Same H2 H' ∧ H' D = some (.lst [])) ⟨Same.new hD, upd_same⟩ (fun i H' _ z => Same.seq z.1 y0) ?_ ?_
        · rintro i y H3 H4 hi ⟨e3, hD3⟩ ⟨T0, u, z, rfl, hT, rfl, hu2, hz⟩
          obtain rfl : V.int (i : Int) = u := Option.some.inj hu2
          have e4 := Same.new (o := .tup [V.int (i : Int), z]) hT
          have S4 := Same.seqs (Same.trans e3 e4) S2
          have hz' : z ∈ xs := List.mem_of_getElem? hz
          refine ⟨T0, _, rfl, SqT.of upd_same, rfl, _, _, rfl, _, _, rfl, rfl, rfl, ?_⟩
          refine ⟨_, rfl, _, rfl, _, rfl, ix_sel S4 hz ?_⟩
          refine ⟨z, _, rfl, Same.dat (e2.trans (e3.trans e4)) (hx z hz'), fun H5 e5 => ⟨_, rfl, iteF ⟨(e3.trans e4).trans e5, e5 _ _ (e4 _ _ hD3)⟩⟩⟩
        · rintro H3 ⟨e3, hD3⟩
          refine ⟨(by show 0 ≤ sizeLine; decide), fun q hq => ?_⟩
          have e4 := Same.new (o := .lst []) hq
          refine ⟨.list [], .list [], .lst (SqL.of (e4 _ _ hD3)) .nil, .lst (SqL.of upd_same) .nil, rfl, rfl, ?_⟩
          exact kq _ ((e2.trans e3).trans e4)
      · refine ⟨_, rfl, a, xs, rfl, .inr ⟨y0, fun D hD => ?_⟩⟩
        refine lc_it walk_enumT (fun _ H' => Same H2 H' ∧ H' D = some (.lst [])) ⟨Same.new hD, upd_same⟩ (fun i H' _ z => Same.tupT z.1 y0) ?_ ?_
        · rintro i y H3 H4 hi ⟨e3, hD3⟩ ⟨T0, u, z, rfl, hT, rfl, hu2, hz⟩
          obtain rfl : V.int (i : Int) = u := Option.some.inj hu2
          have e4 := Same.new (o := .tup [V.int (i : Int), z]) hT
          have S4 := Same.seqs (Same.trans e3 e4) S2
          have hz' : z ∈ xs := List.mem_of_getElem? hz
          refine ⟨T0, _, rfl, SqT.of upd_same, rfl, _, _, rfl, _, _, rfl, rfl, rfl, ?_⟩
          refine ⟨_, rfl, _, rfl, _, rfl, ix_sel S4 hz ?_⟩
          refine ⟨z, _, rfl, Same.dat (e2.trans (e3.trans e4)) (hx z hz'), fun H5 e5 => ⟨_, rfl, iteF ⟨(e3.trans e4).trans e5, e5 _ _ (e4 _ _ hD3)⟩⟩⟩
        · rintro H3 ⟨e3, hD3⟩
          refine ⟨(by show 0 ≤ sizeLine; decide), fun q hq => ?_⟩
          have e4 := Same.new (o := .lst []) hq
          refine ⟨.list [], .list [], .lst (SqL.of (e4 _ _ hD3)) .nil, .lst (SqL.of upd_same) .nil, rfl, rfl, ?_⟩
          exact kq _ ((e2.trans e3).trans e4)
    | @dct av m a x k ha h hk hx =>
      have kN := kNo2 (K := K) (t := "dict") (by decide +kernel) (by decide +kernel)
      have kD1 : PySem.W.kitOne K (.type "dict") (.type "dict") = some true := kit_ty (by decide +kernel)
      refine ⟨_, rfl, (by show 2 ≤ sizeLine; decide), fun p hp => ?_⟩
      have e1 := Same.new (o := .tup cls2) hp
      refine ⟨.ref a, p, cls2, _, _, false, rfl, upd_same, pc2, .base (.dK (e1 _ _ h)), kN, _, rfl, iteF ?_⟩
      generalize upd H p (.tup cls2) = H1 at e1 ⊢
      replace e1 : Same H H1 := e1
      have h1 := e1 _ _ h
      have hx1 := Same.dat e1 hx
      refine ⟨_, rfl, .ref a, .ty "dict", _, .type "dict", true, rfl, .ty _, .base (.dK h1), kD1, _, rfl, iteT ?_⟩
      refine ⟨_, rfl, .ref a, .ty "dict", _, .type "dict", true, rfl, .ty _, .base (.dK h1), kD1, _, rfl, iteF ?_⟩
      refine ⟨_, rfl, a, _, rfl, h1, _, rfl, a, _, rfl, h1, rfl, _, rfl, ?_⟩
      refine iteF ?_
      refine ⟨a, _, h1, True.intro, fun od => ?_⟩
      refine ⟨_, rfl, a, od, rfl, .inl ⟨_, upd_same, fun D hD => ?_⟩⟩
      have nDa : D ≠ a := fun z => by
        rw [z, upd_same] at hD
        cases hD
      refine lc_it walk_keys (fun _ H' => (∀ b o, H1 b = some o → b ≠ a → H' b = some o) ∧ H' a = some (.frz od (.dK [(Sum.inr ("key" : Str), x), (Sum.inl 1, .int k)])) ∧ H' D = some (.lst []))
        ⟨fun b o e z => ?_, ?_, upd_same⟩ (fun i H' _ z => z.2.1) ?_ ?_
      · exact Same.new hD b o (by rw [upd_ne z]; exact e)
      · rw [upd_ne nDa.symm, upd_same]
      · rintro i y H3 H4 hi ⟨e3, ha3, hD3⟩ ⟨rfl, key, v, hkv, rfl⟩
        have dv : Dat H4 (fun b => av b ∨ b = a) m v := by
          have hm := List.mem_of_getElem? hkv
          simp only [List.mem_cons, List.not_mem_nil, or_false] at hm
          rcases hm with e | e
          · cases e
            exact hx1.frame fun b o q z => e3 b o q fun y => z (.inr y)
          · cases e
            exact .flat (by show Int.natAbs k < 2 ^ 200; have := hk.1; have := hk.2; have : k.natAbs ≤ 3 := by omega
                            exact Nat.lt_of_le_of_lt this (by decide))
        have hg : DGet H4 a (kV key) (some v) := by
          refine .inl ⟨_, key, .inr ⟨od, ha3⟩, rfl, ?_⟩
          have hm := List.mem_of_getElem? hkv
          simp only [List.mem_cons, List.not_mem_nil, or_false] at hm
          rcases hm with e | e <;> cases e <;> rfl
        refine ⟨rfl, ?_⟩
        refine ⟨_, rfl, _, rfl, a, _, rfl, hg, _, rfl, iteF ?_⟩
        refine ⟨_, rfl, _, rfl, a, _, rfl, hg, _, rfl, _, rfl, a, _, rfl, hg, ?_⟩
        refine ⟨v, _, rfl, dv, fun H5 e5 => ⟨_, rfl, iteF ⟨fun b o q z => e5 _ _ (e3 b o q z), e5 _ _ ha3, e5 _ _ hD3⟩⟩⟩
      · rintro H3 ⟨e3, ha3, hD3⟩
        refine ⟨ha3, (by show 0 ≤ sizeLine; decide), fun q hq => ?_⟩
        have e4 := Same.new (o := .lst []) hq
        refine ⟨.list [], .list [], .lst (SqL.of (e4 _ _ (by rw [upd_ne nDa]; exact hD3))) .nil, .lst (SqL.of upd_same) .nil, rfl, rfl, ?_⟩
        refine kq _ fun b o e => e4 _ _ ?_
        by_cases z : b = a
        · rw [z, h] at e
          cases e
          rw [z, upd_same]
        · rw [upd_ne z]
          exact e3 b o (e1 b o e) z
theorem ok_same {f : Addr} {fd : FuncData} (A : Def K mg "_law_is_same" sSame f fd) (T : Txt0 mg) : ∀ n, FnOk P w K mg base CX0 (1 + n) f fd ["near", "far"] (spSame n)
  | 0 => same_body A.F T A.g ok_no
  | n + 1 => same_body (n := n + 1) (k := 1 + n) A.F T A.g (ok_same A T n)
end
end T00
set_option Elab.async false
set_option linter.all false
set_option maxRecDepth 100000
set_option maxHeartbeats 4000000
namespace T00
open PySem PySem.Spec PyProof.Rows L2 XR
open PySem.XK (ExF)
abbrev sPos : Stmt := top 23
abbrev sNam : Stmt := top 24
abbrev sCar : Stmt := top 25
abbrev sKin : Stmt := top 26
abbrev sOwn : Stmt := top 27
/-- the names of the classes, in their order -/
def cNames : List Str := ["BadNumber", "OtherRoot", "BadPolynomial", "BadRule", "BadPlace", "BadCount", "BadFormula", "NoFormula", "BadClass", "BadGrowth", "BadLine", "ZeroMiddle", "BadShift", "BadFactor", "BadParameter"]
/-- what the top says of the classes: the i-th at c i, its __init__ at g i; the base class at b -/
structure TxtC (K : PySem.W.Frag) (mg : Str → Option Value) (c g : Nat → Addr) (b : Addr) : Prop where
  ex : ∀ i, i < 15 → ExF K (c i) (g i)
  gl : ∀ i (h : i < cNames.length), mg cNames[i] = some (.ref (c i))
  gb : mg "StepError" = some (.ref b)
  kb : ∀ i, i < 15 → PySem.W.kitOne K (.ref (c i)) (.ref b) = some true
  kk : ∀ i j, i < 15 → j < 15 → PySem.W.kitOne K (.ref (c i)) (.ref (c j)) = some (decide (i = j))
  ke : ∀ i, i < 15 → PySem.W.kitOne K (.ref (c i)) (.type "Exception") = some true
  kn : ∀ i, i < 15 → PySem.W.kitAny K (.ref (c i)) [.type "ValueError", .type "TypeError", .type "LookupError", .type "ArithmeticError", .type "RuntimeError", .type "AttributeError"] = some false
  xx : ∀ i j, i < 15 → j < 15 → PySem.W.exmOne K (.ref (c i)) (.ref (c j)) = some (decide (i = j))
  xb : ∀ i, i < 15 → PySem.W.exmOne K (.ref (c i)) (.ref b) = some true
/-- the errors at these addresses carry v, in the classes' order from i on -/
inductive Errs (K : PySem.W.Frag) (H : Hp) (c : Nat → Addr) (v : V) : Nat → List Addr → Prop
  | nil {i : Nat} : Errs K H c v i []
  | cons {i : Nat} {a : Addr} {r : List Addr} (h : ErrK K H a (c i) v) (t : Errs K H c v (i + 1) r) : Errs K H c v i (a :: r)
theorem ErrK.same {K : PySem.W.Frag} {H H' : Hp} {a C : Addr} {v : V} (e : Same H H') (h : ErrK K H a C v) : ErrK K H' a C v := by
  obtain ⟨fI, d, oe, T, EO, e1, e2⟩ := h
  exact ⟨fI, d, oe, T, EO, e _ _ e1, e _ _ e2⟩
theorem Errs.same {K : PySem.W.Frag} {H H' : Hp} {c : Nat → Addr} {v : V} (e : Same H H') {i : Nat} {r : List Addr} (h : Errs K H c v i r) : Errs K H' c v i r := by
  induction h with
  | nil => exact .nil
  | cons h t ih => exact .cons (ErrK.same e h) ih
theorem Errs.get {K : PySem.W.Frag} {H : Hp} {c : Nat → Addr} {v : V} {i : Nat} {r : List Addr} (h : Errs K H c v i r) : ∀ {j : Nat} {a : Addr}, r[j]? = some a → ErrK K H a (c (i + j)) v := by
  induction h with
  | nil => exact fun q => by simp at q
  | @cons i b r h t ih =>
    intro j a q
    cases j with
    | zero =>
      have e : b = a := by simpa using q
      rw [← e]
      exact h
    | succ j =>
      have z := ih (j := j) (a := a) (by simpa using q)
      rw [show i + 1 + j = i + (j + 1) by omega] at z
      exact z
theorem exv_step {K : PySem.W.Frag} {H1 : Hp} {v : V} {C fI a d : Addr} {oe : Obj} (T : ExF K C fI) (na : H1 a = none) (nd : H1 d = none) (ne : d ≠ a) (EO : ErrO C d oe) :
    Same H1 (upd (upd H1 d (.xd [(("thing" : Str), v)])) a (exq a oe)) ∧ ErrK K (upd (upd H1 d (.xd [(("thing" : Str), v)])) a (exq a oe)) a C v := by
  have na2 : upd H1 d (.xd [(("thing" : Str), v)]) a = none := by
    rw [upd_ne ne.symm]
    exact na
  refine ⟨Same.trans (Same.new nd) (Same.new na2), fI, d, oe, T, EO, upd_same, ?_⟩
  rw [upd_ne ne, upd_same]
def spMade (K : PySem.W.Frag) (c : Nat → Addr) : Sp := fun vs H Q _ => ∃ v : V, vs = [v] ∧ ∀ (p : Addr) (as : List Addr) (H' : Hp), Same H H' → H' p = some (.lst (as.map V.ref)) → as.length = 15 → Errs K H' c v 0 as → Q (.ref p) H'
def spCar (K : PySem.W.Frag) (c : Nat → Addr) : Sp := fun vs H Q _ => ∃ (v : V) (p : Addr) (as : List Addr), vs = [.ref p] ∧ H p = some (.lst (as.map V.ref)) ∧ as.length = 15 ∧ Errs K H c v 0 as ∧
  ∀ (q : Addr) (H' : Hp), Same H H' → H' q = some (.lst (List.replicate 15 v)) → Q (.ref q) H'
def isBs (i : Nat) : List Bool := (List.range 15).map fun j => decide (i = j)
def spKin (K : PySem.W.Frag) (c : Nat → Addr) : Sp := fun vs H Q _ => ∃ (v : V) (a : Addr) (i : Nat), vs = [.ref a] ∧ i < 15 ∧ ErrK K H a (c i) v ∧
  ∀ (q : Addr) (H' : Hp), Same H H' → H' q = some (.lst ((isBs i).map V.bl)) → Q (.ref q) H'
section
variable {P : Program} {w : World} {K : PySem.W.Frag} {mg : Str → Option Value} {base : Heap} {c g : Nat → Addr} {b : Addr}

theorem scPos : FnScope ["it", "found"] ["it"] (defScope sPos) := ⟨rfl, rfl, rfl, by decide +kernel, rfl, by decide +kernel, by decide +kernel⟩
theorem ok_pos {f : Addr} {fd : FuncData} (D : Def K mg "_law_by_position" sPos f fd) (T : TxtC K mg c g b) : FnOk P w K mg base CX0 1 f fd ["it"] (spMade K c) := by
  refine D.F.ok scPos (fun vs H Q E h => ?_) (fun cdv A outer s H vs Q E hr h => ?_)
  · obtain ⟨v, rfl, _⟩ := h
    rfl
  · obtain ⟨v, rfl, k⟩ := h
    refine ⟨_, (pss_cons (ps_set (i := 1) scPos.nd rfl (Or.inl rfl) (pe_lst (pa_cons (pe_exv (T.ex 0 (by decide)) hr (by rfl) (T.gl 0 (by decide)) (pa_cons (pv 0) pa_nil)) (pa_cons (pe_exv (T.ex 1 (by decide)) hr (by rfl) (T.gl 1 (by decide)) (pa_cons (pv 0) pa_nil)) (pa_cons (pe_exv (T.ex 2 (by decide)) hr (by rfl) (T.gl 2 (by decide)) (pa_cons (pv 0) pa_nil)) (pa_cons (pe_exv (T.ex 3 (by decide)) hr (by rfl) (T.gl 3 (by decide)) (pa_cons (pv 0) pa_nil)) (pa_cons (pe_exv (T.ex 4 (by decide)) hr (by rfl) (T.gl 4 (by decide)) (pa_cons (pv 0) pa_nil)) (pa_cons (pe_exv (T.ex 5 (by decide)) hr (by rfl) (T.gl 5 (by decide)) (pa_cons (pv 0) pa_nil)) (pa_cons (pe_exv (T.ex 6 (by decide)) hr (by rfl) (T.gl 6 (by decide)) (pa_cons (pv 0) pa_nil)) pa_nil)))))))))
      (pss_cons (ps_set (i := 1) scPos.nd rfl (Or.inl rfl) (pe_op op_cat (pv 1) (pe_lst (pa_cons (pe_exv (T.ex 7 (by decide)) hr (by rfl) (T.gl 7 (by decide)) (pa_cons (pv 0) pa_nil)) (pa_cons (pe_exv (T.ex 8 (by decide)) hr (by rfl) (T.gl 8 (by decide)) (pa_cons (pv 0) pa_nil)) (pa_cons (pe_exv (T.ex 9 (by decide)) hr (by rfl) (T.gl 9 (by decide)) (pa_cons (pv 0) pa_nil)) (pa_cons (pe_exv (T.ex 10 (by decide)) hr (by rfl) (T.gl 10 (by decide)) (pa_cons (pv 0) pa_nil)) (pa_cons (pe_exv (T.ex 11 (by decide)) hr (by rfl) (T.gl 11 (by decide)) (pa_cons (pv 0) pa_nil)) (pa_cons (pe_exv (T.ex 12 (by decide)) hr (by rfl) (T.gl 12 (by decide)) (pa_cons (pv 0) pa_nil)) pa_nil)))))))))
      (pss_one (ps_ret (pe_op op_cat (pv 1) (pe_lst (pa_cons (pe_exv (T.ex 13 (by decide)) hr (by rfl) (T.gl 13 (by decide)) (pa_cons (pv 0) pa_nil)) (pa_cons (pe_exv (T.ex 14 (by decide)) hr (by rfl) (T.gl 14 (by decide)) (pa_cons (pv 0) pa_nil)) pa_nil)))))))), ?_⟩
    refine ⟨_, rfl, v, rfl, fun a0 d0 o0 na0 nd0 ne0 EO0 => ?_⟩
    obtain ⟨s0, k0⟩ := exv_step (v := v) (T.ex 0 (by decide)) na0 nd0 ne0 EO0
    generalize upd (upd _ d0 _) a0 (exq a0 o0) = X0 at s0 k0 ⊢
    refine ⟨_, rfl, v, rfl, fun a1 d1 o1 na1 nd1 ne1 EO1 => ?_⟩
    obtain ⟨s1, k1⟩ := exv_step (v := v) (T.ex 1 (by decide)) na1 nd1 ne1 EO1
    generalize upd (upd _ d1 _) a1 (exq a1 o1) = X1 at s1 k1 ⊢
    refine ⟨_, rfl, v, rfl, fun a2 d2 o2 na2 nd2 ne2 EO2 => ?_⟩
    obtain ⟨s2, k2⟩ := exv_step (v := v) (T.ex 2 (by decide)) na2 nd2 ne2 EO2
    generalize upd (upd _ d2 _) a2 (exq a2 o2) = X2 at s2 k2 ⊢
    refine ⟨_, rfl, v, rfl, fun a3 d3 o3 na3 nd3 ne3 EO3 => ?_⟩
    obtain ⟨s3, k3⟩ := exv_step (v := v) (T.ex 3 (by decide)) na3 nd3 ne3 EO3
    generalize upd (upd _ d3 _) a3 (exq a3 o3) = X3 at s3 k3 ⊢
    refine ⟨_, rfl, v, rfl, fun a4 d4 o4 na4 nd4 ne4 EO4 => ?_⟩
    obtain ⟨s4, k4⟩ := exv_step (v := v) (T.ex 4 (by decide)) na4 nd4 ne4 EO4
    generalize upd (upd _ d4 _) a4 (exq a4 o4) = X4 at s4 k4 ⊢
    refine ⟨_, rfl, v, rfl, fun a5 d5 o5 na5 nd5 ne5 EO5 => ?_⟩
    obtain ⟨s5, k5⟩ := exv_step (v := v) (T.ex 5 (by decide)) na5 nd5 ne5 EO5
    generalize upd (upd _ d5 _) a5 (exq a5 o5) = X5 at s5 k5 ⊢
    refine ⟨_, rfl, v, rfl, fun a6 d6 o6 na6 nd6 ne6 EO6 => ?_⟩
    obtain ⟨s6, k6⟩ := exv_step (v := v) (T.ex 6 (by decide)) na6 nd6 ne6 EO6
    generalize upd (upd _ d6 _) a6 (exq a6 o6) = X6 at s6 k6 ⊢
    refine ⟨(by show 7 ≤ sizeLine; decide), fun p0 hp0 => ?_⟩
    have t0 := Same.new (o := .lst [V.ref a0, V.ref a1, V.ref a2, V.ref a3, V.ref a4, V.ref a5, V.ref a6]) hp0
    have l0 : (upd X6 p0 (.lst [V.ref a0, V.ref a1, V.ref a2, V.ref a3, V.ref a4, V.ref a5, V.ref a6])) p0 = some (.lst [V.ref a0, V.ref a1, V.ref a2, V.ref a3, V.ref a4, V.ref a5, V.ref a6]) := upd_same
    generalize upd X6 p0 _ = Y0 at t0 l0 ⊢
    refine ⟨_, rfl, ?_⟩
    refine ⟨_, rfl, v, rfl, fun a7 d7 o7 na7 nd7 ne7 EO7 => ?_⟩
    obtain ⟨s7, k7⟩ := exv_step (v := v) (T.ex 7 (by decide)) na7 nd7 ne7 EO7
    generalize upd (upd _ d7 _) a7 (exq a7 o7) = X7 at s7 k7 ⊢
    refine ⟨_, rfl, v, rfl, fun a8 d8 o8 na8 nd8 ne8 EO8 => ?_⟩
    obtain ⟨s8, k8⟩ := exv_step (v := v) (T.ex 8 (by decide)) na8 nd8 ne8 EO8
    generalize upd (upd _ d8 _) a8 (exq a8 o8) = X8 at s8 k8 ⊢
    refine ⟨_, rfl, v, rfl, fun a9 d9 o9 na9 nd9 ne9 EO9 => ?_⟩
    obtain ⟨s9, k9⟩ := exv_step (v := v) (T.ex 9 (by decide)) na9 nd9 ne9 EO9
    generalize upd (upd _ d9 _) a9 (exq a9 o9) = X9 at s9 k9 ⊢
    refine ⟨_, rfl, v, rfl, fun a10 d10 o10 na10 nd10 ne10 EO10 => ?_⟩
    obtain ⟨s10, k10⟩ := exv_step (v := v) (T.ex 10 (by decide)) na10 nd10 ne10 EO10
    generalize upd (upd _ d10 _) a10 (exq a10 o10) = X10 at s10 k10 ⊢
    refine ⟨_, rfl, v, rfl, fun a11 d11 o11 na11 nd11 ne11 EO11 => ?_⟩
    obtain ⟨s11, k11⟩ := exv_step (v := v) (T.ex 11 (by decide)) na11 nd11 ne11 EO11
    generalize upd (upd _ d11 _) a11 (exq a11 o11) = X11 at s11 k11 ⊢
    refine ⟨_, rfl, v, rfl, fun a12 d12 o12 na12 nd12 ne12 EO12 => ?_⟩
    obtain ⟨s12, k12⟩ := exv_step (v := v) (T.ex 12 (by decide)) na12 nd12 ne12 EO12
    generalize upd (upd _ d12 _) a12 (exq a12 o12) = X12 at s12 k12 ⊢
    refine ⟨(by show 6 ≤ sizeLine; decide), fun p1 hp1 => ?_⟩
    have t1 := Same.new (o := .lst [V.ref a7, V.ref a8, V.ref a9, V.ref a10, V.ref a11, V.ref a12]) hp1
    have u1 := (Same.trans s7 (Same.trans s8 (Same.trans s9 (Same.trans s10 (Same.trans s11 s12)))))
    refine ⟨p0, p1, _, _, rfl, rfl, t1 _ _ (u1 _ _ l0), upd_same, (by show 13 ≤ sizeLine; decide), fun q1 hq1 => ?_⟩
    have x1 := Same.trans t1 (Same.new (o := .lst ([V.ref a0, V.ref a1, V.ref a2, V.ref a3, V.ref a4, V.ref a5, V.ref a6] ++ [V.ref a7, V.ref a8, V.ref a9, V.ref a10, V.ref a11, V.ref a12])) hq1)
    have m1 : (upd (upd X12 p1 (.lst [V.ref a7, V.ref a8, V.ref a9, V.ref a10, V.ref a11, V.ref a12])) q1 (.lst ([V.ref a0, V.ref a1, V.ref a2, V.ref a3, V.ref a4, V.ref a5, V.ref a6] ++ [V.ref a7, V.ref a8, V.ref a9, V.ref a10, V.ref a11, V.ref a12]))) q1 = some (.lst ([V.ref a0, V.ref a1, V.ref a2, V.ref a3, V.ref a4, V.ref a5, V.ref a6] ++ [V.ref a7, V.ref a8, V.ref a9, V.ref a10, V.ref a11, V.ref a12])) := upd_same
    generalize upd (upd X12 p1 _) q1 _ = Y1 at x1 m1 ⊢
    refine ⟨_, rfl, ?_⟩
    refine ⟨_, rfl, v, rfl, fun a13 d13 o13 na13 nd13 ne13 EO13 => ?_⟩
    obtain ⟨s13, k13⟩ := exv_step (v := v) (T.ex 13 (by decide)) na13 nd13 ne13 EO13
    generalize upd (upd _ d13 _) a13 (exq a13 o13) = X13 at s13 k13 ⊢
    refine ⟨_, rfl, v, rfl, fun a14 d14 o14 na14 nd14 ne14 EO14 => ?_⟩
    obtain ⟨s14, k14⟩ := exv_step (v := v) (T.ex 14 (by decide)) na14 nd14 ne14 EO14
    generalize upd (upd _ d14 _) a14 (exq a14 o14) = X14 at s14 k14 ⊢
    refine ⟨(by show 2 ≤ sizeLine; decide), fun p2 hp2 => ?_⟩
    have t2 := Same.new (o := .lst [V.ref a13, V.ref a14]) hp2
    have u2 := (Same.trans s13 s14)
    refine ⟨q1, p2, _, _, rfl, rfl, t2 _ _ (u2 _ _ m1), upd_same, (by show 15 ≤ sizeLine; decide), fun q2 hq2 => ?_⟩
    have x2 := Same.trans t2 (Same.new (o := .lst (([V.ref a0, V.ref a1, V.ref a2, V.ref a3, V.ref a4, V.ref a5, V.ref a6] ++ [V.ref a7, V.ref a8, V.ref a9, V.ref a10, V.ref a11, V.ref a12]) ++ [V.ref a13, V.ref a14])) hq2)
    have m2 : (upd (upd X14 p2 (.lst [V.ref a13, V.ref a14])) q2 (.lst (([V.ref a0, V.ref a1, V.ref a2, V.ref a3, V.ref a4, V.ref a5, V.ref a6] ++ [V.ref a7, V.ref a8, V.ref a9, V.ref a10, V.ref a11, V.ref a12]) ++ [V.ref a13, V.ref a14]))) q2 = some (.lst (([V.ref a0, V.ref a1, V.ref a2, V.ref a3, V.ref a4, V.ref a5, V.ref a6] ++ [V.ref a7, V.ref a8, V.ref a9, V.ref a10, V.ref a11, V.ref a12]) ++ [V.ref a13, V.ref a14])) := upd_same
    generalize upd (upd X14 p2 _) q2 _ = Y2 at x2 m2 ⊢
    have z17 := x2
    have z16 := Same.trans s14 z17
    have z15 := Same.trans s13 z16
    have z14 := Same.trans x1 z15
    have z13 := Same.trans s12 z14
    have z12 := Same.trans s11 z13
    have z11 := Same.trans s10 z12
    have z10 := Same.trans s9 z11
    have z9 := Same.trans s8 z10
    have z8 := Same.trans s7 z9
    have z7 := Same.trans t0 z8
    have z6 := Same.trans s6 z7
    have z5 := Same.trans s5 z6
    have z4 := Same.trans s4 z5
    have z3 := Same.trans s3 z4
    have z2 := Same.trans s2 z3
    have z1 := Same.trans s1 z2
    have z0 := Same.trans s0 z1
    exact k q2 [a0, a1, a2, a3, a4, a5, a6, a7, a8, a9, a10, a11, a12, a13, a14] _ z0 m2 rfl (.cons (ErrK.same z1 k0) (.cons (ErrK.same z2 k1) (.cons (ErrK.same z3 k2) (.cons (ErrK.same z4 k3) (.cons (ErrK.same z5 k4) (.cons (ErrK.same z6 k5) (.cons (ErrK.same z7 k6) (.cons (ErrK.same z9 k7) (.cons (ErrK.same z10 k8) (.cons (ErrK.same z11 k9) (.cons (ErrK.same z12 k10) (.cons (ErrK.same z13 k11) (.cons (ErrK.same z14 k12) (.cons (ErrK.same z16 k13) (.cons (ErrK.same z17 k14) .nil)))))))))))))))
theorem scNam : FnScope ["it", "found"] ["it"] (defScope sNam) := ⟨rfl, rfl, rfl, by decide +kernel, rfl, by decide +kernel, by decide +kernel⟩
theorem ok_nam {f : Addr} {fd : FuncData} (D : Def K mg "_law_by_name" sNam f fd) (T : TxtC K mg c g b) : FnOk P w K mg base CX0 1 f fd ["it"] (spMade K c) := by
  refine D.F.ok scNam (fun vs H Q E h => ?_) (fun cdv A outer s H vs Q E hr h => ?_)
  · obtain ⟨v, rfl, _⟩ := h
    rfl
  · obtain ⟨v, rfl, k⟩ := h
    refine ⟨_, (pss_cons (ps_set (i := 1) scNam.nd rfl (Or.inl rfl) (pe_lst (pa_cons (pe_exvK (T.ex 0 (by decide)) hr (by rfl) (T.gl 0 (by decide)) (pk_cons (pv 0) pk_nil)) (pa_cons (pe_exvK (T.ex 1 (by decide)) hr (by rfl) (T.gl 1 (by decide)) (pk_cons (pv 0) pk_nil)) (pa_cons (pe_exvK (T.ex 2 (by decide)) hr (by rfl) (T.gl 2 (by decide)) (pk_cons (pv 0) pk_nil)) (pa_cons (pe_exvK (T.ex 3 (by decide)) hr (by rfl) (T.gl 3 (by decide)) (pk_cons (pv 0) pk_nil)) (pa_cons (pe_exvK (T.ex 4 (by decide)) hr (by rfl) (T.gl 4 (by decide)) (pk_cons (pv 0) pk_nil)) pa_nil)))))))
      (pss_cons (ps_set (i := 1) scNam.nd rfl (Or.inl rfl) (pe_op op_cat (pv 1) (pe_lst (pa_cons (pe_exvK (T.ex 5 (by decide)) hr (by rfl) (T.gl 5 (by decide)) (pk_cons (pv 0) pk_nil)) (pa_cons (pe_exvK (T.ex 6 (by decide)) hr (by rfl) (T.gl 6 (by decide)) (pk_cons (pv 0) pk_nil)) (pa_cons (pe_exvK (T.ex 7 (by decide)) hr (by rfl) (T.gl 7 (by decide)) (pk_cons (pv 0) pk_nil)) (pa_cons (pe_exvK (T.ex 8 (by decide)) hr (by rfl) (T.gl 8 (by decide)) (pk_cons (pv 0) pk_nil)) pa_nil)))))))
      (pss_cons (ps_set (i := 1) scNam.nd rfl (Or.inl rfl) (pe_op op_cat (pv 1) (pe_lst (pa_cons (pe_exvK (T.ex 9 (by decide)) hr (by rfl) (T.gl 9 (by decide)) (pk_cons (pv 0) pk_nil)) (pa_cons (pe_exvK (T.ex 10 (by decide)) hr (by rfl) (T.gl 10 (by decide)) (pk_cons (pv 0) pk_nil)) (pa_cons (pe_exvK (T.ex 11 (by decide)) hr (by rfl) (T.gl 11 (by decide)) (pk_cons (pv 0) pk_nil)) (pa_cons (pe_exvK (T.ex 12 (by decide)) hr (by rfl) (T.gl 12 (by decide)) (pk_cons (pv 0) pk_nil)) pa_nil)))))))
      (pss_one (ps_ret (pe_op op_cat (pv 1) (pe_lst (pa_cons (pe_exvK (T.ex 13 (by decide)) hr (by rfl) (T.gl 13 (by decide)) (pk_cons (pv 0) pk_nil)) (pa_cons (pe_exvK (T.ex 14 (by decide)) hr (by rfl) (T.gl 14 (by decide)) (pk_cons (pv 0) pk_nil)) pa_nil))))))))), ?_⟩
    refine ⟨_, rfl, v, rfl, fun a0 d0 o0 na0 nd0 ne0 EO0 => ?_⟩
    obtain ⟨s0, k0⟩ := exv_step (v := v) (T.ex 0 (by decide)) na0 nd0 ne0 EO0
    generalize upd (upd _ d0 _) a0 (exq a0 o0) = X0 at s0 k0 ⊢
    refine ⟨_, rfl, v, rfl, fun a1 d1 o1 na1 nd1 ne1 EO1 => ?_⟩
    obtain ⟨s1, k1⟩ := exv_step (v := v) (T.ex 1 (by decide)) na1 nd1 ne1 EO1
    generalize upd (upd _ d1 _) a1 (exq a1 o1) = X1 at s1 k1 ⊢
    refine ⟨_, rfl, v, rfl, fun a2 d2 o2 na2 nd2 ne2 EO2 => ?_⟩
    obtain ⟨s2, k2⟩ := exv_step (v := v) (T.ex 2 (by decide)) na2 nd2 ne2 EO2
    generalize upd (upd _ d2 _) a2 (exq a2 o2) = X2 at s2 k2 ⊢
    refine ⟨_, rfl, v, rfl, fun a3 d3 o3 na3 nd3 ne3 EO3 => ?_⟩
    obtain ⟨s3, k3⟩ := exv_step (v := v) (T.ex 3 (by decide)) na3 nd3 ne3 EO3
    generalize upd (upd _ d3 _) a3 (exq a3 o3) = X3 at s3 k3 ⊢
    refine ⟨_, rfl, v, rfl, fun a4 d4 o4 na4 nd4 ne4 EO4 => ?_⟩
    obtain ⟨s4, k4⟩ := exv_step (v := v) (T.ex 4 (by decide)) na4 nd4 ne4 EO4
    generalize upd (upd _ d4 _) a4 (exq a4 o4) = X4 at s4 k4 ⊢
    refine ⟨(by show 5 ≤ sizeLine; decide), fun p0 hp0 => ?_⟩
    have t0 := Same.new (o := .lst [V.ref a0, V.ref a1, V.ref a2, V.ref a3, V.ref a4]) hp0
    have l0 : (upd X4 p0 (.lst [V.ref a0, V.ref a1, V.ref a2, V.ref a3, V.ref a4])) p0 = some (.lst [V.ref a0, V.ref a1, V.ref a2, V.ref a3, V.ref a4]) := upd_same
    generalize upd X4 p0 _ = Y0 at t0 l0 ⊢
    refine ⟨_, rfl, ?_⟩
    refine ⟨_, rfl, v, rfl, fun a5 d5 o5 na5 nd5 ne5 EO5 => ?_⟩
    obtain ⟨s5, k5⟩ := exv_step (v := v) (T.ex 5 (by decide)) na5 nd5 ne5 EO5
    generalize upd (upd _ d5 _) a5 (exq a5 o5) = X5 at s5 k5 ⊢
    refine ⟨_, rfl, v, rfl, fun a6 d6 o6 na6 nd6 ne6 EO6 => ?_⟩
    obtain ⟨s6, k6⟩ := exv_step (v := v) (T.ex 6 (by decide)) na6 nd6 ne6 EO6
    generalize upd (upd _ d6 _) a6 (exq a6 o6) = X6 at s6 k6 ⊢
    refine ⟨_, rfl, v, rfl, fun a7 d7 o7 na7 nd7 ne7 EO7 => ?_⟩
    obtain ⟨s7, k7⟩ := exv_step (v := v) (T.ex 7 (by decide)) na7 nd7 ne7 EO7
    generalize upd (upd _ d7 _) a7 (exq a7 o7) = X7 at s7 k7 ⊢
    refine ⟨_, rfl, v, rfl, fun a8 d8 o8 na8 nd8 ne8 EO8 => ?_⟩
    obtain ⟨s8, k8⟩ := exv_step (v := v) (T.ex 8 (by decide)) na8 nd8 ne8 EO8
    generalize upd (upd _ d8 _) a8 (exq a8 o8) = X8 at s8 k8 ⊢
    refine ⟨(by show 4 ≤ sizeLine; decide), fun p1 hp1 => ?_⟩
    have t1 := Same.new (o := .lst [V.ref a5, V.ref a6, V.ref a7, V.ref a8]) hp1
    have u1 := (Same.trans s5 (Same.trans s6 (Same.trans s7 s8)))
    refine ⟨p0, p1, _, _, rfl, rfl, t1 _ _ (u1 _ _ l0), upd_same, (by show 9 ≤ sizeLine; decide), fun q1 hq1 => ?_⟩
    have x1 := Same.trans t1 (Same.new (o := .lst ([V.ref a0, V.ref a1, V.ref a2, V.ref a3, V.ref a4] ++ [V.ref a5, V.ref a6, V.ref a7, V.ref a8])) hq1)
    have m1 : (upd (upd X8 p1 (.lst [V.ref a5, V.ref a6, V.ref a7, V.ref a8])) q1 (.lst ([V.ref a0, V.ref a1, V.ref a2, V.ref a3, V.ref a4] ++ [V.ref a5, V.ref a6, V.ref a7, V.ref a8]))) q1 = some (.lst ([V.ref a0, V.ref a1, V.ref a2, V.ref a3, V.ref a4] ++ [V.ref a5, V.ref a6, V.ref a7, V.ref a8])) := upd_same
    generalize upd (upd X8 p1 _) q1 _ = Y1 at x1 m1 ⊢
    refine ⟨_, rfl, ?_⟩
    refine ⟨_, rfl, v, rfl, fun a9 d9 o9 na9 nd9 ne9 EO9 => ?_⟩
    obtain ⟨s9, k9⟩ := exv_step (v := v) (T.ex 9 (by decide)) na9 nd9 ne9 EO9
    generalize upd (upd _ d9 _) a9 (exq a9 o9) = X9 at s9 k9 ⊢
    refine ⟨_, rfl, v, rfl, fun a10 d10 o10 na10 nd10 ne10 EO10 => ?_⟩
    obtain ⟨s10, k10⟩ := exv_step (v := v) (T.ex 10 (by decide)) na10 nd10 ne10 EO10
    generalize upd (upd _ d10 _) a10 (exq a10 o10) = X10 at s10 k10 ⊢
    refine ⟨_, rfl, v, rfl, fun a11 d11 o11 na11 nd11 ne11 EO11 => ?_⟩
    obtain ⟨s11, k11⟩ := exv_step (v := v) (T.ex 11 (by decide)) na11 nd11 ne11 EO11
    generalize upd (upd _ d11 _) a11 (exq a11 o11) = X11 at s11 k11 ⊢
    refine ⟨_, rfl, v, rfl, fun a12 d12 o12 na12 nd12 ne12 EO12 => ?_⟩
    obtain ⟨s12, k12⟩ := exv_step (v := v) (T.ex 12 (by decide)) na12 nd12 ne12 EO12
    generalize upd (upd _ d12 _) a12 (exq a12 o12) = X12 at s12 k12 ⊢
    refine ⟨(by show 4 ≤ sizeLine; decide), fun p2 hp2 => ?_⟩
    have t2 := Same.new (o := .lst [V.ref a9, V.ref a10, V.ref a11, V.ref a12]) hp2
    have u2 := (Same.trans s9 (Same.trans s10 (Same.trans s11 s12)))
    refine ⟨q1, p2, _, _, rfl, rfl, t2 _ _ (u2 _ _ m1), upd_same, (by show 13 ≤ sizeLine; decide), fun q2 hq2 => ?_⟩
    have x2 := Same.trans t2 (Same.new (o := .lst (([V.ref a0, V.ref a1, V.ref a2, V.ref a3, V.ref a4] ++ [V.ref a5, V.ref a6, V.ref a7, V.ref a8]) ++ [V.ref a9, V.ref a10, V.ref a11, V.ref a12])) hq2)
    have m2 : (upd (upd X12 p2 (.lst [V.ref a9, V.ref a10, V.ref a11, V.ref a12])) q2 (.lst (([V.ref a0, V.ref a1, V.ref a2, V.ref a3, V.ref a4] ++ [V.ref a5, V.ref a6, V.ref a7, V.ref a8]) ++ [V.ref a9, V.ref a10, V.ref a11, V.ref a12]))) q2 = some (.lst (([V.ref a0, V.ref a1, V.ref a2, V.ref a3, V.ref a4] ++ [V.ref a5, V.ref a6, V.ref a7, V.ref a8]) ++ [V.ref a9, V.ref a10, V.ref a11, V.ref a12])) := upd_same
    generalize upd (upd X12 p2 _) q2 _ = Y2 at x2 m2 ⊢
    refine ⟨_, rfl, ?_⟩
    refine ⟨_, rfl, v, rfl, fun a13 d13 o13 na13 nd13 ne13 EO13 => ?_⟩
    obtain ⟨s13, k13⟩ := exv_step (v := v) (T.ex 13 (by decide)) na13 nd13 ne13 EO13
    generalize upd (upd _ d13 _) a13 (exq a13 o13) = X13 at s13 k13 ⊢
    refine ⟨_, rfl, v, rfl, fun a14 d14 o14 na14 nd14 ne14 EO14 => ?_⟩
    obtain ⟨s14, k14⟩ := exv_step (v := v) (T.ex 14 (by decide)) na14 nd14 ne14 EO14
    generalize upd (upd _ d14 _) a14 (exq a14 o14) = X14 at s14 k14 ⊢
    refine ⟨(by show 2 ≤ sizeLine; decide), fun p3 hp3 => ?_⟩
    have t3 := Same.new (o := .lst [V.ref a13, V.ref a14]) hp3
    have u3 := (Same.trans s13 s14)
    refine ⟨q2, p3, _, _, rfl, rfl, t3 _ _ (u3 _ _ m2), upd_same, (by show 15 ≤ sizeLine; decide), fun q3 hq3 => ?_⟩
    have x3 := Same.trans t3 (Same.new (o := .lst ((([V.ref a0, V.ref a1, V.ref a2, V.ref a3, V.ref a4] ++ [V.ref a5, V.ref a6, V.ref a7, V.ref a8]) ++ [V.ref a9, V.ref a10, V.ref a11, V.ref a12]) ++ [V.ref a13, V.ref a14])) hq3)
    have m3 : (upd (upd X14 p3 (.lst [V.ref a13, V.ref a14])) q3 (.lst ((([V.ref a0, V.ref a1, V.ref a2, V.ref a3, V.ref a4] ++ [V.ref a5, V.ref a6, V.ref a7, V.ref a8]) ++ [V.ref a9, V.ref a10, V.ref a11, V.ref a12]) ++ [V.ref a13, V.ref a14]))) q3 = some (.lst ((([V.ref a0, V.ref a1, V.ref a2, V.ref a3, V.ref a4] ++ [V.ref a5, V.ref a6, V.ref a7, V.ref a8]) ++ [V.ref a9, V.ref a10, V.ref a11, V.ref a12]) ++ [V.ref a13, V.ref a14])) := upd_same
    generalize upd (upd X14 p3 _) q3 _ = Y3 at x3 m3 ⊢
    have z18 := x3
    have z17 := Same.trans s14 z18
    have z16 := Same.trans s13 z17
    have z15 := Same.trans x2 z16
    have z14 := Same.trans s12 z15
    have z13 := Same.trans s11 z14
    have z12 := Same.trans s10 z13
    have z11 := Same.trans s9 z12
    have z10 := Same.trans x1 z11
    have z9 := Same.trans s8 z10
    have z8 := Same.trans s7 z9
    have z7 := Same.trans s6 z8
    have z6 := Same.trans s5 z7
    have z5 := Same.trans t0 z6
    have z4 := Same.trans s4 z5
    have z3 := Same.trans s3 z4
    have z2 := Same.trans s2 z3
    have z1 := Same.trans s1 z2
    have z0 := Same.trans s0 z1
    exact k q3 [a0, a1, a2, a3, a4, a5, a6, a7, a8, a9, a10, a11, a12, a13, a14] _ z0 m3 rfl (.cons (ErrK.same z1 k0) (.cons (ErrK.same z2 k1) (.cons (ErrK.same z3 k2) (.cons (ErrK.same z4 k3) (.cons (ErrK.same z5 k4) (.cons (ErrK.same z7 k5) (.cons (ErrK.same z8 k6) (.cons (ErrK.same z9 k7) (.cons (ErrK.same z10 k8) (.cons (ErrK.same z12 k9) (.cons (ErrK.same z13 k10) (.cons (ErrK.same z14 k11) (.cons (ErrK.same z15 k12) (.cons (ErrK.same z17 k13) (.cons (ErrK.same z18 k14) .nil)))))))))))))))
end
end T00
set_option Elab.async false
set_option linter.all false
set_option maxRecDepth 100000
set_option maxHeartbeats 4000000
namespace T00
open PySem PySem.Spec PyProof.Rows L2 XR
open PySem.XK (ExF)
theorem list15 {as : List Addr} (h : as.length = 15) : ∃ a0 a1 a2 a3 a4 a5 a6 a7 a8 a9 a10 a11 a12 a13 a14, as = [a0, a1, a2, a3, a4, a5, a6, a7, a8, a9, a10, a11, a12, a13, a14] := by
  match as, h with
  | [a0, a1, a2, a3, a4, a5, a6, a7, a8, a9, a10, a11, a12, a13, a14], _ => exact ⟨a0, a1, a2, a3, a4, a5, a6, a7, a8, a9, a10, a11, a12, a13, a14, rfl⟩
section
variable {P : Program} {w : World} {K : PySem.W.Frag} {mg : Str → Option Value} {base : Heap} {c g : Nat → Addr} {b : Addr}
theorem scCar : FnScope ["made", "found"] ["made"] (defScope sCar) := ⟨rfl, rfl, rfl, by decide +kernel, rfl, by decide +kernel, by decide +kernel⟩
theorem ok_car {f : Addr} {fd : FuncData} (D : Def K mg "_law_carried" sCar f fd) : FnOk P w K mg base CX0 1 f fd ["made"] (spCar K c) := by
  refine D.F.ok scCar (fun vs H Q E h => ?_) (fun cdv A outer s H vs Q E hr h => ?_)
  · obtain ⟨v, p, as, rfl, _⟩ := h
    rfl
  · obtain ⟨v, p, as, rfl, hp, h15, er, k⟩ := h
    obtain ⟨a0, a1, a2, a3, a4, a5, a6, a7, a8, a9, a10, a11, a12, a13, a14, rfl⟩ := list15 h15
    refine ⟨_, pss_cons (ps_set (i := 1) scCar.nd rfl (Or.inl rfl) (pe_lst (pa_cons (pe_ef (pe_ix ix_list (pv 0) pe_int (fun _ _ => rfl))) (pa_cons (pe_ef (pe_ix ix_list (pv 0) pe_int (fun _ _ => rfl))) (pa_cons (pe_ef (pe_ix ix_list (pv 0) pe_int (fun _ _ => rfl))) (pa_cons (pe_ef (pe_ix ix_list (pv 0) pe_int (fun _ _ => rfl))) (pa_cons (pe_ef (pe_ix ix_list (pv 0) pe_int (fun _ _ => rfl))) (pa_cons (pe_ef (pe_ix ix_list (pv 0) pe_int (fun _ _ => rfl))) (pa_cons (pe_ef (pe_ix ix_list (pv 0) pe_int (fun _ _ => rfl))) pa_nil)))))))))
      (pss_cons (ps_set (i := 1) scCar.nd rfl (Or.inl rfl) (pe_op op_cat (pv 1) (pe_lst (pa_cons (pe_ef (pe_ix ix_list (pv 0) pe_int (fun _ _ => rfl))) (pa_cons (pe_ef (pe_ix ix_list (pv 0) pe_int (fun _ _ => rfl))) (pa_cons (pe_ef (pe_ix ix_list (pv 0) pe_int (fun _ _ => rfl))) (pa_cons (pe_ef (pe_ix ix_list (pv 0) pe_int (fun _ _ => rfl))) (pa_cons (pe_ef (pe_ix ix_list (pv 0) pe_int (fun _ _ => rfl))) (pa_cons (pe_ef (pe_ix ix_list (pv 0) pe_int (fun _ _ => rfl))) pa_nil)))))))))
      (pss_one (ps_ret (pe_op op_cat (pv 1) (pe_lst (pa_cons (pe_ef (pe_ix ix_list (pv 0) pe_int (fun _ _ => rfl))) (pa_cons (pe_ef (pe_ix ix_list (pv 0) pe_int (fun _ _ => rfl))) pa_nil))))))), ?_⟩
    refine ⟨_, rfl, p, _, _, V.ref a0, rfl, rfl, SqL.of hp, rfl, a0, c 0, v, rfl, Errs.get (j := 0) er rfl, _, rfl, p, _, _, V.ref a1, rfl, rfl, SqL.of hp, rfl, a1, c 1, v, rfl, Errs.get (j := 1) er rfl, _, rfl, p, _, _, V.ref a2, rfl, rfl, SqL.of hp, rfl, a2, c 2, v, rfl, Errs.get (j := 2) er rfl, _, rfl, p, _, _, V.ref a3, rfl, rfl, SqL.of hp, rfl, a3, c 3, v, rfl, Errs.get (j := 3) er rfl, _, rfl, p, _, _, V.ref a4, rfl, rfl, SqL.of hp, rfl, a4, c 4, v, rfl, Errs.get (j := 4) er rfl, _, rfl, p, _, _, V.ref a5, rfl, rfl, SqL.of hp, rfl, a5, c 5, v, rfl, Errs.get (j := 5) er rfl, _, rfl, p, _, _, V.ref a6, rfl, rfl, SqL.of hp, rfl, a6, c 6, v, rfl, Errs.get (j := 6) er rfl, (by show 7 ≤ sizeLine; decide), fun p1 hp1 => ?_⟩
    have e1 := Same.new (o := .lst [v, v, v, v, v, v, v]) hp1
    have l1 : (upd H p1 (.lst [v, v, v, v, v, v, v])) p1 = some (.lst [v, v, v, v, v, v, v]) := upd_same
    generalize upd H p1 _ = H1 at e1 l1 ⊢
    have h1 := e1 _ _ hp
    have r1 := Errs.same e1 er
    refine ⟨_, rfl, _, rfl, p, _, _, V.ref a7, rfl, rfl, SqL.of h1, rfl, a7, c 7, v, rfl, Errs.get (j := 7) r1 rfl, _, rfl, p, _, _, V.ref a8, rfl, rfl, SqL.of h1, rfl, a8, c 8, v, rfl, Errs.get (j := 8) r1 rfl, _, rfl, p, _, _, V.ref a9, rfl, rfl, SqL.of h1, rfl, a9, c 9, v, rfl, Errs.get (j := 9) r1 rfl, _, rfl, p, _, _, V.ref a10, rfl, rfl, SqL.of h1, rfl, a10, c 10, v, rfl, Errs.get (j := 10) r1 rfl, _, rfl, p, _, _, V.ref a11, rfl, rfl, SqL.of h1, rfl, a11, c 11, v, rfl, Errs.get (j := 11) r1 rfl, _, rfl, p, _, _, V.ref a12, rfl, rfl, SqL.of h1, rfl, a12, c 12, v, rfl, Errs.get (j := 12) r1 rfl, (by show 6 ≤ sizeLine; decide), fun p2 hp2 => ?_⟩
    have e2 := Same.new (o := .lst [v, v, v, v, v, v]) hp2
    refine ⟨p1, p2, _, _, rfl, rfl, e2 _ _ l1, upd_same, (by show 13 ≤ sizeLine; decide), fun p3 hp3 => ?_⟩
    have e3 := Same.trans e1 (Same.trans e2 (Same.new (o := .lst ([v, v, v, v, v, v, v] ++ [v, v, v, v, v, v])) hp3))
    have l3 : (upd (upd H1 p2 (.lst [v, v, v, v, v, v])) p3 (.lst ([v, v, v, v, v, v, v] ++ [v, v, v, v, v, v]))) p3 = some (.lst ([v, v, v, v, v, v, v] ++ [v, v, v, v, v, v])) := upd_same
    generalize upd (upd H1 p2 _) p3 _ = H3 at e3 l3 ⊢
    have h3 := e3 _ _ hp
    have r3 := Errs.same e3 er
    refine ⟨_, rfl, _, rfl, p, _, _, V.ref a13, rfl, rfl, SqL.of h3, rfl, a13, c 13, v, rfl, Errs.get (j := 13) r3 rfl, _, rfl, p, _, _, V.ref a14, rfl, rfl, SqL.of h3, rfl, a14, c 14, v, rfl, Errs.get (j := 14) r3 rfl, (by show 2 ≤ sizeLine; decide), fun p4 hp4 => ?_⟩
    have e4 := Same.new (o := .lst [v, v]) hp4
    refine ⟨p3, p4, _, _, rfl, rfl, e4 _ _ l3, upd_same, (by show 15 ≤ sizeLine; decide), fun p5 hp5 => ?_⟩
    exact k p5 _ (Same.trans e3 (Same.trans e4 (Same.new hp5))) upd_same
theorem scKin : FnScope ["error", "found"] ["error"] (defScope sKin) := ⟨rfl, rfl, rfl, by decide +kernel, rfl, by decide +kernel, by decide +kernel⟩
theorem ok_kin {f : Addr} {fd : FuncData} (D : Def K mg "_law_kinds" sKin f fd) (T : TxtC K mg c g b) (T0 : Txt0 mg) : FnC P w K mg base 1 f fd ["error"] (spKin K c) := by
  refine fnc_of D.F scKin (fun vs H Q E h => ?_) (fun cdv A outer s H vs Q E p hr h => ?_)
  · obtain ⟨v, a, i, rfl, _⟩ := h
    rfl
  · obtain ⟨v, a, i, rfl, hi, er, k⟩ := h
    refine ⟨_, (pss_cons (ps_set (i := 1) scKin.nd rfl (Or.inl rfl) (pe_lst (pa_cons (pe_callB call_isX (by rfl) T0.isi (by decide +kernel) (pa_cons (pv 0) (pa_cons (pe_glob (v := .ref (c 0)) (by rfl) (T.gl 0 (by decide)) rfl) pa_nil))) (pa_cons (pe_callB call_isX (by rfl) T0.isi (by decide +kernel) (pa_cons (pv 0) (pa_cons (pe_glob (v := .ref (c 1)) (by rfl) (T.gl 1 (by decide)) rfl) pa_nil))) (pa_cons (pe_callB call_isX (by rfl) T0.isi (by decide +kernel) (pa_cons (pv 0) (pa_cons (pe_glob (v := .ref (c 2)) (by rfl) (T.gl 2 (by decide)) rfl) pa_nil))) pa_nil)))))
      (pss_cons (ps_set (i := 1) scKin.nd rfl (Or.inl rfl) (pe_op op_cat (pv 1) (pe_lst (pa_cons (pe_callB call_isX (by rfl) T0.isi (by decide +kernel) (pa_cons (pv 0) (pa_cons (pe_glob (v := .ref (c 3)) (by rfl) (T.gl 3 (by decide)) rfl) pa_nil))) (pa_cons (pe_callB call_isX (by rfl) T0.isi (by decide +kernel) (pa_cons (pv 0) (pa_cons (pe_glob (v := .ref (c 4)) (by rfl) (T.gl 4 (by decide)) rfl) pa_nil))) (pa_cons (pe_callB call_isX (by rfl) T0.isi (by decide +kernel) (pa_cons (pv 0) (pa_cons (pe_glob (v := .ref (c 5)) (by rfl) (T.gl 5 (by decide)) rfl) pa_nil))) pa_nil))))))
      (pss_cons (ps_set (i := 1) scKin.nd rfl (Or.inl rfl) (pe_op op_cat (pv 1) (pe_lst (pa_cons (pe_callB call_isX (by rfl) T0.isi (by decide +kernel) (pa_cons (pv 0) (pa_cons (pe_glob (v := .ref (c 6)) (by rfl) (T.gl 6 (by decide)) rfl) pa_nil))) (pa_cons (pe_callB call_isX (by rfl) T0.isi (by decide +kernel) (pa_cons (pv 0) (pa_cons (pe_glob (v := .ref (c 7)) (by rfl) (T.gl 7 (by decide)) rfl) pa_nil))) (pa_cons (pe_callB call_isX (by rfl) T0.isi (by decide +kernel) (pa_cons (pv 0) (pa_cons (pe_glob (v := .ref (c 8)) (by rfl) (T.gl 8 (by decide)) rfl) pa_nil))) pa_nil))))))
      (pss_cons (ps_set (i := 1) scKin.nd rfl (Or.inl rfl) (pe_op op_cat (pv 1) (pe_lst (pa_cons (pe_callB call_isX (by rfl) T0.isi (by decide +kernel) (pa_cons (pv 0) (pa_cons (pe_glob (v := .ref (c 9)) (by rfl) (T.gl 9 (by decide)) rfl) pa_nil))) (pa_cons (pe_callB call_isX (by rfl) T0.isi (by decide +kernel) (pa_cons (pv 0) (pa_cons (pe_glob (v := .ref (c 10)) (by rfl) (T.gl 10 (by decide)) rfl) pa_nil))) (pa_cons (pe_callB call_isX (by rfl) T0.isi (by decide +kernel) (pa_cons (pv 0) (pa_cons (pe_glob (v := .ref (c 11)) (by rfl) (T.gl 11 (by decide)) rfl) pa_nil))) pa_nil))))))
      (pss_one (ps_ret (pe_op op_cat (pv 1) (pe_lst (pa_cons (pe_callB call_isX (by rfl) T0.isi (by decide +kernel) (pa_cons (pv 0) (pa_cons (pe_glob (v := .ref (c 12)) (by rfl) (T.gl 12 (by decide)) rfl) pa_nil))) (pa_cons (pe_callB call_isX (by rfl) T0.isi (by decide +kernel) (pa_cons (pv 0) (pa_cons (pe_glob (v := .ref (c 13)) (by rfl) (T.gl 13 (by decide)) rfl) pa_nil))) (pa_cons (pe_callB call_isX (by rfl) T0.isi (by decide +kernel) (pa_cons (pv 0) (pa_cons (pe_glob (v := .ref (c 14)) (by rfl) (T.gl 14 (by decide)) rfl) pa_nil))) pa_nil))))))))))), ?_⟩
    refine ⟨_, rfl, a, c i, v, .ref (c 0), .ref (c 0), decide (i = 0), rfl, er, .own _, T.kk i 0 hi (by decide), _, rfl, a, c i, v, .ref (c 1), .ref (c 1), decide (i = 1), rfl, er, .own _, T.kk i 1 hi (by decide), _, rfl, a, c i, v, .ref (c 2), .ref (c 2), decide (i = 2), rfl, er, .own _, T.kk i 2 hi (by decide), (by show 3 ≤ sizeLine; decide), fun p0 hp0 => ?_⟩
    have e0 := Same.new (o := .lst [.bl (decide (i = 0)), .bl (decide (i = 1)), .bl (decide (i = 2))]) hp0
    have l0 : (upd H p0 (.lst [.bl (decide (i = 0)), .bl (decide (i = 1)), .bl (decide (i = 2))])) p0 = some (.lst [.bl (decide (i = 0)), .bl (decide (i = 1)), .bl (decide (i = 2))]) := upd_same
    generalize upd H p0 _ = H0 at e0 l0 ⊢
    have r1 := ErrK.same e0 er
    refine ⟨_, rfl, _, rfl, a, c i, v, .ref (c 3), .ref (c 3), decide (i = 3), rfl, r1, .own _, T.kk i 3 hi (by decide), _, rfl, a, c i, v, .ref (c 4), .ref (c 4), decide (i = 4), rfl, r1, .own _, T.kk i 4 hi (by decide), _, rfl, a, c i, v, .ref (c 5), .ref (c 5), decide (i = 5), rfl, r1, .own _, T.kk i 5 hi (by decide), (by show 3 ≤ sizeLine; decide), fun u1 hu1 => ?_⟩
    have f1 := Same.new (o := .lst [.bl (decide (i = 3)), .bl (decide (i = 4)), .bl (decide (i = 5))]) hu1
    refine ⟨p0, u1, _, _, rfl, rfl, f1 _ _ l0, upd_same, (by show 6 ≤ sizeLine; decide), fun p1 hp1 => ?_⟩
    have e1 := Same.trans e0 (Same.trans f1 (Same.new (o := .lst ([.bl (decide (i = 0)), .bl (decide (i = 1)), .bl (decide (i = 2))] ++ [.bl (decide (i = 3)), .bl (decide (i = 4)), .bl (decide (i = 5))])) hp1))
    have l1 : (upd (upd H0 u1 (.lst [.bl (decide (i = 3)), .bl (decide (i = 4)), .bl (decide (i = 5))])) p1 (.lst ([.bl (decide (i = 0)), .bl (decide (i = 1)), .bl (decide (i = 2))] ++ [.bl (decide (i = 3)), .bl (decide (i = 4)), .bl (decide (i = 5))]))) p1 = some (.lst ([.bl (decide (i = 0)), .bl (decide (i = 1)), .bl (decide (i = 2))] ++ [.bl (decide (i = 3)), .bl (decide (i = 4)), .bl (decide (i = 5))])) := upd_same
    generalize upd (upd H0 u1 _) p1 _ = H1 at e1 l1 ⊢
    have r2 := ErrK.same e1 er
    refine ⟨_, rfl, _, rfl, a, c i, v, .ref (c 6), .ref (c 6), decide (i = 6), rfl, r2, .own _, T.kk i 6 hi (by decide), _, rfl, a, c i, v, .ref (c 7), .ref (c 7), decide (i = 7), rfl, r2, .own _, T.kk i 7 hi (by decide), _, rfl, a, c i, v, .ref (c 8), .ref (c 8), decide (i = 8), rfl, r2, .own _, T.kk i 8 hi (by decide), (by show 3 ≤ sizeLine; decide), fun u2 hu2 => ?_⟩
    have f2 := Same.new (o := .lst [.bl (decide (i = 6)), .bl (decide (i = 7)), .bl (decide (i = 8))]) hu2
    refine ⟨p1, u2, _, _, rfl, rfl, f2 _ _ l1, upd_same, (by show 9 ≤ sizeLine; decide), fun p2 hp2 => ?_⟩
    have e2 := Same.trans e1 (Same.trans f2 (Same.new (o := .lst (([.bl (decide (i = 0)), .bl (decide (i = 1)), .bl (decide (i = 2))] ++ [.bl (decide (i = 3)), .bl (decide (i = 4)), .bl (decide (i = 5))]) ++ [.bl (decide (i = 6)), .bl (decide (i = 7)), .bl (decide (i = 8))])) hp2))
    have l2 : (upd (upd H1 u2 (.lst [.bl (decide (i = 6)), .bl (decide (i = 7)), .bl (decide (i = 8))])) p2 (.lst (([.bl (decide (i = 0)), .bl (decide (i = 1)), .bl (decide (i = 2))] ++ [.bl (decide (i = 3)), .bl (decide (i = 4)), .bl (decide (i = 5))]) ++ [.bl (decide (i = 6)), .bl (decide (i = 7)), .bl (decide (i = 8))]))) p2 = some (.lst (([.bl (decide (i = 0)), .bl (decide (i = 1)), .bl (decide (i = 2))] ++ [.bl (decide (i = 3)), .bl (decide (i = 4)), .bl (decide (i = 5))]) ++ [.bl (decide (i = 6)), .bl (decide (i = 7)), .bl (decide (i = 8))])) := upd_same
    generalize upd (upd H1 u2 _) p2 _ = H2 at e2 l2 ⊢
    have r3 := ErrK.same e2 er
    refine ⟨_, rfl, _, rfl, a, c i, v, .ref (c 9), .ref (c 9), decide (i = 9), rfl, r3, .own _, T.kk i 9 hi (by decide), _, rfl, a, c i, v, .ref (c 10), .ref (c 10), decide (i = 10), rfl, r3, .own _, T.kk i 10 hi (by decide), _, rfl, a, c i, v, .ref (c 11), .ref (c 11), decide (i = 11), rfl, r3, .own _, T.kk i 11 hi (by decide), (by show 3 ≤ sizeLine; decide), fun u3 hu3 => ?_⟩
    have f3 := Same.new (o := .lst [.bl (decide (i = 9)), .bl (decide (i = 10)), .bl (decide (i = 11))]) hu3
    refine ⟨p2, u3, _, _, rfl, rfl, f3 _ _ l2, upd_same, (by show 12 ≤ sizeLine; decide), fun p3 hp3 => ?_⟩
    have e3 := Same.trans e2 (Same.trans f3 (Same.new (o := .lst ((([.bl (decide (i = 0)), .bl (decide (i = 1)), .bl (decide (i = 2))] ++ [.bl (decide (i = 3)), .bl (decide (i = 4)), .bl (decide (i = 5))]) ++ [.bl (decide (i = 6)), .bl (decide (i = 7)), .bl (decide (i = 8))]) ++ [.bl (decide (i = 9)), .bl (decide (i = 10)), .bl (decide (i = 11))])) hp3))
    have l3 : (upd (upd H2 u3 (.lst [.bl (decide (i = 9)), .bl (decide (i = 10)), .bl (decide (i = 11))])) p3 (.lst ((([.bl (decide (i = 0)), .bl (decide (i = 1)), .bl (decide (i = 2))] ++ [.bl (decide (i = 3)), .bl (decide (i = 4)), .bl (decide (i = 5))]) ++ [.bl (decide (i = 6)), .bl (decide (i = 7)), .bl (decide (i = 8))]) ++ [.bl (decide (i = 9)), .bl (decide (i = 10)), .bl (decide (i = 11))]))) p3 = some (.lst ((([.bl (decide (i = 0)), .bl (decide (i = 1)), .bl (decide (i = 2))] ++ [.bl (decide (i = 3)), .bl (decide (i = 4)), .bl (decide (i = 5))]) ++ [.bl (decide (i = 6)), .bl (decide (i = 7)), .bl (decide (i = 8))]) ++ [.bl (decide (i = 9)), .bl (decide (i = 10)), .bl (decide (i = 11))])) := upd_same
    generalize upd (upd H2 u3 _) p3 _ = H3 at e3 l3 ⊢
    have r4 := ErrK.same e3 er
    refine ⟨_, rfl, _, rfl, a, c i, v, .ref (c 12), .ref (c 12), decide (i = 12), rfl, r4, .own _, T.kk i 12 hi (by decide), _, rfl, a, c i, v, .ref (c 13), .ref (c 13), decide (i = 13), rfl, r4, .own _, T.kk i 13 hi (by decide), _, rfl, a, c i, v, .ref (c 14), .ref (c 14), decide (i = 14), rfl, r4, .own _, T.kk i 14 hi (by decide), (by show 3 ≤ sizeLine; decide), fun u4 hu4 => ?_⟩
    have f4 := Same.new (o := .lst [.bl (decide (i = 12)), .bl (decide (i = 13)), .bl (decide (i = 14))]) hu4
    refine ⟨p3, u4, _, _, rfl, rfl, f4 _ _ l3, upd_same, (by show 15 ≤ sizeLine; decide), fun p4 hp4 => ?_⟩
    have e4 := Same.trans e3 (Same.trans f4 (Same.new (o := .lst (((([.bl (decide (i = 0)), .bl (decide (i = 1)), .bl (decide (i = 2))] ++ [.bl (decide (i = 3)), .bl (decide (i = 4)), .bl (decide (i = 5))]) ++ [.bl (decide (i = 6)), .bl (decide (i = 7)), .bl (decide (i = 8))]) ++ [.bl (decide (i = 9)), .bl (decide (i = 10)), .bl (decide (i = 11))]) ++ [.bl (decide (i = 12)), .bl (decide (i = 13)), .bl (decide (i = 14))])) hp4))
    have l4 : (upd (upd H3 u4 (.lst [.bl (decide (i = 12)), .bl (decide (i = 13)), .bl (decide (i = 14))])) p4 (.lst (((([.bl (decide (i = 0)), .bl (decide (i = 1)), .bl (decide (i = 2))] ++ [.bl (decide (i = 3)), .bl (decide (i = 4)), .bl (decide (i = 5))]) ++ [.bl (decide (i = 6)), .bl (decide (i = 7)), .bl (decide (i = 8))]) ++ [.bl (decide (i = 9)), .bl (decide (i = 10)), .bl (decide (i = 11))]) ++ [.bl (decide (i = 12)), .bl (decide (i = 13)), .bl (decide (i = 14))]))) p4 = some (.lst (((([.bl (decide (i = 0)), .bl (decide (i = 1)), .bl (decide (i = 2))] ++ [.bl (decide (i = 3)), .bl (decide (i = 4)), .bl (decide (i = 5))]) ++ [.bl (decide (i = 6)), .bl (decide (i = 7)), .bl (decide (i = 8))]) ++ [.bl (decide (i = 9)), .bl (decide (i = 10)), .bl (decide (i = 11))]) ++ [.bl (decide (i = 12)), .bl (decide (i = 13)), .bl (decide (i = 14))])) := upd_same
    generalize upd (upd H3 u4 _) p4 _ = H4 at e4 l4 ⊢
    exact k p4 H4 e4 l4
end
end T00
set_option Elab.async false
set_option linter.all false
set_option maxRecDepth 100000
set_option maxHeartbeats 4000000
namespace T00
open PySem PySem.Spec PyProof.Rows L2 XR
open PySem.XK (ExF)
structure TxtB (mg : Str → Option Value) : Prop where
  ex : mg "Exception" = none
  ve : mg "ValueError" = none
  te : mg "TypeError" = none
  le : mg "LookupError" = none
  ae : mg "ArithmeticError" = none
  re : mg "RuntimeError" = none
  at_ : mg "AttributeError" = none
abbrev cls6 : List V := [.ty "ValueError", .ty "TypeError", .ty "LookupError", .ty "ArithmeticError", .ty "RuntimeError", .ty "AttributeError"]
theorem pc6 : Paired ClsV cls6 [.type "ValueError", .type "TypeError", .type "LookupError", .type "ArithmeticError", .type "RuntimeError", .type "AttributeError"] :=
  .cons (.ty _) (.cons (.ty _) (.cons (.ty _) (.cons (.ty _) (.cons (.ty _) (.cons (.ty _) .nil)))))
theorem dpBools {K : PySem.W.Frag} {H : Hp} : ∀ bs : List Bool, DpAll K H (bs.map V.bl) (bs.map PyData.bool)
  | [] => .nil
  | b :: r => .cons (.bl b) (dpBools r)
theorem shBools : ∀ bs : List Bool, SeqAt.shaped (.list (bs.map PyData.bool)) = true := by
  intro bs
  have h1 : ∀ l : List Bool, PyData.depthAll (l.map PyData.bool) = 0 := fun l => by
    induction l with
    | nil => rfl
    | cons a r ih => simp [PyData.depthAll, PyData.depth, ih]
  have h2 : ∀ l : List Bool, PyData.canLayAll0 (l.map PyData.bool) = true := fun l => by
    induction l with
    | nil => rfl
    | cons a r ih => simp [PyData.canLayAll0, PyData.canLay0, ih]
  simp [SeqAt.shaped, PyData.depth, PyData.canLay0, h1, h2]
theorem dec_int (i j : Nat) : decide (V.int (0 + (j : Int)) = V.int (i : Int)) = decide (i = j) := by
  by_cases h : i = j
  · subst h
    rw [decide_eq_true (rfl : i = i), decide_eq_true (by rw [Int.zero_add])]
  · rw [decide_eq_false h, decide_eq_false]
    intro z
    injection z with z
    omega
def upto (i n : Nat) : List Bool := (List.range n).map fun j => decide (i = j)
theorem upto_succ (i n : Nat) : (upto i (n + 1)).map V.bl = (upto i n).map V.bl ++ [V.bl (decide (i = n))] := by
  unfold upto
  rw [List.range_succ, List.map_append, List.map_append]
  rfl
def spOwn (K : PySem.W.Frag) (c : Nat → Addr) : Sp := fun vs H Q _ => ∃ (v : V) (a : Addr) (i : Nat), vs = [.int (i : Int), .ref a] ∧ i < 15 ∧ ErrK K H a (c i) v ∧ ∀ H', Same H H' → Q (.bl true) H'
section
variable {P : Program} {w : World} {K : PySem.W.Frag} {mg : Str → Option Value} {base : Heap} {c g : Nat → Addr} {b : Addr}
abbrev nOwn : List Str := ["at", "error", "place"]
theorem scOwn : FnScope nOwn ["at", "error"] (defScope sOwn) := ⟨rfl, rfl, rfl, by decide +kernel, rfl, by decide +kernel, by decide +kernel⟩
theorem ok_own {f fK : Addr} {fd fdK : FuncData} (D : Def K mg "_law_is_own" sOwn f fd) (T : TxtC K mg c g b) (T0 : Txt0 mg) (TB : TxtB mg) (Kd : Def K mg "_law_kinds" sKin fK fdK) : FnOk P w K mg base CX0 2 f fd ["at", "error"] (spOwn K c) := by
  have GK : FnOk P w K mg base CX0 1 fK fdK ["error"] (spKin K c) := (ok_kin Kd T T0).ok
  have bK : Binds K fdK ["error"] [] := Kd.F.binds fun _ _ _ _ _ _ us hl => match us, hl with | [_], _ => rfl
  refine D.F.ok scOwn (fun vs H Q E h => ?_) (fun cdv A outer s H vs Q E hr h => ?_)
  · obtain ⟨v, a, i, rfl, _⟩ := h
    rfl
  · obtain ⟨v, a, i, rfl, hi, er, k⟩ := h
    refine ⟨_, pss_cons (ps_if (PW.pt (pw_or (pt_not (pt_val (pe_callB call_isX (by rfl) T0.isi (by decide +kernel) (pa_cons (pv 1) (pa_cons (pe_glob (v := .ref b) (by rfl) T.gb rfl) pa_nil)))))
        (pw_or1 (pt_not (pt_val (pe_callB call_isX (by rfl) T0.isi (by decide +kernel) (pa_cons (pv 1) (pa_cons (pe_bltn (v := .ty "Exception") (by rfl) TB.ex (by decide +kernel) rfl) pa_nil)))))))) (pss_one (ps_ret pe_bl)) pss_nil)
      (pss_cons (ps_if (pt_val (pe_callB call_isXT (by rfl) T0.isi (by decide +kernel) (pa_cons (pv 1) (pa_cons (pe_tup (pa_cons (pe_bltn (v := .ty "ValueError") (by rfl) TB.ve (by decide +kernel) rfl) (pa_cons (pe_bltn (v := .ty "TypeError") (by rfl) TB.te (by decide +kernel) rfl)
          (pa_cons (pe_bltn (v := .ty "LookupError") (by rfl) TB.le (by decide +kernel) rfl) (pa_cons (pe_bltn (v := .ty "ArithmeticError") (by rfl) TB.ae (by decide +kernel) rfl) (pa_cons (pe_bltn (v := .ty "RuntimeError") (by rfl) TB.re (by decide +kernel) rfl)
          (pa_cons (pe_bltn (v := .ty "AttributeError") (by rfl) TB.at_ (by decide +kernel) rfl) pa_nil))))))) pa_nil)))) (pss_one (ps_ret pe_bl)) pss_nil)
      (pss_one (ps_ret (pe_cmpR (op_eqD hr.units) (pe_call GK hr (by rfl) Kd.g Kd.F.kp bK .nil pass0 (pa_cons (pv 1) pa_nil))
        (pe_lc (own := [("place", 2)]) (g := gName 2) (by rfl) scOwn.nd (pi_range1 (by rfl) T0.range (pa_cons pe_int pa_nil))
          (blkOk_by (own := [("place", 2)]) (N := nOwn) (sc := defScope sOwn) (by decide +kernel)) (fun _ _ _ _ _ => pg_name (i := 2) scOwn.nd rfl (Or.inl rfl)) (fun _ _ _ _ _ => pts_nil)
          (fun _ _ _ _ _ => pe_cmpR op_eq (pv 2) (pv 0) (nomark _))) (nomark _))))), ?_⟩
    refine ⟨_, rfl, a, c i, v, .ref b, .ref b, true, rfl, er, .own _, T.kb i hi, _, rfl, iteF ?_⟩
    refine ⟨_, rfl, a, c i, v, .ty "Exception", .type "Exception", true, rfl, er, .ty _, T.ke i hi, _, rfl, iteF ?_⟩
    refine ⟨_, rfl, (by show 6 ≤ sizeLine; decide), fun p hp => ?_⟩
    have e1 := Same.new (o := .tup cls6) hp
    refine ⟨a, c i, p, v, cls6, _, false, rfl, ErrK.same e1 er, upd_same, pc6, T.kn i hi, _, rfl, iteF ?_⟩
    refine ⟨_, rfl, v, a, i, rfl, hi, ErrK.same e1 er, fun q H2 e2 hq => ?_⟩
    refine ⟨15, rfl, by decide, by decide, fun D hD => ?_⟩
    refine lc_range (lo := 0) (n := 15) (fun j H' => Same H2 H' ∧ H' D = some (.lst ((upto i j).map V.bl))) ⟨Same.new hD, upd_same⟩ ?_ ?_
    · rintro j H3 hj ⟨e3, h3⟩
      refine ⟨rfl, ?_⟩
      unfold tYes
      dsimp only
      rw [if_pos rfl]
      refine ⟨_, rfl, _, rfl, rfl, _, h3, small1000 ?_, ?_, ?_⟩
      · rw [List.length_map, upto, List.length_map, List.length_range]
        omega
      · intro b2 o z
        rw [upd_ne (ne_of_none z hD)]
        exact e3 b2 o z
      · rw [upd_same, upto_succ, dec_int]
    · rintro H3 ⟨e3, h3⟩
      refine ⟨_, _, .lst (SqL.of (e3 _ _ hq)) (dpBools (isBs i)), .lst (SqL.of h3) (dpBools (upto i 15)), shBools _, shBools _, ?_⟩
      rw [show PyData.eqv (.list ((isBs i).map PyData.bool)) (.list ((upto i 15).map PyData.bool)) = true from SeqAt.eqv_refl _ (SeqAt.canLay_of_shaped (shBools (upto i 15)))]
      exact k _ (Same.trans e1 (Same.trans e2 e3))
end
end T00
set_option Elab.async false
set_option linter.all false
set_option maxRecDepth 100000
set_option maxHeartbeats 4000000
namespace T00
open PySem PySem.Spec PyProof.Rows L2 XR
open PySem.XK (ExF)
abbrev sRai : Stmt := top 28
abbrev sCau : Stmt := top 29
abbrev sBas : Stmt := top 30
theorem dec_way {way : Nat} {n : Int} (c : decide (V.int (way : Int) = V.int n) = true) : (way : Int) = n := by
  have z := of_decide_eq_true c
  injection z
theorem dec_not {way : Nat} {n : Int} (c : ¬ decide (V.int (way : Int) = V.int n) = true) : ¬ (way : Int) = n := fun z => c (decide_eq_true (by rw [z]))
def spRai (c : Nat → Addr) : Sp := fun vs H Q E => ∃ (way : Nat) (v : V), vs = [.int (way : Int), v] ∧ way < 15 ∧ ∀ d, H d = none → E (.ref (c way)) (some d) (upd H d (.xd [(("thing" : Str), v)]))
def spCau : Sp := fun vs H Q _ => ∃ (way : Nat) (v : V), vs = [.int (way : Int), v] ∧ way < 15 ∧ ∀ (p : Addr) (H' : Hp), Same H H' → H' p = some (.tup [.int (way : Int), v]) → Q (.ref p) H'
def spBas : Sp := fun vs H Q _ => ∃ (way : Nat) (v : V), vs = [.int (way : Int), v] ∧ way < 15 ∧ ∀ (p : Addr) (H' : Hp), Same H H' → H' p = some (.lst ((isBs way).map V.bl)) → Q (.ref p) H'
section
variable {P : Program} {w : World} {K : PySem.W.Frag} {mg : Str → Option Value} {base : Heap} {c g : Nat → Addr} {b : Addr}
theorem scRai : FnScope ["way", "it"] ["way", "it"] (defScope sRai) := ⟨rfl, rfl, rfl, by decide +kernel, rfl, by decide +kernel, by decide +kernel⟩
theorem ok_rai {f : Addr} {fd : FuncData} (D : Def K mg "_law_raise" sRai f fd) (T : TxtC K mg c g b) : FnOk P w K mg base (L2.CX P w) 1 f fd ["way", "it"] (spRai c) := by
  refine D.F.okX scRai (fun vs H Q E h => ?_) (fun cdv A outer s H vs Q E hr h => ?_)
  · obtain ⟨way, v, rfl, _⟩ := h
    rfl
  · obtain ⟨way, v, rfl, hw, k⟩ := h
    refine ⟨_, (pss_cons (ps_if (pt_cmpR op_eq (pv 0) pe_int (nomark _)) (pss_one (ps_raise rfl (takes_of rfl rfl rfl rfl) (pmk_exv (T.ex 0 (by decide)) hr (by rfl) (T.gl 0 (by decide)) (pa_cons (pv 1) pa_nil)))) pss_nil)
      (pss_cons (ps_if (pt_cmpR op_eq (pv 0) pe_int (nomark _)) (pss_one (ps_raise rfl (takes_of rfl rfl rfl rfl) (pmk_exvK (T.ex 1 (by decide)) hr (by rfl) (T.gl 1 (by decide)) (pk_cons (pv 1) pk_nil)))) pss_nil)
      (pss_cons (ps_if (pt_cmpR op_eq (pv 0) pe_int (nomark _)) (pss_one (ps_raise rfl (takes_of rfl rfl rfl rfl) (pmk_exv (T.ex 2 (by decide)) hr (by rfl) (T.gl 2 (by decide)) (pa_cons (pv 1) pa_nil)))) pss_nil)
      (pss_cons (ps_if (pt_cmpR op_eq (pv 0) pe_int (nomark _)) (pss_one (ps_raise rfl (takes_of rfl rfl rfl rfl) (pmk_exvK (T.ex 3 (by decide)) hr (by rfl) (T.gl 3 (by decide)) (pk_cons (pv 1) pk_nil)))) pss_nil)
      (pss_cons (ps_if (pt_cmpR op_eq (pv 0) pe_int (nomark _)) (pss_one (ps_raise rfl (takes_of rfl rfl rfl rfl) (pmk_exv (T.ex 4 (by decide)) hr (by rfl) (T.gl 4 (by decide)) (pa_cons (pv 1) pa_nil)))) pss_nil)
      (pss_cons (ps_if (pt_cmpR op_eq (pv 0) pe_int (nomark _)) (pss_one (ps_raise rfl (takes_of rfl rfl rfl rfl) (pmk_exvK (T.ex 5 (by decide)) hr (by rfl) (T.gl 5 (by decide)) (pk_cons (pv 1) pk_nil)))) pss_nil)
      (pss_cons (ps_if (pt_cmpR op_eq (pv 0) pe_int (nomark _)) (pss_one (ps_raise rfl (takes_of rfl rfl rfl rfl) (pmk_exv (T.ex 6 (by decide)) hr (by rfl) (T.gl 6 (by decide)) (pa_cons (pv 1) pa_nil)))) pss_nil)
      (pss_cons (ps_if (pt_cmpR op_eq (pv 0) pe_int (nomark _)) (pss_one (ps_raise rfl (takes_of rfl rfl rfl rfl) (pmk_exvK (T.ex 7 (by decide)) hr (by rfl) (T.gl 7 (by decide)) (pk_cons (pv 1) pk_nil)))) pss_nil)
      (pss_cons (ps_if (pt_cmpR op_eq (pv 0) pe_int (nomark _)) (pss_one (ps_raise rfl (takes_of rfl rfl rfl rfl) (pmk_exv (T.ex 8 (by decide)) hr (by rfl) (T.gl 8 (by decide)) (pa_cons (pv 1) pa_nil)))) pss_nil)
      (pss_cons (ps_if (pt_cmpR op_eq (pv 0) pe_int (nomark _)) (pss_one (ps_raise rfl (takes_of rfl rfl rfl rfl) (pmk_exvK (T.ex 9 (by decide)) hr (by rfl) (T.gl 9 (by decide)) (pk_cons (pv 1) pk_nil)))) pss_nil)
      (pss_cons (ps_if (pt_cmpR op_eq (pv 0) pe_int (nomark _)) (pss_one (ps_raise rfl (takes_of rfl rfl rfl rfl) (pmk_exv (T.ex 10 (by decide)) hr (by rfl) (T.gl 10 (by decide)) (pa_cons (pv 1) pa_nil)))) pss_nil)
      (pss_cons (ps_if (pt_cmpR op_eq (pv 0) pe_int (nomark _)) (pss_one (ps_raise rfl (takes_of rfl rfl rfl rfl) (pmk_exvK (T.ex 11 (by decide)) hr (by rfl) (T.gl 11 (by decide)) (pk_cons (pv 1) pk_nil)))) pss_nil)
      (pss_cons (ps_if (pt_cmpR op_eq (pv 0) pe_int (nomark _)) (pss_one (ps_raise rfl (takes_of rfl rfl rfl rfl) (pmk_exv (T.ex 12 (by decide)) hr (by rfl) (T.gl 12 (by decide)) (pa_cons (pv 1) pa_nil)))) pss_nil)
      (pss_cons (ps_if (pt_cmpR op_eq (pv 0) pe_int (nomark _)) (pss_one (ps_raise rfl (takes_of rfl rfl rfl rfl) (pmk_exvK (T.ex 13 (by decide)) hr (by rfl) (T.gl 13 (by decide)) (pk_cons (pv 1) pk_nil)))) pss_nil)
      (pss_one (ps_raise rfl (takes_of rfl rfl rfl rfl) (pmk_exv (T.ex 14 (by decide)) hr (by rfl) (T.gl 14 (by decide)) (pa_cons (pv 1) pa_nil)))))))))))))))))), ?_⟩
    refine ⟨_, rfl, rfl, _, rfl, ite2 (fun q => ?_) (fun q0 => ?_)⟩
    · obtain rfl : way = 0 := by
        have z := dec_way q
        omega
      exact ⟨_, rfl, v, rfl, k⟩
    replace q0 := dec_not q0
    refine ⟨_, rfl, rfl, _, rfl, ite2 (fun q => ?_) (fun q1 => ?_)⟩
    · obtain rfl : way = 1 := by
        have z := dec_way q
        omega
      exact ⟨_, rfl, v, rfl, k⟩
    replace q1 := dec_not q1
    refine ⟨_, rfl, rfl, _, rfl, ite2 (fun q => ?_) (fun q2 => ?_)⟩
    · obtain rfl : way = 2 := by
        have z := dec_way q
        omega
      exact ⟨_, rfl, v, rfl, k⟩
    replace q2 := dec_not q2
    refine ⟨_, rfl, rfl, _, rfl, ite2 (fun q => ?_) (fun q3 => ?_)⟩
    · obtain rfl : way = 3 := by
        have z := dec_way q
        omega
      exact ⟨_, rfl, v, rfl, k⟩
    replace q3 := dec_not q3
    refine ⟨_, rfl, rfl, _, rfl, ite2 (fun q => ?_) (fun q4 => ?_)⟩
    · obtain rfl : way = 4 := by
        have z := dec_way q
        omega
      exact ⟨_, rfl, v, rfl, k⟩
    replace q4 := dec_not q4
    refine ⟨_, rfl, rfl, _, rfl, ite2 (fun q => ?_) (fun q5 => ?_)⟩
    · obtain rfl : way = 5 := by
        have z := dec_way q
        omega
      exact ⟨_, rfl, v, rfl, k⟩
    replace q5 := dec_not q5
    refine ⟨_, rfl, rfl, _, rfl, ite2 (fun q => ?_) (fun q6 => ?_)⟩
    · obtain rfl : way = 6 := by
        have z := dec_way q
        omega
      exact ⟨_, rfl, v, rfl, k⟩
    replace q6 := dec_not q6
    refine ⟨_, rfl, rfl, _, rfl, ite2 (fun q => ?_) (fun q7 => ?_)⟩
    · obtain rfl : way = 7 := by
        have z := dec_way q
        omega
      exact ⟨_, rfl, v, rfl, k⟩
    replace q7 := dec_not q7
    refine ⟨_, rfl, rfl, _, rfl, ite2 (fun q => ?_) (fun q8 => ?_)⟩
    · obtain rfl : way = 8 := by
        have z := dec_way q
        omega
      exact ⟨_, rfl, v, rfl, k⟩
    replace q8 := dec_not q8
    refine ⟨_, rfl, rfl, _, rfl, ite2 (fun q => ?_) (fun q9 => ?_)⟩
    · obtain rfl : way = 9 := by
        have z := dec_way q
        omega
      exact ⟨_, rfl, v, rfl, k⟩
    replace q9 := dec_not q9
    refine ⟨_, rfl, rfl, _, rfl, ite2 (fun q => ?_) (fun q10 => ?_)⟩
    · obtain rfl : way = 10 := by
        have z := dec_way q
        omega
      exact ⟨_, rfl, v, rfl, k⟩
    replace q10 := dec_not q10
    refine ⟨_, rfl, rfl, _, rfl, ite2 (fun q => ?_) (fun q11 => ?_)⟩
    · obtain rfl : way = 11 := by
        have z := dec_way q
        omega
      exact ⟨_, rfl, v, rfl, k⟩
    replace q11 := dec_not q11
    refine ⟨_, rfl, rfl, _, rfl, ite2 (fun q => ?_) (fun q12 => ?_)⟩
    · obtain rfl : way = 12 := by
        have z := dec_way q
        omega
      exact ⟨_, rfl, v, rfl, k⟩
    replace q12 := dec_not q12
    refine ⟨_, rfl, rfl, _, rfl, ite2 (fun q => ?_) (fun q13 => ?_)⟩
    · obtain rfl : way = 13 := by
        have z := dec_way q
        omega
      exact ⟨_, rfl, v, rfl, k⟩
    replace q13 := dec_not q13
    obtain rfl : way = 14 := by omega
    exact ⟨_, rfl, v, rfl, k⟩
theorem scCau : FnScope ["way", "it", "e"] ["way", "it"] (defScope sCau) := ⟨rfl, rfl, rfl, by decide +kernel, rfl, by decide +kernel, by decide +kernel⟩
def tsC (K : PySem.W.Frag) (n : Int) : Addr → Value → Option Addr → TS := fun a cls d => tRet (tTup (tCons (tC (.int n)) (tCons (tSf K a cls d (tVar 2)) tNil)))
theorem ok_cau {f fR : Addr} {fd fdR : FuncData} (D : Def K mg "_law_caught" sCau f fd) (T : TxtC K mg c g b) (R : Def K mg "_law_raise" sRai fR fdR) : FnOk P w K mg base CX0 2 f fd ["way", "it"] spCau := by
  have GR : FnOk P w K mg base (L2.CX P w) 1 fR fdR ["way", "it"] (spRai c) := ok_rai R T
  have bR : Binds K fdR ["way", "it"] [] := R.F.binds fun _ _ _ _ _ _ us hl => match us, hl with | [_, _], _ => rfl
  refine D.F.ok scCau (fun vs H Q E h => ?_) (fun cdv A outer s H vs Q E hr h => ?_)
  · obtain ⟨way, v, rfl, _⟩ := h
    rfl
  · obtain ⟨way, v, rfl, hw, k⟩ := h
    refine ⟨_, pss_cons (ps_try_ma (i := 2) (n := "e") (tb := fun W => tDrop (tCallS (spRai c) (WE W) (tCons (tVar 0) (tCons (tVar 1) tNil)))) (Wout := fun _ _ _ _ => False)
        (l := [(.ref (c 7), tsC K 7), (.ref (c 0), tsC K 0), (.ref (c 11), tsC K 11), (.ref (c 3), tsC K 3), (.ref (c 14), tsC K 14), (.ref (c 1), tsC K 1), (.ref (c 9), tsC K 9), (.ref (c 5), tsC K 5), (.ref (c 13), tsC K 13), (.ref (c 2), tsC K 2), (.ref (c 12), tsC K 12), (.ref (c 4), tsC K 4), (.ref (c 8), tsC K 8), (.ref (c 6), tsC K 6), (.ref (c 10), tsC K 10)]) rfl rfl scCau.nd rfl rfl takes0
        (fun W pn xe tk _ => pss_one (ps_expr (by exact (pe_callS GR hr (by rfl) R.g R.F.kp bR (fun σ => passAt tk σ) (by exact (pa_cons (pv 0) (pa_cons (pv 1) pa_nil)))))))
        (HdA.cons ⟨rfl, by decide, .inl (T.gl 7 (by decide))⟩ (fun a oe cls d pn hz hf nB => pss_one (ps_ret (pe_tup (pa_cons pe_int (pa_cons (pe_sf hz hf (pv 2)) pa_nil)))))
        (HdA.cons ⟨rfl, by decide, .inl (T.gl 0 (by decide))⟩ (fun a oe cls d pn hz hf nB => pss_one (ps_ret (pe_tup (pa_cons pe_int (pa_cons (pe_sf hz hf (pv 2)) pa_nil)))))
        (HdA.cons ⟨rfl, by decide, .inl (T.gl 11 (by decide))⟩ (fun a oe cls d pn hz hf nB => pss_one (ps_ret (pe_tup (pa_cons pe_int (pa_cons (pe_sf hz hf (pv 2)) pa_nil)))))
        (HdA.cons ⟨rfl, by decide, .inl (T.gl 3 (by decide))⟩ (fun a oe cls d pn hz hf nB => pss_one (ps_ret (pe_tup (pa_cons pe_int (pa_cons (pe_sf hz hf (pv 2)) pa_nil)))))
        (HdA.cons ⟨rfl, by decide, .inl (T.gl 14 (by decide))⟩ (fun a oe cls d pn hz hf nB => pss_one (ps_ret (pe_tup (pa_cons pe_int (pa_cons (pe_sf hz hf (pv 2)) pa_nil)))))
        (HdA.cons ⟨rfl, by decide, .inl (T.gl 1 (by decide))⟩ (fun a oe cls d pn hz hf nB => pss_one (ps_ret (pe_tup (pa_cons pe_int (pa_cons (pe_sf hz hf (pv 2)) pa_nil)))))
        (HdA.cons ⟨rfl, by decide, .inl (T.gl 9 (by decide))⟩ (fun a oe cls d pn hz hf nB => pss_one (ps_ret (pe_tup (pa_cons pe_int (pa_cons (pe_sf hz hf (pv 2)) pa_nil)))))
        (HdA.cons ⟨rfl, by decide, .inl (T.gl 5 (by decide))⟩ (fun a oe cls d pn hz hf nB => pss_one (ps_ret (pe_tup (pa_cons pe_int (pa_cons (pe_sf hz hf (pv 2)) pa_nil)))))
        (HdA.cons ⟨rfl, by decide, .inl (T.gl 13 (by decide))⟩ (fun a oe cls d pn hz hf nB => pss_one (ps_ret (pe_tup (pa_cons pe_int (pa_cons (pe_sf hz hf (pv 2)) pa_nil)))))
        (HdA.cons ⟨rfl, by decide, .inl (T.gl 2 (by decide))⟩ (fun a oe cls d pn hz hf nB => pss_one (ps_ret (pe_tup (pa_cons pe_int (pa_cons (pe_sf hz hf (pv 2)) pa_nil)))))
        (HdA.cons ⟨rfl, by decide, .inl (T.gl 12 (by decide))⟩ (fun a oe cls d pn hz hf nB => pss_one (ps_ret (pe_tup (pa_cons pe_int (pa_cons (pe_sf hz hf (pv 2)) pa_nil)))))
        (HdA.cons ⟨rfl, by decide, .inl (T.gl 4 (by decide))⟩ (fun a oe cls d pn hz hf nB => pss_one (ps_ret (pe_tup (pa_cons pe_int (pa_cons (pe_sf hz hf (pv 2)) pa_nil)))))
        (HdA.cons ⟨rfl, by decide, .inl (T.gl 8 (by decide))⟩ (fun a oe cls d pn hz hf nB => pss_one (ps_ret (pe_tup (pa_cons pe_int (pa_cons (pe_sf hz hf (pv 2)) pa_nil)))))
        (HdA.cons ⟨rfl, by decide, .inl (T.gl 6 (by decide))⟩ (fun a oe cls d pn hz hf nB => pss_one (ps_ret (pe_tup (pa_cons pe_int (pa_cons (pe_sf hz hf (pv 2)) pa_nil)))))
        (HdA.cons ⟨rfl, by decide, .inl (T.gl 10 (by decide))⟩ (fun a oe cls d pn hz hf nB => pss_one (ps_ret (pe_tup (pa_cons pe_int (pa_cons (pe_sf hz hf (pv 2)) pa_nil)))))
        HdA.nil))))))))))))))))
      (pss_one (ps_ret (pe_tup (pa_cons pe_int (pa_cons pe_non pa_nil))))), ?_⟩
    refine ⟨_, rfl, _, rfl, way, v, rfl, hw, fun d hd => ?_⟩
    have e1 := Same.new (o := .xd [(("thing" : Str), v)]) hd
    refine ⟨_, T.xx way 7 hw (by decide), fun q a ha => ?_, fun q7 => ?_⟩
    · obtain rfl : way = 7 := of_decide_eq_true q
      refine ⟨_, rfl, rfl, c 7, g 7, d, v, rfl, rfl, T.ex 7 (by decide), upd_same, (by show 2 ≤ sizeLine; decide), fun p hp => ?_⟩
      exact k p _ (Same.trans e1 (Same.new hp)) upd_same
    replace q7 := of_decide_eq_false q7
    refine ⟨_, T.xx way 0 hw (by decide), fun q a ha => ?_, fun q0 => ?_⟩
    · obtain rfl : way = 0 := of_decide_eq_true q
      refine ⟨_, rfl, rfl, c 0, g 0, d, v, rfl, rfl, T.ex 0 (by decide), upd_same, (by show 2 ≤ sizeLine; decide), fun p hp => ?_⟩
      exact k p _ (Same.trans e1 (Same.new hp)) upd_same
    replace q0 := of_decide_eq_false q0
    refine ⟨_, T.xx way 11 hw (by decide), fun q a ha => ?_, fun q11 => ?_⟩
    · obtain rfl : way = 11 := of_decide_eq_true q
      refine ⟨_, rfl, rfl, c 11, g 11, d, v, rfl, rfl, T.ex 11 (by decide), upd_same, (by show 2 ≤ sizeLine; decide), fun p hp => ?_⟩
      exact k p _ (Same.trans e1 (Same.new hp)) upd_same
    replace q11 := of_decide_eq_false q11
    refine ⟨_, T.xx way 3 hw (by decide), fun q a ha => ?_, fun q3 => ?_⟩
    · obtain rfl : way = 3 := of_decide_eq_true q
      refine ⟨_, rfl, rfl, c 3, g 3, d, v, rfl, rfl, T.ex 3 (by decide), upd_same, (by show 2 ≤ sizeLine; decide), fun p hp => ?_⟩
      exact k p _ (Same.trans e1 (Same.new hp)) upd_same
    replace q3 := of_decide_eq_false q3
    refine ⟨_, T.xx way 14 hw (by decide), fun q a ha => ?_, fun q14 => ?_⟩
    · obtain rfl : way = 14 := of_decide_eq_true q
      refine ⟨_, rfl, rfl, c 14, g 14, d, v, rfl, rfl, T.ex 14 (by decide), upd_same, (by show 2 ≤ sizeLine; decide), fun p hp => ?_⟩
      exact k p _ (Same.trans e1 (Same.new hp)) upd_same
    replace q14 := of_decide_eq_false q14
    refine ⟨_, T.xx way 1 hw (by decide), fun q a ha => ?_, fun q1 => ?_⟩
    · obtain rfl : way = 1 := of_decide_eq_true q
      refine ⟨_, rfl, rfl, c 1, g 1, d, v, rfl, rfl, T.ex 1 (by decide), upd_same, (by show 2 ≤ sizeLine; decide), fun p hp => ?_⟩
      exact k p _ (Same.trans e1 (Same.new hp)) upd_same
    replace q1 := of_decide_eq_false q1
    refine ⟨_, T.xx way 9 hw (by decide), fun q a ha => ?_, fun q9 => ?_⟩
    · obtain rfl : way = 9 := of_decide_eq_true q
      refine ⟨_, rfl, rfl, c 9, g 9, d, v, rfl, rfl, T.ex 9 (by decide), upd_same, (by show 2 ≤ sizeLine; decide), fun p hp => ?_⟩
      exact k p _ (Same.trans e1 (Same.new hp)) upd_same
    replace q9 := of_decide_eq_false q9
    refine ⟨_, T.xx way 5 hw (by decide), fun q a ha => ?_, fun q5 => ?_⟩
    · obtain rfl : way = 5 := of_decide_eq_true q
      refine ⟨_, rfl, rfl, c 5, g 5, d, v, rfl, rfl, T.ex 5 (by decide), upd_same, (by show 2 ≤ sizeLine; decide), fun p hp => ?_⟩
      exact k p _ (Same.trans e1 (Same.new hp)) upd_same
    replace q5 := of_decide_eq_false q5
    refine ⟨_, T.xx way 13 hw (by decide), fun q a ha => ?_, fun q13 => ?_⟩
    · obtain rfl : way = 13 := of_decide_eq_true q
      refine ⟨_, rfl, rfl, c 13, g 13, d, v, rfl, rfl, T.ex 13 (by decide), upd_same, (by show 2 ≤ sizeLine; decide), fun p hp => ?_⟩
      exact k p _ (Same.trans e1 (Same.new hp)) upd_same
    replace q13 := of_decide_eq_false q13
    refine ⟨_, T.xx way 2 hw (by decide), fun q a ha => ?_, fun q2 => ?_⟩
    · obtain rfl : way = 2 := of_decide_eq_true q
      refine ⟨_, rfl, rfl, c 2, g 2, d, v, rfl, rfl, T.ex 2 (by decide), upd_same, (by show 2 ≤ sizeLine; decide), fun p hp => ?_⟩
      exact k p _ (Same.trans e1 (Same.new hp)) upd_same
    replace q2 := of_decide_eq_false q2
    refine ⟨_, T.xx way 12 hw (by decide), fun q a ha => ?_, fun q12 => ?_⟩
    · obtain rfl : way = 12 := of_decide_eq_true q
      refine ⟨_, rfl, rfl, c 12, g 12, d, v, rfl, rfl, T.ex 12 (by decide), upd_same, (by show 2 ≤ sizeLine; decide), fun p hp => ?_⟩
      exact k p _ (Same.trans e1 (Same.new hp)) upd_same
    replace q12 := of_decide_eq_false q12
    refine ⟨_, T.xx way 4 hw (by decide), fun q a ha => ?_, fun q4 => ?_⟩
    · obtain rfl : way = 4 := of_decide_eq_true q
      refine ⟨_, rfl, rfl, c 4, g 4, d, v, rfl, rfl, T.ex 4 (by decide), upd_same, (by show 2 ≤ sizeLine; decide), fun p hp => ?_⟩
      exact k p _ (Same.trans e1 (Same.new hp)) upd_same
    replace q4 := of_decide_eq_false q4
    refine ⟨_, T.xx way 8 hw (by decide), fun q a ha => ?_, fun q8 => ?_⟩
    · obtain rfl : way = 8 := of_decide_eq_true q
      refine ⟨_, rfl, rfl, c 8, g 8, d, v, rfl, rfl, T.ex 8 (by decide), upd_same, (by show 2 ≤ sizeLine; decide), fun p hp => ?_⟩
      exact k p _ (Same.trans e1 (Same.new hp)) upd_same
    replace q8 := of_decide_eq_false q8
    refine ⟨_, T.xx way 6 hw (by decide), fun q a ha => ?_, fun q6 => ?_⟩
    · obtain rfl : way = 6 := of_decide_eq_true q
      refine ⟨_, rfl, rfl, c 6, g 6, d, v, rfl, rfl, T.ex 6 (by decide), upd_same, (by show 2 ≤ sizeLine; decide), fun p hp => ?_⟩
      exact k p _ (Same.trans e1 (Same.new hp)) upd_same
    replace q6 := of_decide_eq_false q6
    refine ⟨_, T.xx way 10 hw (by decide), fun q a ha => ?_, fun q10 => ?_⟩
    · obtain rfl : way = 10 := of_decide_eq_true q
      refine ⟨_, rfl, rfl, c 10, g 10, d, v, rfl, rfl, T.ex 10 (by decide), upd_same, (by show 2 ≤ sizeLine; decide), fun p hp => ?_⟩
      exact k p _ (Same.trans e1 (Same.new hp)) upd_same
    replace q10 := of_decide_eq_false q10
    show False
    omega
theorem scBas : FnScope ["way", "it", "e"] ["way", "it"] (defScope sBas) := ⟨rfl, rfl, rfl, by decide +kernel, rfl, by decide +kernel, by decide +kernel⟩
def tsB (K : PySem.W.Frag) (c : Nat → Addr) : Addr → Value → Option Addr → TS := fun a cls d => tRet (tHc a cls d (spKin K c) (tCons (tVar 2) tNil))
theorem ok_bas {f fR fK : Addr} {fd fdR fdK : FuncData} (D : Def K mg "_law_caught_as_base" sBas f fd) (T : TxtC K mg c g b) (T0 : Txt0 mg) (R : Def K mg "_law_raise" sRai fR fdR) (Kd : Def K mg "_law_kinds" sKin fK fdK) : FnOk P w K mg base CX0 2 f fd ["way", "it"] spBas := by
  have GR : FnOk P w K mg base (L2.CX P w) 1 fR fdR ["way", "it"] (spRai c) := ok_rai R T
  have bR : Binds K fdR ["way", "it"] [] := R.F.binds fun _ _ _ _ _ _ us hl => match us, hl with | [_, _], _ => rfl
  have GK : FnC P w K mg base 1 fK fdK ["error"] (spKin K c) := ok_kin Kd T T0
  have bK : Binds K fdK ["error"] [] := Kd.F.binds fun _ _ _ _ _ _ us hl => match us, hl with | [_], _ => rfl
  refine D.F.ok scBas (fun vs H Q E h => ?_) (fun cdv A outer s H vs Q E hr h => ?_)
  · obtain ⟨way, v, rfl, _⟩ := h
    rfl
  · obtain ⟨way, v, rfl, hw, k⟩ := h
    refine ⟨_, pss_cons (ps_try_ma (i := 2) (n := "e") (tb := fun W => tDrop (tCallS (spRai c) (WE W) (tCons (tVar 0) (tCons (tVar 1) tNil)))) (Wout := fun _ _ _ _ => False)
        (l := [(.ref b, tsB K c)]) rfl rfl scBas.nd rfl rfl takes0
        (fun W pn xe tk _ => pss_one (ps_expr (by exact (pe_callS GR hr (by rfl) R.g R.F.kp bR (fun σ => passAt tk σ) (by exact (pa_cons (pv 0) (pa_cons (pv 1) pa_nil)))))))
        (HdA.cons ⟨rfl, by decide, .inl T.gb⟩ (fun a oe cls d pn hz hf nB => pss_one (ps_ret (pe_hc hz hf nB GK ⟨hr.dp, hr.un⟩ (by rfl) Kd.g Kd.F.kp bK (pa_cons (pv 2) pa_nil)))) HdA.nil))
      (pss_one (ps_ret (pe_lst pa_nil))), ?_⟩
    refine ⟨_, rfl, _, rfl, way, v, rfl, hw, fun d hd => ?_⟩
    have e1 := Same.new (o := .xd [(("thing" : Str), v)]) hd
    refine ⟨_, T.xb way hw, fun _ a ha => ?_, fun q => nomatch q⟩
    refine ⟨_, rfl, rfl, ha, fun oe h1 h2 h3 => ?_⟩
    have nad : d ≠ a := fun z => by
      rw [← z, upd_same] at ha
      cases ha
    refine ⟨v, a, way, rfl, hw, ⟨g way, d, oe, T.ex way hw, ⟨h1, h2, h3⟩, upd_same, by rw [upd_ne nad, upd_same]⟩, fun q H' e2 hq => ⟨e2 _ _ upd_same, ?_⟩⟩
    have sub : Same (upd H d (.xd [(("thing" : Str), v)])) (delH H' a) := fun b2 o z => by
      have ne : b2 ≠ a := ne_of_none z ha
      rw [delH_ne ne]
      exact e2 b2 o (by rw [upd_ne ne]; exact z)
    have nqa : q ≠ a := fun z => by
      have y := e2 a _ upd_same
      rw [z, y] at hq
      have hq2 : HO.ext _ = HO.lst _ := Option.some.inj hq
      cases hq2
    exact k q _ (Same.trans e1 sub) (by rw [delH_ne nqa]; exact hq)
end
end T00
set_option Elab.async false
set_option linter.all false
set_option maxRecDepth 100000
set_option maxHeartbeats 8000000
namespace T00
open PySem PySem.Spec PyProof.Rows L2 XR
open PySem.XK (ExF)
abbrev sLaw : Stmt := top 31
abbrev nLaw : List Str := ["script", "deck", "near", "far", "some", "others", "made", "at", "error", "way", "caught", "it", "place"]
def spLaw (K : PySem.W.Frag) : Sp := fun vs H Q _ => ∃ (a : Addr) (ns : List Int), vs = [.ref a] ∧ SqL K H a (ns.map V.int) ∧ ns.length ≤ 63 ∧ ∀ H', Q (.bl true) H'
/-- what the top says, in all -/
structure TxtL (K : PySem.W.Frag) (mg : Str → Option Value) (c g : Nat → Addr) (b : Addr) (fa : Nat → Addr) (fd : Nat → FuncData) : Prop where
  T : TxtC K mg c g b
  T0 : Txt0 mg
  TB : TxtB mg
  deck : Def K mg "_law_deck" sDeck (fa 0) (fd 0)
  draw : Def K mg "_law_draw" sDraw (fa 1) (fd 1)
  pick : Def K mg "_law_pick" sPick (fa 2) (fd 2)
  any : Def K mg "_law_any" sAny (fa 3) (fd 3)
  same : Def K mg "_law_is_same" sSame (fa 4) (fd 4)
  pos : Def K mg "_law_by_position" sPos (fa 5) (fd 5)
  nam : Def K mg "_law_by_name" sNam (fa 6) (fd 6)
  car : Def K mg "_law_carried" sCar (fa 7) (fd 7)
  kin : Def K mg "_law_kinds" sKin (fa 8) (fd 8)
  own : Def K mg "_law_is_own" sOwn (fa 9) (fd 9)
  rai : Def K mg "_law_raise" sRai (fa 10) (fd 10)
  cau : Def K mg "_law_caught" sCau (fa 11) (fd 11)
  bas : Def K mg "_law_caught_as_base" sBas (fa 12) (fd 12)
section
variable {P : Program} {w : World} {K : PySem.W.Frag} {mg : Str → Option Value} {base : Heap} {c g : Nat → Addr} {b : Addr} {fa : Nat → Addr} {fd : Nat → FuncData}
theorem scLaw : FnScope nLaw ["script"] (defScope sLaw) := ⟨rfl, rfl, rfl, by decide +kernel, rfl, by decide +kernel, by decide +kernel⟩
theorem ok_law {f : Addr} {fdL : FuncData} (F : Fun K "law" "law" sLaw f fdL) (L : TxtL K mg c g b fa fd) : FnOk P w K mg base CX0 10 f fdL ["script"] (spLaw K) := by
  have GDeck : FnOk P w K mg base CX0 1 (fa 0) (fd 0) ["script", "seed"] (spDeck K) := ok_deck L.deck.F L.T0
  have GA3 : FnOk P w K mg base CX0 6 (fa 3) (fd 3) ["deck", "deep"] (spAny 3) := ok_any L.any L.T0 L.draw L.pick 3
  have GA2 : FnOk P w K mg base CX0 5 (fa 3) (fd 3) ["deck", "deep"] (spAny 2) := ok_any L.any L.T0 L.draw L.pick 2
  have GS8 : FnOk P w K mg base CX0 9 (fa 4) (fd 4) ["near", "far"] (spSame 8) := ok_same L.same L.T0 8
  have GS6 : FnOk P w K mg base CX0 7 (fa 4) (fd 4) ["near", "far"] (spSame 6) := ok_same L.same L.T0 6
  have GPos : FnOk P w K mg base CX0 1 (fa 5) (fd 5) ["it"] (spMade K c) := ok_pos L.pos L.T
  have GNam : FnOk P w K mg base CX0 1 (fa 6) (fd 6) ["it"] (spMade K c) := ok_nam L.nam L.T
  have GCar : FnOk P w K mg base CX0 1 (fa 7) (fd 7) ["made"] (spCar K c) := ok_car L.car
  have GOwn : FnOk P w K mg base CX0 2 (fa 9) (fd 9) ["at", "error"] (spOwn K c) := ok_own L.own L.T L.T0 L.TB L.kin
  have GCau : FnOk P w K mg base CX0 2 (fa 11) (fd 11) ["way", "it"] spCau := ok_cau L.cau L.T L.rai
  have GBas : FnOk P w K mg base CX0 2 (fa 12) (fd 12) ["way", "it"] spBas := ok_bas L.bas L.T L.T0 L.rai L.kin
  have bDeck : Binds K (fd 0) ["script", "seed"] [] := L.deck.F.binds fun _ _ _ _ _ _ us hl => match us, hl with | [_, _], _ => rfl
  have bAny : Binds K (fd 3) ["deck", "deep"] [] := L.any.F.binds fun _ _ _ _ _ _ us hl => match us, hl with | [_, _], _ => rfl
  have bSame : Binds K (fd 4) ["near", "far"] [] := L.same.F.binds fun _ _ _ _ _ _ us hl => match us, hl with | [_, _], _ => rfl
  have bPos : Binds K (fd 5) ["it"] [] := L.pos.F.binds fun _ _ _ _ _ _ us hl => match us, hl with | [_], _ => rfl
  have bNam : Binds K (fd 6) ["it"] [] := L.nam.F.binds fun _ _ _ _ _ _ us hl => match us, hl with | [_], _ => rfl
  have bCar : Binds K (fd 7) ["made"] [] := L.car.F.binds fun _ _ _ _ _ _ us hl => match us, hl with | [_], _ => rfl
  have bOwn : Binds K (fd 9) ["at", "error"] [] := L.own.F.binds fun _ _ _ _ _ _ us hl => match us, hl with | [_, _], _ => rfl
  have bCau : Binds K (fd 11) ["way", "it"] [] := L.cau.F.binds fun _ _ _ _ _ _ us hl => match us, hl with | [_, _], _ => rfl
  have bBas : Binds K (fd 12) ["way", "it"] [] := L.bas.F.binds fun _ _ _ _ _ _ us hl => match us, hl with | [_, _], _ => rfl
  refine F.ok scLaw (fun vs H Q E h => ?_) (fun cdv A outer s H vs Q E hr h => ?_)
  · obtain ⟨a, ns, rfl, _⟩ := h
    rfl
  · obtain ⟨a, ns, rfl, hS, hlen, k⟩ := h
    have h1 : Room 1 _ := hr.mono (by decide)
    have h2 : Room 2 _ := hr.mono (by decide)
    have h5 : Room 5 _ := hr.mono (by decide)
    have h6 : Room 6 _ := hr.mono (by decide)
    have h7 : Room 7 _ := hr.mono (by decide)
    refine ⟨_, pss_cons (ps_set (i := 1) scLaw.nd rfl (Or.inl rfl) (pe_call GDeck h1 (by rfl) L.deck.g L.deck.F.kp bDeck .nil pass0 (pa_cons (pv 0) (pa_cons pe_int pa_nil))))
      (pss_cons (ps_asg (pe_tup (pa_cons (pe_call GA3 h6 (by rfl) L.any.g L.any.F.kp bAny .nil pass0 (pa_cons (pv 1) (pa_cons pe_int pa_nil))) (pa_cons (pe_call GA2 h5 (by rfl) L.any.g L.any.F.kp bAny .nil pass0 (pa_cons (pv 1) (pa_cons pe_int pa_nil))) pa_nil)))
        (pg_tup (by rfl) (pgs_cons (pg_name (i := 2) scLaw.nd rfl (Or.inr rfl)) (pgs_cons (pg_name (i := 3) scLaw.nd rfl (Or.inr rfl)) pgs_nil))))
      (pss_cons (ps_par (i := 4) (j := 5) (by rfl) scLaw.nd rfl rfl (by decide) rfl rfl (pa_cons (pe_call GPos h1 (by rfl) L.pos.g L.pos.F.kp bPos .nil pass0 (pa_cons (pv 2) pa_nil)) (pa_cons (pe_call GNam h1 (by rfl) L.nam.g L.nam.F.kp bNam .nil pass0 (pa_cons (pv 3) pa_nil)) pa_nil)) (by rfl))
      (pss_cons (ps_if (pt_cmpR (op_neD hr.units)
          (pe_lc (own := [("it", 11)]) (g := gName 11) (by rfl) scLaw.nd (pi_list (pe_call GCar h1 (by rfl) L.car.g L.car.F.kp bCar .nil pass0 (pa_cons (pv 4) pa_nil)))
            (blkOk_by (own := [("it", 11)]) (N := nLaw) (sc := defScope sLaw) (by decide +kernel)) (fun _ _ _ _ _ => pg_name (i := 11) scLaw.nd rfl (Or.inl rfl))
            (fun _ _ _ _ _ => pts_one (pt_not (pt_val (pe_call GS8 hr (by rfl) L.same.g L.same.F.kp bSame .nil pass0 (pa_cons (pv 11) (pa_cons (pv 2) pa_nil))))))
            (fun _ _ _ _ _ => pv 11)) (pe_lst pa_nil) (nomark _)) (pss_one (ps_ret pe_bl)) pss_nil)
      (pss_cons (ps_if (pt_cmpR (op_neD hr.units)
          (pe_lc (own := [("it", 11)]) (g := gName 11) (by rfl) scLaw.nd (pi_list (pe_call GCar h1 (by rfl) L.car.g L.car.F.kp bCar .nil pass0 (pa_cons (pv 5) pa_nil)))
            (blkOk_by (own := [("it", 11)]) (N := nLaw) (sc := defScope sLaw) (by decide +kernel)) (fun _ _ _ _ _ => pg_name (i := 11) scLaw.nd rfl (Or.inl rfl))
            (fun _ _ _ _ _ => pts_one (pt_not (pt_val (pe_call GS6 h7 (by rfl) L.same.g L.same.F.kp bSame .nil pass0 (pa_cons (pv 11) (pa_cons (pv 3) pa_nil))))))
            (fun _ _ _ _ _ => pv 11)) (pe_lst pa_nil) (nomark _)) (pss_one (ps_ret pe_bl)) pss_nil)
      (pss_cons (ps_for PassesOwn.never rfl (pi_tup (pe_tup (pa_cons (pv 4) (pa_cons (pv 5) pa_nil)))) (pg_name (i := 6) scLaw.nd rfl (Or.inl rfl))
        (pss_one (ps_for PassesOwn.never rfl (pi_enumX (by rfl) L.T0.enu (pa_cons (pv 6) pa_nil)) (pg_tup (by rfl) (pgs_cons (pg_name (i := 7) scLaw.nd rfl (Or.inl rfl)) (pgs_cons (pg_name (i := 8) scLaw.nd rfl (Or.inl rfl)) pgs_nil)))
          (pss_one (ps_if (pt_not (pt_val (pe_call GOwn h2 (by rfl) L.own.g L.own.F.kp bOwn .nil pass0 (pa_cons (pv 7) (pa_cons (pv 8) pa_nil))))) (pss_one (ps_ret pe_bl)) pss_nil)))))
      (pss_cons (ps_for PassesOwn.never rfl (pi_range1 (by rfl) L.T0.range (pa_cons pe_int pa_nil)) (pg_name (i := 9) scLaw.nd rfl (Or.inr rfl))
        (pss_cons (ps_set (i := 10) scLaw.nd rfl (Or.inl rfl) (pe_call GCau h2 (by rfl) L.cau.g L.cau.F.kp bCau .nil pass0 (pa_cons (pv 9) (pa_cons (pv 2) pa_nil))))
        (pss_cons (ps_if (PW.pt (pw_or (pt_cmpR op_ne (pe_ix ix_tup (pv 10) pe_int (fun _ _ => rfl)) (pv 9) (nomark _))
            (pw_or1 (pt_not (pt_val (pe_call GS8 hr (by rfl) L.same.g L.same.F.kp bSame .nil pass0 (pa_cons (pe_ix ix_tup (pv 10) pe_int (fun _ _ => rfl)) (pa_cons (pv 2) pa_nil)))))))) (pss_one (ps_ret pe_bl)) pss_nil)
        (pss_one (ps_if (pt_cmpR (op_neD hr.units) (pe_call GBas h2 (by rfl) L.bas.g L.bas.F.kp bBas .nil pass0 (pa_cons (pv 9) (pa_cons (pv 3) pa_nil)))
            (pe_lc (own := [("place", 12)]) (g := gName 12) (by rfl) scLaw.nd (pi_range1 (by rfl) L.T0.range (pa_cons pe_int pa_nil))
              (blkOk_by (own := [("place", 12)]) (N := nLaw) (sc := defScope sLaw) (by decide +kernel)) (fun _ _ _ _ _ => pg_name (i := 12) scLaw.nd rfl (Or.inl rfl)) (fun _ _ _ _ _ => pts_nil)
              (fun _ _ _ _ _ => pe_cmpR op_eq (pv 12) (pv 9) (nomark _))) (nomark _)) (pss_one (ps_ret pe_bl)) pss_nil)))))
      (pss_one (ps_ret pe_bl)))))))), ?_⟩
    refine ⟨_, rfl, a, ns, _, rfl, hS, hlen, by decide, by decide, fun d l H1 nd nl ndl DA1 S1 => ?_⟩
    refine ⟨_, rfl, d, l, rfl, DA1, fun near H2 dn DA2 D2 => ⟨_, rfl, d, l, rfl, DA2, fun far H3 df DA3 D3 => ⟨(by show 2 ≤ sizeLine; decide), fun p hp => ?_⟩⟩⟩
    have dn3 : Dat H3 (Old H1) 8 near := Dk.dat DA1.nd DA1.nl D3 (fun b z => z) dn
    have e4 := Same.new (o := .tup [near, far]) hp
    refine ⟨p, _, rfl, SqT.of upd_same, rfl, _, _, rfl, _, _, rfl, rfl, ?_⟩
    generalize upd H3 p (.tup [near, far]) = H4 at e4 ⊢
    have dn4 := Same.dat e4 dn3
    have df4 := Same.dat e4 df
    refine ⟨_, rfl, near, rfl, fun p1 as1 H5 e5 q1 l1 r1 => ⟨_, rfl, far, rfl, fun p2 as2 H6 e6 q2 l2 r2 => ⟨_, _, rfl, ?_⟩⟩⟩
    have q1' := e6 _ _ q1
    have r1' := Errs.same e6 r1
    have dn6 := Same.dat (Same.trans e5 e6) dn4
    have df6 := Same.dat (Same.trans e5 e6) df4
    clear e4 e5 e6 dn3 dn4 df4
    -- what the first errors carry
    refine ⟨_, rfl, near, p1, as1, rfl, q1', l1, r1', fun q H7 e7 hq => ⟨q, rfl, ⟨_, SqL.of hq⟩, fun D hD => ?_⟩⟩
    refine lc_list (K := K) (a := q) (xs := List.replicate 15 near) (fun _ H' => Same H7 H' ∧ H' D = some (.lst [])) ⟨Same.new hD, upd_same⟩ (fun _ H' _ z => Same.seq z.1 (SqL.of hq)) ?_ ?_
    · rintro j y H8 hy ⟨e8, h8⟩
      obtain rfl : y = near := List.eq_of_mem_replicate (List.mem_of_getElem? hy)
      exact ⟨rfl, _, rfl, _, rfl, y, _, rfl, Same.dat (Same.trans e7 e8) dn6, fun H9 e9 => ⟨_, rfl, iteF ⟨Same.trans e8 e9, e9 _ _ h8⟩⟩⟩
    rintro H8 ⟨e8, h8⟩
    refine ⟨(by show 0 ≤ sizeLine; decide), fun r hr' => ?_⟩
    have e9 := Same.new (o := .lst []) hr'
    refine ⟨.list [], .list [], .lst (SqL.of (e9 _ _ h8)) .nil, .lst (SqL.of upd_same) .nil, rfl, rfl, _, rfl, iteF ?_⟩
    have S9 := Same.trans e7 (Same.trans e8 e9)
    generalize upd H8 r (.lst []) = H9 at S9 ⊢
    have q1 := S9 _ _ q1'
    have q2' := S9 _ _ q2
    have r1 := Errs.same S9 r1'
    have r2' := Errs.same S9 r2
    have dn9 := Same.dat S9 dn6
    have df9 := Same.dat S9 df6
    clear e7 e8 e9 hq h8 q1' r1' dn6 df6 hr' hD S9 q2 r2
    -- what the others carry
    refine ⟨_, rfl, far, p2, as2, rfl, q2', l2, r2', fun q H7 e7 hq => ⟨q, rfl, ⟨_, SqL.of hq⟩, fun D hD => ?_⟩⟩
    refine lc_list (K := K) (a := q) (xs := List.replicate 15 far) (fun _ H' => Same H7 H' ∧ H' D = some (.lst [])) ⟨Same.new hD, upd_same⟩ (fun _ H' _ z => Same.seq z.1 (SqL.of hq)) ?_ ?_
    · rintro j y H8 hy ⟨e8, h8⟩
      obtain rfl : y = far := List.eq_of_mem_replicate (List.mem_of_getElem? hy)
      exact ⟨rfl, _, rfl, _, rfl, y, _, rfl, Same.dat (Same.trans e7 e8) df9, fun H9 e9 => ⟨_, rfl, iteF ⟨Same.trans e8 e9, e9 _ _ h8⟩⟩⟩
    rintro H8 ⟨e8, h8⟩
    refine ⟨(by show 0 ≤ sizeLine; decide), fun r hr' => ?_⟩
    have e9 := Same.new (o := .lst []) hr'
    refine ⟨.list [], .list [], .lst (SqL.of (e9 _ _ h8)) .nil, .lst (SqL.of upd_same) .nil, rfl, rfl, _, rfl, iteF ?_⟩
    have S9 := Same.trans e7 (Same.trans e8 e9)
    generalize upd H8 r (.lst []) = HA at S9 ⊢
    have q1A := S9 _ _ q1
    have q2A := S9 _ _ q2'
    have r1A := Errs.same S9 r1
    have r2A := Errs.same S9 r2'
    have dnA := Same.dat S9 dn9
    have dfA := Same.dat S9 df9
    clear e7 e8 e9 hq h8 dn9 df9 hr' hD S9 q1 q2' r1 r2'
    -- each error is of its own class
    refine ⟨_, rfl, _, rfl, (by show 2 ≤ sizeLine; decide), fun t ht => ⟨t, rfl, ⟨_, SqT.of upd_same⟩, ?_⟩⟩
    have eT := Same.new (o := .tup [.ref p1, .ref p2]) ht
    refine for_tup (K := K) (a := t) (xs := [.ref p1, .ref p2]) (fun j σ H' => ∃ v1 v2 v3 : Option V, σ = [some (.ref a), some (.ref d), some near, some far, some (.ref p1), some (.ref p2), v1, v2, v3, none, none, none, none] ∧ Same HA H' ∧ H' t = some (.tup [.ref p1, .ref p2]))
      ⟨none, none, none, rfl, eT, upd_same⟩ (fun j σ H' _ ⟨_, _, _, _, _, z⟩ => SqT.of z) ?_ ?_
    · rintro j y σ HB hy ⟨v1, v2, v3, rfl, eB, tB⟩
      obtain ⟨v, py, asy, rfl, qy, ly, ry⟩ : ∃ (v : V) (py : Addr) (asy : List Addr), y = .ref py ∧ HB py = some (.lst (asy.map V.ref)) ∧ asy.length = 15 ∧ Errs K HB c v 0 asy := by
        have hm := List.mem_of_getElem? hy
        simp only [List.mem_cons, List.not_mem_nil, or_false] at hm
        rcases hm with rfl | rfl
        · exact ⟨near, p1, as1, rfl, eB _ _ q1A, l1, Errs.same eB r1A⟩
        · exact ⟨far, p2, as2, rfl, eB _ _ q2A, l2, Errs.same eB r2A⟩
      refine ⟨_, rfl, py, _, rfl, .inl ⟨SqL.of qy, ?_⟩⟩
      refine for_it walk_enum (fun i σ H' => ∃ v2 v3 : Option V, σ = [some (.ref a), some (.ref d), some near, some far, some (.ref p1), some (.ref p2), some (.ref py), v2, v3, none, none, none, none] ∧ Same HB H')
        ⟨v2, v3, rfl, Same.refl _⟩ (fun i σ H' _ ⟨_, _, _, z⟩ => Same.seq z (SqL.of qy)) ?_ ?_
      · rintro i z σ HC HD hi ⟨v2, v3, rfl, eC⟩ ⟨T0, u, x, rfl, hT, rfl, hu, hx⟩
        obtain rfl : V.int (i : Int) = u := Option.some.inj hu
        obtain ⟨e, he, rfl⟩ : ∃ e, asy[i]? = some e ∧ x = V.ref e := by
          have hx' : (asy.map V.ref)[i]? = some x := hx
          rw [List.getElem?_map] at hx'
          cases q : asy[i]? with
          | none =>
            rw [q] at hx'
            cases hx'
          | some e =>
            rw [q] at hx'
            exact ⟨e, rfl, (Option.some.inj hx').symm⟩
        have eD := Same.trans eC (Same.new (o := .tup [V.int (i : Int), V.ref e]) hT)
        have hi15 : i < 15 := by
          have z := (List.getElem?_eq_some_iff.mp he).1
          omega
        have er := Errs.get (Errs.same eD ry) he
        rw [Nat.zero_add] at er
        refine ⟨T0, _, rfl, SqT.of upd_same, rfl, _, _, rfl, _, _, rfl, rfl, ?_⟩
        exact ⟨_, rfl, _, rfl, v, e, i, rfl, hi15, er, fun HE eE => ⟨_, rfl, iteF ⟨some (.int (i : Int)), some (.ref e), rfl, Same.trans eD eE⟩⟩⟩
      · rintro σ HC ⟨v2, v3, rfl, eC⟩
        exact ⟨some (.ref py), v2, v3, rfl, Same.trans eB eC, eC _ _ tB⟩
    rintro σ HB ⟨v1, v2, v3, rfl, eB, tB⟩
    have dnB := Same.dat eB dnA
    have dfB := Same.dat eB dfA
    -- each class is caught
    refine ⟨15, rfl, by decide, by decide, ?_⟩
    refine for_range (lo := 0) (n := 15) (fun j σ H' => ∃ v4 v5 : Option V, σ = [some (.ref a), some (.ref d), some near, some far, some (.ref p1), some (.ref p2), v1, v2, v3, v4, v5, none, none] ∧ Same HB H')
      ⟨none, none, rfl, Same.refl _⟩ ?_ ?_
    · rintro j σ HC hj ⟨v4, v5, rfl, eC⟩
      have ej : (0 + (j : Int)) = (j : Int) := Int.zero_add _
      rw [ej]
      refine ⟨_, rfl, _, rfl, j, near, rfl, hj, fun t1 HD eD ht1 => ?_⟩
      refine ⟨_, rfl, t1, _, _, .int (j : Int), rfl, rfl, SqT.of ht1, rfl, _, rfl, rfl, _, rfl, ?_⟩
      rw [show decide (V.int (j : Int) = V.int (j : Int)) = true from decide_eq_true rfl]
      refine iteF ?_
      have e2 := Same.trans eC eD
      refine ⟨_, rfl, t1, _, _, near, rfl, rfl, SqT.of ht1, rfl, _, rfl, near, _, rfl, Same.dat e2 dnB, fun HE eE => ⟨_, rfl, iteF ?_⟩⟩
      have e3 := Same.trans e2 eE
      refine ⟨_, rfl, _, rfl, j, far, rfl, hj, fun q HF eF hq => ?_⟩
      refine ⟨15, rfl, by decide, by decide, fun D hD => ?_⟩
      refine lc_range (lo := 0) (n := 15) (fun i H' => Same HF H' ∧ H' D = some (.lst ((upto j i).map V.bl))) ⟨Same.new hD, upd_same⟩ ?_ ?_
      · rintro i HG hi ⟨eG, hG⟩
        refine ⟨rfl, ?_⟩
        unfold tYes
        dsimp only
        rw [if_pos rfl]
        refine ⟨_, rfl, _, rfl, rfl, _, hG, small1000 ?_, ?_, ?_⟩
        · rw [List.length_map, upto, List.length_map, List.length_range]
          omega
        · intro b2 o z
          rw [upd_ne (ne_of_none z hD)]
          exact eG b2 o z
        · rw [upd_same, upto_succ, dec_int]
      · rintro HG ⟨eG, hG⟩
        refine ⟨_, _, .lst (SqL.of (eG _ _ hq)) (dpBools (isBs j)), .lst (SqL.of hG) (dpBools (upto j 15)), shBools _, shBools _, ?_⟩
        rw [show PyData.eqv (.list ((isBs j).map PyData.bool)) (.list ((upto j 15).map PyData.bool)) = true from SeqAt.eqv_refl _ (SeqAt.canLay_of_shaped (shBools (upto j 15)))]
        exact ⟨_, rfl, iteF ⟨some (.int (j : Int)), some (.ref t1), rfl, Same.trans e3 (Same.trans eF eG)⟩⟩
    · rintro σ HC ⟨v4, v5, rfl, eC⟩
      exact k HC
end
end T00
set_option Elab.async false
set_option linter.all false
set_option maxRecDepth 100000
set_option maxHeartbeats 0
namespace T00
open PySem PySem.Spec PyProof.Rows L2 XR
open PySem.XK (ExF)
open PySem.W (excInitIn excOver findIn hasDictIn typeIn keepIn subIn mroIn specialIn takesIn kitOne kitAny exmOne)
/-! ### the head: facts by names -/
def cA (K : PySem.W.Frag) (i : Nat) : Addr := He.ga K (cNames.getD i "")
def gA (K : PySem.W.Frag) (i : Nat) : Addr := He.ma K (cA K i) "__init__"
def bA (K : PySem.W.Frag) : Addr := He.ga K "StepError"
/-- one class of errors, but for its __init__ -/
def exfB (K : PySem.W.Frag) (C fI : Addr) : Bool :=
  (excInitIn K C PySem.XK.bmE "Exception.__new__" && (excOver K C PySem.XK.bmE && (He.eqO (findIn K (.ref C) "__setattr__") (some (some (.builtin "object.__setattr__"))) &&
    (He.eqO (findIn K (.ref C) "__getattribute__") (some (some (.builtin "BaseException.__getattribute__"))) && (He.eqO (findIn K (.ref C) "__getattr__") (some none) &&
    (He.eqO (findIn K (.ref C) "thing") (some none) && (hasDictIn K C && (He.eqO (findIn K (.ref C) "__init__") (some (some (.ref fI))) && decide (typeIn K (.ref fI) = some (.type "function")))))))))) &&
  (keepIn K (.ref C) && (decide (subIn K (.ref C) (.type "BaseException") = some true) && (decide (typeIn K (.ref C) = some (.type "type")) && (He.eqO (findIn K (.ref C) "__class__") (some (some (.builtin "object.__class__"))) &&
    (decide (mroIn K C (.type "object") = some true) && (He.eqO (specialIn K (.builtin "object.__class__") "__get__") (some (some (.builtin "getset_descriptor.__get__"))) && decide (takesIn K (.builtin "object.__class__") = some true)))))))
abbrev sixT : List Value := [.type "ValueError", .type "TypeError", .type "LookupError", .type "ArithmeticError", .type "RuntimeError", .type "AttributeError"]
def rowB (K : PySem.W.Frag) (i : Nat) : Bool :=
  (exfB K (cA K i) (gA K i) && (decide (kitOne K (.ref (cA K i)) (.ref (bA K)) = some true) && (decide (kitOne K (.ref (cA K i)) (.type "Exception") = some true) && (decide (kitAny K (.ref (cA K i)) sixT = some false) && decide (exmOne K (.ref (cA K i)) (.ref (bA K)) = some true))))) &&
  ((List.range 15).all fun j => decide (kitOne K (.ref (cA K i)) (.ref (cA K j)) = some (decide (i = j))) && decide (exmOne K (.ref (cA K i)) (.ref (cA K j)) = some (decide (i = j))))
def exB (K : PySem.W.Frag) : Bool := (List.range 15).all fun i => rowB K i
abbrev ini (i : Nat) : Stmt := inClass (top (i + 2)) 0
def dI (i : Nat) (q : Str) : He.DefD := ⟨(cNames.getD i "", some "__init__"), "__init__", q, defArgs (ini i), defBody (ini i), defScope (ini i), [], []⟩
def dD (x : Str) (st : Stmt) : He.DefD := ⟨(x, none), x, x, defArgs st, defBody st, defScope st, [], []⟩
def qNames : List Str := ["BadNumber.__init__", "OtherRoot.__init__", "BadPolynomial.__init__", "BadRule.__init__", "BadPlace.__init__", "BadCount.__init__", "BadFormula.__init__", "NoFormula.__init__", "BadClass.__init__", "BadGrowth.__init__", "BadLine.__init__", "ZeroMiddle.__init__", "BadShift.__init__", "BadFactor.__init__", "BadParameter.__init__"]
def dNames : List Str := ["_law_deck", "_law_draw", "_law_pick", "_law_any", "_law_is_same", "_law_by_position", "_law_by_name", "_law_carried", "_law_kinds", "_law_is_own", "_law_raise", "_law_caught", "_law_caught_as_base"]
def freeNames : List Str := ["int", "list", "max", "len", "range", "tuple", "isinstance", "enumerate", "dict", "repr", "Exception", "ValueError", "TypeError", "LookupError", "ArithmeticError", "RuntimeError", "AttributeError"]
def fn : List He.DefD := [dI 0 (qNames.getD 0 ""), dI 1 (qNames.getD 1 ""), dI 2 (qNames.getD 2 ""), dI 3 (qNames.getD 3 ""), dI 4 (qNames.getD 4 ""), dI 5 (qNames.getD 5 ""), dI 6 (qNames.getD 6 ""), dI 7 (qNames.getD 7 ""), dI 8 (qNames.getD 8 ""), dI 9 (qNames.getD 9 ""), dI 10 (qNames.getD 10 ""), dI 11 (qNames.getD 11 ""), dI 12 (qNames.getD 12 ""), dI 13 (qNames.getD 13 ""), dI 14 (qNames.getD 14 ""),
  dD "_law_deck" sDeck, dD "_law_draw" sDraw, dD "_law_pick" sPick, dD "_law_any" sAny, dD "_law_is_same" sSame, dD "_law_by_position" sPos, dD "_law_by_name" sNam, dD "_law_carried" sCar, dD "_law_kinds" sKin, dD "_law_is_own" sOwn, dD "_law_raise" sRai, dD "_law_caught" sCau, dD "_law_caught_as_base" sBas, dD "law" sLaw]
def loose : List Str := cNames ++ (("StepError" : Str) :: dNames)
def fa : List He.Fa := ((cNames ++ (("StepError" : Str) :: dNames)) ++ [("law" : Str)]).map He.Fa.glo ++ freeNames.map He.Fa.free
abbrev R : PySem.W.OpenRow := PySem.W.OpenLaw.row PySem.Challenge.rw_twicestep_k00_errors_by_position_and_by
abbrev hk : PySem.W.Hook := He.hookX 5 fa fn [] [] exB
def ob (s : PySem.W.SharedT) : He.AlX := He.obsX 5 fa fn [] [] exB (HandSHeadRun.getT s)
theorem ob_eq (s : PySem.W.SharedT) : ob s = hk.obs s.abs := He.obsX_eq (HandSHeadRun.getT_eq s)
theorem run (w : World) : HandSHeadRun.RunEq R (PySem.W.view R.prog [31]) hk ob 6000 loose w := by
  intro os
  kernel_rfl
end T00
set_option Elab.async false
set_option linter.all false
set_option maxRecDepth 100000
set_option maxHeartbeats 0
namespace T00
open PySem PySem.Spec PyProof.Rows L2 XR
open PySem.XK (ExF)
section
variable {K : PySem.W.Frag}
theorem exf_ok {C fI : Addr} (h : exfB K C fI = true)
    (hf : ∃ (oc : Value) (od : Option Addr) (qual : Str) (kV doc pm : Value) (an : Option Addr) (cdv ct : Value) (osl : Array (Option Value)) (p1 p2 q1 q2 q3 q4 : Pos),
      K.lookup fI = some ⟨oc, od, .func (PySem.W.fnOf "__init__" qual (PySem.XK.xA p1 p2) (PySem.XK.xB q1 q2 q3 q4) PySem.XK.xS .none kV doc pm an cdv ct), osl⟩ ∧ PySem.W.codeIn K cdv qual = true) : ExF K C fI := by
  obtain ⟨x, y⟩ := He.ba h
  obtain ⟨a1, x⟩ := He.ba x
  obtain ⟨a2, x⟩ := He.ba x
  obtain ⟨a3, x⟩ := He.ba x
  obtain ⟨a4, x⟩ := He.ba x
  obtain ⟨a5, x⟩ := He.ba x
  obtain ⟨a6, x⟩ := He.ba x
  obtain ⟨a7, x⟩ := He.ba x
  obtain ⟨a8, a9⟩ := He.ba x
  obtain ⟨b1, y⟩ := He.ba y
  obtain ⟨b2, y⟩ := He.ba y
  obtain ⟨b3, y⟩ := He.ba y
  obtain ⟨b4, y⟩ := He.ba y
  obtain ⟨b5, y⟩ := He.ba y
  obtain ⟨b6, b7⟩ := He.ba y
  exact ⟨a1, a2, He.eqO_ok a3, He.eqO_ok a4, He.eqO_ok a5, He.eqO_ok a6, a7, He.eqO_ok a8, of_decide_eq_true a9, b1, of_decide_eq_true b2, of_decide_eq_true b3, He.eqO_ok b4, of_decide_eq_true b5, He.eqO_ok b6, of_decide_eq_true b7, hf⟩
theorem ini_at : ∀ i, i < 15 → ∃ (p1 p2 q1 q2 q3 q4 : Pos), defArgs (ini i) = PySem.XK.xA p1 p2 ∧ defBody (ini i) = PySem.XK.xB q1 q2 q3 q4 ∧ defScope (ini i) = PySem.XK.xS
  | 0, _ | 1, _ | 2, _ | 3, _ | 4, _ | 5, _ | 6, _ | 7, _ | 8, _ | 9, _ | 10, _ | 11, _ | 12, _ | 13, _ | 14, _ => ⟨_, _, _, _, _, _, rfl, rfl, rfl⟩
  | n + 15, h => absurd h (by omega)
theorem fn_at : ∀ i, i < 15 → ∃ q, fn[i]? = some (dI i q)
  | 0, _ | 1, _ | 2, _ | 3, _ | 4, _ | 5, _ | 6, _ | 7, _ | 8, _ | 9, _ | 10, _ | 11, _ | 12, _ | 13, _ | 14, _ => ⟨_, rfl⟩
  | n + 15, h => absurd h (by omega)
theorem no_dfl {dV : Value} (h : DflV K dV []) : dV = .none := by
  rcases h with ⟨_, e⟩ | ⟨e, _⟩
  · exact e
  · exact absurd rfl e
theorem init_ok (c : He.SaysD fa fn K) {i : Nat} (hi : i < 15) : ∃ (oc : Value) (od : Option Addr) (qual : Str) (kV doc pm : Value) (an : Option Addr) (cdv ct : Value) (osl : Array (Option Value)) (p1 p2 q1 q2 q3 q4 : Pos),
      K.lookup (gA K i) = some ⟨oc, od, .func (PySem.W.fnOf "__init__" qual (PySem.XK.xA p1 p2) (PySem.XK.xB q1 q2 q3 q4) PySem.XK.xS .none kV doc pm an cdv ct), osl⟩ ∧ PySem.W.codeIn K cdv qual = true := by
  obtain ⟨q, hq⟩ := fn_at i hi
  obtain ⟨fd, F⟩ := c.def_ i hq
  obtain ⟨oc, od, dV, kV, doc, pm, an, cdv, ct, osl, rfl, lk, hcd, dv, _⟩ := F.ex
  obtain ⟨p1, p2, q1, q2, q3, q4, e1, e2, e3⟩ := ini_at i hi
  have ed : dV = .none := no_dfl dv
  subst ed
  have lk2 : K.lookup (gA K i) = some ⟨oc, od, .func (PySem.W.fnOf "__init__" q (defArgs (ini i)) (defBody (ini i)) (defScope (ini i)) .none kV doc pm an cdv ct), osl⟩ := lk
  rw [e1, e2, e3] at lk2
  exact ⟨oc, od, q, kV, doc, pm, an, cdv, ct, osl, p1, p2, q1, q2, q3, q4, lk2, hcd⟩
theorem row_ok (h : exB K = true) {i : Nat} (hi : i < 15) : rowB K i = true := List.all_eq_true.mp h i (List.mem_range.mpr hi)
theorem txtC {h : Heap} {mg : Str → Option Value} (X : K.In h) (G : h.Ns mainGlobals mg) (c : He.SaysD fa fn K) (m : exB K = true) : TxtC K mg (cA K) (gA K) (bA K) := by
  have z : ∀ i, i < 15 → _ := fun i hi => He.ba (row_ok m hi)
  have y : ∀ i j, i < 15 → j < 15 → _ := fun i j hi hj => He.ba (List.all_eq_true.mp (z i hi).2 j (List.mem_range.mpr hj))
  refine ⟨fun i hi => exf_ok (He.ba (z i hi).1).1 (init_ok c hi), fun i hi => ?_, He.glo_ok X G (c.facts (f := .glo "StepError") (List.mem_append_left _ (List.mem_map_of_mem (by decide +kernel : ("StepError" : Str) ∈ (cNames ++ (("StepError" : Str) :: dNames)) ++ [("law" : Str)])))), fun i hi => ?_, fun i j hi hj => of_decide_eq_true (y i j hi hj).1, fun i hi => ?_, fun i hi => ?_, fun i j hi hj => of_decide_eq_true (y i j hi hj).2, fun i hi => ?_⟩
  · have e : cNames.getD i "" = cNames[i] := by
      rw [List.getD_eq_getElem?_getD, List.getElem?_eq_getElem hi]
      rfl
    have q : He.Fa.glo cNames[i] ∈ fa := List.mem_append_left _ (List.mem_map_of_mem (List.mem_append_left _ (List.mem_append_left _ (List.getElem_mem hi))))
    have r := He.glo_ok X G (c.facts q)
    unfold cA
    rw [e]
    exact r
  · exact of_decide_eq_true (He.ba (He.ba (z i hi).1).2).1
  · exact of_decide_eq_true (He.ba (He.ba (He.ba (z i hi).1).2).2).1
  · exact of_decide_eq_true (He.ba (He.ba (He.ba (He.ba (z i hi).1).2).2).2).1
  · exact of_decide_eq_true (He.ba (He.ba (He.ba (He.ba (z i hi).1).2).2).2).2
theorem fun_of {x qual : Str} {st : Stmt} {f : Addr} {fd : FuncData} (F : FunD K x qual (defArgs st) (defBody st) (defScope st) [] [] f fd) : Fun K x qual st f fd := by
  obtain ⟨oc, od, dV, kV, doc, pm, an, cdv, ct, osl, rfl, lk, hcd, dv, _⟩ := F.ex
  have ed : dV = .none := no_dfl dv
  subst ed
  exact ⟨⟨oc, od, kV, doc, pm, an, cdv, ct, osl, rfl, lk, hcd⟩, F.kp⟩
theorem def_of {h : Heap} {mg : Str → Option Value} (X : K.In h) (G : h.Ns mainGlobals mg) (c : He.SaysD fa fn K) {x : Str} {st : Stmt} (hm : dD x st ∈ fn) (hg : He.Fa.glo x ∈ fa) : ∃ fd, Def K mg x st (He.ga K x) fd := by
  obtain ⟨fd, F⟩ := c.defs hm
  exact ⟨fd, fun_of F, He.glo_ok X G (c.facts hg)⟩
theorem facts {P : Program} {w : World} {h : Heap} {mg : Str → Option Value} {f : Addr} (X : K.In h) (G : h.Ns mainGlobals mg) (hfa : mg ("law" : Str) = some (.ref f)) (c : He.SaysX fa fn [] [] exB w h K) :
    ∃ fd : FuncData, (∀ (s : Shared) (v : Value), BindsTo s fd ⟨[v], []⟩ [("script", v)]) ∧ ∀ base : Heap, K.In base → base.Ns mainGlobals mg → FnOk P w K mg base CX0 10 f fd ["script"] (spLaw K) := by
  have cd : He.SaysD fa fn K := c.t.d
  have T := txtC X G cd c.more
  have fr : ∀ x, He.Fa.free x ∈ fa → mg x = none := fun x hx => He.free_ok X G (cd.facts hx)
  have fx : ∀ x, x ∈ freeNames → mg x = none := fun x hx => fr x (List.mem_append_right _ (List.mem_map_of_mem hx))
  have T0 : Txt0 mg := ⟨fx _ (by decide +kernel), fx _ (by decide +kernel), fx _ (by decide +kernel), fx _ (by decide +kernel), fx _ (by decide +kernel), fx _ (by decide +kernel), fx _ (by decide +kernel), fx _ (by decide +kernel), fx _ (by decide +kernel), fx _ (by decide +kernel)⟩
  have TB : TxtB mg := ⟨fx _ (by decide +kernel), fx _ (by decide +kernel), fx _ (by decide +kernel), fx _ (by decide +kernel), fx _ (by decide +kernel), fx _ (by decide +kernel), fx _ (by decide +kernel)⟩
  have gx : ∀ x : Str, x ∈ (cNames ++ (("StepError" : Str) :: dNames)) ++ [("law" : Str)] → He.Fa.glo x ∈ fa := fun x hx => List.mem_append_left _ (List.mem_map_of_mem hx)
  have dx : ∀ {x : Str} {st : Stmt} (i : Nat), fn[i]? = some (dD x st) → x ∈ (cNames ++ (("StepError" : Str) :: dNames)) ++ [("law" : Str)] → ∃ fd, Def K mg x st (He.ga K x) fd := fun i hi hx => def_of X G cd (List.mem_of_getElem? hi) (gx _ hx)
  obtain ⟨d0, D0⟩ := dx (x := "_law_deck") (st := sDeck) 15 rfl (by decide +kernel)
  obtain ⟨d1, D1⟩ := dx (x := "_law_draw") (st := sDraw) 16 rfl (by decide +kernel)
  obtain ⟨d2, D2⟩ := dx (x := "_law_pick") (st := sPick) 17 rfl (by decide +kernel)
  obtain ⟨d3, D3⟩ := dx (x := "_law_any") (st := sAny) 18 rfl (by decide +kernel)
  obtain ⟨d4, D4⟩ := dx (x := "_law_is_same") (st := sSame) 19 rfl (by decide +kernel)
  obtain ⟨d5, D5⟩ := dx (x := "_law_by_position") (st := sPos) 20 rfl (by decide +kernel)
  obtain ⟨d6, D6⟩ := dx (x := "_law_by_name") (st := sNam) 21 rfl (by decide +kernel)
  obtain ⟨d7, D7⟩ := dx (x := "_law_carried") (st := sCar) 22 rfl (by decide +kernel)
  obtain ⟨d8, D8⟩ := dx (x := "_law_kinds") (st := sKin) 23 rfl (by decide +kernel)
  obtain ⟨d9, D9⟩ := dx (x := "_law_is_own") (st := sOwn) 24 rfl (by decide +kernel)
  obtain ⟨d10, D10⟩ := dx (x := "_law_raise") (st := sRai) 25 rfl (by decide +kernel)
  obtain ⟨d11, D11⟩ := dx (x := "_law_caught") (st := sCau) 26 rfl (by decide +kernel)
  obtain ⟨d12, D12⟩ := dx (x := "_law_caught_as_base") (st := sBas) 27 rfl (by decide +kernel)
  obtain ⟨dl, DL⟩ := dx (x := "law") (st := sLaw) 28 rfl (by decide +kernel)
  have e := hfa.symm.trans DL.g
  cases e
  let fa' : Nat → Addr := fun i => He.ga K (dNames.getD i "")
  let fd' : Nat → FuncData := fun i => match i with
    | 0 => d0 | 1 => d1 | 2 => d2 | 3 => d3 | 4 => d4 | 5 => d5 | 6 => d6 | 7 => d7 | 8 => d8 | 9 => d9 | 10 => d10 | 11 => d11 | _ => d12
  have L : TxtL K mg (cA K) (gA K) (bA K) fa' fd' := ⟨T, T0, TB, D0, D1, D2, D3, D4, D5, D6, D7, D8, D9, D10, D11, D12⟩
  have b : ∀ (s : Shared) (v : Value), BindsTo s dl ⟨[v], []⟩ [("script", v)] := fun s v => by
    obtain ⟨oc, od, kV, doc, pm, an, cdv, ct, osl, rfl, _, _⟩ := DL.F.ex
    exact .of_eq rfl
  exact ⟨dl, b, fun base _ _ => ok_law DL.F L⟩
end
end T00
open PySem PySem.W PySem.Calls PyProof.Rows
theorem PySem.Challenge.cw_twicestep_k00_errors_by_position_and_by_holds : PySem.Challenge.rw_twicestep_k00_errors_by_position_and_by.Holds := by
  w_on; o_law
  refine HandSHeadRun.head_any (r := OpenLaw.row PySem.Challenge.rw_twicestep_k00_errors_by_position_and_by) (q := view (OpenLaw.row PySem.Challenge.rw_twicestep_k00_errors_by_position_and_by).prog [31]) (H := T00.hk) (ob := T00.ob) (M := 6000) (loose := T00.loose) (d := HandSHeadRun.topDef (OpenLaw.row PySem.Challenge.rw_twicestep_k00_errors_by_position_and_by).prog 31) (kwd := []) T00.ob_eq
    (by kernel_rfl) (fun s => by kernel_rfl) T00.run (by kernel_rfl) (by kernel_rfl) (by kernel_rfl) (by rfl) (by first | assumption | decide +kernel) (by decide +kernel) ⟨rfl, rfl, rfl, rfl, rfl, by decide +kernel⟩ ?hw ?hc
  case hw => w_witness2
  case hc =>
    refine L2.walk_ofE (l := PySem.Challenge.rw_twicestep_k00_errors_by_position_and_by) (n := 63) (k := 10) (x := "script") (CX := L2.CX0) rfl (by decide) (by kernel_rfl) ⟨rfl, by decide, by decide⟩ ?F (fun _ _ _ _ z => z)
    intro w mg fa h Y G hmg0
    obtain ⟨K, KX, c⟩ := Y
    have hmg : mg ("law" : PySem.Str) = some (.ref fa) := by
      have e : (HandSHeadRun.topDef (OpenLaw.row PySem.Challenge.rw_twicestep_k00_errors_by_position_and_by).prog 31).name = ("law" : PySem.Str) := by kernel_rfl
      rw [← e]
      exact hmg0
    obtain ⟨fd, hb, hF⟩ := T00.facts (P := (PySem.Challenge.rw_twicestep_k00_errors_by_position_and_by).prog) (w := w) KX G hmg c
    exact ⟨K, fd, T00.spLaw K, KX, hb, fun H a ns hl _ hS => ⟨a, ns, rfl, hS, hl, fun _ => rfl⟩, hF⟩
