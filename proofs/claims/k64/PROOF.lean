import PyProof.Rows.All
import Wide.All
import OpenK.AllK
import Wide.FinOn
import KE.KIsAll
import KE.KTryMore
import HandS.ForMost
import HandS.Exc
import HandS.ExcOwn
import HandS.ExcValue
import HandS.ExcInit
import HandS.ExcIs
import HandS.ExcField
import HandS.IsInst
import HandS.WideBits
import HandS.Defaults
import HandS.MakeKw
import HandS.Evl
import PySem.Challenge.RW_paneplans_k64_errors_made
set_option Elab.async false
set_option linter.all false
set_option maxRecDepth 100000
set_option maxHeartbeats 4000000
/-! # isinstance of an exception object that stands as a value, with or without a dict of its own -/
namespace PX
open PySem PySem.W PySem.Spec PySem.Calls PyProof.Rows
section
variable {prog : Program} {w : World} {A : Around} {E : Value → Shared → Prop} {s : Shared}
variable {K : Frag} {x D : Addr} {ox : Obj} {od : Option Obj}

theorem found_cls {g a : Value} {nm : Str} (h1 : (clsIn K D).isSome = true) (h2 : findIn K (.ref D) nm = some (some a))
    (h3 : specialIn K a "__get__" = some (some g)) (h4 : takesIn K a = some true) :
    findObj K D od nm = some (.bind g a) := by
  obtain ⟨cd, hcd⟩ := Option.isSome_iff_exists.mp h1
  simp [findObj, hcd, h2, h3, h4]

theorem asks_class {Q : Option Value → Shared → Prop} (T : L2.ExcC K D) (X : K.In s.heap) (I : InstAt s.heap x ox D od)
    (q : Q (some (.ref D)) { s with toks := s.toks + 1 }) :
    wpAny (model prog w) A (getAttr? (.ref x) "__class__") Q E s := by
  have some1 : (clsIn K D).isSome = true := by
    obtain ⟨c, hc, _⟩ := any_some T.hd
    simp [hc]
  have F1 : findObj K D od "__class__" = some (.bind (.builtin "getset_descriptor.__get__") (.builtin "object.__class__")) :=
    found_cls some1 T.ha T.hn T.ht
  obtain ⟨hp, g, d, t, os⟩ := s
  have l0 := I.type (M := model prog w)
  have l1 := looks_findIn (M := model prog w) X T.hg
  have l2 := looks_findIn (M := model prog w) X T.hk
  have l3 := looks_find (M := model prog w) X I F1
  have lsub : Looks (model prog w) hp (isInstance (.ref x) (.type "BaseException")) true :=
    l0.andThen (looks_subIn X T.hs)
  have n0 : (Value.builtin "BaseException.__getattribute__" == Value.builtin "object.__getattribute__") = false := by
    decide +kernel
  have n1 : (onTheHeap (Value.ref D) &&
      Value.builtin "BaseException.__getattribute__" == Value.builtin "object.__getattribute__") = false := by
    simp [n0]
  have n2 : (false && onTheHeap (Value.builtin "BaseException.__getattribute__")) = false := rfl
  unfold getAttr? getAttrBy?
  unfold getAttrBy
  refine wpAny_bind ?_
  refine wpAny_mkText ?_
  refine wpAny_bind (wpAny_attempt ?_)
  refine wpAny_holding (wpAny_bind (l0.at ?_))
  refine wpAny_bind (l1.at ?_)
  show wpAny _ _ (if (onTheHeap (Value.ref D) &&
      Value.builtin "BaseException.__getattribute__" == Value.builtin "object.__getattribute__") = true then _ else _) _ _ _
  rw [n1]
  rw [if_neg (by decide)]
  unfold getAttrByItsOwn
  unfold hookBefore
  refine wpAny_bind ?_
  have on : onTheHeap (Value.ref D) = true := rfl
  rw [if_pos on]
  refine l2.at ?_
  refine wpAny_bind ?_
  refine wpAny_attempt (wpAny_holding ?_)
  unfold callGetattribute
  rw [n2]
  rw [if_neg (by decide)]
  unfold boundAndCalled
  rw [PySem.F.excAttr_ValueError.ga.bind (.ref x)]
  refine wpAny_bind ?_
  refine wpAny_pure ?_
  show wpAny _ _ (call (.builtin "BaseException.__getattribute__") [.ref x, .str "__class__" t]) _ _ _
  refine wpAny_call ?_
  refine codeAny_call_builtin PySem.F.excAttr_ValueError.ga.plain PySem.F.entry_bexc_ga ?_
  have as1 := PySem.F.args_bexc_ga (.ref x) (.str "__class__" t)
  refine @check_slot (model prog w) _ _ ⟨hp, g, d, t + 1, os⟩ "BaseException.__getattribute__"
    "BaseException" "__getattribute__" (.ref x) [.str "__class__" t] [] _
    (by decide +kernel) (by decide +kernel) lsub as1 ?_
  unfold Builtin.«object.__getattribute__»
  refine wpAny_bind ?_
  refine wpAny_of_eq (a := ((Value.ref x : Value), [Value.str "__class__" t])) ?_ ?_
  · first
      | rfl
      | (simp only [slotArgs]; rfl)
  refine wpAny_bind ?_
  refine wpAny_pure (wpAny_bind ?_)
  refine l0.at (wpAny_bind ?_)
  refine l3.at ?_
  show wpAny _ _ (holding [Value.builtin "object.__class__"]
    (call (.builtin "getset_descriptor.__get__") [.builtin "object.__class__", .ref x, .ref D]) >>= ret) _ _ _
  refine wpAny_bind ?_
  refine wpAny_holding ?_
  refine wpAny_call ?_
  refine class_get (s := ⟨hp, g, d, t + 1, os⟩) (ox := ox) (od := od) X I T.hm ?_
  refine wpAny_pure ?_
  show wpAny _ _ (handedOut (.ref D)) _ _ _
  rw [handedOut_of (v := .ref D) rfl]
  first
    | exact wpAny_pure (wpAny_pure q)
    | exact wpAny_pure q
    | exact wpAny_pure (wpAny_bind (wpAny_pure (wpAny_pure q)))

theorem kit_exc (T : L2.ExcC K D) : KitX K (.ref x) (.ref D) (fun h => InstAt h x ox D od) where
  ty := fun _ _ _ I => I.type
  it := fun _ _ X _ => by
    obtain ⟨c, hc, _⟩ := any_some T.hd
    unfold clsIn at hc
    split at hc
    · rename_i _ _ _ _ lk
      intro _ _ _ _ k q
      unfold isType loadHead
      exact wpAny_bind (wpAny_loadPart (k _ _ (X _ _ lk)) (wpAny_pure q))
    · cases hc
  ne := fun h tp dd its n sl X htp => by
    obtain ⟨c, hc, _⟩ := any_some T.hd
    refine Bool.eq_false_iff.mpr fun z => ?_
    have e : D = tp := Value.ref.inj (beq_iff_eq.mp z)
    subst e
    unfold clsIn at hc
    split at hc
    · rename_i _ _ _ _ lk
      have both := (X _ _ lk).symm.trans htp
      cases both
    · cases hc
  ca := fun X I k => asks_class T X I k
end
end PX
set_option Elab.async false
set_option linter.all false
set_option maxRecDepth 100000
set_option maxHeartbeats 4000000
/-! # an own exception class with its own __init__, called with values and keywords -/
namespace PX
open PySem PySem.W PySem.Spec PySem.Calls PyProof.Rows PySem.HandSPX
section
variable {prog : Program} {w : World} {A : Around} {E : Value → Shared → Prop} {R : Result → Shared → Prop}
variable {h : Heap} {g : Array GenState} {d : Drawn} {t : Nat} {os : OsState}
variable {nm q : Str} {C N : Addr} {bs bm bmB : List Value} {hdct : Bool} {sn : List Str} {sub : List Value} {ab : Bool}
variable {col : Option Bool} {dd : Option Addr} {k0 k1 k2 k3 k5 : Option Value} {B newId initId : String}

theorem newK_ok {M : Model} (F : ExcBaseFacts B newId initId bmB) (hT : ∀ X : String, bm.contains (.type X) = bmB.contains (.type X))
    {rest : List Value} {kw : List (Str × Value)} {Q : Unit → Shared → Prop}
    (hC : h.get? C = some (excClassObj nm q C N bs bm hdct sn sub ab col dd k0 k1 k2 k3 k5 newId)) (hq : Q () ⟨h, g, d, t, os⟩) :
    wpAny M A (checkBuiltinCall newId ⟨.ref C :: rest, kw⟩) Q E ⟨h, g, d, t, os⟩ := by
  have inB : (Value.ref C :: bm).contains (.type B) = true := by
    rw [List.contains_cons, hT, F.hasB]
    simp
  have ns := F.noStar
  simp only [checkBuiltinCall, F.newKind, F.newSplit, F.newRow]
  repeat (first
    | refine wpAny_loadPart_at hC ?_
    | (refine wpAny_isSubtype_exc hC ?_; rw [inB])
    | refine wpAny_staticBase_exc hC ?_
    | refine wpAny_madeBy_exc hC ?_
    | simp only [bne_self_eq_false, Bool.false_eq_true, if_false]
    | wp_step)
  exact hq

theorem madeK (F : ExcBaseFacts B newId initId bmB) (hT : ∀ X : String, bm.contains (.type X) = bmB.contains (.type X))
    {rest : List Value} {kw : List (Str × Value)}
    (hC : h.get? C = some (excClassObj nm q C N bs bm hdct sn sub ab col dd k0 k1 k2 k3 k5 newId)) (hl : rest.length ≤ sizeLine)
    (hq : R (.ok (.ret (.ref (h.objs.size + 1)))) ⟨(h.push (W.kdv_tup rest)).push (excO C h.objs.size), g, d, t, os⟩) :
    codeAny (model prog w) A (.builtin newId ⟨.ref C :: rest, kw⟩) R ⟨h, g, d, t, os⟩ := by
  have e1 := F.ends
  have inB : (Value.ref C :: bm).contains (.type B) = true := by
    rw [List.contains_cons, hT, F.hasB]
    simp
  have inA : (Value.ref C :: bm).contains (.type "AttributeError") = false := by
    rw [List.contains_cons, hT, F.noAttr]
    rfl
  have inN : (Value.ref C :: bm).contains (.type "NameError") = false := by
    rw [List.contains_cons, hT, F.noName]
    rfl
  refine codeAny_builtinAt F.entry ?_
  unfold Builtin.«BaseException.__new__»
  refine PySem.wpAt_bind ?_
  show PySem.wpAt _ _ _ (stack >>= _) _ _ _
  refine PySem.wpAt_bind ?_
  refine PySem.wpAt_stack fun _ _ => ?_
  refine PySem.wpAt_of_wpAny ?_
  wp_walk
  refine PySem.wpAt_of_wpAny ?_
  rw [F.owner]
  repeat (first
    | with_reducible refine wpAny_madeHere_exc F.canon hC ?_
    | with_reducible refine wpAny_loadPart_at hC ?_
    | (with_reducible refine wpAny_isSubtype_exc hC ?_; first | rw [inB] | rw [inA] | rw [inN])
    | wp_step)
  show R _ _
  rw [Heap.size_push]
  exact hq

theorem typeK (F : ExcBaseFacts B newId initId bmB) (hT : ∀ X : String, bm.contains (.type X) = bmB.contains (.type X))
    {rest : List Value} {kw : List (Str × Value)} {fI : Addr} {Q : Fin → Shared → Prop}
    (hC : h.get? C = some (excClassObj nm q C N bs bm hdct sn sub ab col dd k0 k1 k2 k3 k5 newId))
    (hi : W.Looks (model prog w) h (typeLookup (.ref C) "__init__") (some (.ref fI)))
    (hb : ∀ self, W.Looks (model prog w) h (bindSpecial (.ref fI) self) (.ref fI, [self])) (hl : rest.length ≤ sizeLine)
    (hq : codeAny (model prog w) A (.call (.ref fI) ⟨.ref (h.objs.size + 1) :: rest, kw⟩)
      (fun r s' => match r with
        | .ok (.ret v) => v = .none ∧ Q (.done (.ret (.ref (h.objs.size + 1)))) s'
        | .ok _ => False
        | .error e => E e s')
      ⟨(h.push (W.kdv_tup rest)).push (excO C h.objs.size), g, d, t, os⟩) :
    wpAny (model prog w) A (Builtin.«type.__call__» ⟨.ref C :: rest, kw⟩) Q E ⟨h, g, d, t, os⟩ := by
  repeat (first
    | with_reducible refine wpAny_loadPart_at hC ?_
    | with_reducible refine wpAny_madeBy_exc hC ?_
    | wp_step)
  refine codeAny_call_builtin_code (Code.quiet_builtin _ F.quiet) ?_
  refine newK_ok F hT hC ?_
  refine madeK F hT hC hl ?_
  show wpAny _ _ _ _ _ _
  have keep : ∀ b o, h.get? b = some o → ((h.push (W.kdv_tup rest)).push (excO C h.objs.size)).get? b = some o :=
    fun b o e => Heap.get?_push_of_some _ (Heap.get?_push_of_some _ e)
  have hC2 := keep _ _ hC
  have new : ((h.push (W.kdv_tup rest)).push (excO C h.objs.size)).get? (h.objs.size + 1) = some (excO C h.objs.size) := by
    heap_get
  have inC : (Value.ref C :: bm).contains (.ref C) = true := by simp
  have i1 := hi.keeps keep
  have b1 := (hb (.ref (h.objs.size + 1))).keeps keep
  unfold isInstance
  repeat (first
    | with_reducible refine wpAny_loadPart_at new ?_
    | (with_reducible refine wpAny_isSubtype_exc hC2 ?_; rw [inC])
    | wp_step)
  show wpAny _ _ (typeLookup (.ref C) _) _ _ _
  refine i1.at ?_
  refine wpAny_holding ?_
  refine wpAny_bind (b1.at ?_)
  refine wpAny_bind ?_
  refine wpAny_call (codeAny_mono hq fun r s' z => ?_)
  rcases r with e | (v | _ | _ | _) <;> first
    | exact z
    | exact z.elim
    | skip
  obtain ⟨rfl, z⟩ := z
  first
    | exact wpAny_pure (wpAny_pure z)
    | (wp_walk; exact z)

theorem callK (F : ExcBaseFacts B newId initId bmB) (hT : ∀ X : String, bm.contains (.type X) = bmB.contains (.type X))
    {rest : List Value} {kw : List (Str × Value)} {fI : Addr}
    (hC : h.get? C = some (excClassObj nm q C N bs bm hdct sn sub ab col dd k0 k1 k2 k3 k5 newId))
    (hi : W.Looks (model prog w) h (typeLookup (.ref C) "__init__") (some (.ref fI)))
    (hb : ∀ self, W.Looks (model prog w) h (bindSpecial (.ref fI) self) (.ref fI, [self])) (hl : rest.length ≤ sizeLine)
    (hq : codeAny (model prog w) (A.under (.builtin "type.__call__" ⟨.ref C :: rest, kw⟩)) (.call (.ref fI) ⟨.ref (h.objs.size + 1) :: rest, kw⟩)
      (W.InitBack (h.objs.size + 1) R) ⟨(h.push (W.kdv_tup rest)).push (excO C h.objs.size), g, d, t, os⟩) :
    codeAny (model prog w) A (.call (.ref C) ⟨rest, kw⟩) R ⟨h, g, d, t, os⟩ := by
  have f1 := tc_lookup
  have f2 := tc_bind (.ref C)
  have hTy : (⟨h, g, d, t, os⟩ : Shared).TypeIs (.ref C) "type" := ⟨_, hC, rfl⟩
  refine codeAny_of_tree ?_
  show wpAny _ _ (callAny (.ref C) _) _ _ _
  repeat (any_goals (first
    | assumption
    | with_reducible refine wpAny_loadPart_at hC ?_
    | wp_step))
  refine ⟨rfl, ?_⟩
  refine codeAny_call_builtin_at (Code.quiet_builtin _ (by decide +kernel)) entry_typeCall ?_
  refine wpAny_check_type_call_sub hC ?_
  refine typeK F hT hC hi hb hl ?_
  refine codeAny_mono hq fun r s' z => ?_
  rcases r with e | (v | _ | _ | _) <;> exact z
end
end PX
set_option Elab.async false
set_option linter.all false
set_option maxRecDepth 100000
set_option maxHeartbeats 4000000
/-! # exception objects as values: made, asked for their class, read -/
namespace PX
open PySem PySem.Spec PyProof.Rows L2

/-- an exception object of the class at D stands at a, its own dict (if it has one) tracked too -/
def Xv (H : Hp) (a D : Addr) : Prop :=
  H a = some (ExO (.ref D) a) ∨ ∃ (dx : Addr) (fs : List (Str × V)), H a = some (exo a D (some dx)) ∧ H dx = some (exd dx fs)
theorem Xv.same {H H' : Hp} {a D : Addr} (e : Same H H') (h : Xv H a D) : Xv H' a D := by
  rcases h with h | ⟨dx, fs, h1, h2⟩
  · exact .inl (e _ _ h)
  · exact .inr ⟨dx, fs, e _ _ h1, e _ _ h2⟩
section
variable {X : Cx} {pins : List (Addr × Obj)} {σ : L2.St} {H : Hp} {s : Shared} {a D : Addr}
theorem inst_of (I : Inv X pins σ H s) (h : Xv H a D) : ∃ ox od, PySem.W.InstAt s.heap a ox D od := by
  rcases h with h | ⟨dx, fs, h1, h2⟩
  · obtain ⟨⟨oe, vs, hg, hz, hd, _⟩, _, _⟩ := I.hok a _ h
    obtain ⟨oc, odi, oda, osl⟩ := oe
    obtain ⟨z1, z2⟩ := hz
    dsimp only at z1 z2 hd
    subst z1 z2 hd
    exact ⟨_, none, hg, rfl, rfl, trivial⟩
  · obtain ⟨t1, hg⟩ := exo_at I.hok h1
    obtain ⟨mA, hn, _⟩ := exd_at I.hok h2
    obtain ⟨od, hd, _⟩ := lookIn_ns hn
    exact ⟨_, some od, hg, rfl, rfl, hd⟩
end
/-- isinstance(e, c) -/
def rIsX (K : PySem.W.Frag) : List V → Hp → VK → Prop := fun xs H Q =>
  ∃ (a D : Addr) (c : V) (u : Value) (b : Bool), xs = [.ref a, c] ∧ Xv H a D ∧ ExcC K D ∧ ClsV c u ∧ PySem.W.kitOne K (.ref D) u = some b ∧ Q (.bl b) H
theorem call_isX {X : Cx} : CallR X (.builtin "isinstance") (rIsX X.K) := by
  intro pins s σ H xs us Q I r h
  obtain ⟨a, D, c, u, b, rfl, hx, T, hc, e, q⟩ := h
  obtain ⟨u1, u2, rfl, r1, r2⟩ := vals2 r
  cases (show u1 = Value.ref a from r1)
  have e2 := hc.eq r2
  subst e2
  obtain ⟨ox, od, J⟩ := inst_of I hx
  exact PySem.W.kia_one (kit_exc (od := od) T) I.kIn J e (fun z => nomatch z) fun tk => ⟨.bl b, H, I.tok tk, rfl, q⟩

/-- e.f -/
def tXat (K : PySem.W.Frag) (f : Str) (te : TE) : TE := fun σ H Q => te σ H fun x H1 =>
  ∃ (a C dx : Addr) (fs : List (Str × V)) (v : V), x = .ref a ∧ XfC K C ∧ PySem.W.findIn K (.ref C) f = some none ∧
    H1 a = some (exo a C (some dx)) ∧ H1 dx = some (exd dx fs) ∧ fs.lookup f = some v ∧ Q v H1
theorem pe_xat {X : Cx} {e : Expr} {te : TE} {pos : Pos} {f : Str} (he : PE X e te)
    (hb : attributeBase e f X.env (eval e X.env) = eval e X.env := by rfl) : PE X (.Attribute e f pos) (tXat X.K f te) := by
  refine ⟨fun pins s σ H Q I h => ?_⟩
  refine attr_of hb ?_
  refine thn (he.run pins s σ H _ I h) fun u s1 hh => ?_
  obtain ⟨x, H1, I1, rx, a, C, dx, fs, v, ex, T, hno, ea, ed, hl, q⟩ := hh
  subst ex
  obtain rfl : u = Value.ref a := rx
  obtain ⟨t1, hg⟩ := exo_at I1.hok ea
  obtain ⟨mA, hn, hr⟩ := exd_at I1.hok ed
  obtain ⟨od, hd, hlk⟩ := lookIn_ns hn
  obtain ⟨w, hw, rw'⟩ := RelO.some_of (v := v) (o := mA f) (by rw [← hl]; exact hr f)
  have J : PySem.W.InstAt s1.heap a _ C (some od) := ⟨hg, rfl, rfl, hd⟩
  exact HandSPX.exc_get I1.kIn J T.ga T.gg T.exC (PySem.W.findObj_own T.hdC hno rfl (by rw [hlk, hw])) (handed_of rw')
    ⟨v, H1, I1.tok _, rw', q⟩

/-- C(e, .., k = v, ..), C an own exception class over ValueError with its own __init__: a value -/
def tMkX (C : Addr) (sp : Sp) (gV : List V → List V → List V) (n m : Nat) (ta tk : TA) : TE := fun σ H Q =>
  ta σ H fun vs H1 => tk σ H1 fun zs H2 => vs.length = n ∧ n ≤ 1000 ∧ zs.length = m ∧
    ∀ a, H2 a = none → sp (gV (.ref a :: vs) zs) (upd H2 a (exo a C none)) (fun v H3 => v = .non ∧ Q (.ref a) H3) E0
section
variable {X : Cx} {x : Str} {C fI : Addr} {k n : Nat} {fd : FuncData} {ps ks : List Str} {sp : Sp} {p pos : Pos} {e : Expr} {es : List Expr} {kws : List Keyword} {ta tk : TA}
variable {g : List Value → List Value → List Value} {gV : List V → List V → List V}
theorem run_mkX {pins : List (Addr × Obj)} {σ : L2.St} {H : Hp} {s : Shared} {Q : VK} {us ws : List Value} {vs zs : List V}
    (T : OexC X.K C) (iC : PySem.W.findIn X.K (.ref C) "__init__" = some (some (.ref fI))) (tI : PySem.W.typeIn X.K (.ref fI) = some (.type "function"))
    (F1 : FnOk X.prog X.w X.K X.mg X.base CX0 k fI fd ps sp) (hr : Room (k + 1) X.A) (hb : KBn X.K fd ps (n + 1) ks g gV)
    (I : Inv X pins σ H s) (r : Vals vs us) (rz : Vals zs ws) (l1 : vs.length = n) (hn : n ≤ 1000) (l2 : zs.length = ks.length)
    (h : ∀ a, H a = none → sp (gV (.ref a :: vs) zs) (upd H a (exo a C none)) (fun v H3 => v = .non ∧ Q (.ref a) H3) E0) :
    wpAny (model X.prog X.w) X.A (call (.ref C) us (ks.zip ws)) (EP X pins σ Q) X.xe s := by
  obtain ⟨nm, q, N, bs, bm, sn, sub, ab, col, dd, k0, k1, k2, k3, k5, hC, hbm⟩ := T.cls
  obtain ⟨hp, gg, dr, tk, os⟩ := s
  have hsz : hp.objs.size ≤ hp.objs.size + 1 := Nat.le_succ _
  have hq := h (hp.objs.size + 1) (I.hok.fresh hsz)
  have kk : ∀ b o, hp.get? b = some o → ((hp.push (PySem.W.kdv_tup us)).push (PySem.HandSPX.excO C hp.objs.size)).get? b = some o :=
    fun b o z => Heap.get?_push_of_some _ (Heap.get?_push_of_some _ z)
  have hget : ((hp.push (PySem.W.kdv_tup us)).push (PySem.HandSPX.excO C hp.objs.size)).get? (hp.objs.size + 1) = some (PySem.HandSPX.excO C hp.objs.size) := by
    heap_get
  have I2 : Inv X pins σ (upd H (hp.objs.size + 1) (exo (hp.objs.size + 1) C none)) ⟨(hp.push (PySem.W.kdv_tup us)).push (PySem.HandSPX.excO C hp.objs.size), gg, dr, tk, os⟩ :=
    I.laid (t' := tk) (a := hp.objs.size + 1) (h' := (hp.push (PySem.W.kdv_tup us)).push (PySem.HandSPX.excO C hp.objs.size)) kk hsz (exo_ok hget)
  have r2 := hb.rel (.cons (show RelV (V.ref (hp.objs.size + 1)) (Value.ref (hp.objs.size + 1)) from rfl) r) rz
  have n1 : (Value.ref (hp.objs.size + 1) :: us).length = n + 1 := by
    rw [List.length_cons, ← r.length, l1]
  have hus : us.length ≤ sizeLine := by
    rw [← r.length, sizeLine_eq]
    omega
  refine wpAny_call (callK F.excBase_ValueError (fun Y => PySem.HandSPX.refsVE_contains Y bm hbm) (I.kIn _ _ hC) (PySem.W.looks_findIn I.kIn iC) (fun self => PySem.W.bind_fn I.kIn self tI) hus ?_)
  refine codeAny_mono (F1.run _ X.stack _ _ ⟨Value.ref (hp.objs.size + 1) :: us, ks.zip ws⟩ _ _ _ E0 (hr.make C us (ks.zip ws)) (I2.env0.make C us (ks.zip ws))
    (hb.to _ (Value.ref (hp.objs.size + 1) :: us) ws I2.kIn n1 (rz.length.symm.trans l2)) r2 hq) fun r s' hq' => ?_
  cases r with
  | error er => exact hq'.elim
  | ok fl =>
    cases fl with
    | ret u =>
      obtain ⟨v, H', I3, rv, ev, q3⟩ := I2.after hq'
      subst ev
      exact ⟨rv, ⟨V.ref (hp.objs.size + 1), H', I3, rfl, q3⟩⟩
    | next => exact False.elim hq'
    | brk => exact False.elim hq'
    | cont => exact False.elim hq'

theorem pe_mkX (T : OexC X.K C) (iC : PySem.W.findIn X.K (.ref C) "__init__" = some (some (.ref fI))) (tI : PySem.W.typeIn X.K (.ref fI) = some (.type "function"))
    (F1 : FnOk X.prog X.w X.K X.mg X.base CX0 k fI fd ps sp) (hr : Room (k + 1) X.A) (hb : KBn X.K fd ps (n + 1) [] g gV) (hg : Gl X x) (hm : X.mg x = some (.ref C)) (ha : PA X (e :: es) ta)
    (hdb : (x == ("__debug__" : Str)) = false := by decide) (he : starEach (e :: es) X.env = (false, eval e X.env) :: starEach es X.env := by rfl) (hpl : (backTo pos (starEach es X.env)).any (·.1) = false := by rfl) :
    PE X (.Call (.Name x p) (e :: es) [] pos) (tMkX C sp gV n 0 ta tNil) := by
  refine ⟨fun pins s σ H Q I h => ?_⟩
  refine wpAny_Call_Name_kw (ld_glob I hg hm ?_ hdb)
  refine PySem.W.callWith_K (h₀ := X.base) I.ok.mod.kin T.kC (thn (ha.run pos pins s σ H _ I h) fun us s1 hh => ?_) he hpl
  obtain ⟨vs, H1, I1, r1, l1, hn, l2, q1⟩ := hh
  refine ⟨I1.kIn, ?_⟩
  exact run_mkX (ws := []) (zs := []) T iC tI F1 hr hb I1 r1 .nil l1 hn rfl q1

theorem pe_mkXk (T : OexC X.K C) (iC : PySem.W.findIn X.K (.ref C) "__init__" = some (some (.ref fI))) (tI : PySem.W.typeIn X.K (.ref fI) = some (.type "function"))
    (F1 : FnOk X.prog X.w X.K X.mg X.base CX0 k fI fd ps sp) (hr : Room (k + 1) X.A) (hb : KBn X.K fd ps 1 ks g gV) (hg : Gl X x) (hm : X.mg x = some (.ref C)) (hkw : PK X kws tk)
    (hall : (backToKw pos (keywordEach kws X.env)).all (·.1.isSome) = true := by rfl) (hks : (backToKw pos (keywordEach kws X.env)).filterMap (·.1) = ks := by rfl)
    (hdb : (x == ("__debug__" : Str)) = false := by decide) (hpl : ((backTo pos (starEach [] X.env)).any (·.1) || (backToKw pos (keywordEach kws X.env)).any (·.1.isNone)) = false := by rfl) :
    PE X (.Call (.Name x p) [] kws pos) (tMkX C sp gV 0 ks.length tNil tk) := by
  refine ⟨fun pins s σ H Q I h => ?_⟩
  refine wpAny_Call_Name_kw (ld_glob I hg hm ?_ hdb)
  refine PySem.W.callWith_KW0 (h₀ := X.base) I.ok.mod.kin T.kC hall ?_ hpl
  refine thn (hkw.run pos pins s σ H _ I h) fun ws s2 hh => ?_
  obtain ⟨zs, H2, I2, rz, l1, hn, l2, q2⟩ := hh
  refine ⟨I2.kIn, ?_⟩
  rw [hks]
  exact run_mkX (us := []) (vs := []) T iC tI F1 hr hb I2 .nil rz rfl (Nat.zero_le _) l2 q2
end
/-- a ** b of whole numbers, as long as the answer stays below 2 ^ 27 bits -/
def CPowW (i j : Int) : Prop := 0 ≤ j ∧ (Builtin.Int.intBits i : Int) * j ≤ 2 ^ 27
theorem op_powW {X : Cx} : OpR X (binaryOp .Pow) (rI CPowW fun i j => .int (i ^ j.toNat)) := opI fun _ _ _ _ _ _ _ hc q => pow_int hc.1 hc.2 q
end PX
set_option Elab.async false
set_option linter.all false
set_option maxRecDepth 100000
set_option maxHeartbeats 4000000
/-! # the drawing of numbers -/
namespace P64
open PySem PySem.Spec PyProof.Rows L2 PX
def topS (i : Nat) : Stmt := PySem.Challenge.pw_paneplans_k64_errors_made.main.body.getD i (.Pass ⟨0, 0, 0, 0⟩)
abbrev sBag : Stmt := topS 18
abbrev sStir : Stmt := topS 19
abbrev sDraw : Stmt := topS 20
theorem scBag : FnScope ["script", "stir", "cell"] ["script"] (defScope sBag) := ⟨rfl, rfl, rfl, by decide +kernel, rfl, by decide +kernel, by decide +kernel⟩
theorem scStir : FnScope ["bag", "wide", "found", "k", "mixed"] ["bag", "wide"] (defScope sStir) := ⟨rfl, rfl, rfl, by decide +kernel, rfl, by decide +kernel, by decide +kernel⟩
theorem scDraw : FnScope ["bag", "wide", "found"] ["bag", "wide"] (defScope sDraw) := ⟨rfl, rfl, rfl, by decide +kernel, rfl, by decide +kernel, by decide +kernel⟩

/-- a bag stands at b: its cells, and four numbers -/
def Bag (H : Hp) (b c : Addr) : Prop := ∃ (ns : List Int) (i p q r : Int),
  H b = some (.lst [.ref c, .int i, .int p, .int q, .int r]) ∧ H c = some (.lst (ns.map V.int)) ∧ b ≠ c ∧ 0 ≤ i ∧ 0 ≤ q ∧ q < 2147483647
/-- all but the bag is as it was -/
def But (b : Addr) (H H' : Hp) : Prop := ∀ a o, a ≠ b → H a = some o → H' a = some o
theorem But.refl (b : Addr) (H : Hp) : But b H H := fun _ _ _ h => h
theorem But.trans {b : Addr} {H H1 H2 : Hp} (x : But b H H1) (y : But b H1 H2) : But b H H2 := fun a o n h => y a o n (x a o n h)
theorem But.upd {b : Addr} {H H' : Hp} {o : HO} (x : But b H H') : But b H (upd H' b o) := fun a u n h => by
  rw [upd_ne n]
  exact x a u n h
theorem But.new {b p : Addr} {H H' : Hp} {o : HO} (x : But b H H') (h : H' p = none) : But b H (L2.upd H' p o) := fun a u n e => by
  rw [upd_ne (ne_of_none (x a u n e) h)]
  exact x a u n e

section
variable {P : Program} {w : World} {K : PySem.W.Frag} {mg : Str → Option Value} {base : Heap}
def spStir : Sp := fun vs H Q _ => ∃ (b c : Addr) (n : Int), vs = [.ref b, .int n] ∧ 0 < n ∧ n ≤ 1000 ∧ Bag H b c ∧
  ∀ H' r, 0 ≤ r → r < n → But b H H' → Bag H' b c → Q (.int r) H'
theorem ok_stir {f : Addr} {fd : FuncData} {k : Nat} (F : Fun K "_law_stirred" "_law_stirred" sStir f fd) (mr : mg "range" = none) (mi : mg "int" = none) :
    FnOk P w K mg base CX0 (k + 1) f fd ["bag", "wide"] spStir := by
  refine F.ok scStir (fun vs H Q E h => ?_) (fun cdv A outer s H vs Q E hr h => ?_)
  · obtain ⟨b, c, n, rfl, _⟩ := h
    rfl
  · obtain ⟨b, c, n, rfl, hn, hn2, hb, q⟩ := h
    refine ⟨_, pss_cons (ps_set (i := 2) scStir.nd rfl (.inl rfl) pe_int)
      (pss_cons (ps_for PassesOwn.never rfl (pi_range1 (by rfl) mr (pa_cons (pe_op op_add pe_int (pe_op op_fdiv (pe_bits (pv 1)) pe_int)) pa_nil)) (pg_name (i := 3) scStir.nd rfl (.inl rfl))
        (pss_cons (ps_asg (pe_op op_add (pe_ix ix_list (pv 0) pe_int (fun _ _ => rfl)) pe_int) (pg_sub (pv 0) pe_int set_list))
        (pss_cons (ps_set (i := 4) scStir.nd rfl (.inl rfl) (pe_op op_add (pe_op op_add (pe_op op_add (pe_op op_pow (pe_ix ix_list (pv 0) pe_int (fun _ _ => rfl)) pe_int)
            (pe_op op_mul pe_int (pe_ix ix_list (pv 0) pe_int (fun _ _ => rfl)))) (pe_op op_mul pe_int (pe_ix ix_list (pv 0) pe_int (fun _ _ => rfl)))) pe_int))
        (pss_cons (ps_asg (pe_op op_modN (pe_callTy call_int1 (by rfl) mi (by decide +kernel) (pa_cons (pv 4) pa_nil)) pe_int) (pg_sub (pv 0) pe_int set_list))
        (pss_one (ps_set (i := 2) scStir.nd rfl (.inl rfl) (pe_op op_add (pe_op op_mul (pv 2) pe_int) (pe_op op_fdiv (pe_ix ix_list (pv 0) pe_int (fun _ _ => rfl)) pe_int))))))))
      (pss_one (ps_ret (pe_op op_modN (pe_callTy call_int1 (by rfl) mi (by decide +kernel) (pa_cons (pv 2) pa_nil)) (pv 1))))), ?_⟩
    have hbits : Builtin.Int.intBits n ≤ 10 := PyProof.Rows.intBits_le (k := 10) (by
      have e : (2 : Nat) ^ 10 = 1024 := by decide
      rw [e]
      omega)
    have e62 : (2 : Int) ^ 62 = 4611686018427387904 := by decide
    have e64 : (2 : Nat) ^ 64 = 18446744073709551616 := by decide
    have z64 : (2 : Int) ^ 64 = 18446744073709551616 := by decide
    refine ⟨_, rfl, _, rfl, _, _, rfl, rfl, ⟨by decide, by decide⟩, 1, _, rfl, rfl, _, rfl, by rw [e62]; omega, by rw [e62]; omega, ?_⟩
    refine for_range (lo := 0) (fun i σ H1 => ∃ (m : Int) (y3 y4 : Option V), σ = [some (.ref b), some (.int n), some (.int m), y3, y4] ∧ But b H H1 ∧ Bag H1 b c)
      ⟨0, none, none, rfl, But.refl b H, hb⟩ ?_ ?_
    · rintro i σ H1 hi ⟨m, y3, y4, rfl, hbut, ns, bi, bp, bq, br, h1, h2, hne, hi0, hq0, hq1⟩
      -- bag[4] = bag[4] + 1
      refine ⟨_, rfl, _, _, _, _, rfl, rfl, SqL.of h1, atI_nat (j := 4) rfl, _, _, rfl, rfl, .ref b, rfl, b, _, 4, 4, rfl, rfl, h1, rfl, ?_⟩
      -- mixed = ..
      refine ⟨.ref b, rfl, b, _, 3, .int bq, rfl, rfl, SqL.of upd_same, rfl, bq, 3, rfl, rfl, ⟨by decide, by decide, by rw [e64]; omega⟩, ?_⟩
      refine ⟨.ref b, rfl, b, _, 3, .int bq, rfl, rfl, SqL.of upd_same, rfl, 69621, bq, rfl, rfl, .inl ⟨by decide, by decide⟩, ?_⟩
      refine ⟨_, _, rfl, rfl, ?_⟩
      refine ⟨.ref b, rfl, b, _, 4, .int (br + 1), rfl, rfl, SqL.of upd_same, rfl, 1031, br + 1, rfl, rfl, .inl ⟨by decide, by decide⟩, ?_⟩
      refine ⟨_, _, rfl, rfl, _, _, rfl, rfl, ?_⟩
      -- bag[3] = int(mixed) % ..
      refine ⟨_, rfl, .inl ⟨_, rfl, _, 2147483647, rfl, rfl, (by show (2147483647 : Int) ≠ 0; decide), .ref b, rfl, b, _, 3, 3, rfl, rfl, upd_same, rfl, ?_⟩⟩
      -- found = ..
      refine ⟨_, rfl, m, 134217728, rfl, rfl, .inr ⟨by decide, by decide⟩, .ref b, rfl, b, _, 3, _, rfl, rfl, SqL.of upd_same, rfl, _, 16, rfl, rfl, ⟨by decide, by decide⟩, _, _, rfl, rfl, ?_⟩
      refine ⟨_, _, _, rfl, hbut.upd.upd, ns, bi, bp, _, br + 1, upd_same, ?_, hne, hi0, ?_⟩
      · rw [upd_ne (Ne.symm hne), upd_ne (Ne.symm hne)]
        exact h2
      · rw [Int.fmod_eq_emod_of_nonneg _ (by decide)]
        omega
    · rintro σ H1 ⟨m, y3, y4, rfl, hbut, hb1⟩
      refine ⟨_, rfl, .inl ⟨_, rfl, _, rfl, m, n, rfl, rfl, by omega, ?_⟩⟩
      refine q H1 _ ?_ ?_ hbut hb1
      · rw [Int.fmod_eq_emod_of_nonneg _ (by omega)]
        exact Int.emod_nonneg _ (by omega)
      · rw [Int.fmod_eq_emod_of_nonneg _ (by omega)]
        exact Int.emod_lt_of_pos _ hn

def spDraw : Sp := fun vs H Q _ => ∃ (b c : Addr) (n : Int), vs = [.ref b, .int n] ∧ 0 < n ∧ n ≤ 1000 ∧ Bag H b c ∧
  ∀ H' r, 0 ≤ r → r < n → But b H H' → Bag H' b c → Q (.int r) H'
theorem ok_draw {f fS : Addr} {fd fdS : FuncData} (F : Fun K "_law_draw" "_law_draw" sDraw f fd) (FS : Fun K "_law_stirred" "_law_stirred" sStir fS fdS) (bS : Binds K fdS ["bag", "wide"] [])
    (gS : mg "_law_stirred" = some (.ref fS)) (mr : mg "range" = none) (mi : mg "int" = none) (ml : mg "len" = none) :
    FnOk P w K mg base CX0 2 f fd ["bag", "wide"] spDraw := by
  have GS : FnOk P w K mg base CX0 1 fS fdS ["bag", "wide"] spStir := ok_stir FS mr mi
  refine F.ok scDraw (fun vs H Q E h => ?_) (fun cdv A outer s H vs Q E hr h => ?_)
  · obtain ⟨b, c, n, rfl, _⟩ := h
    rfl
  · obtain ⟨b, c, n, rfl, hn, hn2, hb, q⟩ := h
    refine ⟨_, Evl.pss_cut (ps_if (PW.pt (pw_and (pt_cmpR op_eq (pe_ix ix_list (pv 0) pe_int (fun _ _ => rfl)) pe_int (nomark _))
          (pw_and1 (pt_cmpR op_lt (pe_ix ix_list (pv 0) pe_int (fun _ _ => rfl)) (pe_callB call_len_seq (by rfl) ml PySem.boot_len (pa_cons (pe_ix ix_list (pv 0) pe_int (fun _ _ => rfl)) pa_nil)) (nomark _)))))
        (pss_cons (ps_asg (pe_ix ix_list (pe_ix ix_list (pv 0) pe_int (fun _ _ => rfl)) (pe_ix ix_list (pv 0) pe_int (fun _ _ => rfl)) (fun _ _ => rfl)) (pg_sub (pv 0) pe_int set_list))
        (pss_one (ps_asg (pe_op op_add (pe_ix ix_list (pv 0) pe_int (fun _ _ => rfl)) pe_int) (pg_sub (pv 0) pe_int set_list))))
        (pss_one (ps_if (pt_cmpR op_eq (pe_ix ix_list (pv 0) pe_int (fun _ _ => rfl)) pe_int (nomark _))
          (pss_one (ps_ret (pe_call GS hr (by rfl) gS FS.kp bS .nil pass0 (pa_cons (pv 0) (pa_cons (pv 1) pa_nil))))) pss_nil)))
      (pss_cons (ps_set (i := 2) scDraw.nd rfl (.inl rfl) (pe_op op_modN (pe_callTy call_int1 (by rfl) mi (by decide +kernel) (pa_cons (pe_ix ix_list (pv 0) pe_int (fun _ _ => rfl)) pa_nil)) (pv 1)))
      (pss_cons (ps_asg (pe_op op_fdiv (pe_ix ix_list (pv 0) pe_int (fun _ _ => rfl)) (pv 1)) (pg_sub (pv 0) pe_int set_list))
      (pss_one (ps_ret (pv 2))))), ?_⟩
    obtain ⟨ns, bi, bp, bq, br, h1, h2, hne, hi0, hq0, hq1⟩ := hb
    have mk : ∀ (i p : Int) (H1 : Hp), But b H H1 → H1 b = some (.lst [.ref c, .int i, .int p, .int bq, .int br]) → 0 ≤ i → Bag H1 b c := fun i p H1 hbut e1 hi =>
      ⟨ns, i, p, bq, br, e1, hbut c _ (Ne.symm hne) h2, hne, hi, hq0, hq1⟩
    refine ⟨fun σ H1 => σ = [some (.ref b), some (.int n), none] ∧ ∃ (i p : Int), But b H H1 ∧ H1 b = some (.lst [.ref c, .int i, .int p, .int bq, .int br]) ∧ 0 ≤ i, ?_, ?_⟩
    · refine ⟨.ref b, rfl, b, _, 2, .int bp, rfl, rfl, SqL.of h1, rfl, rfl, _, rfl, ?_⟩
      have els : ∀ (hp : ¬ (bp = 0 ∧ bi < ns.length)), tIfS (tTest (tOp rEq (tOp (rIxL K) (tVar 0) (tC (.int 2))) (tC (.int 0)))) (tRet (tCall spStir [] E0 (tCons (tVar 0) (tCons (tVar 1) tNil)))) tNext
          { nx := fun σ H1 => σ = [some (V.ref b), some (V.int n), none] ∧ ∃ (i p : Int), But b H H1 ∧ H1 b = some (.lst [.ref c, .int i, .int p, .int bq, .int br]) ∧ 0 ≤ i, rt := Q } [some (V.ref b), some (V.int n), none] H := fun hp => by
        refine ⟨.ref b, rfl, b, _, 2, .int bp, rfl, rfl, SqL.of h1, rfl, rfl, _, rfl, ite2 (fun e => ?_) (fun e => ?_)⟩
        · exact ⟨.ref b, rfl, .int n, rfl, b, c, n, rfl, hn, hn2, ⟨ns, bi, bp, bq, br, h1, h2, hne, hi0, hq0, hq1⟩, fun H' r z1 z2 z3 z4 => q H' r z1 z2 z3 z4⟩
        · exact ⟨rfl, bi, bp, But.refl b H, h1, hi0⟩
      refine ite2 (fun e => ?_) (fun e => ?_)
      · have e0 : bp = 0 := V.int.inj (of_decide_eq_true e)
        refine ⟨.ref b, rfl, b, _, 1, .int bi, rfl, rfl, SqL.of h1, rfl, .ref b, rfl, b, _, 0, .ref c, rfl, rfl, SqL.of h1, rfl, c, _, rfl, .inl (SqL.of h2), bi, _, rfl, rfl, _, rfl, ite2 (fun e2 => ?_) (fun e2 => ?_)⟩
        · have hlt : bi < ns.length := by
            have z := of_decide_eq_true e2
            rw [List.length_map] at z
            exact z
          obtain ⟨j, hj⟩ : ∃ j : Nat, bi = j := ⟨bi.toNat, by omega⟩
          subst hj
          have g : atI (ns.map V.int) (j : Int) = some (.int (ns[j]'(by omega))) := by
            refine atI_nat ?_
            rw [List.getElem?_map, List.getElem?_eq_getElem (by omega)]
            rfl
          refine ⟨.ref b, rfl, b, _, 0, .ref c, rfl, rfl, SqL.of h1, rfl, .ref b, rfl, b, _, 1, .int (j : Int), rfl, rfl, SqL.of h1, rfl, c, _, (j : Int), _, rfl, rfl, SqL.of h2, g, .ref b, rfl, b, _, 2, 2, rfl, rfl, h1, rfl, ?_⟩
          refine ⟨.ref b, rfl, b, _, 1, .int (j : Int), rfl, rfl, SqL.of upd_same, rfl, (j : Int), 1, rfl, rfl, .ref b, rfl, b, _, 1, 1, rfl, rfl, upd_same, rfl, ?_⟩
          exact ⟨rfl, (j : Int) + 1, _, (But.refl b H).upd.upd, upd_same, by omega⟩
        · refine els fun z => e2 (decide_eq_true ?_)
          rw [List.length_map]
          exact z.2
      · exact els fun z => e (decide_eq_true (by rw [z.1]))
    · rintro σ H1 ⟨rfl, i, p, hbut, e1, hi⟩
      refine ⟨.ref b, rfl, b, _, 2, .int p, rfl, rfl, SqL.of e1, rfl, .inl ⟨p, rfl, _, rfl, p, n, rfl, rfl, by omega, ?_⟩⟩
      refine ⟨.ref b, rfl, b, _, 2, .int p, rfl, rfl, SqL.of e1, rfl, _, rfl, p, n, rfl, rfl, ⟨hn, by omega⟩, .ref b, rfl, b, _, 2, 2, rfl, rfl, e1, rfl, ?_⟩
      refine ⟨_, rfl, ?_⟩
      refine q _ _ ?_ ?_ hbut.upd (mk i (p / n) _ hbut.upd upd_same hi)
      · rw [Int.fmod_eq_emod_of_nonneg _ (by omega)]
        exact Int.emod_nonneg _ (by omega)
      · rw [Int.fmod_eq_emod_of_nonneg _ (by omega)]
        exact Int.emod_lt_of_pos _ hn

def spBag (K : PySem.W.Frag) : Sp := fun vs H Q _ => ∃ (a : Addr) (ns : List Int), vs = [.ref a] ∧ SqL K H a (ns.map V.int) ∧ ns.length ≤ 63 ∧
  ∀ H' b c, Same H H' → H b = none → Bag H' b c → Q (.ref b) H'
theorem same_new {H H' : Hp} {p : Addr} {o : HO} (e : Same H H') (h : H' p = none) : Same H (upd H' p o) := fun b x z => by
  rw [upd_ne (ne_of_none (e b x z) h)]
  exact e b x z
/-- an object that was made since may change -/
theorem same_mut {H H' : Hp} {p : Addr} {o : HO} (e : Same H H') (h : H p = none) : Same H (upd H' p o) := fun b x z => by
  rw [upd_ne (ne_of_none z h)]
  exact e b x z
theorem cut63 (xs : List V) (h : xs.length ≤ 63) : cutV xs none (some 63) = xs := by
  unfold cutV
  rw [HT.sIx_none, show HT.sIx xs.length xs.length (some 63) = min 63 xs.length from HT.sIx_nat xs.length xs.length 63]
  rw [List.drop_zero]
  exact List.take_of_length_le (by omega)
theorem ok_bag {f : Addr} {fd : FuncData} {k : Nat} (F : Fun K "_law_bag" "_law_bag" sBag f fd) (mi : mg "int" = none) (ma : mg "abs" = none) :
    FnOk P w K mg base CX0 (k + 1) f fd ["script"] (spBag K) := by
  refine F.ok scBag (fun vs H Q E h => ?_) (fun cdv A outer s H vs Q E hr h => ?_)
  · obtain ⟨a, ns, rfl, _⟩ := h
    rfl
  · obtain ⟨a, ns, rfl, hS, hlen, q⟩ := h
    refine ⟨_, pss_cons (ps_set (i := 1) scBag.nd rfl (.inl rfl) pe_int)
      (pss_cons (ps_for PassesOwn.never rfl (pi_list (pe_slice sl_list (pv 0) po_none (po_some pe_int))) (pg_name (i := 2) scBag.nd rfl (.inl rfl))
        (pss_one (ps_set (i := 1) scBag.nd rfl (.inl rfl) (pe_op op_modN (pe_callTy call_int1 (by rfl) mi (by decide +kernel) (pa_cons (pe_op op_add (pe_op op_add (pe_op op_mul (pv 1) pe_int)
            (pe_op op_modN (pe_callTy call_int1 (by rfl) mi (by decide +kernel) (pa_cons (pv 2) pa_nil)) pe_int)) pe_int) pa_nil)) pe_int))))
      (pss_one (ps_ret (pe_lst (pa_cons (pe_lc (own := [("cell", 2)]) (g := gName 2) (tt := tYes) rfl scBag.nd (pi_list (pe_slice sl_list (pv 0) po_none (po_some pe_int)))
          (blkOk_by (N := ["script", "stir", "cell"]) (sc := defScope sBag) (by decide +kernel)) (fun _ _ _ _ _ => pg_name (i := 2) scBag.nd rfl (Or.inl rfl)) (fun _ _ _ _ _ => pts_nil)
          (fun _ _ _ _ _ => pe_op op_modN (pe_callTy call_int1 (by rfl) mi (by decide +kernel) (pa_cons (pe_callB call_abs (by rfl) ma (by decide +kernel) (pa_cons (pv 2) pa_nil)) pa_nil)) (pe_op op_powW (pe_op op_pow pe_int pe_int) pe_int)))
        (pa_cons pe_int (pa_cons pe_int (pa_cons (pv 1) (pa_cons pe_int pa_nil))))))))), ?_⟩
    have hl : (ns.map V.int).length ≤ 63 := by rw [List.length_map]; exact hlen
    refine ⟨.ref a, rfl, 63, rfl, a, ns.map V.int, rfl, hS, fun o no => ?_⟩
    rw [cut63 _ hl]
    refine ⟨o, rfl, ⟨_, SqL.of upd_same⟩, for_list (xs := ns.map V.int) (fun i σ H1 => ∃ (m : Int) (y2 : Option V), σ = [some (.ref a), some (.int m), y2] ∧ 0 ≤ m ∧ m < 2147483647 ∧ Same H H1 ∧ H1 o = some (.lst (ns.map V.int)))
      ⟨147, none, rfl, by decide, by decide, same_new (Same.refl H) no, upd_same⟩ (fun i σ H1 _ ⟨_, _, _, _, _, _, z⟩ => SqL.of z) ?_ ?_⟩
    · rintro i y σ H1 hy ⟨m, y2, rfl, hm0, hm1, hs, ho⟩
      obtain ⟨z, hz, rfl⟩ : ∃ z, ns[i]? = some z ∧ y = V.int z := by
        rw [List.getElem?_map] at hy
        cases e : ns[i]? with
        | none =>
          rw [e] at hy
          cases hy
        | some z =>
          rw [e] at hy
          exact ⟨z, rfl, (Option.some.inj hy).symm⟩
      have e64 : (2 : Int) ^ 64 = 18446744073709551616 := by decide
      refine ⟨_, rfl, m, 48271, rfl, rfl, .inr ⟨by decide, by decide⟩, _, rfl, .inl ⟨z, rfl, _, 2147483629, rfl, rfl, (by show (2147483629 : Int) ≠ 0; decide), _, _, rfl, rfl, _, 1, rfl, rfl, .inl ⟨_, rfl, _, 2147483647, rfl, rfl, (by show (2147483647 : Int) ≠ 0; decide), ?_⟩⟩⟩
      refine ⟨_, _, rfl, ?_, ?_, hs, ho⟩
      · rw [Int.fmod_eq_emod_of_nonneg _ (by decide)]
        omega
      · rw [Int.fmod_eq_emod_of_nonneg _ (by decide)]
        omega
    · rintro σ H1 ⟨m, y2, rfl, hm0, hm1, hs, ho⟩
      refine ⟨.ref a, rfl, 63, rfl, a, ns.map V.int, rfl, hs.seq hS, fun o2 no2 => ?_⟩
      rw [cut63 _ hl]
      have free : ∀ {H2 : Hp} {p : Addr}, Same H H2 → H2 p = none → H p = none := fun e z => e.free z
      refine ⟨o2, rfl, ⟨_, SqL.of upd_same⟩, fun D nD => ?_⟩
      have nD0 : H D = none := free (same_new hs no2) nD
      have o2D : o2 ≠ D := fun z => by
        rw [z, upd_same] at nD
        cases nD
      refine lc_list (K := K) (a := o2) (xs := ns.map V.int) (fun i H2 => Same H H2 ∧ H2 o2 = some (.lst (ns.map V.int)) ∧ ∃ ms : List Int, H2 D = some (.lst (ms.map V.int)) ∧ ms.length = i)
        ⟨same_new (same_new hs no2) nD, ?_, [], upd_same, rfl⟩ (fun i H2 _ z => SqL.of z.2.1) ?_ ?_
      · rw [upd_ne o2D, upd_same]
      · rintro i y H2 hy ⟨hs2, ho2, ms, hD, hms⟩
        obtain ⟨z, hz, rfl⟩ : ∃ z, ns[i]? = some z ∧ y = V.int z := by
          rw [List.getElem?_map] at hy
          cases e : ns[i]? with
          | none =>
            rw [e] at hy
            cases hy
          | some z =>
            rw [e] at hy
            exact ⟨z, rfl, (Option.some.inj hy).symm⟩
        have hi : i < ns.length := (List.getElem?_eq_some_iff.mp hz).1
        refine ⟨rfl, _, rfl, z, rfl, .inl ⟨_, rfl, 10, 60, rfl, rfl, ⟨by decide, by decide, by decide⟩, _, 10, rfl, rfl, ⟨by decide, by decide +kernel⟩, _, _, rfl, rfl, ?_, _, hD, ?_, ?_⟩⟩
        · show ((10 : Int) ^ Int.toNat 60) ^ Int.toNat 10 ≠ 0
          decide +kernel
        · rw [List.length_map]
          exact small1000 (by omega)
        · refine ⟨same_mut hs2 nD0, ?_, ms ++ [(if z < 0 then -z else z).fmod ((10 ^ Int.toNat 60) ^ Int.toNat 10)], ?_, ?_⟩
          · rw [upd_ne o2D]
            exact ho2
          · rw [upd_same, List.map_append]
            rfl
          · rw [List.length_append, hms]
            rfl
      · rintro H2 ⟨hs2, ho2, ms, hD, hms⟩
        refine ⟨_, rfl, (by show 5 ≤ sizeLine; decide), fun p np => ?_⟩
        have pD : p ≠ D := fun z => by
          rw [z, hD] at np
          cases np
        refine q _ p D (same_new hs2 np) (free hs2 np) ⟨ms, 0, 0, m, 0, upd_same, ?_, pD, by decide, hm0, hm1⟩
        rw [upd_ne (Ne.symm pD)]
        exact hD
end
end P64
set_option Elab.async false
set_option linter.all false
set_option maxRecDepth 100000
set_option maxHeartbeats 4000000
/-! # the errors' classes -/
namespace P64
open PySem PySem.Spec PyProof.Rows L2 PX
abbrev sOf : Stmt := topS 22
abbrev sIL : Stmt := inClass (topS 13) 0
abbrev sIC : Stmt := inClass (topS 14) 0
abbrev sIM : Stmt := inClass (topS 15) 0
abbrev sIT : Stmt := inClass (topS 16) 0
theorem scIL : FnScope ["self", "pane"] ["self", "pane"] (defScope sIL) := ⟨rfl, rfl, rfl, by decide +kernel, rfl, by decide +kernel, by decide +kernel⟩
theorem scIC : FnScope ["self", "place"] ["self", "place"] (defScope sIC) := ⟨rfl, rfl, rfl, by decide +kernel, rfl, by decide +kernel, by decide +kernel⟩
theorem scIM : FnScope ["self", "x", "y"] ["self", "x", "y"] (defScope sIM) := ⟨rfl, rfl, rfl, by decide +kernel, rfl, by decide +kernel, by decide +kernel⟩
theorem scIT : FnScope ["self", "place"] ["self", "place"] (defScope sIT) := ⟨rfl, rfl, rfl, by decide +kernel, rfl, by decide +kernel, by decide +kernel⟩
theorem scOf : FnScope ["made", "found"] ["made"] (defScope sOf) := ⟨rfl, rfl, rfl, by decide +kernel, rfl, by decide +kernel, by decide +kernel⟩

/-- the classes above ValueError's own line -/
def tailE : List Value := [.type "ValueError", .type "Exception", .type "BaseException", .type "object"]
/-- what the written part says of an own error class: mid stands between it and ValueError -/
structure XC (K : PySem.W.Frag) (mg : Str → Option Value) (nm : Str) (C : Addr) (mid : List Value) : Prop where
  g : mg nm = some (.ref C)
  k : PySem.W.keepIn K (.ref C) = true
  m : ∃ cd, PySem.W.clsIn K C = some cd ∧ cd.mro = .ref C :: (mid ++ tailE) ∧ cd.hasDict = true
  ty : PySem.W.typeIn K (.ref C) = some (.type "type")
  hg : PySem.W.findIn K (.ref C) "__getattribute__" = some (some (.builtin "BaseException.__getattribute__"))
  hk : PySem.W.findIn K (.ref C) "__getattr__" = some none
  ha : PySem.W.findIn K (.ref C) "__class__" = some (some (.builtin "object.__class__"))
  hn : PySem.W.specialIn K (.builtin "object.__class__") "__get__" = some (some (.builtin "getset_descriptor.__get__"))
  ht : PySem.W.takesIn K (.builtin "object.__class__") = some true
section
variable {K : PySem.W.Frag} {mg : Str → Option Value} {nm nm' : Str} {C D : Addr} {mid mid' : List Value}
theorem XC.mro (T : XC K mg nm C mid) (v : Value) : PySem.W.mroIn K C v = some ((Value.ref C :: (mid ++ tailE)).contains v) := by
  obtain ⟨cd, hc, hm, _⟩ := T.m
  simp [PySem.W.mroIn, hc, hm]
theorem XC.isC (T : XC K mg nm C mid) : (PySem.W.clsIn K C).isSome = true := by
  obtain ⟨cd, hc, hm, _⟩ := T.m
  simp [hc]
theorem XC.ex (T : XC K mg nm C mid) : ExcC K C where
  hg := T.hg
  hk := T.hk
  hs := by
    show PySem.W.mroIn K C _ = some true
    rw [T.mro]
    simp [tailE]
  hd := by
    obtain ⟨cd, hc, _, hd⟩ := T.m
    simp [PySem.W.hasDictIn, hc, hd]
  ha := T.ha
  hn := T.hn
  ht := T.ht
  hm := by
    rw [T.mro]
    simp [tailE]
/-- isinstance of an error of C against the class D -/
theorem XC.kit (T : XC K mg nm C mid) (T' : XC K mg nm' D mid') : PySem.W.kitOne K (.ref C) (.ref D) = some ((Value.ref C :: mid).contains (.ref D)) := by
  unfold PySem.W.kitOne
  by_cases h : (Value.ref C == Value.ref D) = true
  · rw [if_pos h, List.contains_cons]
    have e : D = C := (Value.ref.inj (beq_iff_eq.mp h)).symm
    rw [e]
    simp
  · rw [if_neg h]
    unfold PySem.W.kitCls
    dsimp only
    rw [T'.isC, T'.ty]
    rw [if_pos (by decide)]
    show PySem.W.mroIn K C (.ref D) = _
    rw [T.mro]
    simp [tailE]
theorem XC.kitV (T : XC K mg nm C mid) : PySem.W.kitOne K (.ref C) (.type "ValueError") = some true := by
  unfold PySem.W.kitOne
  rw [if_neg (fun h => by cases (beq_iff_eq.mp h))]
  unfold PySem.W.kitCls
  dsimp only
  rw [if_pos (by decide +kernel)]
  show PySem.W.mroIn K C (.type "ValueError") = _
  rw [T.mro]
  simp [tailE]
end
/-- all classes: P is PaneError, the others in the law's sequence -/
structure All (K : PySem.W.Frag) (mg : Str → Option Value) (P c0 c1 c2 c3 c4 c5 c6 c7 c8 c9 c10 c11 c12 c13 c14 : Addr) : Prop where
  p : XC K mg "PaneError" P []
  h0 : XC K mg "InvalidPlan" c0 [.ref P]
  h1 : XC K mg "InvalidSegment" c1 [.ref P]
  h2 : XC K mg "InvalidSizes" c2 [.ref P]
  h3 : XC K mg "InvalidWord" c3 [.ref P]
  h4 : XC K mg "InvalidPane" c4 [.ref P]
  h5 : XC K mg "InvalidIndex" c5 [.ref P]
  h6 : XC K mg "InvalidNumber" c6 [.ref P]
  h7 : XC K mg "NotAlone" c7 [.ref P]
  h8 : XC K mg "NotNeighbours" c8 [.ref P]
  h9 : XC K mg "TooSmall" c9 [.ref P]
  h10 : XC K mg "NothingToUndo" c10 [.ref P]
  h11 : XC K mg "InvalidLayout" c11 [.ref P]
  h12 : XC K mg "InvalidCode" c12 [.ref P]
  h13 : XC K mg "Meeting" c13 [.ref P]
  h14 : XC K mg "InvalidText" c14 [.ref P]
  nd : [P, c0, c1, c2, c3, c4, c5, c6, c7, c8, c9, c10, c11, c12, c13, c14].Nodup
section
variable {K : PySem.W.Frag} {mg : Str → Option Value} {σ : L2.St} {H : Hp} {tb : TE}
theorem ev_isX {i : Nat} {a C D : Addr} {nm nm' : Str} {mid mid' : List Value} (hs : σ[i]? = some (some (.ref a))) (hx : Xv H a D) (T : XC K mg nm D mid) (T' : XC K mg nm' C mid') :
    Evl.Ev (tCB (rIsX K) (tCons (tVar i) (tCons (tC (.ref C)) tNil))) σ H (.bl ((Value.ref D :: mid).contains (.ref C))) := fun H1 e Q q =>
  ⟨_, hs, a, D, .ref C, .ref C, _, rfl, Xv.same e hx, T.ex, .own C, T.kit T', q H1 (Evl.Ex.refl H1)⟩
theorem el_catV {i : Nat} {p : Addr} {xs ys : List V} (h : σ[i]? = some (some (.ref p))) (hp : H p = some (.lst xs)) (hb : Evl.EvL tb σ H ys) (hl : xs.length + ys.length ≤ 100000) :
    Evl.EvL (tOp rCat (tVar i) tb) σ H (xs ++ ys) := fun H1 e Q q =>
  ⟨.ref p, h, hb H1 e _ fun p2 H2 _ e2 h2 => ⟨p, p2, xs, ys, rfl, rfl, e2 _ _ (e _ _ hp), h2, Evl.sz_of hl, fun r nr => q r _ (Evl.fresh_back e2 nr) (e2.trans (Evl.Ex.new nr)) upd_same⟩⟩
end
section
variable {PR : Program} {w : World} {K : PySem.W.Frag} {mg : Str → Option Value} {base : Heap} {P c0 c1 c2 c3 c4 c5 c6 c7 c8 c9 c10 c11 c12 c13 c14 : Addr}
/-- which of the fifteen an error of D is -/
def isOf (cs : List Addr) (D : Addr) (mid : List Value) : List V := cs.map fun C => .bl ((Value.ref D :: mid).contains (.ref C))
def spOf (K : PySem.W.Frag) (mg : Str → Option Value) (cs : List Addr) : Sp := fun vs H Q _ => ∃ (a D : Addr) (nm : Str) (mid : List Value), vs = [.ref a] ∧ Xv H a D ∧ XC K mg nm D mid ∧
  ∀ H' l, Same H H' → H l = none → H' l = some (.lst (isOf cs D mid)) → Q (.ref l) H'
theorem ok_of {f : Addr} {fd : FuncData} {k : Nat} (F : Fun K "_law_of" "_law_of" sOf f fd) (T : All K mg P c0 c1 c2 c3 c4 c5 c6 c7 c8 c9 c10 c11 c12 c13 c14) (mis : mg "isinstance" = none) :
    FnOk PR w K mg base CX0 (k + 1) f fd ["made"] (spOf K mg [c0, c1, c2, c3, c4, c5, c6, c7, c8, c9, c10, c11, c12, c13, c14]) := by
  refine F.ok scOf (fun vs H Q E h => ?_) (fun cdv A outer s H vs Q E hr h => ?_)
  · obtain ⟨a, D, nm, mid, rfl, _⟩ := h
    rfl
  · obtain ⟨a, D, nm, mid, rfl, hx, TD, q⟩ := h
    refine ⟨_, pss_cons (ps_set (i := 1) scOf.nd rfl (.inl rfl) (pe_lst (pa_cons (pe_callB call_isX (by rfl) mis (by decide +kernel) (pa_cons (pv 0) (pa_cons (pe_glob (v := .ref c0) rfl T.h0.g rfl) pa_nil))) (pa_cons (pe_callB call_isX (by rfl) mis (by decide +kernel) (pa_cons (pv 0) (pa_cons (pe_glob (v := .ref c1) rfl T.h1.g rfl) pa_nil))) (pa_cons (pe_callB call_isX (by rfl) mis (by decide +kernel) (pa_cons (pv 0) (pa_cons (pe_glob (v := .ref c2) rfl T.h2.g rfl) pa_nil))) pa_nil)))))
      (pss_cons (ps_set (i := 1) scOf.nd rfl (.inl rfl) (pe_op op_cat (pv 1) (pe_lst (pa_cons (pe_callB call_isX (by rfl) mis (by decide +kernel) (pa_cons (pv 0) (pa_cons (pe_glob (v := .ref c3) rfl T.h3.g rfl) pa_nil))) (pa_cons (pe_callB call_isX (by rfl) mis (by decide +kernel) (pa_cons (pv 0) (pa_cons (pe_glob (v := .ref c4) rfl T.h4.g rfl) pa_nil))) (pa_cons (pe_callB call_isX (by rfl) mis (by decide +kernel) (pa_cons (pv 0) (pa_cons (pe_glob (v := .ref c5) rfl T.h5.g rfl) pa_nil))) pa_nil))))))
      (pss_cons (ps_set (i := 1) scOf.nd rfl (.inl rfl) (pe_op op_cat (pv 1) (pe_lst (pa_cons (pe_callB call_isX (by rfl) mis (by decide +kernel) (pa_cons (pv 0) (pa_cons (pe_glob (v := .ref c6) rfl T.h6.g rfl) pa_nil))) (pa_cons (pe_callB call_isX (by rfl) mis (by decide +kernel) (pa_cons (pv 0) (pa_cons (pe_glob (v := .ref c7) rfl T.h7.g rfl) pa_nil))) (pa_cons (pe_callB call_isX (by rfl) mis (by decide +kernel) (pa_cons (pv 0) (pa_cons (pe_glob (v := .ref c8) rfl T.h8.g rfl) pa_nil))) pa_nil))))))
      (pss_cons (ps_set (i := 1) scOf.nd rfl (.inl rfl) (pe_op op_cat (pv 1) (pe_lst (pa_cons (pe_callB call_isX (by rfl) mis (by decide +kernel) (pa_cons (pv 0) (pa_cons (pe_glob (v := .ref c9) rfl T.h9.g rfl) pa_nil))) (pa_cons (pe_callB call_isX (by rfl) mis (by decide +kernel) (pa_cons (pv 0) (pa_cons (pe_glob (v := .ref c10) rfl T.h10.g rfl) pa_nil))) (pa_cons (pe_callB call_isX (by rfl) mis (by decide +kernel) (pa_cons (pv 0) (pa_cons (pe_glob (v := .ref c11) rfl T.h11.g rfl) pa_nil))) pa_nil))))))
      (pss_one (ps_ret (pe_op op_cat (pv 1) (pe_lst (pa_cons (pe_callB call_isX (by rfl) mis (by decide +kernel) (pa_cons (pv 0) (pa_cons (pe_glob (v := .ref c12) rfl T.h12.g rfl) pa_nil))) (pa_cons (pe_callB call_isX (by rfl) mis (by decide +kernel) (pa_cons (pv 0) (pa_cons (pe_glob (v := .ref c13) rfl T.h13.g rfl) pa_nil))) (pa_cons (pe_callB call_isX (by rfl) mis (by decide +kernel) (pa_cons (pv 0) (pa_cons (pe_glob (v := .ref c14) rfl T.h14.g rfl) pa_nil))) pa_nil)))))))))), ?_⟩
    refine Evl.q_asgL (Evl.el_lst (Evl.ea_cons (ev_isX rfl hx TD T.h0) (Evl.ea_cons (ev_isX rfl hx TD T.h1) (Evl.ea_cons (ev_isX rfl hx TD T.h2) Evl.ea_nil))) (by simp only [List.length_append, List.length_cons, List.length_nil]; decide)) fun p1 H1 n1 e1 g1 => ?_
    have hx1 := Xv.same e1 hx
    refine Evl.q_asgL (el_catV rfl g1 (Evl.el_lst (Evl.ea_cons (ev_isX rfl hx1 TD T.h3) (Evl.ea_cons (ev_isX rfl hx1 TD T.h4) (Evl.ea_cons (ev_isX rfl hx1 TD T.h5) Evl.ea_nil))) (by simp only [List.length_append, List.length_cons, List.length_nil]; decide)) (by simp only [List.length_append, List.length_cons, List.length_nil]; decide)) fun p2 H2 n2 e2 g2 => ?_
    have hx2 := Xv.same e2 hx1
    refine Evl.q_asgL (el_catV rfl g2 (Evl.el_lst (Evl.ea_cons (ev_isX rfl hx2 TD T.h6) (Evl.ea_cons (ev_isX rfl hx2 TD T.h7) (Evl.ea_cons (ev_isX rfl hx2 TD T.h8) Evl.ea_nil))) (by simp only [List.length_append, List.length_cons, List.length_nil]; decide)) (by simp only [List.length_append, List.length_cons, List.length_nil]; decide)) fun p3 H3 n3 e3 g3 => ?_
    have hx3 := Xv.same e3 hx2
    refine Evl.q_asgL (el_catV rfl g3 (Evl.el_lst (Evl.ea_cons (ev_isX rfl hx3 TD T.h9) (Evl.ea_cons (ev_isX rfl hx3 TD T.h10) (Evl.ea_cons (ev_isX rfl hx3 TD T.h11) Evl.ea_nil))) (by simp only [List.length_append, List.length_cons, List.length_nil]; decide)) (by simp only [List.length_append, List.length_cons, List.length_nil]; decide)) fun p4 H4 n4 e4 g4 => ?_
    have hx4 := Xv.same e4 hx3
    refine Evl.s_retL (el_catV rfl g4 (Evl.el_lst (Evl.ea_cons (ev_isX rfl hx4 TD T.h12) (Evl.ea_cons (ev_isX rfl hx4 TD T.h13) (Evl.ea_cons (ev_isX rfl hx4 TD T.h14) Evl.ea_nil))) (by simp only [List.length_append, List.length_cons, List.length_nil]; decide)) (by simp only [List.length_append, List.length_cons, List.length_nil]; decide)) fun p5 H5 n5 e5 g5 => ?_
    have eo : Same H H4 := ((e1.trans e2).trans e3).trans e4
    exact q H5 p5 (eo.trans e5) (eo.free n5) g5
/-- C.__init__(self, v): self.f = v, at a new exception -/
def spIn1 (K : PySem.W.Frag) (C : Addr) (f : Str) : Sp := fun vs H Q _ => ∃ (a : Addr) (y : V), vs = [.ref a, y] ∧ H a = some (exo a C none) ∧
  ∀ dx, H dx = none → dx ≠ a → Q .non (upd (upd H dx (exd dx [(f, y)])) a (exo a C (some dx)))
theorem ok_il {fI C : Addr} {fd : FuncData} {k : Nat} (F : Fun K "__init__" "InvalidLayout.__init__" sIL fI fd) (T : OexC K C) (hno : PySem.W.findIn K (.ref C) "pane" = some none) :
    FnOk PR w K mg base CX0 (k + 1) fI fd ["self", "pane"] (spIn1 K C "pane") := by
  refine F.ok scIL (fun vs H Q E h => ?_) (fun cdv A outer s H vs Q E hr h => ?_)
  · obtain ⟨a, y, rfl, _⟩ := h
    rfl
  · obtain ⟨a, y, rfl, ha, q⟩ := h
    exact ⟨_, pss_one (ps_ost (pv 0) (pv 1)), y, rfl, .ref a, rfl, a, C, rfl, T, hno, .inl ⟨ha, q⟩⟩
theorem ok_ic {fI C : Addr} {fd : FuncData} {k : Nat} (F : Fun K "__init__" "InvalidCode.__init__" sIC fI fd) (T : OexC K C) (hno : PySem.W.findIn K (.ref C) "place" = some none) :
    FnOk PR w K mg base CX0 (k + 1) fI fd ["self", "place"] (spIn1 K C "place") := by
  refine F.ok scIC (fun vs H Q E h => ?_) (fun cdv A outer s H vs Q E hr h => ?_)
  · obtain ⟨a, y, rfl, _⟩ := h
    rfl
  · obtain ⟨a, y, rfl, ha, q⟩ := h
    exact ⟨_, pss_one (ps_ost (pv 0) (pv 1)), y, rfl, .ref a, rfl, a, C, rfl, T, hno, .inl ⟨ha, q⟩⟩
theorem ok_it {fI C : Addr} {fd : FuncData} {k : Nat} (F : Fun K "__init__" "InvalidText.__init__" sIT fI fd) (T : OexC K C) (hno : PySem.W.findIn K (.ref C) "place" = some none) :
    FnOk PR w K mg base CX0 (k + 1) fI fd ["self", "place"] (spIn1 K C "place") := by
  refine F.ok scIT (fun vs H Q E h => ?_) (fun cdv A outer s H vs Q E hr h => ?_)
  · obtain ⟨a, y, rfl, _⟩ := h
    rfl
  · obtain ⟨a, y, rfl, ha, q⟩ := h
    exact ⟨_, pss_one (ps_ost (pv 0) (pv 1)), y, rfl, .ref a, rfl, a, C, rfl, T, hno, .inl ⟨ha, q⟩⟩
/-- Meeting.__init__(self, x, y) -/
def spIn2 (K : PySem.W.Frag) (C : Addr) : Sp := fun vs H Q _ => ∃ (a : Addr) (y z : V), vs = [.ref a, y, z] ∧ H a = some (exo a C none) ∧
  ∀ dx, H dx = none → dx ≠ a → Q .non (upd (upd (upd H dx (exd dx [(("x" : Str), y)])) a (exo a C (some dx))) dx (exd dx [(("y" : Str), z), (("x" : Str), y)]))
theorem ok_im {fI C : Addr} {fd : FuncData} {k : Nat} (F : Fun K "__init__" "Meeting.__init__" sIM fI fd) (T : OexC K C) (hx : PySem.W.findIn K (.ref C) "x" = some none) (hy : PySem.W.findIn K (.ref C) "y" = some none) :
    FnOk PR w K mg base CX0 (k + 1) fI fd ["self", "x", "y"] (spIn2 K C) := by
  refine F.ok scIM (fun vs H Q E h => ?_) (fun cdv A outer s H vs Q E hr h => ?_)
  · obtain ⟨a, y, z, rfl, _⟩ := h
    rfl
  · obtain ⟨a, y, z, rfl, ha, q⟩ := h
    refine ⟨_, pss_cons (ps_ost (pv 0) (pv 1)) (pss_one (ps_ost (pv 0) (pv 2))), y, rfl, .ref a, rfl, a, C, rfl, T, hx, .inl ⟨ha, fun dx nd ne => ?_⟩⟩
    refine ⟨z, rfl, .ref a, rfl, a, C, rfl, T, hy, .inr ⟨dx, _, upd_same, (by rw [upd_ne ne, upd_same]), ?_, q dx nd ne⟩⟩
    exact (show 1 ≤ 900 by decide)
end
end P64
set_option Elab.async false
set_option linter.all false
set_option maxRecDepth 100000
set_option maxHeartbeats 4000000
/-! # the comparison -/
namespace P64
open PySem PySem.Spec PyProof.Rows L2 PX
abbrev sAl : Stmt := topS 21
theorem scAl : FnScope ["found", "due", "k"] ["found", "due"] (defScope sAl) := ⟨rfl, rfl, rfl, by decide +kernel, rfl, by decide +kernel, by decide +kernel⟩
section
variable {K : PySem.W.Frag} {σ : L2.St} {H : Hp} {tb : TE}
theorem ev_isi {i : Nat} {x : V} {t : Value} {T : String} {b : Bool} (hs : σ[i]? = some (some x)) (ty : ∀ H1, Evl.Ex H H1 → TyX K H1 x t) (k : PySem.W.kitOne K t (.type T) = some b) :
    Evl.Ev (tCB (rIsi K) (tCons (tVar i) (tCons (tC (.ty T)) tNil))) σ H (.bl b) := fun H1 e Q q =>
  ⟨_, hs, x, .ty T, t, .type T, b, rfl, .ty T, ty H1 e, k, q H1 (Evl.Ex.refl H1)⟩
theorem ev_isiT {i : Nat} {x : V} {t : Value} {S T : String} {b : Bool} (hs : σ[i]? = some (some x)) (ty : ∀ H1, Evl.Ex H H1 → TyX K H1 x t) (k : PySem.W.kitAny K t [.type S, .type T] = some b) :
    Evl.Ev (tCB (rIsiT K) (tCons (tVar i) (tCons (tTup (tCons (tC (.ty S)) (tCons (tC (.ty T)) tNil))) tNil))) σ H (.bl b) := fun H1 e Q q =>
  ⟨_, hs, (by show 2 ≤ sizeLine; decide), fun p np => ⟨x, p, [.ty S, .ty T], t, [.type S, .type T], b, rfl, upd_same, .cons (.ty S) (.cons (.ty T) .nil), ty _ (e.trans (Evl.Ex.new np)), k, q _ (Evl.Ex.new np)⟩⟩
end
/-- a scalar: None or a whole number -/
def Sc (x : V) : Prop := x = .non ∨ ∃ i, x = .int i
def spAl0 : Sp := fun vs H Q _ => ∃ x : V, vs = [x, x] ∧ Sc x ∧ ∀ H', Same H H' → Q (.bl true) H'
def spAl1 : Sp := fun vs H Q _ => ∃ (a b : Addr) (xs : List V), vs = [.ref a, .ref b] ∧ H a = some (.lst xs) ∧ H b = some (.lst xs) ∧ (∀ x ∈ xs, Sc x) ∧ xs.length ≤ 1000 ∧ ∀ H', Same H H' → Q (.bl true) H'
/-- the built-in names that the comparison reads -/
structure BN (mg : Str → Option Value) : Prop where
  is_ : mg "isinstance" = none
  li : mg "list" = none
  tu : mg "tuple" = none
  le : mg "len" = none
  al : mg "all" = none
  ra : mg "range" = none
  bo : mg "bool" = none
  in_ : mg "int" = none
  st : mg "str" = none
section
variable {PR : Program} {w : World} {K : PySem.W.Frag} {mg : Str → Option Value} {base : Heap}
theorem sc_ty {x : V} (h : Sc x) : ∃ T : String, (T = "NoneType" ∨ T = "int") ∧ ∀ H1 : Hp, TyX K H1 x (.type T) := by
  rcases h with rfl | ⟨i, rfl⟩
  · exact ⟨_, .inl rfl, fun H1 => .base .non⟩
  · exact ⟨_, .inr rfl, fun H1 => .base (.int i)⟩
theorem ok_al0 {f : Addr} {fd : FuncData} {k : Nat} (F : Fun K "_law_alike" "_law_alike" sAl f fd) (B : BN mg) : FnOk PR w K mg base CX0 (k + 1) f fd ["found", "due"] spAl0 := by
  refine F.ok scAl (fun vs H Q E h => ?_) (fun cdv A outer s H vs Q E hr h => ?_)
  · obtain ⟨x, rfl, _⟩ := h
    rfl
  · obtain ⟨x, rfl, hx, q⟩ := h
    refine ⟨_, pss_cons (ps_if (pt_val (pe_callB call_isiT (by rfl) B.is_ (by decide +kernel) (pa_cons (pv 1) (pa_cons (pe_tup (pa_cons (pe_bltn (v := .ty "list") (by rfl) B.li (by decide +kernel) rfl) (pa_cons (pe_bltn (v := .ty "tuple") (by rfl) B.tu (by decide +kernel) rfl) pa_nil))) pa_nil))))
        (pss_cons ps_never (pss_cons ps_never (pss_one ps_never))) pss_nil)
      (pss_cons (ps_if (PW.pt (pw_or (pt_cmpR op_ne (pe_callB call_isi (by rfl) B.is_ (by decide +kernel) (pa_cons (pv 0) (pa_cons (pe_bltn (v := .ty "bool") (by rfl) B.bo (by decide +kernel) rfl) pa_nil)))
            (pe_callB call_isi (by rfl) B.is_ (by decide +kernel) (pa_cons (pv 1) (pa_cons (pe_bltn (v := .ty "bool") (by rfl) B.bo (by decide +kernel) rfl) pa_nil))) (nomark _))
          (pw_or1 (pt_cmpR op_ne (pe_callB call_isi (by rfl) B.is_ (by decide +kernel) (pa_cons (pv 0) (pa_cons (pe_bltn (v := .ty "int") (by rfl) B.in_ (by decide +kernel) rfl) pa_nil)))
            (pe_callB call_isi (by rfl) B.is_ (by decide +kernel) (pa_cons (pv 1) (pa_cons (pe_bltn (v := .ty "int") (by rfl) B.in_ (by decide +kernel) rfl) pa_nil))) (nomark _)))))
        (pss_one ps_never) pss_nil)
      (pss_one (ps_ret (pe_and (pe_cmpR op_eq (pe_callB call_isi (by rfl) B.is_ (by decide +kernel) (pa_cons (pv 0) (pa_cons (pe_bltn (v := .ty "str") (by rfl) B.st (by decide +kernel) rfl) pa_nil)))
            (pe_callB call_isi (by rfl) B.is_ (by decide +kernel) (pa_cons (pv 1) (pa_cons (pe_bltn (v := .ty "str") (by rfl) B.st (by decide +kernel) rfl) pa_nil))) (nomark _))
          (pe_one (pe_cmpR op_eq (pv 0) (pv 1) (nomark _))))))), ?_⟩
    obtain ⟨T, hT, ty⟩ := sc_ty (K := K) hx
    have tyH : ∀ (H0 H1 : Hp), Evl.Ex H0 H1 → TyX K H1 x (.type T) := fun _ H1 _ => ty H1
    have k1 : PySem.W.kitAny K (.type T) [.type "list", .type "tuple"] = some false := by
      rcases hT with rfl | rfl
      · exact kitAny_cons (kit_ty (r := false) (by decide +kernel)) (fun _ => kitAny_cons (kit_ty (r := false) (by decide +kernel)) (fun _ => kitAny_nil) (fun z => nomatch z)) (fun z => nomatch z)
      · exact kitAny_cons (kit_ty (r := false) (by decide +kernel)) (fun _ => kitAny_cons (kit_ty (r := false) (by decide +kernel)) (fun _ => kitAny_nil) (fun z => nomatch z)) (fun z => nomatch z)
    have k2 : PySem.W.kitOne K (.type T) (.type "bool") = some false := by
      rcases hT with rfl | rfl <;> exact kit_ty (by decide +kernel)
    have k3 : ∃ b, PySem.W.kitOne K (.type T) (.type "int") = some b := by
      rcases hT with rfl | rfl
      · exact ⟨false, kit_ty (by decide +kernel)⟩
      · exact ⟨true, kit_ty (by decide +kernel)⟩
    have k4 : PySem.W.kitOne K (.type T) (.type "str") = some false := by
      rcases hT with rfl | rfl <;> exact kit_ty (by decide +kernel)
    obtain ⟨b3, k3⟩ := k3
    have scx : scal x x = true := by
      rcases hx with rfl | ⟨i, rfl⟩ <;> rfl
    refine Evl.q_when (Evl.et_B (ev_isiT rfl (tyH H) k1)) (fun z => nomatch z) fun _ H1 e1 => ?_
    refine Evl.q_when (Evl.et_or (Evl.et_test (Evl.ev_op (ev_isi rfl (tyH H1) k2) (ev_isi rfl (tyH H1) k2) (Evl.rv_ne rfl))) (fun _ => Evl.et_test (Evl.ev_op (ev_isi rfl (tyH H1) k3) (ev_isi rfl (tyH H1) k3) (Evl.rv_ne rfl)))) (fun z => ?_) fun _ H2 e2 => ?_
    · exact absurd z (by simp)
    · refine Evl.s_ret (Evl.ev_andV (Evl.ev_op (ev_isi rfl (tyH H2) k4) (ev_isi rfl (tyH H2) k4) (Evl.rv_eq rfl)) (fun _ => Evl.ev_op (Evl.ev_var rfl) (Evl.ev_var rfl) (Evl.rv_eq scx))) fun H3 e3 => ?_
      have g := q H3 ((e1.trans e2).trans e3)
      simpa using g
theorem ixK {K : PySem.W.Frag} {X : Cx} (e : X.K = K) : IxR X (rIxL K) := e ▸ ix_list
theorem ok_al1 {f : Addr} {fd : FuncData} (F : Fun K "_law_alike" "_law_alike" sAl f fd) (B : BN mg) (bA : Binds K fd ["found", "due"] []) (gA : mg "_law_alike" = some (.ref f)) :
    FnOk PR w K mg base CX0 2 f fd ["found", "due"] spAl1 := by
  have G : FnOk PR w K mg base CX0 1 f fd ["found", "due"] spAl0 := ok_al0 F B
  refine F.ok scAl (fun vs H Q E h => ?_) (fun cdv A outer s H vs Q E hr h => ?_)
  · obtain ⟨a, b, xs, rfl, _⟩ := h
    rfl
  · obtain ⟨a, b, xs, rfl, ha, hb, hx, hl, q⟩ := h
    refine ⟨_, pss_cons (ps_if (pt_val (pe_callB call_isiT (by rfl) B.is_ (by decide +kernel) (pa_cons (pv 1) (pa_cons (pe_tup (pa_cons (pe_bltn (v := .ty "list") (by rfl) B.li (by decide +kernel) rfl) (pa_cons (pe_bltn (v := .ty "tuple") (by rfl) B.tu (by decide +kernel) rfl) pa_nil))) pa_nil))))
        (pss_cons (ps_if (PW.pt (pw_or (pt_not (pt_val (pe_callB call_isiT (by rfl) B.is_ (by decide +kernel) (pa_cons (pv 0) (pa_cons (pe_tup (pa_cons (pe_bltn (v := .ty "list") (by rfl) B.li (by decide +kernel) rfl) (pa_cons (pe_bltn (v := .ty "tuple") (by rfl) B.tu (by decide +kernel) rfl) pa_nil))) pa_nil))))) (pw_or1 (pt_cmpR op_ne (pe_callB call_isi (by rfl) B.is_ (by decide +kernel) (pa_cons (pv 0) (pa_cons (pe_bltn (v := .ty "list") (by rfl) B.li (by decide +kernel) rfl) pa_nil))) (pe_callB call_isi (by rfl) B.is_ (by decide +kernel) (pa_cons (pv 1) (pa_cons (pe_bltn (v := .ty "list") (by rfl) B.li (by decide +kernel) rfl) pa_nil))) (nomark _))))) (pss_one ps_never) pss_nil)
        (pss_cons (ps_if (pt_cmpR op_ne (pe_callB call_len_seq (by rfl) B.le PySem.boot_len (pa_cons (pv 0) pa_nil)) (pe_callB call_len_seq (by rfl) B.le PySem.boot_len (pa_cons (pv 1) pa_nil)) (nomark _)) (pss_one ps_never) pss_nil)
        (pss_one (ps_ret (pe_callB (cr_all rfl) (by rfl) B.al (by decide +kernel) (pa_cons (pe_lc (own := [("k", 2)]) (g := gName 2) (tt := tYes) rfl scAl.nd
            (pi_range1 (by rfl) B.ra (pa_cons (pe_callB call_len_seq (by rfl) B.le PySem.boot_len (pa_cons (pv 1) pa_nil)) pa_nil))
            (blkOk_by (N := ["found", "due", "k"]) (sc := defScope sAl) (by decide +kernel)) (fun _ _ _ _ _ => pg_name (i := 2) scAl.nd rfl (Or.inl rfl)) (fun _ _ _ _ _ => pts_nil)
            (fun _ _ _ _ _ => pe_call G hr (by rfl) gA F.kp bA .nil pass0 (by exact (pa_cons (pe_ix (ixK (K := K) rfl) (pv 0) (pv 2) (fun _ _ => rfl)) (pa_cons (pe_ix (ixK (K := K) rfl) (pv 1) (pv 2) (fun _ _ => rfl)) pa_nil))))) pa_nil)))))) pss_nil) pss_never, ?_⟩
    have tyA : ∀ H1, Evl.Ex H H1 → TyX K H1 (.ref a) (.type "list") := fun H1 e => .base (.lst (e _ _ ha))
    have tyB : ∀ H1, Evl.Ex H H1 → TyX K H1 (.ref b) (.type "list") := fun H1 e => .base (.lst (e _ _ hb))
    have k1 : PySem.W.kitAny K (.type "list") [.type "list", .type "tuple"] = some true := kitAny_cons (kit_ty (r := true) (by decide +kernel)) (fun z => nomatch z) (fun _ => rfl)
    have k2 : PySem.W.kitOne K (.type "list") (.type "list") = some true := kit_ty (by decide +kernel)
    refine Evl.q_when (Evl.et_B (ev_isiT rfl tyB k1)) (fun _ H1 e1 => ?_) (fun z => nomatch z)
    refine Evl.q_when (Evl.et_or (Evl.et_not (Evl.et_B (ev_isiT rfl (fun H2 e => tyA H2 (e1.trans e)) k1)))
      (fun _ => Evl.et_test (Evl.ev_op (ev_isi rfl (fun H2 e => tyA H2 (e1.trans e)) k2) (ev_isi rfl (fun H2 e => tyB H2 (e1.trans e)) k2) (Evl.rv_ne rfl)))) (fun z => ?_) fun _ H2 e2 => ?_
    · exact absurd z (by simp)
    have e02 : Same H H2 := e1.trans e2
    refine ⟨.ref a, rfl, a, xs, rfl, .inl (SqL.of (e02 _ _ ha)), .ref b, rfl, b, xs, rfl, .inl (SqL.of (e02 _ _ hb)), rfl, _, rfl, iteNS rfl ?_⟩
    have z62 : (2 : Int) ^ 62 = 4611686018427387904 := by decide
    refine ⟨.ref b, rfl, b, xs, rfl, .inl (SqL.of (e02 _ _ hb)), (xs.length : Int), rfl, by rw [z62]; omega, by rw [z62]; omega, fun D nD => ?_⟩
    have nD0 : H D = none := e02.free nD
    refine lc_range (lo := 0) (n := ((xs.length : Int)).toNat) (fun i H3 => Same H H3 ∧ ∃ bs : List Bool, H3 D = some (.lst (bs.map V.bl)) ∧ bs.length = i ∧ ∀ z ∈ bs, z = true) ⟨?_, [], upd_same, rfl, by simp⟩ ?_ ?_
    · intro c o hc
      rw [upd_ne (ne_of_none (e02 _ _ hc) nD)]
      exact e02 _ _ hc
    · rintro i H3 hi ⟨hs3, bs, hD, hbs, hall⟩
      have hi2 : i < xs.length := by omega
      have gx : atI xs (0 + (i : Int)) = some xs[i] := by
        rw [Int.zero_add]
        exact atI_nat (List.getElem?_eq_getElem hi2)
      refine ⟨rfl, .ref a, rfl, _, rfl, a, xs, _, xs[i], rfl, rfl, SqL.of (hs3 _ _ ha), gx, .ref b, rfl, _, rfl, b, xs, _, xs[i], rfl, rfl, SqL.of (hs3 _ _ hb), gx, xs[i], rfl, hx _ (List.getElem_mem hi2), fun H4 hs4 => ?_⟩
      refine ⟨_, hs4 _ _ hD, ?_, same_mut (hs3.trans hs4) nD0, bs ++ [true], ?_, ?_, ?_⟩
      · rw [List.length_map]
        exact small1000 (by omega)
      · rw [upd_same, List.map_append]
        rfl
      · rw [List.length_append, hbs]
        rfl
      · intro z hz
        rcases List.mem_append.mp hz with h | h
        · exact hall z h
        · simpa using h
    · rintro H3 ⟨hs3, bs, hD, hbs, hall⟩
      refine ⟨D, bs, rfl, SqL.of hD, ?_⟩
      have e : bs.all id = true := List.all_eq_true.mpr hall
      rw [e]
      exact q H3 hs3
end
end P64
set_option Elab.async false
set_option linter.all false
set_option maxRecDepth 100000
set_option maxHeartbeats 4000000
/-! # errors made as values, in the way of Evl -/
namespace P64
open PySem PySem.Spec PyProof.Rows L2 PX Evl
/-- at a stands an error of C; its fields, where it has an __init__ of its own -/
def Fx (C : Addr) : Option (List (Str × V)) → Hp → Addr → Prop
  | none => fun H a => H a = some (ExO (.ref C) a)
  | some fs => fun H a => ∃ dx, H a = some (exo a C (some dx)) ∧ H dx = some (exd dx fs)
theorem Fx.ex {C a : Addr} {o : Option (List (Str × V))} {H H' : Hp} (e : Ex H H') (h : Fx C o H a) : Fx C o H' a := by
  cases o with
  | none => exact e _ _ h
  | some fs =>
    obtain ⟨dx, h1, h2⟩ := h
    exact ⟨dx, e _ _ h1, e _ _ h2⟩
theorem Fx.xv {C a : Addr} {o : Option (List (Str × V))} {H : Hp} (h : Fx C o H a) : Xv H a C := by
  cases o with
  | none => exact .inl h
  | some fs =>
    obtain ⟨dx, h1, h2⟩ := h
    exact .inr ⟨dx, fs, h1, h2⟩
abbrev Dt := Addr × Option (List (Str × V))
abbrev Fs (H : Hp) : List Addr → List Dt → Prop := Paired fun a d => Fx d.1 d.2 H a
theorem Fs.ex {H H' : Hp} (e : Ex H H') : ∀ {as : List Addr} {ds : List Dt}, Fs H as ds → Fs H' as ds
  | _, _, .nil => .nil
  | _, _, .cons h t => .cons (h.ex e) (Fs.ex e t)
theorem Fs.app {H : Hp} : ∀ {as bs : List Addr} {ds es : List Dt}, Fs H as ds → Fs H bs es → Fs H (as ++ bs) (ds ++ es)
  | _, _, _, _, .nil, h => h
  | _, _, _, _, .cons h t, k => .cons h (Fs.app t k)
theorem Fs.at {H : Hp} : ∀ {as : List Addr} {ds : List Dt} {k : Nat} {d : Dt}, Fs H as ds → ds[k]? = some d → ∃ a, as[k]? = some a ∧ Fx d.1 d.2 H a
  | _, _, _, _, .nil, h => by simp at h
  | _, _, 0, _, .cons h t, e => by
    simp at e
    subst e
    exact ⟨_, rfl, h⟩
  | _, _, k + 1, d, .cons h t, e => Fs.at (k := k) t (by simpa using e)
def EvX (te : TE) (σ : L2.St) (H : Hp) (d : Dt) : Prop := ∀ H1, Ex H H1 → ∀ Q : VK, (∀ a H2, Ex H1 H2 → Fx d.1 d.2 H2 a → Q (.ref a) H2) → te σ H1 Q
def EvXs (ta : TA) (σ : L2.St) (H : Hp) (ds : List Dt) : Prop := ∀ H1, Ex H H1 → ∀ Q : List V → Hp → Prop, (∀ as H2, Ex H1 H2 → Fs H2 as ds → Q (as.map V.ref) H2) → ta σ H1 Q
section
variable {K : PySem.W.Frag} {σ : L2.St} {H : Hp} {te : TE} {ta tk : TA} {C : Addr}
theorem xs_nil : EvXs tNil σ H [] := fun H1 _ Q q => q [] H1 (Ex.refl H1) .nil
theorem xs_cons {d : Dt} {ds : List Dt} (h : EvX te σ H d) (t : EvXs ta σ H ds) : EvXs (tCons te ta) σ H (d :: ds) := fun H1 e Q q =>
  h H1 e _ fun a H2 e2 hx => t H2 (e.trans e2) _ fun as H3 e3 hs => q (a :: as) H3 (e2.trans e3) (.cons (hx.ex e3) hs)
/-- C(e), C without an __init__ of its own -/
theorem ex_text {v : V} (h : Ev te σ H v) : EvX (fun σ H Q => te σ H fun _ H1 => ∀ a, H1 a = none → Q (.ref a) (upd H1 a (ExO (.ref C) a))) σ H (C, none) := fun H1 e Q q =>
  h H1 e _ fun H2 e2 a na => q a _ (e2.trans (Ex.new na)) upd_same
theorem ex_two {H2 : Hp} {a dx : Addr} {o1 o2 o3 : HO} (na : H2 a = none) (nd : (upd H2 a o1) dx = none) : Ex H2 (upd (upd (upd H2 a o1) dx o2) a o3) := fun b o hb => by
  have e1 : b ≠ a := ne_of_none hb na
  have e2 : b ≠ dx := fun z => by
    rw [← z, upd_ne e1, hb] at nd
    cases nd
  rw [upd_ne e1, upd_ne e2, upd_ne e1]
  exact hb
/-- C(v), C.__init__(self, f): self.f = f -/
theorem ex_one {f : Str} {y : V} {gV : List V → List V → List V} {n m : Nat} {vs zs : List V} (hn : n ≤ 1000) (l1 : vs.length = n) (l2 : zs.length = m) (h : EvA ta σ H vs) (h2 : EvA tk σ H zs) (hg : ∀ x, gV (x :: vs) zs = [x, y]) :
    EvX (tMkX C (spIn1 K C f) gV n m ta tk) σ H (C, some [(f, y)]) := fun H1 e Q q =>
  h H1 e _ fun H2 e2 => h2 H2 (e.trans e2) _ fun H3 e3 => ⟨l1, hn, l2, fun a na => by
    rw [hg]
    refine ⟨a, y, rfl, upd_same, fun dx nd ne => ⟨rfl, q a _ ((e2.trans e3).trans (ex_two na nd)) ⟨dx, upd_same, ?_⟩⟩⟩
    rw [upd_ne ne, upd_same]⟩
/-- Meeting(x, y) -/
theorem ex_meet {y z : V} {gV : List V → List V → List V} {n m : Nat} {vs zs : List V} (hn : n ≤ 1000) (l1 : vs.length = n) (l2 : zs.length = m) (h : EvA ta σ H vs) (h2 : EvA tk σ H zs) (hg : ∀ x, gV (x :: vs) zs = [x, y, z]) :
    EvX (tMkX C (spIn2 K C) gV n m ta tk) σ H (C, some [(("y" : Str), z), (("x" : Str), y)]) := fun H1 e Q q =>
  h H1 e _ fun H2 e2 => h2 H2 (e.trans e2) _ fun H3 e3 => ⟨l1, hn, l2, fun a na => by
    rw [hg]
    refine ⟨a, y, z, rfl, upd_same, fun dx nd ne => ⟨rfl, q a _ ((e2.trans e3).trans ?_) ⟨dx, ?_, upd_same⟩⟩⟩
    · intro b o hb
      have e1 : b ≠ a := ne_of_none hb na
      have e5 : b ≠ dx := fun z => by
        rw [← z, upd_ne e1, hb] at nd
        cases nd
      rw [upd_ne e5, upd_ne e1, upd_ne e5, upd_ne e1]
      exact hb
    · rw [upd_ne (Ne.symm ne), upd_same]⟩
/-- e.f of such an error -/
theorem ev_fld {f : Str} {fs : List (Str × V)} {v : V} (h : EvX te σ H (C, some fs)) (T : XfC K C) (hno : PySem.W.findIn K (.ref C) f = some none) (hl : fs.lookup f = some v) : Ev (tXat K f te) σ H v := fun H1 e Q q =>
  h H1 e _ fun a H2 e2 hx => by
    obtain ⟨dx, h1, h2⟩ := hx
    exact ⟨a, C, dx, fs, v, rfl, T, hno, h1, h2, hl, q H2 e2⟩
/-- an error that stands in a list -/
theorem ex_ix {i : Nat} {p : Addr} {as : List Addr} {ds : List Dt} {k : Nat} {d : Dt} (hs : σ[i]? = some (some (.ref p))) (hp : H p = some (.lst (as.map V.ref))) (hf : Fs H as ds) (hk : ds[k]? = some d) :
    EvX (tOp (rIxL K) (tVar i) (tC (.int (k : Int)))) σ H d := fun H1 e Q q => by
  obtain ⟨a, ha, hx⟩ := hf.at hk
  refine ⟨.ref p, hs, p, as.map V.ref, (k : Int), .ref a, rfl, rfl, SqL.of (e _ _ hp), atI_nat ?_, q a H1 (Ex.refl H1) (hx.ex e)⟩
  rw [List.getElem?_map, ha]
  rfl
theorem ex_var {i : Nat} {a : Addr} {d : Dt} (hs : σ[i]? = some (some (.ref a))) (hx : Fx d.1 d.2 H a) : EvX (tVar i) σ H d := fun H1 e Q q => ⟨.ref a, hs, q a H1 (Ex.refl H1) (hx.ex e)⟩
/-- [e, e, ..] of errors, given a name -/
theorem q_asgX {i : Nat} {ds : List Dt} {D : Ends} {tz : TS} (h : EvXs ta σ H ds) (hl : ds.length ≤ 1000) (k : ∀ p as H1, H p = none → Ex H H1 → H1 p = some (.lst (as.map V.ref)) → Fs H1 as ds → tz D (σ.set i (some (.ref p))) H1) :
    tSeq (tAsg (tLst ta) (gName i)) tz D σ H := h H (Ex.refl H) _ fun as H1 e hf => ⟨by
    rw [List.length_map, hf.length]
    exact Nat.le_of_lt (small1000 hl), fun p np => k p as _ (fresh_back e np) (e.trans (Ex.new np)) upd_same (hf.ex (Ex.new np))⟩
/-- xs = xs + [e, ..] of errors -/
theorem q_catX {i : Nat} {p : Addr} {as : List Addr} {ds es : List Dt} {D : Ends} {tz : TS} (hs : σ[i]? = some (some (.ref p))) (hp : H p = some (.lst (as.map V.ref))) (hf : Fs H as ds) (h : EvXs ta σ H es) (hl : ds.length + es.length ≤ 1000)
    (k : ∀ p as H1, H p = none → Ex H H1 → H1 p = some (.lst (as.map V.ref)) → Fs H1 as (ds ++ es) → tz D (σ.set i (some (.ref p))) H1) : tSeq (tAsg (tOp rCat (tVar i) (tLst ta)) (gName i)) tz D σ H :=
  ⟨.ref p, hs, h H (Ex.refl H) _ fun bs H1 e hg => ⟨by
    rw [List.length_map, hg.length]
    exact Nat.le_of_lt (small1000 (by omega)), fun q nq => ⟨p, q, as.map V.ref, bs.map V.ref, rfl, rfl, (e.trans (Ex.new nq)) _ _ hp, upd_same, by
      rw [List.length_map, List.length_map, hf.length, hg.length]
      exact Nat.le_of_lt (small1000 hl), fun r nr => k r (as ++ bs) _ (fresh_back (e.trans (Ex.new nq)) nr) ((e.trans (Ex.new nq)).trans (Ex.new nr)) (by rw [List.map_append]; exact upd_same)
        ((hf.ex ((e.trans (Ex.new nq)).trans (Ex.new nr))).app (hg.ex ((Ex.new nq).trans (Ex.new nr))))⟩⟩⟩
end
end P64
set_option Elab.async false
set_option linter.all false
set_option maxRecDepth 100000
set_option maxHeartbeats 4000000
/-! # rows of truth values compared -/
namespace P64
open PySem PySem.Spec PyProof.Rows L2 PX Evl
section
variable {K : PySem.W.Frag} {σ : L2.St} {H : Hp} {te tb : TE}
theorem dp_bools : ∀ bs : List Bool, DpAll K H (bs.map V.bl) (bs.map PyData.bool)
  | [] => .nil
  | b :: r => .cons (.bl b) (dp_bools r)
theorem can_bools : ∀ bs : List Bool, PyData.canLayAll0 (bs.map PyData.bool) = true
  | [] => rfl
  | b :: r => by
    show (PyData.canLay0 (.bool b) && PyData.canLayAll0 (r.map PyData.bool)) = true
    rw [can_bools r]
    rfl
theorem deep_bools : ∀ bs : List Bool, PyData.depthAll (bs.map PyData.bool) = 0
  | [] => by simp [PyData.depthAll]
  | b :: r => by
    rw [List.map_cons]
    simp [PyData.depthAll, PyData.depth, deep_bools r]
theorem shaped_bools (bs : List Bool) : SeqAt.shaped (.list (bs.map PyData.bool)) = true := by
  have h1 : (PyData.list (bs.map PyData.bool)).canLay0 = true := can_bools bs
  have h2 : (PyData.list (bs.map PyData.bool)).depth = 1 := by simp [PyData.depth, deep_bools]
  show (PyData.canLay0 (.list (bs.map PyData.bool)) && decide (PyData.depth (.list (bs.map PyData.bool)) ≤ 64)) = true
  rw [h1, h2]
  rfl
/-- two lists of the same truth values are not unlike -/
theorem rv_neB {p q : Addr} {bs : List Bool} {H1 : Hp} (hp : H1 p = some (.lst (bs.map V.bl))) (hq : H1 q = some (.lst (bs.map V.bl))) : RV (rNeD K) (.ref p) (.ref q) H1 (.bl false) := fun H2 e Q k => by
  refine ⟨.list (bs.map PyData.bool), .list (bs.map PyData.bool), .lst (SqL.of (e _ _ hp)) (dp_bools bs), .lst (SqL.of (e _ _ hq)) (dp_bools bs), shaped_bools bs, shaped_bools bs, ?_⟩
  rw [SeqAt.eqv_refl (.list (bs.map PyData.bool)) (can_bools bs)]
  exact k H2 (Ex.refl H2)
/-- isinstance of an error -/
theorem ev_isE {d : Dt} {c : V} {u : Value} {b : Bool} {nm : Str} {mid : List Value} {mg : Str → Option Value} (h : EvX te σ H d) (T : XC K mg nm d.1 mid) (hc : ClsV c u) (hk : PySem.W.kitOne K (.ref d.1) u = some b) :
    Ev (tCB (rIsX K) (tCons te (tCons (tC c) tNil))) σ H (.bl b) := fun H1 e Q q =>
  h H1 e _ fun a H2 e2 hx => ⟨a, d.1, c, u, b, rfl, hx.xv, T.ex, hc, hk, q H2 e2⟩
theorem ex_ixV {i j : Nat} {p : Addr} {as : List Addr} {ds : List Dt} {k : Nat} {z : Int} {d : Dt} (hs : σ[i]? = some (some (.ref p))) (hj : σ[j]? = some (some (.int z))) (hz : z = k) (hp : H p = some (.lst (as.map V.ref))) (hf : Fs H as ds) (hk : ds[k]? = some d) :
    EvX (tOp (rIxL K) (tVar i) (tVar j)) σ H d := fun H1 e Q q => by
  subst hz
  obtain ⟨a, ha, hx⟩ := hf.at hk
  refine ⟨.ref p, hs, .int (k : Int), hj, p, as.map V.ref, (k : Int), .ref a, rfl, rfl, SqL.of (e _ _ hp), atI_nat ?_, q a H1 (Ex.refl H1) (hx.ex e)⟩
  rw [List.getElem?_map, ha]
  rfl
/-- _law_of of an error -/
theorem el_of {d : Dt} {nm : Str} {mid : List Value} {mg : Str → Option Value} {cs : List Addr} (h : EvX te σ H d) (T : XC K mg nm d.1 mid) : EvL (tCall (spOf K mg cs) [] E0 (tCons te tNil)) σ H (isOf cs d.1 mid) := fun H1 e Q q =>
  h H1 e _ fun a H2 e2 hx => ⟨a, d.1, nm, mid, rfl, hx.xv, T, fun H' l hs hl g => q l H' (fresh_back e2 hl) (e2.trans hs) g⟩
end
/-- which of the classes the k-th one is: the k-th alone -/
theorem isOf_row {cs : List Addr} {P C : Addr} {i : Nat} (nd : (P :: cs).Nodup) (h : cs[i]? = some C) :
    isOf cs C [.ref P] = ((List.range cs.length).map fun (j : Nat) => decide (V.int j = V.int i)).map V.bl := by
  obtain ⟨np, nd2⟩ := List.nodup_cons.mp nd
  obtain ⟨hi, hC⟩ := List.getElem?_eq_some_iff.mp h
  unfold isOf
  rw [List.map_map]
  refine List.ext_getElem (by simp) fun j h1 h2 => ?_
  have hj : j < cs.length := by simpa using h1
  rw [List.getElem_map, List.getElem_map, List.getElem_range]
  show V.bl _ = V.bl (decide (V.int (j : Int) = V.int (i : Int)))
  congr 1
  have hP : cs[j] ≠ P := fun z => np (z ▸ List.getElem_mem hj)
  by_cases e : j = i
  · subst e
    rw [hC]
    simp
  · have hn : cs[j] ≠ C := fun z => e ((List.getElem_inj nd2).mp (z.trans hC.symm))
    have e1 : decide (V.int (j : Int) = V.int (i : Int)) = false := decide_eq_false fun z => e (by have := V.int.inj z; omega)
    rw [e1, List.contains_cons, List.contains_cons]
    have e2 : (Value.ref cs[j] == Value.ref C) = false := by simpa using hn
    have e3 : (Value.ref cs[j] == Value.ref P) = false := by simpa using hP
    rw [e2, e3]
    rfl
theorem isOf_none {cs : List Addr} {P : Addr} (nd : (P :: cs).Nodup) : isOf cs P [] = (List.replicate cs.length false).map V.bl := by
  obtain ⟨np, _⟩ := List.nodup_cons.mp nd
  unfold isOf
  refine List.ext_getElem (by simp) fun j h1 h2 => ?_
  have hj : j < cs.length := by simpa using h1
  rw [List.getElem_map, List.getElem_map, List.getElem_replicate]
  have hP : cs[j] ≠ P := fun z => np (z ▸ List.getElem_mem hj)
  show V.bl _ = V.bl _
  congr 1
  have e3 : (Value.ref cs[j] == Value.ref P) = false := by simpa using hP
  rw [List.contains_cons, e3]
  rfl
theorem given_bools (n : Nat) (g : Nat → Bool) : given n (fun _ => true) (fun j => .bl (g j)) = ((List.range n).map g).map V.bl := by
  unfold given
  rw [List.filter_eq_self.mpr (fun _ _ => rfl), List.map_map]
  rfl
section
variable {K : PySem.W.Frag} {σ : L2.St} {H : Hp} {te tb : TE}
theorem el_rep1 {v : V} {n : Nat} (hn : n ≤ 1000) (h : Ev te σ H (.int n)) : EvL (tOp rRep (tLst (tCons (tC v) tNil)) te) σ H (List.replicate n v) := fun H1 e Q q =>
  ⟨(show 1 ≤ sizeLine by decide), fun l nl => h _ (e.trans (Ex.new nl)) _ fun H2 e2 => by
    have z63 : (2 : Int) ^ 63 = 9223372036854775808 := by decide
    refine ⟨l, (n : Int), [v], rfl, rfl, e2 _ _ upd_same, by rw [z63]; omega, by rw [z63]; omega, ?_, fun p np => ?_⟩
    · rw [Int.toNat_natCast]
      show 1 * n ≤ sizeLine
      rw [Nat.one_mul]
      exact Nat.le_of_lt (small1000 hn)
    · have e3 : Ex H1 H2 := (Ex.new nl).trans e2
      rw [Int.toNat_natCast, List.flatten_replicate_singleton]
      exact q p _ (fresh_back e3 np) (e3.trans (Ex.new np)) upd_same⟩
theorem q_asgE {i : Nat} {d : Dt} {D : Ends} {tz : TS} (h : EvX te σ H d) (k : ∀ a H1, Ex H H1 → Fx d.1 d.2 H1 a → tz D (σ.set i (some (.ref a))) H1) : tSeq (tAsg te (gName i)) tz D σ H :=
  h H (Ex.refl H) _ fun a H1 e hx => k a H1 e hx
end
theorem All.x {K : PySem.W.Frag} {mg : Str → Option Value} {P c0 c1 c2 c3 c4 c5 c6 c7 c8 c9 c10 c11 c12 c13 c14 : Addr} (T : All K mg P c0 c1 c2 c3 c4 c5 c6 c7 c8 c9 c10 c11 c12 c13 c14) {C : Addr} (h : C ∈ [c0, c1, c2, c3, c4, c5, c6, c7, c8, c9, c10, c11, c12, c13, c14]) :
    ∃ nm, XC K mg nm C [.ref P] := by
  simp only [List.mem_cons, List.not_mem_nil, or_false] at h
  rcases h with rfl | rfl | rfl | rfl | rfl | rfl | rfl | rfl | rfl | rfl | rfl | rfl | rfl | rfl | rfl
  · exact ⟨_, T.h0⟩
  · exact ⟨_, T.h1⟩
  · exact ⟨_, T.h2⟩
  · exact ⟨_, T.h3⟩
  · exact ⟨_, T.h4⟩
  · exact ⟨_, T.h5⟩
  · exact ⟨_, T.h6⟩
  · exact ⟨_, T.h7⟩
  · exact ⟨_, T.h8⟩
  · exact ⟨_, T.h9⟩
  · exact ⟨_, T.h10⟩
  · exact ⟨_, T.h11⟩
  · exact ⟨_, T.h12⟩
  · exact ⟨_, T.h13⟩
  · exact ⟨_, T.h14⟩
end P64
set_option Elab.async false
set_option linter.all false
set_option maxRecDepth 100000
set_option maxHeartbeats 8000000
/-! # the law -/
namespace P64
open PySem PySem.Spec PyProof.Rows L2 PX
abbrev sLaw : Stmt := topS 23
abbrev nL : List Str := ["script", "bag", "k", "word", "spot", "one", "two", "some", "rows", "made", "told", "i"]
theorem scLaw : FnScope nL ["script"] (defScope sLaw) := ⟨rfl, rfl, rfl, by decide +kernel, rfl, by decide +kernel, by decide +kernel⟩
def bmV : List Value := [.type "ValueError", .type "Exception", .type "BaseException", .type "object"]
/-- all that the law reads of the written part; i: the inits' addresses, d: the defs' data -/
structure Txt (K : PySem.W.Frag) (mg : Str → Option Value) (P c0 c1 c2 c3 c4 c5 c6 c7 c8 c9 c10 c11 c12 c13 c14 : Addr) : Prop where
  A : All K mg P c0 c1 c2 c3 c4 c5 c6 c7 c8 c9 c10 c11 c12 c13 c14
  xP : PySem.W.excIn K P bmV "ValueError.__new__" = true
  x0 : PySem.W.excIn K c0 bmV "ValueError.__new__" = true
  x1 : PySem.W.excIn K c1 bmV "ValueError.__new__" = true
  x2 : PySem.W.excIn K c2 bmV "ValueError.__new__" = true
  x3 : PySem.W.excIn K c3 bmV "ValueError.__new__" = true
  x4 : PySem.W.excIn K c4 bmV "ValueError.__new__" = true
  x5 : PySem.W.excIn K c5 bmV "ValueError.__new__" = true
  x6 : PySem.W.excIn K c6 bmV "ValueError.__new__" = true
  x7 : PySem.W.excIn K c7 bmV "ValueError.__new__" = true
  x8 : PySem.W.excIn K c8 bmV "ValueError.__new__" = true
  x9 : PySem.W.excIn K c9 bmV "ValueError.__new__" = true
  x10 : PySem.W.excIn K c10 bmV "ValueError.__new__" = true
  o11 : OexC K c11
  o12 : OexC K c12
  o13 : OexC K c13
  o14 : OexC K c14
  f11 : XfC K c11
  f12 : XfC K c12
  f13 : XfC K c13
  f14 : XfC K c14
  n11 : PySem.W.findIn K (.ref c11) "pane" = some none
  n12 : PySem.W.findIn K (.ref c12) "place" = some none
  n13x : PySem.W.findIn K (.ref c13) "x" = some none
  n13y : PySem.W.findIn K (.ref c13) "y" = some none
  n14 : PySem.W.findIn K (.ref c14) "place" = some none
  B : BN mg
  mab : mg "abs" = none
  mve : mg "ValueError" = none
/-- an __init__ of the class at C -/
structure Ini (K : PySem.W.Frag) (C fI : Addr) (qual : Str) (st : Stmt) (fd : FuncData) (ps : List Str) : Prop where
  iC : PySem.W.findIn K (.ref C) "__init__" = some (some (.ref fI))
  tI : PySem.W.typeIn K (.ref fI) = some (.type "function")
  F : Fun K "__init__" qual st fI fd
  b : KBn K fd ps ps.length [] (fun us _ => us) (fun vs _ => vs)
def spLaw (K : PySem.W.Frag) : Sp := fun vs H Q _ => ∃ (a : Addr) (ns : List Int), vs = [.ref a] ∧ SqL K H a (ns.map V.int) ∧ ns.length ≤ 63 ∧ ∀ H', Q (.bl true) H'
section
variable {PR : Program} {w : World} {K : PySem.W.Frag} {mg : Str → Option Value} {base : Heap} {P c0 c1 c2 c3 c4 c5 c6 c7 c8 c9 c10 c11 c12 c13 c14 : Addr}
theorem ok_law {f fB fD fA fO i11 i12 i13 i14 : Addr} {fd fdB fdD fdA fdO d11 d12 d13 d14 : FuncData} (F : Fun K "law" "law" sLaw f fd) (T : Txt K mg P c0 c1 c2 c3 c4 c5 c6 c7 c8 c9 c10 c11 c12 c13 c14)
    (GB : FnOk PR w K mg base CX0 1 fB fdB ["script"] (spBag K)) (gB : mg "_law_bag" = some (.ref fB)) (kB : PySem.W.keepIn K (.ref fB) = true) (bB : Binds K fdB ["script"] [])
    (GD : FnOk PR w K mg base CX0 2 fD fdD ["bag", "wide"] spDraw) (gD : mg "_law_draw" = some (.ref fD)) (kD : PySem.W.keepIn K (.ref fD) = true) (bD : Binds K fdD ["bag", "wide"] [])
    (GA : FnOk PR w K mg base CX0 2 fA fdA ["found", "due"] spAl1) (gA : mg "_law_alike" = some (.ref fA)) (kA : PySem.W.keepIn K (.ref fA) = true) (bA : Binds K fdA ["found", "due"] [])
    (GO : FnOk PR w K mg base CX0 1 fO fdO ["made"] (spOf K mg [c0, c1, c2, c3, c4, c5, c6, c7, c8, c9, c10, c11, c12, c13, c14])) (gO : mg "_law_of" = some (.ref fO)) (kO : PySem.W.keepIn K (.ref fO) = true) (bO : Binds K fdO ["made"] [])
    (I11 : Ini K c11 i11 "InvalidLayout.__init__" sIL d11 ["self", "pane"]) (I12 : Ini K c12 i12 "InvalidCode.__init__" sIC d12 ["self", "place"])
    (I13 : Ini K c13 i13 "Meeting.__init__" sIM d13 ["self", "x", "y"]) (I14 : Ini K c14 i14 "InvalidText.__init__" sIT d14 ["self", "place"])
    (k11 : KBn K d11 ["self", "pane"] 1 ["pane"] (fun us ws => us ++ ws) (fun vs zs => vs ++ zs)) (k12 : KBn K d12 ["self", "place"] 1 ["place"] (fun us ws => us ++ ws) (fun vs zs => vs ++ zs))
    (k13 : KBn K d13 ["self", "x", "y"] 1 ["y", "x"] (fun us ws => us ++ ws.reverse) (fun vs zs => vs ++ zs.reverse)) (k14 : KBn K d14 ["self", "place"] 1 ["place"] (fun us ws => us ++ ws) (fun vs zs => vs ++ zs)) :
    FnOk PR w K mg base CX0 3 f fd ["script"] (spLaw K) := by
  have G11 : FnOk PR w K mg base CX0 1 i11 d11 ["self", "pane"] (spIn1 K c11 "pane") := ok_il I11.F T.o11 T.n11
  have G12 : FnOk PR w K mg base CX0 1 i12 d12 ["self", "place"] (spIn1 K c12 "place") := ok_ic I12.F T.o12 T.n12
  have G13 : FnOk PR w K mg base CX0 1 i13 d13 ["self", "x", "y"] (spIn2 K c13) := ok_im I13.F T.o13 T.n13x T.n13y
  have G14 : FnOk PR w K mg base CX0 1 i14 d14 ["self", "place"] (spIn1 K c14 "place") := ok_it I14.F T.o14 T.n14
  refine F.ok scLaw (fun vs H Q E h => ?_) (fun cdv A outer s H vs Q E hr h => ?_)
  · obtain ⟨a, ns, rfl, _⟩ := h
    rfl
  · obtain ⟨a, ns, rfl, hS, hlen, q⟩ := h
    have hr1 : Room 1 _ := hr.mono (by decide)
    have hr2 : Room 2 _ := hr.mono (by decide)
    refine ⟨_, pss_cons (ps_set (i := 1) scLaw.nd rfl (Or.inr rfl) (pe_call GB hr1 (by rfl) gB kB bB .nil pass0 (by exact (pa_cons (pv 0) pa_nil))))
      (pss_cons (ps_set (i := 3) scLaw.nd rfl (Or.inl rfl) (pe_join pe_str (pe_lc (own := [("k", 2)]) (g := gName 2) (tt := tYes) rfl scLaw.nd (pi_range1 (by rfl) T.B.ra (pa_cons (pe_call GD hr2 (by rfl) gD kD bD .nil pass0 (by exact (pa_cons (pv 1) (pa_cons pe_int pa_nil)))) pa_nil))
          (blkOk_by (N := nL) (sc := defScope sLaw) (by decide +kernel)) (fun _ _ _ _ _ => pg_name (i := 2) scLaw.nd rfl (Or.inl rfl)) (fun _ _ _ _ _ => pts_nil)
          (fun _ _ _ _ _ => pe_ix ix_str pe_str (pe_call GD hr2 (by rfl) gD kD bD .nil pass0 (by exact (pa_cons (pv 1) (pa_cons pe_int pa_nil)))) (fun _ _ => rfl)))))
      (pss_cons (ps_par (i := 4) (j := 5) rfl scLaw.nd rfl rfl (by decide) rfl rfl (pa_cons (pe_ix ix_list (pe_lst (pa_cons (pe_call GD hr2 (by rfl) gD kD bD .nil pass0 (by exact (pa_cons (pv 1) (pa_cons pe_int pa_nil)))) (pa_cons (pe_op op_pow pe_int pe_int) (pa_cons pe_int pa_nil)))) (pe_call GD hr2 (by rfl) gD kD bD .nil pass0 (by exact (pa_cons (pv 1) (pa_cons pe_int pa_nil)))) (fun _ _ => rfl)) (pa_cons (pe_call GD hr2 (by rfl) gD kD bD .nil pass0 (by exact (pa_cons (pv 1) (pa_cons pe_int pa_nil)))) pa_nil)) (by rfl))
      (pss_cons (ps_set (i := 6) scLaw.nd rfl (Or.inl rfl) (pe_op op_add (pe_op op_pow pe_int pe_int) (pe_call GD hr2 (by rfl) gD kD bD .nil pass0 (by exact (pa_cons (pv 1) (pa_cons pe_int pa_nil))))))
      (Evl.pss_cut (ps_set (i := 7) scLaw.nd rfl (Or.inl rfl) (pe_ix ix_list (pe_lst (pa_cons pe_non (pa_cons (pe_call GD hr2 (by rfl) gD kD bD .nil pass0 (by exact (pa_cons (pv 1) (pa_cons pe_int pa_nil)))) pa_nil))) (pe_call GD hr2 (by rfl) gD kD bD .nil pass0 (by exact (pa_cons (pv 1) (pa_cons pe_int pa_nil)))) (fun _ _ => rfl)))
      (pss_cons (ps_set (i := 8) scLaw.nd rfl (Or.inl rfl) (pe_lst (pa_cons (pe_exc1 PySem.F.excBase_ValueError T.x0 T.A.h0.g T.A.h0.k rfl (pv 3)) (pa_cons (pe_exc1 PySem.F.excBase_ValueError T.x1 T.A.h1.g T.A.h1.k rfl (pv 3)) (pa_cons (pe_exc1 PySem.F.excBase_ValueError T.x2 T.A.h2.g T.A.h2.k rfl (pv 3)) (pa_cons (pe_exc1 PySem.F.excBase_ValueError T.x3 T.A.h3.g T.A.h3.k rfl (pv 3)) (pa_cons (pe_exc1 PySem.F.excBase_ValueError T.x4 T.A.h4.g T.A.h4.k rfl (pv 3)) pa_nil)))))))
      (pss_cons (ps_set (i := 8) scLaw.nd rfl (Or.inl rfl) (pe_op op_cat (pv 8) (pe_lst (pa_cons (pe_exc1 PySem.F.excBase_ValueError T.x5 T.A.h5.g T.A.h5.k rfl (pv 3)) (pa_cons (pe_exc1 PySem.F.excBase_ValueError T.x6 T.A.h6.g T.A.h6.k rfl (pv 3)) (pa_cons (pe_exc1 PySem.F.excBase_ValueError T.x7 T.A.h7.g T.A.h7.k rfl (pv 3)) (pa_cons (pe_exc1 PySem.F.excBase_ValueError T.x8 T.A.h8.g T.A.h8.k rfl (pv 3)) (pa_cons (pe_exc1 PySem.F.excBase_ValueError T.x9 T.A.h9.g T.A.h9.k rfl (pv 3)) pa_nil))))))))
      (pss_cons (ps_set (i := 8) scLaw.nd rfl (Or.inl rfl) (pe_op op_cat (pv 8) (pe_lst (pa_cons (pe_exc1 PySem.F.excBase_ValueError T.x10 T.A.h10.g T.A.h10.k rfl (pv 3)) (pa_cons (pe_mkX T.o11 I11.iC I11.tI G11 hr2 I11.b rfl T.A.h11.g (pa_cons (pv 7) pa_nil)) (pa_cons (pe_mkX T.o12 I12.iC I12.tI G12 hr2 I12.b rfl T.A.h12.g (pa_cons (pv 7) pa_nil)) (pa_cons (pe_mkX T.o13 I13.iC I13.tI G13 hr2 I13.b rfl T.A.h13.g (pa_cons (pv 5) (pa_cons (pv 6) pa_nil))) (pa_cons (pe_mkX T.o14 I14.iC I14.tI G14 hr2 I14.b rfl T.A.h14.g (pa_cons (pv 4) pa_nil)) pa_nil))))))))
      (Evl.pss_cut (ps_for PassesOwn.never rfl (pi_range1 (by rfl) T.B.ra (pa_cons (pe_callB call_len_seq (by rfl) T.B.le PySem.boot_len (pa_cons (pv 8) pa_nil)) pa_nil)) (pg_name (i := 2) scLaw.nd rfl (Or.inr rfl))
        (pss_cons (ps_if (PW.pt (pw_or (pt_not (pt_val (pe_callB call_isX (by rfl) T.B.is_ (by decide +kernel) (pa_cons (pe_ix ix_list (pv 8) (pv 2) (fun _ _ => rfl)) (pa_cons (pe_glob (v := .ref P) rfl T.A.p.g rfl) pa_nil))))) (pw_or1 (pt_not (pt_val (pe_callB call_isX (by rfl) T.B.is_ (by decide +kernel) (pa_cons (pe_ix ix_list (pv 8) (pv 2) (fun _ _ => rfl)) (pa_cons (pe_bltn (v := .ty "ValueError") (by rfl) T.mve (by decide +kernel) rfl) pa_nil)))))))) (pss_one ps_never) pss_nil)
        (pss_one (ps_if (pt_cmpR (op_neD hr2.units) (pe_call GO hr1 (by rfl) gO kO bO .nil pass0 (by exact (pa_cons (pe_ix ix_list (pv 8) (pv 2) (fun _ _ => rfl)) pa_nil)))
          (pe_lc (own := [("i", 11)]) (g := gName 11) (tt := tYes) rfl scLaw.nd (pi_range1 (by rfl) T.B.ra (pa_cons (pe_callB call_len_seq (by rfl) T.B.le PySem.boot_len (pa_cons (pv 8) pa_nil)) pa_nil))
            (blkOk_by (N := nL) (sc := defScope sLaw) (by decide +kernel)) (fun _ _ _ _ _ => pg_name (i := 11) scLaw.nd rfl (Or.inl rfl)) (fun _ _ _ _ _ => pts_nil)
            (fun _ _ _ _ _ => pe_cmpR op_eq (pv 11) (pv 2) (nomark _))) (nomark _)) (pss_one ps_never) pss_nil))))
      (pss_cons (ps_if (pt_cmpR (op_neD hr2.units) (pe_call GO hr1 (by rfl) gO kO bO .nil pass0 (by exact (pa_cons (pe_exc1 PySem.F.excBase_ValueError T.xP T.A.p.g T.A.p.k rfl (pv 3)) pa_nil)))
        (pe_op op_rep (pe_lst (pa_cons pe_bl pa_nil)) (pe_callB call_len_seq (by rfl) T.B.le PySem.boot_len (pa_cons (pv 8) pa_nil))) (nomark _)) (pss_one ps_never) pss_nil)
      (pss_cons (ps_set (i := 9) scLaw.nd rfl (Or.inl rfl) (pe_mkXk T.o13 I13.iC I13.tI G13 hr2 k13 rfl T.A.h13.g (pk_cons (pv 6) (pk_cons (pv 5) pk_nil))))
      (pss_cons (ps_set (i := 10) scLaw.nd rfl (Or.inl rfl) (pe_lst (pa_cons (pe_xat (pe_ix ix_list (pv 8) pe_int (fun _ _ => rfl))) (pa_cons (pe_xat (pe_ix ix_list (pv 8) pe_int (fun _ _ => rfl))) (pa_cons (pe_xat (pe_ix ix_list (pv 8) pe_int (fun _ _ => rfl))) (pa_cons (pe_xat (pe_ix ix_list (pv 8) pe_int (fun _ _ => rfl))) (pa_cons (pe_xat (pe_ix ix_list (pv 8) pe_int (fun _ _ => rfl))) (pa_cons (pe_xat (pv 9)) (pa_cons (pe_xat (pv 9)) pa_nil)))))))))
      (pss_cons (ps_set (i := 10) scLaw.nd rfl (Or.inl rfl) (pe_op op_cat (pv 10) (pe_lst (pa_cons (pe_xat (pe_mkXk T.o11 I11.iC I11.tI G11 hr2 k11 rfl T.A.h11.g (pk_cons (pv 7) pk_nil))) (pa_cons (pe_xat (pe_mkXk T.o12 I12.iC I12.tI G12 hr2 k12 rfl T.A.h12.g (pk_cons (pv 7) pk_nil))) (pa_cons (pe_xat (pe_mkXk T.o14 I14.iC I14.tI G14 hr2 k14 rfl T.A.h14.g (pk_cons (pv 4) pk_nil))) pa_nil))))))
      (pss_one (ps_ret (pe_call GA hr2 (by rfl) gA kA bA .nil pass0 (by exact (pa_cons (pv 10) (pa_cons (pe_lst (pa_cons (pv 7) (pa_cons (pv 7) (pa_cons (pv 5) (pa_cons (pv 6) (pa_cons (pv 4) (pa_cons (pv 5) (pa_cons (pv 6) (pa_cons (pv 7) (pa_cons (pv 7) (pa_cons (pv 4) pa_nil))))))))))) pa_nil)))))))))))))))))), ?_⟩
    have z62 : (2 : Int) ^ 62 = 4611686018427387904 := by decide
    -- bag
    refine ⟨.ref a, rfl, a, ns, rfl, hS, hlen, fun H1 b c s1 nb hb => ?_⟩
    -- word
    refine ⟨⟨_, rfl⟩, .ref b, rfl, b, c, 9, rfl, by decide, by decide, hb, fun H2 n hn0 hn9 but2 hb2 => ⟨n, rfl, by rw [z62]; omega, by rw [z62]; omega, fun D nD => ?_⟩⟩
    have Db : D ≠ b := fun z => by
      obtain ⟨_, _, _, _, _, e, _⟩ := hb2
      rw [← z, nD] at e
      cases e
    have Dc : D ≠ c := fun z => by
      obtain ⟨_, _, _, _, _, _, e, _⟩ := hb2
      rw [← z, nD] at e
      cases e
    have bagD : ∀ {H3 : Hp} {o : HO}, Bag H3 b c → Bag (upd H3 D o) b c := fun {H3 o} ⟨ms, i, p, q0, r, e1, e2, e3⟩ =>
      ⟨ms, i, p, q0, r, by rw [upd_ne (Ne.symm Db)]; exact e1, by rw [upd_ne (Ne.symm Dc)]; exact e2, e3⟩
    refine lc_range (lo := 0) (n := n.toNat) (fun i H3 => Bag H3 b c ∧ ∃ ys : List Str, H3 D = some (.lst (ys.map V.str)) ∧ ys.length = i ∧ ∀ y ∈ ys, y.length = 1) ⟨bagD hb2, [], upd_same, rfl, by simp⟩ ?_ ?_
    · rintro i H3 hi ⟨hb3, ys, hD, hys, hone⟩
      refine ⟨rfl, .ref b, rfl, b, c, 6, rfl, by decide, by decide, hb3, fun H4 m hm0 hm6 but4 hb4 => ?_⟩
      obtain ⟨ch, hch⟩ : ∃ ch, atI ("abc \n-" : Str).cps.toList m = some ch := by
        obtain ⟨j, rfl⟩ : ∃ j : Nat, m = j := ⟨m.toNat, by omega⟩
        have hj : j < ("abc \n-" : Str).cps.toList.length := by
          have e : ("abc \n-" : Str).cps.toList.length = 6 := by decide +kernel
          rw [e]
          omega
        exact ⟨_, atI_nat (List.getElem?_eq_getElem hj)⟩
      refine ⟨_, m, ch, rfl, rfl, by decide +kernel, hch, ys.map V.str, but4 _ _ Db hD, ?_, bagD hb4, ys ++ [⟨#[ch]⟩], ?_, ?_, ?_⟩
      · rw [List.length_map, hys]
        exact small1000 (by omega)
      · rw [upd_same, List.map_append]
        rfl
      · rw [List.length_append, hys]
        rfl
      · intro y hy
        rcases List.mem_append.mp hy with z | z
        · exact hone y z
        · obtain rfl : y = ⟨#[ch]⟩ := by simpa using z
          rfl
    · rintro H3 ⟨hb3, ys, hD, hys, hone⟩
      have hsum : (ys.map (·.length)).sum = ys.length := by
        clear hD hys
        induction ys with
        | nil => rfl
        | cons y r ih =>
          rw [List.map_cons, List.sum_cons, hone y List.mem_cons_self, ih fun z hz => hone z (List.mem_cons_of_mem _ hz), List.length_cons]
          omega
      refine ⟨_, D, ys, rfl, rfl, .inl (SqL.of hD), ?_, ?_⟩
      · rw [hsum, hys]
        have e : ("" : Str).length = 0 := by decide +kernel
        rw [e]
        omega
      -- spot, one
      generalize Txt.join ("" : Str) ys = word
      refine ⟨.ref b, rfl, b, c, 30, rfl, by decide, by decide, hb3, fun H4 m hm0 hm30 but4 hb4 => ?_⟩
      refine ⟨10, 29, rfl, rfl, ⟨by decide, by decide, by decide⟩, (by show 3 ≤ sizeLine; decide), fun l nl => ?_⟩
      have lb : l ≠ b := fun z => by
        obtain ⟨_, _, _, _, _, e, _⟩ := hb4
        rw [← z, nl] at e
        cases e
      have lc : l ≠ c := fun z => by
        obtain ⟨_, _, _, _, _, _, e, _⟩ := hb4
        rw [← z, nl] at e
        cases e
      have hb5 : Bag (upd H4 l (.lst [.int m, .int (10 ^ Int.toNat 29), .int 0])) b c := by
        obtain ⟨ms, i, p, q0, r, e1, e2, e3⟩ := hb4
        exact ⟨ms, i, p, q0, r, by rw [upd_ne (Ne.symm lb)]; exact e1, by rw [upd_ne (Ne.symm lc)]; exact e2, e3⟩
      refine ⟨.ref b, rfl, b, c, 3, rfl, by decide, by decide, hb5, fun H6 k3 hk0 hk3 but6 hb6 => ?_⟩
      obtain ⟨spot, hspot⟩ : ∃ spot : Int, atI [V.int m, V.int (10 ^ Int.toNat 29), V.int 0] k3 = some (.int spot) := by
        have : k3 = 0 ∨ k3 = 1 ∨ k3 = 2 := by omega
        rcases this with rfl | rfl | rfl
        · exact ⟨_, rfl⟩
        · exact ⟨_, rfl⟩
        · exact ⟨_, rfl⟩
      refine ⟨l, _, k3, _, rfl, rfl, SqL.of (but6 _ _ lb upd_same), hspot, ?_⟩
      refine ⟨.ref b, rfl, b, c, 9, rfl, by decide, by decide, hb6, fun H7 one ho0 ho9 but7 hb7 => ⟨_, _, rfl, ?_⟩⟩
      -- two
      refine ⟨10, 29, rfl, rfl, ⟨by decide, by decide, by decide⟩, .ref b, rfl, b, c, 99, rfl, by decide, by decide, hb7, fun H8 t8 ht0 ht99 but8 hb8 => ⟨_, t8, rfl, rfl, ?_⟩⟩
      obtain ⟨two, etwo⟩ : ∃ two : Int, two = 10 ^ Int.toNat 29 + t8 := ⟨_, rfl⟩
      -- some
      refine ⟨fun σ H => ∃ sm : V, Sc sm ∧ σ = [some (.ref a), some (.ref b), none, some (.str word), some (.int spot), some (.int one), some (.int two), some sm, none, none, none, none], ?_, ?_⟩
      · refine ⟨.ref b, rfl, b, c, 60, rfl, by decide, by decide, hb8, fun H9 s9 hs0 hs60 but9 hb9 => ⟨(by show 2 ≤ sizeLine; decide), fun l9 nl9 => ?_⟩⟩
        have lb9 : l9 ≠ b := fun z => by
          obtain ⟨_, _, _, _, _, e, _⟩ := hb9
          rw [← z, nl9] at e
          cases e
        have lc9 : l9 ≠ c := fun z => by
          obtain ⟨_, _, _, _, _, _, e, _⟩ := hb9
          rw [← z, nl9] at e
          cases e
        have hb10 : Bag (upd H9 l9 (.lst [.non, .int s9])) b c := by
          obtain ⟨ms, i, p, q0, r, e1, e2, e3⟩ := hb9
          exact ⟨ms, i, p, q0, r, by rw [upd_ne (Ne.symm lb9)]; exact e1, by rw [upd_ne (Ne.symm lc9)]; exact e2, e3⟩
        refine ⟨.ref b, rfl, b, c, 2, rfl, by decide, by decide, hb10, fun H11 k2 hk0 hk2 but11 hb11 => ?_⟩
        obtain ⟨sm, hsc, hsm⟩ : ∃ sm : V, Sc sm ∧ atI [V.non, V.int s9] k2 = some sm := by
          have : k2 = 0 ∨ k2 = 1 := by omega
          rcases this with rfl | rfl
          · exact ⟨_, .inl rfl, rfl⟩
          · exact ⟨_, .inr ⟨_, rfl⟩, rfl⟩
        exact ⟨l9, _, k2, _, rfl, rfl, SqL.of (but11 _ _ lb9 upd_same), hsm, sm, hsc, by rw [etwo]; rfl⟩
      · rintro σ H9 ⟨sm, hsc, rfl⟩
        -- rows
        refine q_asgX (ds := [(c0, none), (c1, none), (c2, none), (c3, none), (c4, none)]) (xs_cons (ex_text (Evl.ev_var rfl)) (xs_cons (ex_text (Evl.ev_var rfl)) (xs_cons (ex_text (Evl.ev_var rfl)) (xs_cons (ex_text (Evl.ev_var rfl)) (xs_cons (ex_text (Evl.ev_var rfl)) xs_nil))))) (Nat.le_of_ble_eq_true rfl) fun p1 as1 H10 n1 e1 g1 f1 => ?_
        refine q_catX (es := [(c5, none), (c6, none), (c7, none), (c8, none), (c9, none)]) rfl g1 f1 (xs_cons (ex_text (Evl.ev_var rfl)) (xs_cons (ex_text (Evl.ev_var rfl)) (xs_cons (ex_text (Evl.ev_var rfl)) (xs_cons (ex_text (Evl.ev_var rfl)) (xs_cons (ex_text (Evl.ev_var rfl)) xs_nil))))) (Nat.le_of_ble_eq_true rfl) fun p2 as2 H11 n2 e2 g2 f2 => ?_
        refine q_catX (es := [(c10, none), (c11, some [(("pane" : Str), sm)]), (c12, some [(("place" : Str), sm)]), (c13, some [(("y" : Str), .int two), (("x" : Str), .int one)]), (c14, some [(("place" : Str), .int spot)])]) rfl g2 f2
          (xs_cons (ex_text (Evl.ev_var rfl)) (xs_cons (ex_one (by decide) rfl rfl (Evl.ea_cons (Evl.ev_var rfl) Evl.ea_nil) Evl.ea_nil (fun _ => rfl)) (xs_cons (ex_one (by decide) rfl rfl (Evl.ea_cons (Evl.ev_var rfl) Evl.ea_nil) Evl.ea_nil (fun _ => rfl)) (xs_cons (ex_meet (by decide) rfl rfl (Evl.ea_cons (Evl.ev_var rfl) (Evl.ea_cons (Evl.ev_var rfl) Evl.ea_nil)) Evl.ea_nil (fun _ => rfl)) (xs_cons (ex_one (by decide) rfl rfl (Evl.ea_cons (Evl.ev_var rfl) Evl.ea_nil) Evl.ea_nil (fun _ => rfl)) xs_nil))))) (Nat.le_of_ble_eq_true rfl) fun p3 as H12 n3 e3 g3 f3 => ?_
        have hcs : ∀ (i : Nat) (d : Dt), (([(c0, none), (c1, none), (c2, none), (c3, none), (c4, none)] ++ [(c5, none), (c6, none), (c7, none), (c8, none), (c9, none)] ++
            [(c10, none), (c11, some [(("pane" : Str), sm)]), (c12, some [(("place" : Str), sm)]), (c13, some [(("y" : Str), .int two), (("x" : Str), .int one)]), (c14, some [(("place" : Str), .int spot)])] : List Dt))[i]? = some d → [c0, c1, c2, c3, c4, c5, c6, c7, c8, c9, c10, c11, c12, c13, c14][i]? = some d.1 := fun i d e => by
          have z := congrArg (Option.map Prod.fst) e
          rw [← List.getElem?_map] at z
          exact z
        have hlen3 : as.length = 15 := f3.length
        -- the loop
        refine ⟨fun σ H => ∃ y2 : Option V, σ = [some (.ref a), some (.ref b), y2, some (.str word), some (.int spot), some (.int one), some (.int two), some sm, some (.ref p3), none, none, none] ∧ Evl.Ex H12 H, ?_, ?_⟩
        · refine ⟨.ref p3, rfl, p3, _, rfl, .inl (SqL.of g3), (as.map V.ref).length, rfl, by rw [z62]; omega, by rw [List.length_map, hlen3, z62]; decide, ?_⟩
          rw [List.length_map, hlen3]
          refine for_range (lo := 0) (n := 15) (fun i σ H => ∃ y2 : Option V, σ = [some (.ref a), some (.ref b), y2, some (.str word), some (.int spot), some (.int one), some (.int two), some sm, some (.ref p3), none, none, none] ∧ Evl.Ex H12 H)
            ⟨none, rfl, Evl.Ex.refl _⟩ ?_ (fun σ H z => z)
          rintro i σ H13 hi ⟨y2, rfl, e4⟩
          have g4 := e4 _ _ g3
          have f4 := f3.ex e4
          obtain ⟨d, hd⟩ : ∃ d, (([(c0, none), (c1, none), (c2, none), (c3, none), (c4, none)] ++ [(c5, none), (c6, none), (c7, none), (c8, none), (c9, none)] ++
            [(c10, none), (c11, some [(("pane" : Str), sm)]), (c12, some [(("place" : Str), sm)]), (c13, some [(("y" : Str), .int two), (("x" : Str), .int one)]), (c14, some [(("place" : Str), .int spot)])] : List Dt))[i]? = some d := ⟨_, List.getElem?_eq_getElem hi⟩
          have hC := hcs i d hd
          obtain ⟨nm, TX⟩ := T.A.x (List.mem_of_getElem? hC)
          have kP : PySem.W.kitOne K (.ref d.1) (.ref P) = some true := by
            rw [TX.kit T.A.p]
            simp
          refine Evl.q_when (Evl.et_or (Evl.et_not (Evl.et_B (ev_isE (ex_ixV rfl rfl (Int.zero_add _) g4 f4 hd) TX (.own P) kP))) (fun _ => Evl.et_not (Evl.et_B (ev_isE (ex_ixV rfl rfl (Int.zero_add _) g4 f4 hd) TX (.ty "ValueError") TX.kitV))))
            (fun z => absurd z (by simp)) fun _ H14 e5 => ?_
          have g5 := e5 _ _ g4
          have f5 := f4.ex e5
          refine Evl.s_when (b := false) (Evl.et_test (Evl.ev_opLL (el_of (ex_ixV rfl rfl (Int.zero_add _) g5 f5 hd) TX)
            (Evl.el_lcR1 (n := 15) (fun _ => true) (fun j => .bl (decide (V.int (j : Int) = V.int (i : Int)))) (Evl.ea_cons (Evl.ev_is (Evl.ev_cb (z := .int 15) (Evl.ea_cons (Evl.ev_var rfl) Evl.ea_nil) ?rc) rfl) Evl.ea_nil) (by decide) ?hw ?ht ?he) ?hr)) (fun z => nomatch z) fun _ H15 e6 => ⟨_, rfl, (e4.trans e5).trans e6⟩
          case rc =>
            intro H1 e Q q
            refine ⟨p3, as.map V.ref, rfl, .inl (SqL.of (e _ _ g5)), ?_⟩
            rw [List.length_map, hlen3]
            exact q H1 (Evl.Ex.refl H1)
          case hw =>
            intro x
            rfl
          case ht =>
            intro j H1 e hj H2 e2 Q q
            exact q H2 (Evl.Ex.refl H2)
          case he =>
            intro j H1 e hj _
            refine Evl.ev_op (Evl.ev_var rfl) (Evl.ev_var rfl) ?_
            have z := Evl.rv_eq (x := V.int (j : Int)) (y := V.int (0 + (i : Int))) (H := H1) rfl
            rw [Int.zero_add] at z
            rw [Int.zero_add]
            exact z
          case hr =>
            intro p q H1 hp hq _
            rw [isOf_row T.A.nd hC] at hp
            rw [given_bools] at hq
            exact rv_neB hp hq
        · rintro σ H13 ⟨y2, rfl, e4⟩
          have g4 := e4 _ _ g3
          have f4 := f3.ex e4
          -- PaneError
          refine Evl.q_when (b := false) (Evl.et_test (Evl.ev_opLL (el_of (ex_text (C := P) (Evl.ev_var rfl)) T.A.p) (el_rep1 (n := 15) (by decide) (Evl.ev_cb (z := .int 15) (Evl.ea_cons (Evl.ev_var rfl) Evl.ea_nil) ?rc)) ?hr)) (fun z => nomatch z) fun _ H14 e5 => ?_
          case rc =>
            intro H1 e Q q
            refine ⟨p3, as.map V.ref, rfl, .inl (SqL.of (e _ _ g4)), ?_⟩
            rw [List.length_map, hlen3]
            exact q H1 (Evl.Ex.refl H1)
          case hr =>
            intro p q H1 hp hq _
            rw [isOf_none T.A.nd] at hp
            rw [← List.map_replicate] at hq
            exact rv_neB hp hq
          have e45 := e4.trans e5
          clear e4 g4 f4
          -- made
          refine q_asgE (ex_meet (by decide) rfl rfl Evl.ea_nil (Evl.ea_cons (Evl.ev_var rfl) (Evl.ea_cons (Evl.ev_var rfl) Evl.ea_nil)) (fun _ => rfl)) fun am H15 e6 hm => ?_
          have e4 := e45.trans e6
          have g4 := e4 _ _ g3
          have f4 := f3.ex e4
          refine Evl.q_asgL (Evl.el_lst (Evl.ea_cons (ev_fld (ex_ix (k := 11) rfl g4 f4 rfl) T.f11 T.n11 rfl) (Evl.ea_cons (ev_fld (ex_ix (k := 12) rfl g4 f4 rfl) T.f12 T.n12 rfl) (Evl.ea_cons (ev_fld (ex_ix (k := 13) rfl g4 f4 rfl) T.f13 T.n13x rfl) (Evl.ea_cons (ev_fld (ex_ix (k := 13) rfl g4 f4 rfl) T.f13 T.n13y rfl) (Evl.ea_cons (ev_fld (ex_ix (k := 14) rfl g4 f4 rfl) T.f14 T.n14 rfl) (Evl.ea_cons (ev_fld (ex_var (d := (c13, some [(("y" : Str), V.int two), (("x" : Str), V.int one)])) rfl hm) T.f13 T.n13x rfl) (Evl.ea_cons (ev_fld (ex_var (d := (c13, some [(("y" : Str), V.int two), (("x" : Str), V.int one)])) rfl hm) T.f13 T.n13y rfl) Evl.ea_nil))))))) (Nat.le_of_ble_eq_true rfl)) fun p4 H16 n7 e7 g7 => ?_
          refine Evl.q_asgL (el_catV rfl g7 (Evl.el_lst (Evl.ea_cons (ev_fld (ex_one (by decide) rfl rfl Evl.ea_nil (Evl.ea_cons (Evl.ev_var rfl) Evl.ea_nil) (fun _ => rfl)) T.f11 T.n11 rfl) (Evl.ea_cons (ev_fld (ex_one (by decide) rfl rfl Evl.ea_nil (Evl.ea_cons (Evl.ev_var rfl) Evl.ea_nil) (fun _ => rfl)) T.f12 T.n12 rfl) (Evl.ea_cons (ev_fld (ex_one (by decide) rfl rfl Evl.ea_nil (Evl.ea_cons (Evl.ev_var rfl) Evl.ea_nil) (fun _ => rfl)) T.f14 T.n14 rfl) Evl.ea_nil))) (Nat.le_of_ble_eq_true rfl)) (Nat.le_of_ble_eq_true rfl)) fun p5 H17 n8 e8 g8 => ?_
          refine ⟨.ref p5, rfl, Evl.el_lst (Evl.ea_cons (Evl.ev_var rfl) (Evl.ea_cons (Evl.ev_var rfl) (Evl.ea_cons (Evl.ev_var rfl) (Evl.ea_cons (Evl.ev_var rfl) (Evl.ea_cons (Evl.ev_var rfl) (Evl.ea_cons (Evl.ev_var rfl) (Evl.ea_cons (Evl.ev_var rfl) (Evl.ea_cons (Evl.ev_var rfl) (Evl.ea_cons (Evl.ev_var rfl) (Evl.ea_cons (Evl.ev_var rfl) Evl.ea_nil)))))))))) (Nat.le_of_ble_eq_true rfl) H17 (Evl.Ex.refl H17) _ fun p6 H18 n9 e9 g9 => ?_⟩
          refine ⟨p5, p6, _, rfl, e9 _ _ g8, g9, ?_, Nat.le_of_ble_eq_true rfl, fun H' _ => q H'⟩
          intro x hx
          simp only [List.mem_append, List.mem_cons, List.not_mem_nil, or_false, or_assoc] at hx
          have hi : ∀ i : Int, Sc (V.int i) := fun i => .inr ⟨i, rfl⟩
          rcases hx with rfl | rfl | rfl | rfl | rfl | rfl | rfl | rfl | rfl | rfl <;> first | exact hsc | exact hi _
end
end P64
set_option Elab.async false
set_option linter.all false
set_option maxRecDepth 100000
set_option maxHeartbeats 8000000
/-! # what the top has left -/
namespace P64
open PySem PySem.Spec PyProof.Rows L2 PX
section
variable {K : PySem.W.Frag} {mg : Str → Option Value}
theorem xc_mk {n nm q : Str} {C N : Addr} {bs mid : List Value} {sn : List Str} {sub : List Value} {ab : Bool} {col : Option Bool} {dd : Option Addr} {u v w x y : Option Value} (g : mg n = some (.ref C))
    (l : K.lookup C = some (excClassObj nm q C N bs (mid ++ tailE) true sn sub ab col dd u v w x y "ValueError.__new__")) (k : PySem.W.keepIn K (.ref C) = true) (t : PySem.W.typeIn K (.ref C) = some (.type "type"))
    (hg : PySem.W.findIn K (.ref C) "__getattribute__" = some (some (.builtin "BaseException.__getattribute__"))) (hk : PySem.W.findIn K (.ref C) "__getattr__" = some none) (ha : PySem.W.findIn K (.ref C) "__class__" = some (some (.builtin "object.__class__")))
    (hn : PySem.W.specialIn K (.builtin "object.__class__") "__get__" = some (some (.builtin "getset_descriptor.__get__"))) (ht : PySem.W.takesIn K (.builtin "object.__class__") = some true) : XC K mg n C mid where
  g := g
  k := k
  m := ⟨_, by unfold PySem.W.clsIn; rw [l], rfl, rfl⟩
  ty := t
  hg := hg
  hk := hk
  ha := ha
  hn := hn
  ht := ht
theorem oex_mk {n nm q : Str} {C N : Addr} {bs mid : List Value} {sn : List Str} {sub : List Value} {ab : Bool} {col : Option Bool} {dd : Option Addr} {u v w x y : Option Value} (T : XC K mg n C mid)
    (l : K.lookup C = some (excClassObj nm q C N bs (mid ++ tailE) true sn sub ab col dd u v w x y "ValueError.__new__")) (hr : PySem.HandSPX.refsVE (mid ++ tailE) = true)
    (sa : PySem.W.findIn K (.ref C) "__setattr__" = some (some (.builtin "object.__setattr__"))) : OexC K C where
  cls := ⟨_, _, _, _, _, _, _, _, _, _, _, _, _, _, _, l, hr⟩
  sa := sa
  exC := T.ex.hs
  tyC := T.ty
  kC := T.k
theorem xfc_mk {n : Str} {C : Addr} {mid : List Value} (T : XC K mg n C mid) : XfC K C := ⟨T.hg, T.hk, T.ex.hs, T.ex.hd⟩
theorem vals_rev : ∀ {vs : List V} {us : List Value}, Vals vs us → Vals vs.reverse us.reverse
  | _, _, .nil => .nil
  | _, _, .cons r t => by
    rw [List.reverse_cons, List.reverse_cons]
    exact (vals_rev t).append (.cons r .nil)
theorem kb_pos {fd : FuncData} {ps : List Str} (b : Binds K fd ps []) : KBn K fd ps ps.length [] (fun us _ => us) (fun vs _ => vs) :=
  ⟨fun s us ws X l1 _ => by
    have z := b s us X (by rw [List.append_nil]; exact l1)
    rw [List.append_nil] at z
    exact z, fun r _ => r⟩
end
theorem all_mk {l : PySem.W.OpenLaw} {w : World} {K : PySem.W.Frag} {h : Heap} {mg : Str → Option Value} {fa P c0 c1 c2 c3 c4 c5 c6 c7 c8 c9 c10 c11 c12 c13 c14 : Addr} (X : K.In h) (G : h.Ns mainGlobals mg) (hfa : mg "law" = some (.ref fa))
    {nm0 q0 : Str} {N0 : Addr} {bs0 : List Value} {sn0 : List Str} {sub0 : List Value} {ab0 : Bool} {col0 : Option Bool} {dd0 : Option Addr} {u0 v0 w0 x0 y0 : Option Value}
    {nm1 q1 : Str} {N1 : Addr} {bs1 : List Value} {sn1 : List Str} {sub1 : List Value} {ab1 : Bool} {col1 : Option Bool} {dd1 : Option Addr} {u1 v1 w1 x1 y1 : Option Value}
    {nm2 q2 : Str} {N2 : Addr} {bs2 : List Value} {sn2 : List Str} {sub2 : List Value} {ab2 : Bool} {col2 : Option Bool} {dd2 : Option Addr} {u2 v2 w2 x2 y2 : Option Value}
    {nm3 q3 : Str} {N3 : Addr} {bs3 : List Value} {sn3 : List Str} {sub3 : List Value} {ab3 : Bool} {col3 : Option Bool} {dd3 : Option Addr} {u3 v3 w3 x3 y3 : Option Value}
    {nm4 q4 : Str} {N4 : Addr} {bs4 : List Value} {sn4 : List Str} {sub4 : List Value} {ab4 : Bool} {col4 : Option Bool} {dd4 : Option Addr} {u4 v4 w4 x4 y4 : Option Value}
    {nm5 q5 : Str} {N5 : Addr} {bs5 : List Value} {sn5 : List Str} {sub5 : List Value} {ab5 : Bool} {col5 : Option Bool} {dd5 : Option Addr} {u5 v5 w5 x5 y5 : Option Value}
    {nm6 q6 : Str} {N6 : Addr} {bs6 : List Value} {sn6 : List Str} {sub6 : List Value} {ab6 : Bool} {col6 : Option Bool} {dd6 : Option Addr} {u6 v6 w6 x6 y6 : Option Value}
    {nm7 q7 : Str} {N7 : Addr} {bs7 : List Value} {sn7 : List Str} {sub7 : List Value} {ab7 : Bool} {col7 : Option Bool} {dd7 : Option Addr} {u7 v7 w7 x7 y7 : Option Value}
    {nm8 q8 : Str} {N8 : Addr} {bs8 : List Value} {sn8 : List Str} {sub8 : List Value} {ab8 : Bool} {col8 : Option Bool} {dd8 : Option Addr} {u8 v8 w8 x8 y8 : Option Value}
    {nm9 q9 : Str} {N9 : Addr} {bs9 : List Value} {sn9 : List Str} {sub9 : List Value} {ab9 : Bool} {col9 : Option Bool} {dd9 : Option Addr} {u9 v9 w9 x9 y9 : Option Value}
    {nm10 q10 : Str} {N10 : Addr} {bs10 : List Value} {sn10 : List Str} {sub10 : List Value} {ab10 : Bool} {col10 : Option Bool} {dd10 : Option Addr} {u10 v10 w10 x10 y10 : Option Value}
    {nm11 q11 : Str} {N11 : Addr} {bs11 : List Value} {sn11 : List Str} {sub11 : List Value} {ab11 : Bool} {col11 : Option Bool} {dd11 : Option Addr} {u11 v11 w11 x11 y11 : Option Value}
    {nm12 q12 : Str} {N12 : Addr} {bs12 : List Value} {sn12 : List Str} {sub12 : List Value} {ab12 : Bool} {col12 : Option Bool} {dd12 : Option Addr} {u12 v12 w12 x12 y12 : Option Value}
    {nm13 q13 : Str} {N13 : Addr} {bs13 : List Value} {sn13 : List Str} {sub13 : List Value} {ab13 : Bool} {col13 : Option Bool} {dd13 : Option Addr} {u13 v13 w13 x13 y13 : Option Value}
    {nm14 q14 : Str} {N14 : Addr} {bs14 : List Value} {sn14 : List Str} {sub14 : List Value} {ab14 : Bool} {col14 : Option Bool} {dd14 : Option Addr} {u14 v14 w14 x14 y14 : Option Value}
    {nm15 q15 : Str} {N15 : Addr} {bs15 : List Value} {sn15 : List Str} {sub15 : List Value} {ab15 : Bool} {col15 : Option Bool} {dd15 : Option Addr} {u15 v15 w15 x15 y15 : Option Value}
    {od12 an12 : Option Addr} {sl12 : Array (Option Value)} {oc12 kV12 dc12 pm12 cd12 ct12 : Value} {f12 : Addr}
    {od13 an13 : Option Addr} {sl13 : Array (Option Value)} {oc13 kV13 dc13 pm13 cd13 ct13 : Value} {f13 : Addr}
    {od14 an14 : Option Addr} {sl14 : Array (Option Value)} {oc14 kV14 dc14 pm14 cd14 ct14 : Value} {f14 : Addr}
    {od15 an15 : Option Addr} {sl15 : Array (Option Value)} {oc15 kV15 dc15 pm15 cd15 ct15 : Value} {f15 : Addr}
    {od20 an20 : Option Addr} {sl20 : Array (Option Value)} {oc20 kV20 dc20 pm20 cd20 ct20 : Value} {f20 : Addr}
    {od21 an21 : Option Addr} {sl21 : Array (Option Value)} {oc21 kV21 dc21 pm21 cd21 ct21 : Value} {f21 : Addr}
    {od22 an22 : Option Addr} {sl22 : Array (Option Value)} {oc22 kV22 dc22 pm22 cd22 ct22 : Value} {f22 : Addr}
    {od23 an23 : Option Addr} {sl23 : Array (Option Value)} {oc23 kV23 dc23 pm23 cd23 ct23 : Value} {f23 : Addr}
    {od24 an24 : Option Addr} {sl24 : Array (Option Value)} {oc24 kV24 dc24 pm24 cd24 ct24 : Value} {f24 : Addr}
    {od25 an25 : Option Addr} {sl25 : Array (Option Value)} {oc25 kV25 dc25 pm25 cd25 ct25 : Value} {f25 : Addr}
    (a0 : PySem.W.nsIn K mainGlobals "PaneError" = some (some (.ref P)))
    (l0 : K.lookup P = some (excClassObj nm0 q0 P N0 bs0 [.type "ValueError", .type "Exception", .type "BaseException", .type "object"] true sn0 sub0 ab0 col0 dd0 u0 v0 w0 x0 y0 "ValueError.__new__"))
    (k0 : PySem.W.keepIn K (.ref P) = true)
    (t0 : PySem.W.typeIn K (.ref P) = some (.type "type"))
    (g0 : PySem.W.findIn K (.ref P) "__getattribute__" = some (some (.builtin "BaseException.__getattribute__")))
    (h0 : PySem.W.findIn K (.ref P) "__getattr__" = some none)
    (j0 : PySem.W.findIn K (.ref P) "__class__" = some (some (.builtin "object.__class__")))
    (e0 : PySem.W.excIn K P bmV "ValueError.__new__" = true)
    (a1 : PySem.W.nsIn K mainGlobals "InvalidPlan" = some (some (.ref c0)))
    (l1 : K.lookup c0 = some (excClassObj nm1 q1 c0 N1 bs1 [.ref P, .type "ValueError", .type "Exception", .type "BaseException", .type "object"] true sn1 sub1 ab1 col1 dd1 u1 v1 w1 x1 y1 "ValueError.__new__"))
    (k1 : PySem.W.keepIn K (.ref c0) = true)
    (t1 : PySem.W.typeIn K (.ref c0) = some (.type "type"))
    (g1 : PySem.W.findIn K (.ref c0) "__getattribute__" = some (some (.builtin "BaseException.__getattribute__")))
    (h1 : PySem.W.findIn K (.ref c0) "__getattr__" = some none)
    (j1 : PySem.W.findIn K (.ref c0) "__class__" = some (some (.builtin "object.__class__")))
    (e1 : PySem.W.excIn K c0 bmV "ValueError.__new__" = true)
    (a2 : PySem.W.nsIn K mainGlobals "InvalidSegment" = some (some (.ref c1)))
    (l2 : K.lookup c1 = some (excClassObj nm2 q2 c1 N2 bs2 [.ref P, .type "ValueError", .type "Exception", .type "BaseException", .type "object"] true sn2 sub2 ab2 col2 dd2 u2 v2 w2 x2 y2 "ValueError.__new__"))
    (k2 : PySem.W.keepIn K (.ref c1) = true)
    (t2 : PySem.W.typeIn K (.ref c1) = some (.type "type"))
    (g2 : PySem.W.findIn K (.ref c1) "__getattribute__" = some (some (.builtin "BaseException.__getattribute__")))
    (h2 : PySem.W.findIn K (.ref c1) "__getattr__" = some none)
    (j2 : PySem.W.findIn K (.ref c1) "__class__" = some (some (.builtin "object.__class__")))
    (e2 : PySem.W.excIn K c1 bmV "ValueError.__new__" = true)
    (a3 : PySem.W.nsIn K mainGlobals "InvalidSizes" = some (some (.ref c2)))
    (l3 : K.lookup c2 = some (excClassObj nm3 q3 c2 N3 bs3 [.ref P, .type "ValueError", .type "Exception", .type "BaseException", .type "object"] true sn3 sub3 ab3 col3 dd3 u3 v3 w3 x3 y3 "ValueError.__new__"))
    (k3 : PySem.W.keepIn K (.ref c2) = true)
    (t3 : PySem.W.typeIn K (.ref c2) = some (.type "type"))
    (g3 : PySem.W.findIn K (.ref c2) "__getattribute__" = some (some (.builtin "BaseException.__getattribute__")))
    (h3 : PySem.W.findIn K (.ref c2) "__getattr__" = some none)
    (j3 : PySem.W.findIn K (.ref c2) "__class__" = some (some (.builtin "object.__class__")))
    (e3 : PySem.W.excIn K c2 bmV "ValueError.__new__" = true)
    (a4 : PySem.W.nsIn K mainGlobals "InvalidWord" = some (some (.ref c3)))
    (l4 : K.lookup c3 = some (excClassObj nm4 q4 c3 N4 bs4 [.ref P, .type "ValueError", .type "Exception", .type "BaseException", .type "object"] true sn4 sub4 ab4 col4 dd4 u4 v4 w4 x4 y4 "ValueError.__new__"))
    (k4 : PySem.W.keepIn K (.ref c3) = true)
    (t4 : PySem.W.typeIn K (.ref c3) = some (.type "type"))
    (g4 : PySem.W.findIn K (.ref c3) "__getattribute__" = some (some (.builtin "BaseException.__getattribute__")))
    (h4 : PySem.W.findIn K (.ref c3) "__getattr__" = some none)
    (j4 : PySem.W.findIn K (.ref c3) "__class__" = some (some (.builtin "object.__class__")))
    (e4 : PySem.W.excIn K c3 bmV "ValueError.__new__" = true)
    (a5 : PySem.W.nsIn K mainGlobals "InvalidPane" = some (some (.ref c4)))
    (l5 : K.lookup c4 = some (excClassObj nm5 q5 c4 N5 bs5 [.ref P, .type "ValueError", .type "Exception", .type "BaseException", .type "object"] true sn5 sub5 ab5 col5 dd5 u5 v5 w5 x5 y5 "ValueError.__new__"))
    (k5 : PySem.W.keepIn K (.ref c4) = true)
    (t5 : PySem.W.typeIn K (.ref c4) = some (.type "type"))
    (g5 : PySem.W.findIn K (.ref c4) "__getattribute__" = some (some (.builtin "BaseException.__getattribute__")))
    (h5 : PySem.W.findIn K (.ref c4) "__getattr__" = some none)
    (j5 : PySem.W.findIn K (.ref c4) "__class__" = some (some (.builtin "object.__class__")))
    (e5 : PySem.W.excIn K c4 bmV "ValueError.__new__" = true)
    (a6 : PySem.W.nsIn K mainGlobals "InvalidIndex" = some (some (.ref c5)))
    (l6 : K.lookup c5 = some (excClassObj nm6 q6 c5 N6 bs6 [.ref P, .type "ValueError", .type "Exception", .type "BaseException", .type "object"] true sn6 sub6 ab6 col6 dd6 u6 v6 w6 x6 y6 "ValueError.__new__"))
    (k6 : PySem.W.keepIn K (.ref c5) = true)
    (t6 : PySem.W.typeIn K (.ref c5) = some (.type "type"))
    (g6 : PySem.W.findIn K (.ref c5) "__getattribute__" = some (some (.builtin "BaseException.__getattribute__")))
    (h6 : PySem.W.findIn K (.ref c5) "__getattr__" = some none)
    (j6 : PySem.W.findIn K (.ref c5) "__class__" = some (some (.builtin "object.__class__")))
    (e6 : PySem.W.excIn K c5 bmV "ValueError.__new__" = true)
    (a7 : PySem.W.nsIn K mainGlobals "InvalidNumber" = some (some (.ref c6)))
    (l7 : K.lookup c6 = some (excClassObj nm7 q7 c6 N7 bs7 [.ref P, .type "ValueError", .type "Exception", .type "BaseException", .type "object"] true sn7 sub7 ab7 col7 dd7 u7 v7 w7 x7 y7 "ValueError.__new__"))
    (k7 : PySem.W.keepIn K (.ref c6) = true)
    (t7 : PySem.W.typeIn K (.ref c6) = some (.type "type"))
    (g7 : PySem.W.findIn K (.ref c6) "__getattribute__" = some (some (.builtin "BaseException.__getattribute__")))
    (h7 : PySem.W.findIn K (.ref c6) "__getattr__" = some none)
    (j7 : PySem.W.findIn K (.ref c6) "__class__" = some (some (.builtin "object.__class__")))
    (e7 : PySem.W.excIn K c6 bmV "ValueError.__new__" = true)
    (a8 : PySem.W.nsIn K mainGlobals "NotAlone" = some (some (.ref c7)))
    (l8 : K.lookup c7 = some (excClassObj nm8 q8 c7 N8 bs8 [.ref P, .type "ValueError", .type "Exception", .type "BaseException", .type "object"] true sn8 sub8 ab8 col8 dd8 u8 v8 w8 x8 y8 "ValueError.__new__"))
    (k8 : PySem.W.keepIn K (.ref c7) = true)
    (t8 : PySem.W.typeIn K (.ref c7) = some (.type "type"))
    (g8 : PySem.W.findIn K (.ref c7) "__getattribute__" = some (some (.builtin "BaseException.__getattribute__")))
    (h8 : PySem.W.findIn K (.ref c7) "__getattr__" = some none)
    (j8 : PySem.W.findIn K (.ref c7) "__class__" = some (some (.builtin "object.__class__")))
    (e8 : PySem.W.excIn K c7 bmV "ValueError.__new__" = true)
    (a9 : PySem.W.nsIn K mainGlobals "NotNeighbours" = some (some (.ref c8)))
    (l9 : K.lookup c8 = some (excClassObj nm9 q9 c8 N9 bs9 [.ref P, .type "ValueError", .type "Exception", .type "BaseException", .type "object"] true sn9 sub9 ab9 col9 dd9 u9 v9 w9 x9 y9 "ValueError.__new__"))
    (k9 : PySem.W.keepIn K (.ref c8) = true)
    (t9 : PySem.W.typeIn K (.ref c8) = some (.type "type"))
    (g9 : PySem.W.findIn K (.ref c8) "__getattribute__" = some (some (.builtin "BaseException.__getattribute__")))
    (h9 : PySem.W.findIn K (.ref c8) "__getattr__" = some none)
    (j9 : PySem.W.findIn K (.ref c8) "__class__" = some (some (.builtin "object.__class__")))
    (e9 : PySem.W.excIn K c8 bmV "ValueError.__new__" = true)
    (a10 : PySem.W.nsIn K mainGlobals "TooSmall" = some (some (.ref c9)))
    (l10 : K.lookup c9 = some (excClassObj nm10 q10 c9 N10 bs10 [.ref P, .type "ValueError", .type "Exception", .type "BaseException", .type "object"] true sn10 sub10 ab10 col10 dd10 u10 v10 w10 x10 y10 "ValueError.__new__"))
    (k10 : PySem.W.keepIn K (.ref c9) = true)
    (t10 : PySem.W.typeIn K (.ref c9) = some (.type "type"))
    (g10 : PySem.W.findIn K (.ref c9) "__getattribute__" = some (some (.builtin "BaseException.__getattribute__")))
    (h10 : PySem.W.findIn K (.ref c9) "__getattr__" = some none)
    (j10 : PySem.W.findIn K (.ref c9) "__class__" = some (some (.builtin "object.__class__")))
    (e10 : PySem.W.excIn K c9 bmV "ValueError.__new__" = true)
    (a11 : PySem.W.nsIn K mainGlobals "NothingToUndo" = some (some (.ref c10)))
    (l11 : K.lookup c10 = some (excClassObj nm11 q11 c10 N11 bs11 [.ref P, .type "ValueError", .type "Exception", .type "BaseException", .type "object"] true sn11 sub11 ab11 col11 dd11 u11 v11 w11 x11 y11 "ValueError.__new__"))
    (k11 : PySem.W.keepIn K (.ref c10) = true)
    (t11 : PySem.W.typeIn K (.ref c10) = some (.type "type"))
    (g11 : PySem.W.findIn K (.ref c10) "__getattribute__" = some (some (.builtin "BaseException.__getattribute__")))
    (h11 : PySem.W.findIn K (.ref c10) "__getattr__" = some none)
    (j11 : PySem.W.findIn K (.ref c10) "__class__" = some (some (.builtin "object.__class__")))
    (e11 : PySem.W.excIn K c10 bmV "ValueError.__new__" = true)
    (a12 : PySem.W.nsIn K mainGlobals "InvalidLayout" = some (some (.ref c11)))
    (l12 : K.lookup c11 = some (excClassObj nm12 q12 c11 N12 bs12 [.ref P, .type "ValueError", .type "Exception", .type "BaseException", .type "object"] true sn12 sub12 ab12 col12 dd12 u12 v12 w12 x12 y12 "ValueError.__new__"))
    (k12 : PySem.W.keepIn K (.ref c11) = true)
    (t12 : PySem.W.typeIn K (.ref c11) = some (.type "type"))
    (g12 : PySem.W.findIn K (.ref c11) "__getattribute__" = some (some (.builtin "BaseException.__getattribute__")))
    (h12 : PySem.W.findIn K (.ref c11) "__getattr__" = some none)
    (j12 : PySem.W.findIn K (.ref c11) "__class__" = some (some (.builtin "object.__class__")))
    (s12 : PySem.W.findIn K (.ref c11) "__setattr__" = some (some (.builtin "object.__setattr__")))
    (a13 : PySem.W.nsIn K mainGlobals "InvalidCode" = some (some (.ref c12)))
    (l13 : K.lookup c12 = some (excClassObj nm13 q13 c12 N13 bs13 [.ref P, .type "ValueError", .type "Exception", .type "BaseException", .type "object"] true sn13 sub13 ab13 col13 dd13 u13 v13 w13 x13 y13 "ValueError.__new__"))
    (k13 : PySem.W.keepIn K (.ref c12) = true)
    (t13 : PySem.W.typeIn K (.ref c12) = some (.type "type"))
    (g13 : PySem.W.findIn K (.ref c12) "__getattribute__" = some (some (.builtin "BaseException.__getattribute__")))
    (h13 : PySem.W.findIn K (.ref c12) "__getattr__" = some none)
    (j13 : PySem.W.findIn K (.ref c12) "__class__" = some (some (.builtin "object.__class__")))
    (s13 : PySem.W.findIn K (.ref c12) "__setattr__" = some (some (.builtin "object.__setattr__")))
    (a14 : PySem.W.nsIn K mainGlobals "Meeting" = some (some (.ref c13)))
    (l14 : K.lookup c13 = some (excClassObj nm14 q14 c13 N14 bs14 [.ref P, .type "ValueError", .type "Exception", .type "BaseException", .type "object"] true sn14 sub14 ab14 col14 dd14 u14 v14 w14 x14 y14 "ValueError.__new__"))
    (k14 : PySem.W.keepIn K (.ref c13) = true)
    (t14 : PySem.W.typeIn K (.ref c13) = some (.type "type"))
    (g14 : PySem.W.findIn K (.ref c13) "__getattribute__" = some (some (.builtin "BaseException.__getattribute__")))
    (h14 : PySem.W.findIn K (.ref c13) "__getattr__" = some none)
    (j14 : PySem.W.findIn K (.ref c13) "__class__" = some (some (.builtin "object.__class__")))
    (s14 : PySem.W.findIn K (.ref c13) "__setattr__" = some (some (.builtin "object.__setattr__")))
    (a15 : PySem.W.nsIn K mainGlobals "InvalidText" = some (some (.ref c14)))
    (l15 : K.lookup c14 = some (excClassObj nm15 q15 c14 N15 bs15 [.ref P, .type "ValueError", .type "Exception", .type "BaseException", .type "object"] true sn15 sub15 ab15 col15 dd15 u15 v15 w15 x15 y15 "ValueError.__new__"))
    (k15 : PySem.W.keepIn K (.ref c14) = true)
    (t15 : PySem.W.typeIn K (.ref c14) = some (.type "type"))
    (g15 : PySem.W.findIn K (.ref c14) "__getattribute__" = some (some (.builtin "BaseException.__getattribute__")))
    (h15 : PySem.W.findIn K (.ref c14) "__getattr__" = some none)
    (j15 : PySem.W.findIn K (.ref c14) "__class__" = some (some (.builtin "object.__class__")))
    (s15 : PySem.W.findIn K (.ref c14) "__setattr__" = some (some (.builtin "object.__setattr__")))
    (zn : PySem.W.specialIn K (.builtin "object.__class__") "__get__" = some (some (.builtin "getset_descriptor.__get__")))
    (zt : PySem.W.takesIn K (.builtin "object.__class__") = some true)
    (zd : [P, c0, c1, c2, c3, c4, c5, c6, c7, c8, c9, c10, c11, c12, c13, c14].Nodup)
    (iC12 : PySem.W.findIn K (.ref c11) "__init__" = some (some (.ref f12)))
    (iT12 : PySem.W.typeIn K (.ref f12) = some (.type "function"))
    (iL12 : K.lookup f12 = some ⟨oc12, od12, .func (PySem.W.fnOf "__init__" "InvalidLayout.__init__" (defArgs sIL) (defBody sIL) (defScope sIL) .none kV12 dc12 pm12 an12 cd12 ct12), sl12⟩)
    (iD12 : PySem.W.codeIn K cd12 "InvalidLayout.__init__" = true)
    (iK12 : PySem.W.keepIn K (.ref f12) = true)
    (n12pane : PySem.W.findIn K (.ref c11) "pane" = some none)
    (iC13 : PySem.W.findIn K (.ref c12) "__init__" = some (some (.ref f13)))
    (iT13 : PySem.W.typeIn K (.ref f13) = some (.type "function"))
    (iL13 : K.lookup f13 = some ⟨oc13, od13, .func (PySem.W.fnOf "__init__" "InvalidCode.__init__" (defArgs sIC) (defBody sIC) (defScope sIC) .none kV13 dc13 pm13 an13 cd13 ct13), sl13⟩)
    (iD13 : PySem.W.codeIn K cd13 "InvalidCode.__init__" = true)
    (iK13 : PySem.W.keepIn K (.ref f13) = true)
    (n13place : PySem.W.findIn K (.ref c12) "place" = some none)
    (iC14 : PySem.W.findIn K (.ref c13) "__init__" = some (some (.ref f14)))
    (iT14 : PySem.W.typeIn K (.ref f14) = some (.type "function"))
    (iL14 : K.lookup f14 = some ⟨oc14, od14, .func (PySem.W.fnOf "__init__" "Meeting.__init__" (defArgs sIM) (defBody sIM) (defScope sIM) .none kV14 dc14 pm14 an14 cd14 ct14), sl14⟩)
    (iD14 : PySem.W.codeIn K cd14 "Meeting.__init__" = true)
    (iK14 : PySem.W.keepIn K (.ref f14) = true)
    (n14x : PySem.W.findIn K (.ref c13) "x" = some none)
    (n14y : PySem.W.findIn K (.ref c13) "y" = some none)
    (iC15 : PySem.W.findIn K (.ref c14) "__init__" = some (some (.ref f15)))
    (iT15 : PySem.W.typeIn K (.ref f15) = some (.type "function"))
    (iL15 : K.lookup f15 = some ⟨oc15, od15, .func (PySem.W.fnOf "__init__" "InvalidText.__init__" (defArgs sIT) (defBody sIT) (defScope sIT) .none kV15 dc15 pm15 an15 cd15 ct15), sl15⟩)
    (iD15 : PySem.W.codeIn K cd15 "InvalidText.__init__" = true)
    (iK15 : PySem.W.keepIn K (.ref f15) = true)
    (n15place : PySem.W.findIn K (.ref c14) "place" = some none)
    (dA20 : PySem.W.nsIn K mainGlobals "_law_bag" = some (some (.ref f20)))
    (dL20 : K.lookup f20 = some ⟨oc20, od20, .func (PySem.W.fnOf "_law_bag" "_law_bag" (defArgs sBag) (defBody sBag) (defScope sBag) .none kV20 dc20 pm20 an20 cd20 ct20), sl20⟩)
    (dC20 : PySem.W.codeIn K cd20 "_law_bag" = true)
    (dK20 : PySem.W.keepIn K (.ref f20) = true)
    (dA21 : PySem.W.nsIn K mainGlobals "_law_stirred" = some (some (.ref f21)))
    (dL21 : K.lookup f21 = some ⟨oc21, od21, .func (PySem.W.fnOf "_law_stirred" "_law_stirred" (defArgs sStir) (defBody sStir) (defScope sStir) .none kV21 dc21 pm21 an21 cd21 ct21), sl21⟩)
    (dC21 : PySem.W.codeIn K cd21 "_law_stirred" = true)
    (dK21 : PySem.W.keepIn K (.ref f21) = true)
    (dA22 : PySem.W.nsIn K mainGlobals "_law_draw" = some (some (.ref f22)))
    (dL22 : K.lookup f22 = some ⟨oc22, od22, .func (PySem.W.fnOf "_law_draw" "_law_draw" (defArgs sDraw) (defBody sDraw) (defScope sDraw) .none kV22 dc22 pm22 an22 cd22 ct22), sl22⟩)
    (dC22 : PySem.W.codeIn K cd22 "_law_draw" = true)
    (dK22 : PySem.W.keepIn K (.ref f22) = true)
    (dA23 : PySem.W.nsIn K mainGlobals "_law_alike" = some (some (.ref f23)))
    (dL23 : K.lookup f23 = some ⟨oc23, od23, .func (PySem.W.fnOf "_law_alike" "_law_alike" (defArgs sAl) (defBody sAl) (defScope sAl) .none kV23 dc23 pm23 an23 cd23 ct23), sl23⟩)
    (dC23 : PySem.W.codeIn K cd23 "_law_alike" = true)
    (dK23 : PySem.W.keepIn K (.ref f23) = true)
    (dA24 : PySem.W.nsIn K mainGlobals "_law_of" = some (some (.ref f24)))
    (dL24 : K.lookup f24 = some ⟨oc24, od24, .func (PySem.W.fnOf "_law_of" "_law_of" (defArgs sOf) (defBody sOf) (defScope sOf) .none kV24 dc24 pm24 an24 cd24 ct24), sl24⟩)
    (dC24 : PySem.W.codeIn K cd24 "_law_of" = true)
    (dK24 : PySem.W.keepIn K (.ref f24) = true)
    (dA25 : PySem.W.nsIn K mainGlobals "law" = some (some (.ref f25)))
    (dL25 : K.lookup f25 = some ⟨oc25, od25, .func (PySem.W.fnOf "law" "law" (defArgs sLaw) (defBody sLaw) (defScope sLaw) .none kV25 dc25 pm25 an25 cd25 ct25), sl25⟩)
    (dC25 : PySem.W.codeIn K cd25 "law" = true)
    (dK25 : PySem.W.keepIn K (.ref f25) = true)
    (z_isinstance : PySem.W.nsIn K mainGlobals "isinstance" = some none)
    (z_list : PySem.W.nsIn K mainGlobals "list" = some none)
    (z_tuple : PySem.W.nsIn K mainGlobals "tuple" = some none)
    (z_len : PySem.W.nsIn K mainGlobals "len" = some none)
    (z_all : PySem.W.nsIn K mainGlobals "all" = some none)
    (z_range : PySem.W.nsIn K mainGlobals "range" = some none)
    (z_bool : PySem.W.nsIn K mainGlobals "bool" = some none)
    (z_int : PySem.W.nsIn K mainGlobals "int" = some none)
    (z_str : PySem.W.nsIn K mainGlobals "str" = some none)
    (z_abs : PySem.W.nsIn K mainGlobals "abs" = some none)
    (z_ValueError : PySem.W.nsIn K mainGlobals "ValueError" = some none) :
    ∃ fd : FuncData, (∀ (s : Shared) (v : Value), BindsTo s fd ⟨[v], []⟩ [("script", v)]) ∧ ∀ base : Heap, K.In base → base.Ns mainGlobals mg → FnOk l.prog w K mg base CX0 3 fa fd ["script"] (spLaw K) := by
  have e := hfa.symm.trans (PySem.W.mg_of X G dA25)
  cases e
  have T0 : XC K mg "PaneError" P [] := xc_mk (mid := []) (PySem.W.mg_of X G a0) l0 k0 t0 g0 h0 j0 zn zt
  have T1 : XC K mg "InvalidPlan" c0 [.ref P] := xc_mk (mid := [.ref P]) (PySem.W.mg_of X G a1) l1 k1 t1 g1 h1 j1 zn zt
  have T2 : XC K mg "InvalidSegment" c1 [.ref P] := xc_mk (mid := [.ref P]) (PySem.W.mg_of X G a2) l2 k2 t2 g2 h2 j2 zn zt
  have T3 : XC K mg "InvalidSizes" c2 [.ref P] := xc_mk (mid := [.ref P]) (PySem.W.mg_of X G a3) l3 k3 t3 g3 h3 j3 zn zt
  have T4 : XC K mg "InvalidWord" c3 [.ref P] := xc_mk (mid := [.ref P]) (PySem.W.mg_of X G a4) l4 k4 t4 g4 h4 j4 zn zt
  have T5 : XC K mg "InvalidPane" c4 [.ref P] := xc_mk (mid := [.ref P]) (PySem.W.mg_of X G a5) l5 k5 t5 g5 h5 j5 zn zt
  have T6 : XC K mg "InvalidIndex" c5 [.ref P] := xc_mk (mid := [.ref P]) (PySem.W.mg_of X G a6) l6 k6 t6 g6 h6 j6 zn zt
  have T7 : XC K mg "InvalidNumber" c6 [.ref P] := xc_mk (mid := [.ref P]) (PySem.W.mg_of X G a7) l7 k7 t7 g7 h7 j7 zn zt
  have T8 : XC K mg "NotAlone" c7 [.ref P] := xc_mk (mid := [.ref P]) (PySem.W.mg_of X G a8) l8 k8 t8 g8 h8 j8 zn zt
  have T9 : XC K mg "NotNeighbours" c8 [.ref P] := xc_mk (mid := [.ref P]) (PySem.W.mg_of X G a9) l9 k9 t9 g9 h9 j9 zn zt
  have T10 : XC K mg "TooSmall" c9 [.ref P] := xc_mk (mid := [.ref P]) (PySem.W.mg_of X G a10) l10 k10 t10 g10 h10 j10 zn zt
  have T11 : XC K mg "NothingToUndo" c10 [.ref P] := xc_mk (mid := [.ref P]) (PySem.W.mg_of X G a11) l11 k11 t11 g11 h11 j11 zn zt
  have T12 : XC K mg "InvalidLayout" c11 [.ref P] := xc_mk (mid := [.ref P]) (PySem.W.mg_of X G a12) l12 k12 t12 g12 h12 j12 zn zt
  have T13 : XC K mg "InvalidCode" c12 [.ref P] := xc_mk (mid := [.ref P]) (PySem.W.mg_of X G a13) l13 k13 t13 g13 h13 j13 zn zt
  have T14 : XC K mg "Meeting" c13 [.ref P] := xc_mk (mid := [.ref P]) (PySem.W.mg_of X G a14) l14 k14 t14 g14 h14 j14 zn zt
  have T15 : XC K mg "InvalidText" c14 [.ref P] := xc_mk (mid := [.ref P]) (PySem.W.mg_of X G a15) l15 k15 t15 g15 h15 j15 zn zt
  have O12 : OexC K c11 := oex_mk (mid := [.ref P]) T12 l12 rfl s12
  have FI12 := fun_mk (st := sIL) iL12 iD12 iK12
  have BI12 := FI12.binds (ps := ["self", "pane"]) fun _ _ _ _ _ _ us hl => match us, hl with | [_, _], _ => rfl
  have I12 : Ini K c11 f12 "InvalidLayout.__init__" sIL _ ["self", "pane"] := ⟨iC12, iT12, FI12, kb_pos BI12⟩
  have W12 : KBn K _ ["self", "pane"] 1 ["pane"] (fun us ws => us ++ ws) (fun vs zs => vs ++ zs) := ⟨fun s us ws _ l1 l2 => match us, l1, ws, l2 with | [_], _, [_], _ => (BindsTo.of_eq (fd := PySem.W.fnOf "__init__" "InvalidLayout.__init__" (defArgs sIL) (defBody sIL) (defScope sIL) .none kV12 dc12 pm12 an12 cd12 ct12) rfl), fun r z => r.append z⟩
  have O13 : OexC K c12 := oex_mk (mid := [.ref P]) T13 l13 rfl s13
  have FI13 := fun_mk (st := sIC) iL13 iD13 iK13
  have BI13 := FI13.binds (ps := ["self", "place"]) fun _ _ _ _ _ _ us hl => match us, hl with | [_, _], _ => rfl
  have I13 : Ini K c12 f13 "InvalidCode.__init__" sIC _ ["self", "place"] := ⟨iC13, iT13, FI13, kb_pos BI13⟩
  have W13 : KBn K _ ["self", "place"] 1 ["place"] (fun us ws => us ++ ws) (fun vs zs => vs ++ zs) := ⟨fun s us ws _ l1 l2 => match us, l1, ws, l2 with | [_], _, [_], _ => (BindsTo.of_eq (fd := PySem.W.fnOf "__init__" "InvalidCode.__init__" (defArgs sIC) (defBody sIC) (defScope sIC) .none kV13 dc13 pm13 an13 cd13 ct13) rfl), fun r z => r.append z⟩
  have O14 : OexC K c13 := oex_mk (mid := [.ref P]) T14 l14 rfl s14
  have FI14 := fun_mk (st := sIM) iL14 iD14 iK14
  have BI14 := FI14.binds (ps := ["self", "x", "y"]) fun _ _ _ _ _ _ us hl => match us, hl with | [_, _, _], _ => rfl
  have I14 : Ini K c13 f14 "Meeting.__init__" sIM _ ["self", "x", "y"] := ⟨iC14, iT14, FI14, kb_pos BI14⟩
  have W14 : KBn K _ ["self", "x", "y"] 1 ["y", "x"] (fun us ws => us ++ ws.reverse) (fun vs zs => vs ++ zs.reverse) := ⟨fun s us ws _ l1 l2 => match us, l1, ws, l2 with | [_], _, [_, _], _ => (BindsTo.of_eq (fd := PySem.W.fnOf "__init__" "Meeting.__init__" (defArgs sIM) (defBody sIM) (defScope sIM) .none kV14 dc14 pm14 an14 cd14 ct14) rfl), fun r z => r.append (vals_rev z)⟩
  have O15 : OexC K c14 := oex_mk (mid := [.ref P]) T15 l15 rfl s15
  have FI15 := fun_mk (st := sIT) iL15 iD15 iK15
  have BI15 := FI15.binds (ps := ["self", "place"]) fun _ _ _ _ _ _ us hl => match us, hl with | [_, _], _ => rfl
  have I15 : Ini K c14 f15 "InvalidText.__init__" sIT _ ["self", "place"] := ⟨iC15, iT15, FI15, kb_pos BI15⟩
  have W15 : KBn K _ ["self", "place"] 1 ["place"] (fun us ws => us ++ ws) (fun vs zs => vs ++ zs) := ⟨fun s us ws _ l1 l2 => match us, l1, ws, l2 with | [_], _, [_], _ => (BindsTo.of_eq (fd := PySem.W.fnOf "__init__" "InvalidText.__init__" (defArgs sIT) (defBody sIT) (defScope sIT) .none kV15 dc15 pm15 an15 cd15 ct15) rfl), fun r z => r.append z⟩
  have F20 := fun_mk (st := sBag) dL20 dC20 dK20
  have B20 := F20.binds (ps := ["script"]) fun _ _ _ _ _ _ us hl => match us, hl with | [_], _ => rfl
  have F21 := fun_mk (st := sStir) dL21 dC21 dK21
  have B21 := F21.binds (ps := ["bag", "wide"]) fun _ _ _ _ _ _ us hl => match us, hl with | [_, _], _ => rfl
  have F22 := fun_mk (st := sDraw) dL22 dC22 dK22
  have B22 := F22.binds (ps := ["bag", "wide"]) fun _ _ _ _ _ _ us hl => match us, hl with | [_, _], _ => rfl
  have F23 := fun_mk (st := sAl) dL23 dC23 dK23
  have B23 := F23.binds (ps := ["found", "due"]) fun _ _ _ _ _ _ us hl => match us, hl with | [_, _], _ => rfl
  have F24 := fun_mk (st := sOf) dL24 dC24 dK24
  have B24 := F24.binds (ps := ["made"]) fun _ _ _ _ _ _ us hl => match us, hl with | [_], _ => rfl
  have F25 := fun_mk (st := sLaw) dL25 dC25 dK25
  have m_isinstance := PySem.W.mg_none_of X G z_isinstance
  have m_list := PySem.W.mg_none_of X G z_list
  have m_tuple := PySem.W.mg_none_of X G z_tuple
  have m_len := PySem.W.mg_none_of X G z_len
  have m_all := PySem.W.mg_none_of X G z_all
  have m_range := PySem.W.mg_none_of X G z_range
  have m_bool := PySem.W.mg_none_of X G z_bool
  have m_int := PySem.W.mg_none_of X G z_int
  have m_str := PySem.W.mg_none_of X G z_str
  have m_abs := PySem.W.mg_none_of X G z_abs
  have m_ValueError := PySem.W.mg_none_of X G z_ValueError
  have A : All K mg P c0 c1 c2 c3 c4 c5 c6 c7 c8 c9 c10 c11 c12 c13 c14 := ⟨T0, T1, T2, T3, T4, T5, T6, T7, T8, T9, T10, T11, T12, T13, T14, T15, zd⟩
  have BNs : BN mg := ⟨m_isinstance, m_list, m_tuple, m_len, m_all, m_range, m_bool, m_int, m_str⟩
  have T : Txt K mg P c0 c1 c2 c3 c4 c5 c6 c7 c8 c9 c10 c11 c12 c13 c14 := ⟨A, e0, e1, e2, e3, e4, e5, e6, e7, e8, e9, e10, e11, O12, O13, O14, O15, xfc_mk T12, xfc_mk T13, xfc_mk T14, xfc_mk T15, n12pane, n13place, n14x, n14y, n15place, BNs, m_abs, m_ValueError⟩
  refine ⟨PySem.W.fnOf "law" "law" (defArgs sLaw) (defBody sLaw) (defScope sLaw) .none kV25 dc25 pm25 an25 cd25 ct25, fun s v => .of_eq rfl, fun base _ _ => ?_⟩
  exact ok_law F25 T (ok_bag (k := 0) F20 m_int m_abs) (PySem.W.mg_of X G dA20) dK20 B20 (ok_draw F22 F21 B21 (PySem.W.mg_of X G dA21) m_range m_int m_len) (PySem.W.mg_of X G dA22) dK22 B22
    (ok_al1 F23 BNs B23 (PySem.W.mg_of X G dA23)) (PySem.W.mg_of X G dA23) dK23 B23 (ok_of (k := 0) F24 A m_isinstance) (PySem.W.mg_of X G dA24) dK24 B24 I12 I13 I14 I15 W12 W13 W14 W15
end P64
open PySem PySem.W PyProof.Rows
set_option Elab.async false
set_option maxRecDepth 100000 in
set_option maxHeartbeats 0 in
theorem PySem.Challenge.cw_paneplans_k64_errors_made_holds : PySem.Challenge.rw_paneplans_k64_errors_made.Holds := by
  w_on; o_law; k_head; (case hw => w_witness2)
  k_fill
  refine L2.walk_of (l := PySem.Challenge.rw_paneplans_k64_errors_made) (n := 63) (k := 3) (x := "script") (CX := fun _ => L2.CX0) (sp := fun w => P64.spLaw _) rfl (by decide) rfl ⟨rfl, by decide, by decide⟩ (fun w h Y => PySem.W.kIn_of Y) ?F (fun _ _ a ns hl _ hS => ⟨a, ns, rfl, hS, hl, fun _ => rfl⟩) (fun _ _ _ _ _ h => h)
  case F =>
    intro w mg fa h KX G hmg
    refine' P64.all_mk KX G hmg ?y_a0 ?y_l0 ?y_k0 ?y_t0 ?y_g0 ?y_h0 ?y_j0 ?y_e0 ?y_a1 ?y_l1 ?y_k1 ?y_t1 ?y_g1 ?y_h1 ?y_j1 ?y_e1 ?y_a2 ?y_l2 ?y_k2 ?y_t2 ?y_g2 ?y_h2 ?y_j2 ?y_e2 ?y_a3 ?y_l3 ?y_k3 ?y_t3 ?y_g3 ?y_h3 ?y_j3 ?y_e3 ?y_a4 ?y_l4 ?y_k4 ?y_t4 ?y_g4 ?y_h4 ?y_j4 ?y_e4 ?y_a5 ?y_l5 ?y_k5 ?y_t5 ?y_g5 ?y_h5 ?y_j5 ?y_e5 ?y_a6 ?y_l6 ?y_k6 ?y_t6 ?y_g6 ?y_h6 ?y_j6 ?y_e6 ?y_a7 ?y_l7 ?y_k7 ?y_t7 ?y_g7 ?y_h7 ?y_j7 ?y_e7 ?y_a8 ?y_l8 ?y_k8 ?y_t8 ?y_g8 ?y_h8 ?y_j8 ?y_e8 ?y_a9 ?y_l9 ?y_k9 ?y_t9 ?y_g9 ?y_h9 ?y_j9 ?y_e9 ?y_a10 ?y_l10 ?y_k10 ?y_t10 ?y_g10 ?y_h10 ?y_j10 ?y_e10 ?y_a11 ?y_l11 ?y_k11 ?y_t11 ?y_g11 ?y_h11 ?y_j11 ?y_e11 ?y_a12 ?y_l12 ?y_k12 ?y_t12 ?y_g12 ?y_h12 ?y_j12 ?y_s12 ?y_a13 ?y_l13 ?y_k13 ?y_t13 ?y_g13 ?y_h13 ?y_j13 ?y_s13 ?y_a14 ?y_l14 ?y_k14 ?y_t14 ?y_g14 ?y_h14 ?y_j14 ?y_s14 ?y_a15 ?y_l15 ?y_k15 ?y_t15 ?y_g15 ?y_h15 ?y_j15 ?y_s15 ?y_zn ?y_zt ?y_zd ?y_iC12 ?y_iT12 ?y_iL12 ?y_iD12 ?y_iK12 ?y_n12pane ?y_iC13 ?y_iT13 ?y_iL13 ?y_iD13 ?y_iK13 ?y_n13place ?y_iC14 ?y_iT14 ?y_iL14 ?y_iD14 ?y_iK14 ?y_n14x ?y_n14y ?y_iC15 ?y_iT15 ?y_iL15 ?y_iD15 ?y_iK15 ?y_n15place ?y_dA20 ?y_dL20 ?y_dC20 ?y_dK20 ?y_dA21 ?y_dL21 ?y_dC21 ?y_dK21 ?y_dA22 ?y_dL22 ?y_dC22 ?y_dK22 ?y_dA23 ?y_dL23 ?y_dC23 ?y_dK23 ?y_dA24 ?y_dL24 ?y_dC24 ?y_dK24 ?y_dA25 ?y_dL25 ?y_dC25 ?y_dK25 ?y_z_isinstance ?y_z_list ?y_z_tuple ?y_z_len ?y_z_all ?y_z_range ?y_z_bool ?y_z_int ?y_z_str ?y_z_abs ?y_z_ValueError
    (case y_a0 => k_is)
    (case y_l0 => k_is)
    (case y_k0 => k_is)
    (case y_t0 => k_is)
    (case y_g0 => k_is)
    (case y_h0 => k_is)
    (case y_j0 => k_is)
    (case y_e0 => k_exc)
    (case y_a1 => k_is)
    (case y_l1 => k_is)
    (case y_k1 => k_is)
    (case y_t1 => k_is)
    (case y_g1 => k_is)
    (case y_h1 => k_is)
    (case y_j1 => k_is)
    (case y_e1 => k_exc)
    (case y_a2 => k_is)
    (case y_l2 => k_is)
    (case y_k2 => k_is)
    (case y_t2 => k_is)
    (case y_g2 => k_is)
    (case y_h2 => k_is)
    (case y_j2 => k_is)
    (case y_e2 => k_exc)
    (case y_a3 => k_is)
    (case y_l3 => k_is)
    (case y_k3 => k_is)
    (case y_t3 => k_is)
    (case y_g3 => k_is)
    (case y_h3 => k_is)
    (case y_j3 => k_is)
    (case y_e3 => k_exc)
    (case y_a4 => k_is)
    (case y_l4 => k_is)
    (case y_k4 => k_is)
    (case y_t4 => k_is)
    (case y_g4 => k_is)
    (case y_h4 => k_is)
    (case y_j4 => k_is)
    (case y_e4 => k_exc)
    (case y_a5 => k_is)
    (case y_l5 => k_is)
    (case y_k5 => k_is)
    (case y_t5 => k_is)
    (case y_g5 => k_is)
    (case y_h5 => k_is)
    (case y_j5 => k_is)
    (case y_e5 => k_exc)
    (case y_a6 => k_is)
    (case y_l6 => k_is)
    (case y_k6 => k_is)
    (case y_t6 => k_is)
    (case y_g6 => k_is)
    (case y_h6 => k_is)
    (case y_j6 => k_is)
    (case y_e6 => k_exc)
    (case y_a7 => k_is)
    (case y_l7 => k_is)
    (case y_k7 => k_is)
    (case y_t7 => k_is)
    (case y_g7 => k_is)
    (case y_h7 => k_is)
    (case y_j7 => k_is)
    (case y_e7 => k_exc)
    (case y_a8 => k_is)
    (case y_l8 => k_is)
    (case y_k8 => k_is)
    (case y_t8 => k_is)
    (case y_g8 => k_is)
    (case y_h8 => k_is)
    (case y_j8 => k_is)
    (case y_e8 => k_exc)
    (case y_a9 => k_is)
    (case y_l9 => k_is)
    (case y_k9 => k_is)
    (case y_t9 => k_is)
    (case y_g9 => k_is)
    (case y_h9 => k_is)
    (case y_j9 => k_is)
    (case y_e9 => k_exc)
    (case y_a10 => k_is)
    (case y_l10 => k_is)
    (case y_k10 => k_is)
    (case y_t10 => k_is)
    (case y_g10 => k_is)
    (case y_h10 => k_is)
    (case y_j10 => k_is)
    (case y_e10 => k_exc)
    (case y_a11 => k_is)
    (case y_l11 => k_is)
    (case y_k11 => k_is)
    (case y_t11 => k_is)
    (case y_g11 => k_is)
    (case y_h11 => k_is)
    (case y_j11 => k_is)
    (case y_e11 => k_exc)
    (case y_a12 => k_is)
    (case y_l12 => k_is)
    (case y_k12 => k_is)
    (case y_t12 => k_is)
    (case y_g12 => k_is)
    (case y_h12 => k_is)
    (case y_j12 => k_is)
    (case y_s12 => k_is)
    (case y_a13 => k_is)
    (case y_l13 => k_is)
    (case y_k13 => k_is)
    (case y_t13 => k_is)
    (case y_g13 => k_is)
    (case y_h13 => k_is)
    (case y_j13 => k_is)
    (case y_s13 => k_is)
    (case y_a14 => k_is)
    (case y_l14 => k_is)
    (case y_k14 => k_is)
    (case y_t14 => k_is)
    (case y_g14 => k_is)
    (case y_h14 => k_is)
    (case y_j14 => k_is)
    (case y_s14 => k_is)
    (case y_a15 => k_is)
    (case y_l15 => k_is)
    (case y_k15 => k_is)
    (case y_t15 => k_is)
    (case y_g15 => k_is)
    (case y_h15 => k_is)
    (case y_j15 => k_is)
    (case y_s15 => k_is)
    (case y_zn => k_is)
    (case y_zt => k_is)
    (case y_zd => decide)
    (case y_iC12 => k_is)
    (case y_iT12 => k_is)
    (case y_iL12 => k_is)
    (case y_iD12 => k_is)
    (case y_iK12 => k_is)
    (case y_n12pane => k_is)
    (case y_iC13 => k_is)
    (case y_iT13 => k_is)
    (case y_iL13 => k_is)
    (case y_iD13 => k_is)
    (case y_iK13 => k_is)
    (case y_n13place => k_is)
    (case y_iC14 => k_is)
    (case y_iT14 => k_is)
    (case y_iL14 => k_is)
    (case y_iD14 => k_is)
    (case y_iK14 => k_is)
    (case y_n14x => k_is)
    (case y_n14y => k_is)
    (case y_iC15 => k_is)
    (case y_iT15 => k_is)
    (case y_iL15 => k_is)
    (case y_iD15 => k_is)
    (case y_iK15 => k_is)
    (case y_n15place => k_is)
    (case y_dA20 => k_is)
    (case y_dL20 => k_is)
    (case y_dC20 => k_is)
    (case y_dK20 => k_is)
    (case y_dA21 => k_is)
    (case y_dL21 => k_is)
    (case y_dC21 => k_is)
    (case y_dK21 => k_is)
    (case y_dA22 => k_is)
    (case y_dL22 => k_is)
    (case y_dC22 => k_is)
    (case y_dK22 => k_is)
    (case y_dA23 => k_is)
    (case y_dL23 => k_is)
    (case y_dC23 => k_is)
    (case y_dK23 => k_is)
    (case y_dA24 => k_is)
    (case y_dL24 => k_is)
    (case y_dC24 => k_is)
    (case y_dK24 => k_is)
    (case y_dA25 => k_is)
    (case y_dL25 => k_is)
    (case y_dC25 => k_is)
    (case y_dK25 => k_is)
    (case y_z_isinstance => k_is)
    (case y_z_list => k_is)
    (case y_z_tuple => k_is)
    (case y_z_len => k_is)
    (case y_z_all => k_is)
    (case y_z_range => k_is)
    (case y_z_bool => k_is)
    (case y_z_int => k_is)
    (case y_z_str => k_is)
    (case y_z_abs => k_is)
    (case y_z_ValueError => k_is)
