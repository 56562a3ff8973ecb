import PyProof.Rows.All
import Wide.All
import OpenK.AllK
import Wide.FinOn
import HandS.ForMost
import HandS.Evl
import HandS.Walk
import HandS.WideBits
import HandS.SortRule
import HandS.Head0
import HandS.Head1
import HandS.Head2
import HandS.Head3
import HandS.HeadHook1
import HandS.HeadHook2
import HandS.HeadHook3
import HandS.HeadHook4
import HandS.Defaults
import HandS.NamedTupSort
import HandS.Style
import HandS.Flow
import HandS.Small
import HandS.AnyAll
import HandS.Zip
import HandS.More
import HandS.IsInst
import HandS.TryOnly
import HandS.Conv
import HandS.SortInts
import PyProof.ReprRoads
import HandS.EndTab
import HandS.TupSets
import KE.DataMinMax
import HandS.SortKw
import HandS.List
import KE.GoesEnumKw
import HandS.Iter
import PyProof.DelItemList
import HandS.Base
import HandS.Call
import KE.KMathG
import HandS.Gcd
import PyProof.SumAny
import PyProof.ListNew
import HandS.MapObj
import PyProof.Rows.SumGenD
import KE.KIsAll
import KE.KTryMore
import HandS.Exc
import HandS.ExcOwn
import HandS.ExcValue
import HandS.ExcInit
import HandS.ExcIs
import HandS.ExcField
import HandS.MakeKw
import HandS.DictSubView
import KE.KDictWalk
import HandS.DictTup
import HandS.SetFor
import HandS.Strs
import PySem.Challenge.RW_paneplans_k03_panes_that_touch
set_option Elab.async false
set_option linter.all false
set_option maxRecDepth 100000
set_option maxHeartbeats 4000000
/-! # what evaluates to a value of which a relation holds; comprehensions whose items are new objects -/
namespace Rel
open PySem L2 Evl
/-- te gives some v of which R holds; where v is an object, it is a new one, or one that H knows -/
def EvN (te : TE) (σ : L2.St) (H : Hp) (R : V → Hp → Prop) : Prop := ∀ H1, Ex H H1 → ∀ Q : VK, (∀ v H2, Ex H1 H2 → (∀ p, v = .ref p → H1 p = none ∨ H p ≠ none) → R v H2 → Q v H2) → te σ H1 Q
/-- R speaks of the object v alone -/
abbrev Mono {α : Type} (R : α → V → Hp → Prop) : Prop := ∀ z v H H' (D : Addr), v ≠ .ref D → (∀ a o, a ≠ D → H a = some o → H' a = some o) → R z v H → R z v H'
section
variable {K : PySem.W.Frag} {σ : L2.St} {H H' : Hp} {te tb tl : TE} {ta : TA} {t : TT} {v : V}
theorem en_val {R : V → Hp → Prop} (h : Ev te σ H v) (hv : ∀ p, v = .ref p → H p ≠ none) (hr : ∀ H1, Ex H H1 → R v H1) : EvN te σ H R := fun H1 e Q q => h H1 e Q fun H2 e2 => q v H2 e2 (fun p hp => .inr (hv p hp)) (hr H2 (e.trans e2))
theorem en_tup {vs : List V} (h : EvA ta σ H vs) (hl : vs.length ≤ 100000) : EvN (tTup ta) σ H (fun v H1 => ∃ p, v = .ref p ∧ H1 p = some (.tup vs)) := fun H1 e Q q =>
  eu_tup h hl H1 e Q fun p H2 np e2 h2 => q _ H2 e2 (fun p' hp => .inl (by cases hp; exact np)) ⟨p, rfl, h2⟩
theorem en_lst {xs : List V} (h : EvL te σ H xs) : EvN te σ H (fun v H1 => ∃ p, v = .ref p ∧ H1 p = some (.lst xs)) := fun H1 e Q q =>
  h H1 e Q fun p H2 np e2 h2 => q _ H2 e2 (fun p' hp => .inl (by cases hp; exact np)) ⟨p, rfl, h2⟩
theorem en_tupU {xs : List V} (h : EvU te σ H xs) : EvN te σ H (fun v H1 => ∃ p, v = .ref p ∧ H1 p = some (.tup xs)) := fun H1 e Q q =>
  h H1 e Q fun p H2 np e2 h2 => q _ H2 e2 (fun p' hp => .inl (by cases hp; exact np)) ⟨p, rfl, h2⟩
theorem mono_val {α : Type} (g : α → V) : Mono fun (z : α) v (_ : Hp) => v = g z := fun _ _ _ _ _ _ _ h => h
theorem mono_obj {α : Type} (g : α → HO) : Mono fun (z : α) v (H : Hp) => ∃ p, v = .ref p ∧ H p = some (g z) := fun z v H H' D n k ⟨p, h1, h2⟩ => ⟨p, h1, k p _ (fun e => n (by rw [h1, e])) h2⟩
theorem pr_mono {α : Type} {R : α → V → Hp → Prop} (m : Mono R) {D : Addr} (k : ∀ a o, a ≠ D → H a = some o → H' a = some o) : ∀ {ys : List V} {zs : List α}, (∀ y ∈ ys, y ≠ .ref D) → Paired (fun y z => R z y H) ys zs → Paired (fun y z => R z y H') ys zs
  | _, _, _, .nil => .nil
  | _, _, n, .cons h t => .cons (m _ _ _ _ _ (n _ List.mem_cons_self) k h) (pr_mono m k (fun y hy => n y (List.mem_cons_of_mem _ hy)) t)
theorem pr_app {α β : Type} {R : α → β → Prop} : ∀ {xs ys : List α} {us ws : List β}, Paired R xs us → Paired R ys ws → Paired R (xs ++ ys) (us ++ ws)
  | _, _, _, _, .nil, h => h
  | _, _, _, _, .cons h t, k => .cons h (pr_app t k)
theorem pr_len {α β : Type} {R : α → β → Prop} : ∀ {xs : List α} {us : List β}, Paired R xs us → xs.length = us.length
  | _, _, .nil => rfl
  | _, _, .cons _ t => congrArg Nat.succ (pr_len t)
theorem pr_val {α : Type} {g : α → V} {H : Hp} : ∀ {ys : List V} {zs : List α}, Paired (fun y z => (fun (z : α) v (_ : Hp) => v = g z) z y H) ys zs → ys = zs.map g
  | _, _, .nil => rfl
  | _, _, .cons h t => by
    have e := pr_val (H := H) t
    have e2 := h
    dsimp only at e2
    rw [List.map_cons, e, e2]
/-- a comprehension over what walks through zs -/
theorem lc_rel {α : Type} {J : It} {zs : List α} {n : Nat} {G : Hp → Prop} {Y : Nat → Hp → V → Hp → Prop} (w : Walk J n G Y) (hn : n = zs.length) (hG : ∀ H1, Ex H H1 → G H1) (f : α → Bool) (R : α → V → Hp → Prop) (m : Mono R) (hz : zs.length ≤ 40000) {g : TG} {vs : List Nat}
    (step : ∀ i z x H1 H2, zs[i]? = some z → Ex H H1 → Y i H1 x H2 → Ex H1 H2 ∧ ∀ Q' : L2.St → Hp → Prop, (∀ σ2, wipe σ2 vs = wipe σ vs → EvT t σ2 H (f z) → (f z = true → EvN te σ2 H (R z)) → Q' σ2 H2) → g x (wipe σ vs) H2 Q')
    {D : Addr} (nD : H D = none) {Qd : Hp → Prop} (q : ∀ ys H', Ex H H' → H' D = some (.lst ys) → Paired (fun y z => R z y H') ys (zs.filter f) → Qd H') :
    ∃ W : Nat → Nat → Hp → Prop, (∃ m, W 0 m (upd H D (.lst []))) ∧ ∀ i m H, W i m H →
      (J.stop i H ∧ Qd H) ∨ (J.go i H ∧ ∃ Nx : Hp → Prop, (∀ H', Nx H' → ∃ m', m' < m ∧ W (i + 1) m' H') ∧ ∀ x H', J.yld i H x H' → g x (wipe σ vs) H' fun σ2 H2 => wipe σ2 vs = wipe σ vs ∧ t σ2 H2 fun b H3 =>
        if b = true then te σ2 H3 fun y H4 => ∃ acc, H4 D = some (.lst acc) ∧ acc.length < sizeLine ∧ Nx (upd H4 D (.lst (acc ++ [y]))) else Nx H3) := by
  subst hn
  refine lc_it w (fun i H1 => Ex H H1 ∧ ∃ ys, H1 D = some (.lst ys) ∧ (∀ y ∈ ys, y ≠ .ref D) ∧ Paired (fun y z => R z y H1) ys ((zs.take i).filter f)) ⟨Ex.new nD, [], upd_same, by simp, .nil⟩ (fun i H1 _ p => hG H1 p.1) ?_ ?_
  · rintro i x H1 H2 hi ⟨e1, ys, hD, hnd, hp⟩ hy
    have hzi : zs[i]? = some zs[i] := List.getElem?_eq_getElem hi
    obtain ⟨e2, st⟩ := step i zs[i] x H1 H2 hzi e1 hy
    have tk : zs.take (i + 1) = zs.take i ++ [zs[i]] := by
      rw [List.take_add_one, hzi]
      rfl
    have yl : ys.length ≤ i := by
      rw [pr_len hp]
      exact Nat.le_trans (List.length_filter_le _ _) (by rw [List.length_take]; omega)
    refine st _ fun σ2 hw ht he => ⟨hw, ht H2 (e1.trans e2) _ fun H3 e3 => ?_⟩
    have e03 := (e1.trans e2).trans e3
    have D3 : H3 D = some (.lst ys) := e3 _ _ (e2 _ _ hD)
    cases hf : f zs[i] with
    | true =>
      show te σ2 H3 _
      refine he hf H3 e03 _ fun y H4 e4 hv hr => ?_
      have yD : y ≠ .ref D := fun z => by
        rcases hv D z with h | h
        · rw [D3] at h
          cases h
        · exact h nD
      refine ⟨ys, e4 _ _ D3, Nat.lt_of_lt_of_le (show ys.length < 100000 by omega) (by decide), (e03.trans e4).mut nD, ys ++ [y], upd_same, ?_, ?_⟩
      · intro u hu
        rcases List.mem_append.mp hu with hu | hu
        · exact hnd u hu
        · rw [List.mem_singleton.mp hu]
          exact yD
      · have keep : ∀ {H5 : Hp}, Ex H5 H4 → ∀ a o, a ≠ D → H5 a = some o → upd H4 D (.lst (ys ++ [y])) a = some o := fun e a o n h => by
          rw [upd_ne n]
          exact e a o h
        rw [tk, List.filter_append, List.filter_cons, if_pos hf, List.filter_nil]
        exact pr_app (pr_mono m (keep ((e2.trans e3).trans e4)) hnd hp) (.cons (m _ _ _ _ D yD (keep (Ex.refl H4)) hr) .nil)
    | false =>
      show Ex H H3 ∧ _
      refine ⟨e03, ys, D3, hnd, ?_⟩
      rw [tk, List.filter_append, List.filter_cons, if_neg (by rw [hf]; decide), List.filter_nil, List.append_nil]
      exact pr_mono m (D := D) (fun a o _ h => (e2.trans e3) a o h) hnd hp
  · rintro H1 ⟨e1, ys, hD, hnd, hp⟩
    rw [List.take_length] at hp
    exact q ys H1 e1 hD hp
/-- .. over a list whose items are val of zs -/
theorem er_lcL {α : Type} {zs : List α} {val : α → V} {a : Addr} {j : Nat} {vs : List Nat} (f : α → Bool) (R : α → V → Hp → Prop) (m : Mono R) (h : Ev tl σ H (.ref a)) (hx : SqL K H a (zs.map val)) (hz : zs.length ≤ 40000) (hw : ∀ x, wipe ((wipe σ vs).set j (some x)) vs = wipe σ vs)
    (ht : ∀ z ∈ zs, ∀ H1, Ex H H1 → EvT t ((wipe σ vs).set j (some (val z))) H1 (f z)) (he : ∀ z ∈ zs, ∀ H1, Ex H H1 → f z = true → EvN te ((wipe σ vs).set j (some (val z))) H1 (R z)) :
    ∀ H1, Ex H H1 → ∀ Q : VK, (∀ p ys H2, H1 p = none → Ex H1 H2 → H2 p = some (.lst ys) → Paired (fun y z => R z y H2) ys (zs.filter f) → Q (.ref p) H2) → tLc (iList K tl) (gName j) t te vs σ H1 Q := fun H0 e Q q => by
  refine h H0 e _ fun H1 e1 => ⟨a, rfl, ⟨_, ex_l (e.trans e1) hx⟩, fun D nD => ?_⟩
  refine lc_rel (H := H1) (walk_list (K := K) (a := a) (xs := zs.map val)) (List.length_map _) (fun H2 e2 => ex_l ((e.trans e1).trans e2) hx) f R m hz (fun i z x H2 H3 hz hH hy => ?_) nD fun ys H' e2 hD hp => q D ys H' (fresh_back e1 nD) (e1.trans e2) hD hp
  obtain ⟨rfl, hy⟩ := hy
  rw [List.getElem?_map, hz] at hy
  have ex : x = val z := (Option.some.inj hy).symm
  have hm := List.mem_of_getElem? hz
  subst ex
  exact ⟨Ex.refl _, fun Q' k => k _ (hw _) (ht z hm H1 (e.trans e1)) fun hf => he z hm H1 (e.trans e1) hf⟩
/-- .. over enumerate(a list): the places in slot j, the items in slot l -/
theorem er_lcE {α : Type} {zs : List α} {val : α → V} {a : Addr} {j l : Nat} {vs : List Nat} (f : Nat × α → Bool) (R : Nat × α → V → Hp → Prop) (m : Mono R) (h : Ev tl σ H (.ref a)) (hx : SqL K H a (zs.map val)) (hz : zs.length ≤ 40000)
    (hw : ∀ x y, wipe (((wipe σ vs).set j (some x)).set l (some y)) vs = wipe σ vs)
    (ht : ∀ i z, zs[i]? = some z → ∀ H1, Ex H H1 → EvT t (((wipe σ vs).set j (some (.int (i : Nat)))).set l (some (val z))) H1 (f (i, z))) (he : ∀ i z, zs[i]? = some z → ∀ H1, Ex H H1 → f (i, z) = true → EvN te (((wipe σ vs).set j (some (.int (i : Nat)))).set l (some (val z))) H1 (R (i, z))) :
    ∀ H1, Ex H H1 → ∀ Q : VK, (∀ p ys H2, H1 p = none → Ex H1 H2 → H2 p = some (.lst ys) → Paired (fun y z => R z y H2) ys ((zs.zipIdx.map fun p => (p.2, p.1)).filter f) → Q (.ref p) H2) →
      tLc (iEnum K (tCons tl tNil)) (gTup K 2 (gCons (gName j) (gCons (gName l) gNil))) t te vs σ H1 Q := fun H0 e Q q => by
  refine h H0 e _ fun H1 e1 => ⟨a, _, rfl, ex_l (e.trans e1) hx, fun D nD => ?_⟩
  refine lc_rel (H := H1) (zs := zs.zipIdx.map fun p => (p.2, p.1)) (walk_enum (K := K) (a := a) (xs := zs.map val)) (by simp) (fun H2 e2 => ex_l ((e.trans e1).trans e2) hx) f R m (by simpa using hz) (fun i z x H2 H3 hzi hH hy => ?_) nD fun ys H' e2 hD hp => q D ys H' (fresh_back e1 nD) (e1.trans e2) hD hp
  obtain ⟨T, x1, x2, rfl, nT, rfl, h1, h2⟩ := hy
  have hzi' : zs[i]? = some z.2 ∧ z.1 = i := by
    rw [List.getElem?_map, List.getElem?_zipIdx] at hzi
    cases hq : zs[i]? with
    | none =>
      rw [hq] at hzi
      simp at hzi
    | some u =>
      rw [hq] at hzi
      simp at hzi
      rw [← hzi]
      exact ⟨rfl, rfl⟩
  obtain ⟨hz2, hz1⟩ := hzi'
  obtain ⟨z1, z2⟩ := z
  dsimp only at hz2 hz1
  subst hz1
  have ex1 : x1 = .int (z1 : Nat) := (Option.some.inj h1).symm
  have ex2 : x2 = val z2 := by
    have h2' : (zs.map val)[z1]? = some x2 := h2
    rw [List.getElem?_map, hz2] at h2'
    exact (Option.some.inj h2').symm
  subst ex1 ex2
  refine ⟨Ex.new nT, fun Q' k => ?_⟩
  exact ⟨T, [_, _], rfl, .inl (.inl upd_same), rfl, _, _, rfl, _, _, rfl, rfl, k _ (hw _ _) (ht z1 z2 hz2 H1 (e.trans e1)) fun hf => he z1 z2 hz2 H1 (e.trans e1) hf⟩
/-- .. where the items made are values: a list of them -/
theorem el_lcV {α : Type} {zs : List α} {val g : α → V} {a : Addr} {j : Nat} {vs : List Nat} (f : α → Bool) (h : Ev tl σ H (.ref a)) (hx : SqL K H a (zs.map val)) (hz : zs.length ≤ 40000) (hw : ∀ x, wipe ((wipe σ vs).set j (some x)) vs = wipe σ vs)
    (ht : ∀ z ∈ zs, ∀ H1, Ex H H1 → EvT t ((wipe σ vs).set j (some (val z))) H1 (f z)) (he : ∀ z ∈ zs, ∀ H1, Ex H H1 → f z = true → Ev te ((wipe σ vs).set j (some (val z))) H1 (g z)) (hg : ∀ z ∈ zs, ∀ p, g z = .ref p → H p ≠ none) :
    EvL (tLc (iList K tl) (gName j) t te vs) σ H ((zs.filter f).map g) := fun H1 e Q q =>
  er_lcL f (fun z v _ => v = g z) (mono_val g) h hx hz hw ht (fun z hm H2 e2 hf => en_val (he z hm H2 e2 hf) (fun p hp n => by
      have o := hg z hm p hp
      cases ho : H p with
      | none => exact o ho
      | some u =>
        rw [e2 _ _ ho] at n
        cases n) fun _ _ => rfl) H1 e Q fun p ys H2 np e2 hp hr => q p H2 np e2 (by rw [hp, pr_val (H := H2) hr])
/-- max of a new list of numbers -/
theorem ev_maxN {ns : List Int} (h : EvL te σ H (ns.map V.int)) (hn : 0 < ns.length) : ∀ H1, Ex H H1 → ∀ Q : VK, (∀ m H2, Ex H1 H2 → m ∈ ns → (∀ y ∈ ns, y ≤ m) → Q (.int m) H2) → tCB (rMax K) (tCons te tNil) σ H1 Q := fun H1 e Q q =>
  h H1 e _ fun p H2 _ e2 hp => ⟨p, ns, rfl, SqL.of hp, hn, fun m h1 h2 => q m H2 e2 h1 h2⟩
theorem q_maxN {ns : List Int} {i : Nat} {D : Ends} {tz : TS} (h : EvL te σ H (ns.map V.int)) (hn : 0 < ns.length) (k : ∀ m H1, Ex H H1 → m ∈ ns → (∀ y ∈ ns, y ≤ m) → tz D (σ.set i (some (.int m))) H1) : tSeq (tAsg (tCB (rMax K) (tCons te tNil)) (gName i)) tz D σ H :=
  ev_maxN h hn H (Ex.refl H) _ fun m H1 e h1 h2 => k m H1 e h1 h2
end
end Rel
/-! # layouts that grow at a corner: what holds of them, whatever their places are moved to -/
set_option linter.all false
namespace Geo
structure Pn where
  x0 : Int
  y0 : Int
  x1 : Int
  y1 : Int
deriving DecidableEq, Repr
def Pn.swap (p : Pn) : Pn := ⟨p.y0, p.x0, p.y1, p.x1⟩
def Pn.img (X Y : Int → Int) (p : Pn) : Pn := ⟨X p.x0, Y p.y0, X p.x1, Y p.y1⟩
def Pn.area (p : Pn) : Int := (p.x1 - p.x0) * (p.y1 - p.y0)
def Pn.ok (p : Pn) : Prop := p.x0 < p.x1 ∧ p.y0 < p.y1
/-- two panes lie over one another -/
def Ov (p q : Pn) : Prop := p.x0 < q.x1 ∧ q.x0 < p.x1 ∧ p.y0 < q.y1 ∧ q.y0 < p.y1
/-- (x, y) is a corner of p -/
def Cor (x y : Int) (p : Pn) : Bool := (decide (x = p.x0) || decide (x = p.x1)) && (decide (y = p.y0) || decide (y = p.y1))
def areas (ps : List Pn) : Int := (ps.map Pn.area).sum

/-- a row of panes, each of which begins where the one ahead ends, from a to b -/
inductive ChX : Int → List Pn → Int → Prop where
  | nil {a : Int} : ChX a [] a
  | cons {p : Pn} {r : List Pn} {b : Int} : ChX p.x1 r b → ChX p.x0 (p :: r) b

theorem ChX.cast {a a' b b' : Int} {r : List Pn} (h : ChX a r b) (e1 : a = a') (e2 : b = b') : ChX a' r b' := by
  subst e1 e2
  exact h
theorem ChX.app {a b c : Int} : ∀ {r s : List Pn}, ChX a r b → ChX b s c → ChX a (r ++ s) c
  | [], _, .nil, h => h
  | _ :: _, _, .cons h, k => .cons (h.app k)
theorem ChX.cut {a c : Int} : ∀ {r s : List Pn}, ChX a (r ++ s) c → ∃ b, ChX a r b ∧ ChX b s c
  | [], _, h => ⟨a, .nil, h⟩
  | p :: r, s, .cons h => by
    obtain ⟨b, h1, h2⟩ := h.cut
    exact ⟨b, .cons h1, h2⟩
theorem ChX.head {a b : Int} {p : Pn} {r : List Pn} (h : ChX a (p :: r) b) : p.x0 = a := by
  cases h
  rfl
theorem ChX.inv {a b : Int} {p : Pn} {r : List Pn} (h : ChX a (p :: r) b) : p.x0 = a ∧ ChX p.x1 r b := by
  cases h with
  | cons h => exact ⟨rfl, h⟩
theorem ChX.inv0 {a b : Int} (h : ChX a [] b) : a = b := by
  cases h
  rfl
theorem ChX.sum (X : Int → Int) {a b : Int} : ∀ {r : List Pn}, ChX a r b → (r.map fun p => X p.x1 - X p.x0).sum = X b - X a
  | [], .nil => by simp
  | p :: r, .cons h => by
    rw [List.map_cons, List.sum_cons, h.sum]
    omega
/-- the ends go up, if each pane of the row has a width -/
theorem ChX.le (X : Int → Int) {a b : Int} : ∀ {r : List Pn}, ChX a r b → (∀ p ∈ r, X p.x0 < X p.x1) → X a ≤ X b
  | [], .nil, _ => Int.le_refl _
  | p :: r, .cons h, v => by
    have h1 := v p List.mem_cons_self
    have h2 := h.le X fun q hq => v q (List.mem_cons_of_mem _ hq)
    omega
theorem ChX.mem (X : Int → Int) {a b : Int} : ∀ {r : List Pn}, ChX a r b → (∀ p ∈ r, X p.x0 < X p.x1) → ∀ p ∈ r, X a ≤ X p.x0 ∧ X p.x1 ≤ X b
  | [], .nil, _, p, hp => by simp at hp
  | q :: r, .cons h, v, p, hp => by
    have v2 : ∀ p ∈ r, X p.x0 < X p.x1 := fun z hz => v z (List.mem_cons_of_mem _ hz)
    have h1 := v q List.mem_cons_self
    rcases List.mem_cons.mp hp with rfl | hp
    · exact ⟨Int.le_refl _, h.le X v2⟩
    · have z := h.mem X v2 p hp
      omega
/-- each place of the row lies in one of its panes -/
theorem ChX.cover (X : Int → Int) {a b : Int} : ∀ {r : List Pn}, ChX a r b → ∀ t, X a ≤ t → t < X b → ∃ p ∈ r, X p.x0 ≤ t ∧ t < X p.x1
  | [], .nil, t, h1, h2 => by omega
  | p :: r, .cons h, t, h1, h2 => by
    by_cases c : t < X p.x1
    · exact ⟨p, List.mem_cons_self, h1, c⟩
    · obtain ⟨q, hq, z⟩ := h.cover X t (by omega) h2
      exact ⟨q, List.mem_cons_of_mem _ hq, z⟩
/-- how often a place is an end of a pane in the row: once at its ends, twice at most within -/
def ends (x : Int) (r : List Pn) : Nat := r.countP fun p => decide (x = p.x0) || decide (x = p.x1)
theorem ChX.out {a b x : Int} : ∀ {r : List Pn}, ChX a r b → (∀ p ∈ r, p.x0 < p.x1) → x < a → ends x r = 0
  | [], .nil, _, _ => rfl
  | p :: r, .cons h, v, hx => by
    have h1 := v p List.mem_cons_self
    have h2 := h.out (x := x) (fun q hq => v q (List.mem_cons_of_mem _ hq)) (by omega)
    unfold ends at h2 ⊢
    rw [List.countP_cons, h2]
    have e1 : ¬ x = p.x0 := by omega
    have e2 : ¬ x = p.x1 := by omega
    simp [e1, e2]
theorem ChX.first {a b : Int} {r : List Pn} (h : ChX a r b) (v : ∀ p ∈ r, p.x0 < p.x1) : ends a r ≤ 1 := by
  cases h with
  | nil => exact Nat.zero_le _
  | @cons p r b h =>
    have h1 := v p List.mem_cons_self
    have h2 := h.out (x := p.x0) (fun q hq => v q (List.mem_cons_of_mem _ hq)) h1
    unfold ends at h2 ⊢
    rw [List.countP_cons, h2]
    split <;> omega
theorem ChX.two {a b : Int} (x : Int) : ∀ {r : List Pn}, ChX a r b → (∀ p ∈ r, p.x0 < p.x1) → ends x r ≤ 2
  | [], .nil, _ => Nat.zero_le _
  | p :: r, .cons h, v => by
    have v2 : ∀ p ∈ r, p.x0 < p.x1 := fun q hq => v q (List.mem_cons_of_mem _ hq)
    have h1 := v p List.mem_cons_self
    have h2 := h.two x v2
    unfold ends at h2 ⊢
    rw [List.countP_cons]
    by_cases c : x = p.x1
    · have h3 := h.first v2
      rw [← c] at h3
      unfold ends at h3
      split <;> omega
    · by_cases d : x = p.x0
      · have h3 := h.out (x := x) v2 (by omega)
        unfold ends at h3
        rw [h3]
        split <;> omega
      · simp [c, d]
        exact h2
/-- beyond the row's end nothing ends, and at it one pane at most -/
theorem ChX.over {a b x : Int} : ∀ {r : List Pn}, ChX a r b → (∀ p ∈ r, p.x0 < p.x1) → b < x → ends x r = 0
  | [], .nil, _, _ => rfl
  | p :: r, .cons h, v, hx => by
    have v2 : ∀ p ∈ r, p.x0 < p.x1 := fun q hq => v q (List.mem_cons_of_mem _ hq)
    have h1 := v p List.mem_cons_self
    have h2 := h.over (x := x) v2 hx
    have h3 := h.le id v2
    simp only [id] at h3
    unfold ends at h2 ⊢
    rw [List.countP_cons, h2]
    have e1 : ¬ x = p.x0 := by omega
    have e2 : ¬ x = p.x1 := by omega
    simp [e1, e2]
theorem ChX.last {b : Int} : ∀ {r : List Pn} {a : Int}, ChX a r b → (∀ p ∈ r, p.x0 < p.x1) → ends b r ≤ 1
  | [], a, _, _ => Nat.zero_le _
  | p :: r, a, h, v => by
    obtain ⟨ea, h⟩ := h.inv
    have h1 := v p List.mem_cons_self
    have v2 : ∀ z ∈ r, z.x0 < z.x1 := fun z hz => v z (List.mem_cons_of_mem _ hz)
    cases r with
    | nil =>
      unfold ends
      rw [List.countP_cons, List.countP_nil]
      split <;> omega
    | cons q r =>
      have h2 := h.last v2
      have h4 := v2 q List.mem_cons_self
      obtain ⟨h6, h7⟩ := h.inv
      have h5 := h7.le id fun z hz => v2 z (List.mem_cons_of_mem _ hz)
      simp only [id] at h5
      unfold ends at h2 ⊢
      rw [List.countP_cons]
      have e1 : ¬ b = p.x0 := by omega
      have e2 : ¬ b = p.x1 := by omega
      simp only [e1, e2, decide_false, Bool.or_false, Bool.false_eq_true, if_false]
      exact h2
end Geo
set_option linter.all false
namespace Geo
theorem ChX.mapx {f : Pn → Pn} (hf : ∀ p, (f p).x0 = p.x0 ∧ (f p).x1 = p.x1) {b : Int} : ∀ {r : List Pn} {a : Int}, ChX a r b → ChX a (r.map f) b
  | [], _, h => h
  | p :: r, a, h => by
    obtain ⟨e, h⟩ := h.inv
    have z : ChX (f p).x1 (r.map f) b := (h.mapx hf).cast (hf p).2.symm rfl
    exact (ChX.cons z).cast ((hf p).1.trans e) rfl
theorem ChX.tail {b : Int} : ∀ {r : List Pn} {a : Int}, ChX a r b → a = b ∨ ∃ q ∈ r, q.x1 = b
  | [], _, h => .inl h.inv0
  | p :: r, a, h => by
    obtain ⟨e, h⟩ := h.inv
    rcases h.tail with z | ⟨q, hq, z⟩
    · exact .inr ⟨p, List.mem_cons_self, z⟩
    · exact .inr ⟨q, List.mem_cons_of_mem _ hq, z⟩
theorem Ov.symm {p q : Pn} (h : Ov p q) : Ov q p := ⟨h.2.1, h.1, h.2.2.2, h.2.2.1⟩
theorem pw_mem {α : Type} {R : α → α → Prop} (hs : ∀ a b, R a b → R b a) : ∀ {l : List α}, l.Pairwise R → ∀ a ∈ l, ∀ b ∈ l, a ≠ b → R a b
  | [], _, a, ha, _, _, _ => by simp at ha
  | c :: l, h, a, ha, b, hb, n => by
    obtain ⟨h1, h2⟩ := List.pairwise_cons.mp h
    rcases List.mem_cons.mp ha with ea | ha1
    · rcases List.mem_cons.mp hb with eb | hb1
      · exact absurd (ea.trans eb.symm) n
      · rw [ea]
        exact h1 b hb1
    · rcases List.mem_cons.mp hb with eb | hb1
      · rw [eb]
        exact hs _ _ (h1 a ha1)
      · exact pw_mem hs h2 a ha1 b hb1 n
/-- a layout that grows, W wide and H high: all that is asked of it, at any places X, Y of its sides -/
structure Gr (ps : List Pn) (W H : Int) : Prop where
  w : 0 < W
  h : 0 < H
  pos : ∀ p ∈ ps, 0 ≤ p.x0 ∧ p.x0 < p.x1 ∧ p.x1 ≤ W ∧ 0 ≤ p.y0 ∧ p.y0 < p.y1 ∧ p.y1 ≤ H
  bot : ∃ B : List Pn, B.Perm (ps.filter fun p => decide (p.y1 = H)) ∧ ChX 0 B W
  rig : ∃ R : List Pn, R.Perm (ps.filter fun p => decide (p.x1 = W)) ∧ ChX 0 (R.map Pn.swap) H
  cnt : ∀ x y, ps.countP (Cor x y) ≤ 2
  area : ∀ X Y : Int → Int, (ps.map fun p => (p.img X Y).area).sum = (X W - X 0) * (Y H - Y 0)
  sep : ∀ X Y : Int → Int, (∀ p ∈ ps, (p.img X Y).ok) → ps.Pairwise (fun p q => ¬ Ov (p.img X Y) (q.img X Y)) ∧
    ∀ p ∈ ps, X 0 ≤ X p.x0 ∧ X p.x1 ≤ X W ∧ Y 0 ≤ Y p.y0 ∧ Y p.y1 ≤ Y H
  cx : ∀ p ∈ ps, p.x0 = 0 ∨ ∃ q ∈ ps, q.x1 = p.x0
  cy : ∀ p ∈ ps, p.y0 = 0 ∨ ∃ q ∈ ps, q.y1 = p.y0

theorem swap_swap (p : Pn) : p.swap.swap = p := rfl
theorem map_swap2 (ps : List Pn) : (ps.map Pn.swap).map Pn.swap = ps := by
  rw [List.map_map]
  exact List.map_id' ps
theorem cor_swap (x y : Int) (p : Pn) : Cor x y p.swap = Cor y x p := by
  show ((decide (x = p.y0) || decide (x = p.y1)) && (decide (y = p.x0) || decide (y = p.x1))) = ((decide (y = p.x0) || decide (y = p.x1)) && (decide (x = p.y0) || decide (x = p.y1)))
  exact Bool.and_comm _ _
theorem ov_swap {p q : Pn} (h : Ov p.swap q.swap) : Ov p q := ⟨h.2.2.1, h.2.2.2, h.1, h.2.1⟩
theorem area_swap (p : Pn) : p.swap.area = p.area := Int.mul_comm _ _
theorem Gr.swap {ps : List Pn} {W H : Int} (g : Gr ps W H) : Gr (ps.map Pn.swap) H W where
  w := g.h
  h := g.w
  pos := fun p hp => by
    obtain ⟨q, hq, rfl⟩ := List.mem_map.mp hp
    obtain ⟨a, b, c, d, e, f⟩ := g.pos q hq
    exact ⟨d, e, f, a, b, c⟩
  bot := by
    obtain ⟨R, h1, h2⟩ := g.rig
    refine ⟨R.map Pn.swap, ?_, h2⟩
    rw [List.filter_map]
    exact h1.map _
  rig := by
    obtain ⟨B, h1, h2⟩ := g.bot
    refine ⟨B.map Pn.swap, ?_, ?_⟩
    · rw [List.filter_map]
      exact h1.map _
    · rw [map_swap2]
      exact h2
  cnt := fun x y => by
    rw [List.countP_map]
    have e : (Cor x y ∘ Pn.swap) = Cor y x := funext fun p => cor_swap x y p
    rw [e]
    exact g.cnt y x
  area := fun X Y => by
    rw [List.map_map]
    have e : ((fun p => (Pn.img X Y p).area) ∘ Pn.swap) = fun p => (Pn.img Y X p).area := funext fun p => Int.mul_comm _ _
    rw [e, g.area Y X]
    exact Int.mul_comm _ _
  sep := fun X Y v => by
    have v2 : ∀ p ∈ ps, (p.img Y X).ok := fun p hp => (v p.swap (List.mem_map_of_mem hp)).symm
    obtain ⟨h1, h2⟩ := g.sep Y X v2
    refine ⟨?_, fun p hp => ?_⟩
    · rw [List.pairwise_map]
      exact h1.imp fun n z => n ⟨z.2.2.1, z.2.2.2, z.1, z.2.1⟩
    · obtain ⟨q, hq, rfl⟩ := List.mem_map.mp hp
      obtain ⟨a, b, c, d⟩ := h2 q hq
      exact ⟨c, d, a, b⟩
  cx := fun p hp => by
    obtain ⟨q, hq, rfl⟩ := List.mem_map.mp hp
    rcases g.cy q hq with z | ⟨r, hr, z⟩
    · exact .inl z
    · exact .inr ⟨r.swap, List.mem_map_of_mem hr, z⟩
  cy := fun p hp => by
    obtain ⟨q, hq, rfl⟩ := List.mem_map.mp hp
    rcases g.cx q hq with z | ⟨r, hr, z⟩
    · exact .inl z
    · exact .inr ⟨r.swap, List.mem_map_of_mem hr, z⟩
theorem gr_one : Gr [⟨0, 0, 1, 1⟩] 1 1 where
  w := by decide
  h := by decide
  pos := fun p hp => by
    obtain rfl := List.mem_singleton.mp hp
    decide
  bot := ⟨[⟨0, 0, 1, 1⟩], by rfl, (ChX.cons (p := ⟨0, 0, 1, 1⟩) .nil)⟩
  rig := ⟨[⟨0, 0, 1, 1⟩], by rfl, (ChX.cons (p := ⟨0, 0, 1, 1⟩) .nil)⟩
  cnt := fun x y => by
    rw [List.countP_cons, List.countP_nil]
    split <;> omega
  area := fun X Y => by simp [Pn.area, Pn.img]
  sep := fun X Y v => by
    refine ⟨List.pairwise_singleton _ _, fun p hp => ?_⟩
    obtain rfl := List.mem_singleton.mp hp
    exact ⟨Int.le_refl _, Int.le_refl _, Int.le_refl _, Int.le_refl _⟩
  cx := fun p hp => by
    obtain rfl := List.mem_singleton.mp hp
    exact .inl rfl
  cy := fun p hp => by
    obtain rfl := List.mem_singleton.mp hp
    exact .inl rfl
end Geo
set_option linter.all false
namespace Geo
/-- drawn out below by one, if it lies at the lower border ahead of k -/
def ext (H k : Int) (p : Pn) : Pn := if p.y1 = H ∧ p.x0 < k then { p with y1 := H + 1 } else p
def push (ps : List Pn) (W H k : Int) : List Pn := ps.map (ext H k) ++ [⟨k, H, W, H + 1⟩]
section
variable {ps B1 B2 : List Pn} {W H k : Int}
theorem ext_x (p : Pn) : (ext H k p).x0 = p.x0 ∧ (ext H k p).x1 = p.x1 ∧ (ext H k p).y0 = p.y0 := by
  unfold ext
  split <;> exact ⟨rfl, rfl, rfl⟩
theorem ext_yes {p : Pn} (h : p.y1 = H ∧ p.x0 < k) : (ext H k p).y1 = H + 1 := by
  unfold ext
  rw [if_pos h]
theorem ext_no {p : Pn} (h : ¬ (p.y1 = H ∧ p.x0 < k)) : ext H k p = p := by
  unfold ext
  rw [if_neg h]
theorem sum_map_add {α : Type} (f g : α → Int) : ∀ l : List α, (l.map fun a => f a + g a).sum = (l.map f).sum + (l.map g).sum
  | [] => rfl
  | a :: l => by
    rw [List.map_cons, List.sum_cons, sum_map_add f g l, List.map_cons, List.sum_cons, List.map_cons, List.sum_cons]
    omega
theorem sum_map_ite {α : Type} (c : α → Bool) (f : α → Int) : ∀ l : List α, (l.map fun a => if c a = true then f a else 0).sum = ((l.filter c).map f).sum
  | [] => rfl
  | a :: l => by
    rw [List.map_cons, List.sum_cons, sum_map_ite c f l, List.filter_cons]
    split
    · rw [List.map_cons, List.sum_cons]
    · omega
theorem sum_map_mul {α : Type} (f : α → Int) (z : Int) : ∀ l : List α, (l.map fun a => f a * z).sum = (l.map f).sum * z
  | [] => by simp
  | a :: l => by
    rw [List.map_cons, List.sum_cons, sum_map_mul f z l, List.map_cons, List.sum_cons, Int.add_mul]
theorem sum_perm {l m : List Int} (h : l.Perm m) : l.sum = m.sum := by
  induction h with
  | nil => rfl
  | cons a _ ih => rw [List.sum_cons, List.sum_cons, ih]
  | swap a b l =>
    rw [List.sum_cons, List.sum_cons, List.sum_cons, List.sum_cons]
    omega
  | trans _ _ h1 h2 => rw [h1, h2]
/-- the lower border in two parts, at k -/
structure Cut (ps B1 B2 : List Pn) (W H k : Int) : Prop where
  p : (B1 ++ B2).Perm (ps.filter fun p => decide (p.y1 = H))
  a : ChX 0 B1 k
  b : ChX k B2 W
  ne : B2 ≠ []
theorem Cut.mem (c : Cut ps B1 B2 W H k) {p : Pn} (h : p ∈ B1 ++ B2) : p ∈ ps ∧ p.y1 = H := by
  have z := c.p.mem_iff.mp h
  rw [List.mem_filter] at z
  exact ⟨z.1, of_decide_eq_true z.2⟩
theorem Cut.v1 (c : Cut ps B1 B2 W H k) (g : Gr ps W H) : ∀ p ∈ B1, p.x0 < p.x1 := fun p hp => (g.pos p (c.mem (List.mem_append_left _ hp)).1).2.1
theorem Cut.v2 (c : Cut ps B1 B2 W H k) (g : Gr ps W H) : ∀ p ∈ B2, p.x0 < p.x1 := fun p hp => (g.pos p (c.mem (List.mem_append_right _ hp)).1).2.1
theorem Cut.lt (c : Cut ps B1 B2 W H k) (g : Gr ps W H) : ∀ p ∈ B1, p.x0 < k := fun p hp => by
  have z := (c.a.mem id (c.v1 g) p hp).2
  have v := c.v1 g p hp
  simp only [id] at z
  omega
theorem Cut.ge (c : Cut ps B1 B2 W H k) (g : Gr ps W H) : ∀ p ∈ B2, k ≤ p.x0 := fun p hp => (c.b.mem id (c.v2 g) p hp).1
theorem Cut.kW (c : Cut ps B1 B2 W H k) (g : Gr ps W H) : k < W := by
  cases hB : B2 with
  | nil => exact absurd hB c.ne
  | cons q r =>
    have hq : q ∈ B2 := by rw [hB]; exact List.mem_cons_self
    have z := c.b.mem id (c.v2 g) q hq
    have v := c.v2 g q hq
    simp only [id] at z
    omega
theorem Cut.k0 (c : Cut ps B1 B2 W H k) (g : Gr ps W H) : 0 ≤ k := c.a.le id (c.v1 g)
theorem Cut.f1 (c : Cut ps B1 B2 W H k) (g : Gr ps W H) : B1.Perm (ps.filter fun p => decide (p.y1 = H ∧ p.x0 < k)) := by
  have z := c.p.filter fun p => decide (p.x0 < k)
  rw [List.filter_append, List.filter_eq_self.mpr (fun p hp => decide_eq_true (c.lt g p hp)), List.filter_eq_nil_iff.mpr (fun p hp => by
    have := c.ge g p hp
    simp only [decide_eq_true_eq]
    omega), List.append_nil, List.filter_filter] at z
  have e : (fun p : Pn => decide (p.x0 < k) && decide (p.y1 = H)) = fun p => decide (p.y1 = H ∧ p.x0 < k) := funext fun p => by
    rw [Bool.and_comm, Bool.decide_and]
  rw [e] at z
  exact z
theorem Cut.f2 (c : Cut ps B1 B2 W H k) (g : Gr ps W H) : B2.Perm (ps.filter fun p => decide (p.y1 = H ∧ ¬ p.x0 < k)) := by
  have z := c.p.filter fun p => decide (¬ p.x0 < k)
  rw [List.filter_append, List.filter_eq_nil_iff.mpr (fun p hp => by
    have := c.lt g p hp
    simp only [decide_eq_true_eq]
    omega), List.filter_eq_self.mpr (fun p hp => decide_eq_true (by have := c.ge g p hp; omega)), List.nil_append, List.filter_filter] at z
  have e : (fun p : Pn => decide (¬ p.x0 < k) && decide (p.y1 = H)) = fun p => decide (p.y1 = H ∧ ¬ p.x0 < k) := funext fun p => by
    rw [Bool.and_comm, Bool.decide_and]
  rw [e] at z
  exact z
theorem ends_perm {x : Int} {l m : List Pn} (h : l.Perm m) : ends x l = ends x m := h.countP_eq _
theorem push_area (g : Gr ps W H) (c : Cut ps B1 B2 W H k) (X Y : Int → Int) : ((push ps W H k).map fun p => (p.img X Y).area).sum = (X W - X 0) * (Y (H + 1) - Y 0) := by
  unfold push
  rw [List.map_append, List.sum_append, List.map_map]
  have e : ((fun p => (Pn.img X Y p).area) ∘ ext H k) = fun p => (p.img X Y).area + (if decide (p.y1 = H ∧ p.x0 < k) = true then (X p.x1 - X p.x0) * (Y (H + 1) - Y H) else 0) := funext fun p => by
    show (Pn.img X Y (ext H k p)).area = _
    by_cases h : p.y1 = H ∧ p.x0 < k
    · rw [if_pos (decide_eq_true h)]
      unfold ext
      rw [if_pos h]
      show (X p.x1 - X p.x0) * (Y (H + 1) - Y p.y0) = (X p.x1 - X p.x0) * (Y p.y1 - Y p.y0) + _
      rw [h.1, ← Int.mul_add]
      congr 1
      omega
    · rw [if_neg (by simpa using h), ext_no h, Int.add_zero]
  rw [e, sum_map_add, g.area X Y, sum_map_ite (fun p : Pn => decide (p.y1 = H ∧ p.x0 < k)) fun p => (X p.x1 - X p.x0) * (Y (H + 1) - Y H), sum_map_mul (fun p : Pn => X p.x1 - X p.x0),
    ← sum_perm ((c.f1 g).map fun p => X p.x1 - X p.x0), c.a.sum X]
  show (X W - X 0) * (Y H - Y 0) + (X k - X 0) * (Y (H + 1) - Y H) + ((X W - X k) * (Y (H + 1) - Y H) + 0) = _
  have e2 : X W - X 0 = (X k - X 0) + (X W - X k) := by omega
  have e3 : Y (H + 1) - Y 0 = (Y H - Y 0) + (Y (H + 1) - Y H) := by omega
  rw [e3, Int.mul_add, Int.add_zero, Int.add_assoc, ← Int.add_mul, ← e2]
theorem push_sep (g : Gr ps W H) (c : Cut ps B1 B2 W H k) (X Y : Int → Int) (v : ∀ p ∈ push ps W H k, (p.img X Y).ok) :
    (push ps W H k).Pairwise (fun p q => ¬ Ov (p.img X Y) (q.img X Y)) ∧ ∀ p ∈ push ps W H k, X 0 ≤ X p.x0 ∧ X p.x1 ≤ X W ∧ Y 0 ≤ Y p.y0 ∧ Y p.y1 ≤ Y (H + 1) := by
  have vn : X k < X W ∧ Y H < Y (H + 1) := v ⟨k, H, W, H + 1⟩ (List.mem_append_right _ List.mem_cons_self)
  have ve : ∀ p ∈ ps, ((ext H k p).img X Y).ok := fun p hp => v _ (List.mem_append_left _ (List.mem_map_of_mem hp))
  -- the old places, the lower border at the new one
  obtain ⟨Z, hZ⟩ : ∃ Z : Int → Int, ∀ t, Z t = if t = H then Y (H + 1) else Y t := ⟨fun t => if t = H then Y (H + 1) else Y t, fun _ => rfl⟩
  have Zne : ∀ t, t ≠ H → Z t = Y t := fun t n => by rw [hZ, if_neg n]
  have ZH : Z H = Y (H + 1) := by rw [hZ, if_pos rfl]
  have zy0 : ∀ p ∈ ps, Z p.y0 = Y p.y0 := fun p hp => Zne _ (by have := g.pos p hp; omega)
  have zy1 : ∀ p ∈ ps, Y (ext H k p).y1 ≤ Z p.y1 := fun p hp => by
    by_cases h : p.y1 = H ∧ p.x0 < k
    · rw [ext_yes h, h.1, ZH]
      exact Int.le_refl _
    · rw [ext_no h]
      by_cases h2 : p.y1 = H
      · rw [h2, ZH]
        omega
      · rw [Zne _ h2]
        exact Int.le_refl _
  have vx : ∀ p ∈ ps, X p.x0 < X p.x1 := fun p hp => by
    have z := (ve p hp).1
    show X p.x0 < X p.x1
    have e := ext_x (H := H) (k := k) p
    have z2 : X (ext H k p).x0 < X (ext H k p).x1 := z
    rw [e.1, e.2.1] at z2
    exact z2
  have vy : ∀ p ∈ ps, Y p.y0 < Y (ext H k p).y1 := fun p hp => by
    have z : Y (ext H k p).y0 < Y (ext H k p).y1 := (ve p hp).2
    rw [(ext_x p).2.2] at z
    exact z
  have vo : ∀ p ∈ ps, (p.img X Z).ok := fun p hp => ⟨vx p hp, by
    show Z p.y0 < Z p.y1
    have h1 := zy0 p hp
    have h2 := zy1 p hp
    have h3 := vy p hp
    omega⟩
  obtain ⟨so, bo⟩ := g.sep X Z vo
  have up : ∀ p ∈ ps, ∀ q ∈ ps, Ov ((ext H k p).img X Y) ((ext H k q).img X Y) → Ov (p.img X Z) (q.img X Z) := fun p hp q hq h => by
    obtain ⟨h1, h2, h3, h4⟩ := h
    have ep := ext_x (H := H) (k := k) p
    have eq := ext_x (H := H) (k := k) q
    have a1 : X (ext H k p).x0 < X (ext H k q).x1 := h1
    have a2 : X (ext H k q).x0 < X (ext H k p).x1 := h2
    have a3 : Y (ext H k p).y0 < Y (ext H k q).y1 := h3
    have a4 : Y (ext H k q).y0 < Y (ext H k p).y1 := h4
    rw [ep.1, eq.2.1] at a1
    rw [eq.1, ep.2.1] at a2
    rw [ep.2.2] at a3
    rw [eq.2.2] at a4
    have b1 := zy1 p hp
    have b2 := zy1 q hq
    have b3 := zy0 p hp
    have b4 := zy0 q hq
    refine ⟨a1, a2, ?_, ?_⟩
    · show Z p.y0 < Z q.y1
      omega
    · show Z q.y0 < Z p.y1
      omega
  have hB2 : ∀ q ∈ B2, q ∈ ps ∧ q.y1 = H ∧ ext H k q = q := fun q hq => by
    have m := c.mem (List.mem_append_right B1 hq)
    exact ⟨m.1, m.2, ext_no fun z => by have := c.ge g q hq; omega⟩
  refine ⟨?_, ?_⟩
  · unfold push
    rw [List.pairwise_append]
    refine ⟨?_, List.pairwise_singleton _ _, ?_⟩
    · rw [List.pairwise_map]
      exact so.imp_of_mem fun hp hq n z => n (up _ hp _ hq z)
    · intro p' hp' n' hn'
      obtain rfl := List.mem_singleton.mp hn'
      obtain ⟨p, hp, rfl⟩ := List.mem_map.mp hp'
      intro h
      obtain ⟨h1, h2, h3, h4⟩ := h
      have ep := ext_x (H := H) (k := k) p
      have a1 : X (ext H k p).x0 < X W := h1
      have a2 : X k < X (ext H k p).x1 := h2
      have a4 : Y H < Y (ext H k p).y1 := h4
      rw [ep.1] at a1
      rw [ep.2.1] at a2
      have vxp := vx p hp
      obtain ⟨q, hq, t1, t2⟩ := c.b.cover X (max (X p.x0) (X k)) (by omega) (by omega)
      obtain ⟨q1, q2, q3⟩ := hB2 q hq
      by_cases e : p = q
      · subst e
        rw [q3, q2] at a4
        omega
      · have no := pw_mem (R := fun p q => ¬ Ov (p.img X Z) (q.img X Z)) (fun a b n z => n z.symm) so p hp q q1 e
        refine no ⟨?_, ?_, ?_, ?_⟩
        · show X p.x0 < X q.x1
          omega
        · show X q.x0 < X p.x1
          omega
        · show Z p.y0 < Z q.y1
          rw [q2, ZH, zy0 p hp]
          have : Y (ext H k p).y0 < Y (H + 1) := h3
          rw [ep.2.2] at this
          exact this
        · show Z q.y0 < Z p.y1
          have b1 := zy1 p hp
          have b2 := vy q q1
          rw [q3, q2] at b2
          rw [zy0 q q1]
          omega
  · intro p' hp'
    unfold push at hp'
    have Z0 : Z 0 = Y 0 := Zne 0 (by have := g.h; omega)
    rcases List.mem_append.mp hp' with h | h
    · obtain ⟨p, hp, rfl⟩ := List.mem_map.mp h
      have ep := ext_x (H := H) (k := k) p
      obtain ⟨b1, b2, b3, b4⟩ := bo p hp
      have b5 := zy1 p hp
      have b6 := zy0 p hp
      rw [ep.1, ep.2.1, ep.2.2]
      rw [ZH] at b4
      omega
    · obtain rfl := List.mem_singleton.mp h
      obtain ⟨q, r, hq⟩ : ∃ q r, B2 = q :: r := by
        cases hB : B2 with
        | nil => exact absurd hB c.ne
        | cons q r => exact ⟨q, r, rfl⟩
      have hq' : q ∈ B2 := by rw [hq]; exact List.mem_cons_self
      obtain ⟨q1, q2, q3⟩ := hB2 q hq'
      obtain ⟨b1, b2, b3, b4⟩ := bo q q1
      have b5 := vy q q1
      have b6 := zy0 q q1
      rw [q3, q2] at b5
      have b7 := c.a.le X fun p hp => vx p (c.mem (List.mem_append_left _ hp)).1
      refine ⟨b7, Int.le_refl _, ?_, Int.le_refl _⟩
      show Y 0 ≤ Y H
      omega
end
end Geo
set_option linter.all false
namespace Geo
section
variable {ps B1 B2 : List Pn} {W H k : Int}
theorem push_cnt (g : Gr ps W H) (c : Cut ps B1 B2 W H k) (x y : Int) : (push ps W H k).countP (Cor x y) ≤ 2 := by
  have hW := c.kW g
  unfold push
  rw [List.countP_append, List.countP_map, List.countP_cons, List.countP_nil]
  by_cases h1 : y = H + 1
  · -- the new lower border
    subst h1
    have e : ps.countP (Cor x (H + 1) ∘ ext H k) = ends x B1 := by
      rw [ends_perm (c.f1 g)]
      unfold ends
      rw [List.countP_filter]
      refine List.countP_congr fun p hp => ?_
      have z := g.pos p hp
      show Cor x (H + 1) (ext H k p) = true ↔ _
      by_cases d : p.y1 = H ∧ p.x0 < k
      · unfold ext
        rw [if_pos d]
        show ((decide (x = p.x0) || decide (x = p.x1)) && (decide (H + 1 = p.y0) || decide (H + 1 = H + 1))) = true ↔ _
        simp [d.1, d.2]
      · rw [ext_no d]
        have n0 : ¬ H + 1 = p.y0 := by omega
        have n1 : ¬ H + 1 = p.y1 := by omega
        unfold Cor
        simp only [n0, n1, decide_false, Bool.or_false, Bool.and_false, d]
    rw [e]
    have two := c.a.two x (c.v1 g)
    by_cases a1 : x = k
    · subst a1
      have l := c.a.last (c.v1 g)
      split <;> omega
    · by_cases a2 : x < k
      · have n : Cor x (H + 1) ⟨k, H, W, H + 1⟩ = false := by
          unfold Cor
          have n1 : ¬ x = W := by omega
          simp [a1, n1]
        rw [n]
        simp only [Bool.false_eq_true, if_false]
        omega
      · have l := c.a.over (x := x) (c.v1 g) (by omega)
        split <;> omega
  · by_cases h2 : y = H
    · -- the new segment
      subst h2
      have e : ps.countP (Cor x y ∘ ext y k) = ends x B2 := by
        rw [ends_perm (c.f2 g)]
        unfold ends
        rw [List.countP_filter]
        refine List.countP_congr fun p hp => ?_
        have z := g.pos p hp
        show Cor x y (ext y k p) = true ↔ _
        have n0 : ¬ y = p.y0 := by omega
        by_cases d : p.y1 = y ∧ p.x0 < k
        · unfold ext
          rw [if_pos d]
          have n1 : ¬ y = y + 1 := by omega
          show ((decide (x = p.x0) || decide (x = p.x1)) && (decide (y = p.y0) || decide (y = y + 1))) = true ↔ _
          simp only [n0, n1, decide_false, Bool.or_false, Bool.and_false, d.1, d.2, not_true, and_false]
        · rw [ext_no d]
          unfold Cor
          by_cases d1 : p.y1 = y
          · have d2 : ¬ p.x0 < k := fun t => d ⟨d1, t⟩
            simp [d1, d2, n0]
          · have n1 : ¬ y = p.y1 := fun t => d1 t.symm
            simp [d1, n1, n0]
      rw [e]
      have two := c.b.two x (c.v2 g)
      by_cases a1 : x = k
      · subst a1
        have l := c.b.first (c.v2 g)
        split <;> omega
      · by_cases a2 : x = W
        · subst a2
          have l := c.b.last (c.v2 g)
          split <;> omega
        · have n : Cor x y ⟨k, y, W, y + 1⟩ = false := by
            unfold Cor
            simp [a1, a2]
          rw [n]
          simp only [Bool.false_eq_true, if_false]
          omega
    · -- anywhere else nothing has changed
      have e : ps.countP (Cor x y ∘ ext H k) = ps.countP (Cor x y) := by
        refine List.countP_congr fun p hp => ?_
        show Cor x y (ext H k p) = true ↔ _
        by_cases d : p.y1 = H ∧ p.x0 < k
        · unfold ext
          rw [if_pos d]
          unfold Cor
          have n1 : ¬ y = p.y1 := by omega
          simp only [h1, n1]
        · rw [ext_no d]
      have n : Cor x y ⟨k, H, W, H + 1⟩ = false := by
        unfold Cor
        simp [h1, h2]
      rw [e, n]
      have z := g.cnt x y
      simp only [Bool.false_eq_true, if_false]
      omega
theorem push_gr (g : Gr ps W H) (c : Cut ps B1 B2 W H k) : Gr (push ps W H k) W (H + 1) := by
  have hW := c.kW g
  have hk := c.k0 g
  have hw := g.w
  have hh := g.h
  have new : (⟨k, H, W, H + 1⟩ : Pn) ∈ push ps W H k := List.mem_append_right _ List.mem_cons_self
  refine ⟨g.w, by omega, fun p' hp' => ?_, ?_, ?_, push_cnt g c, push_area g c, push_sep g c, fun p' hp' => ?_, fun p' hp' => ?_⟩
  · rcases List.mem_append.mp hp' with h | h
    · obtain ⟨p, hp, rfl⟩ := List.mem_map.mp h
      have z := g.pos p hp
      have e := ext_x (H := H) (k := k) p
      by_cases d : p.y1 = H ∧ p.x0 < k
      · have f := ext_yes d
        omega
      · rw [ext_no d]
        omega
    · obtain rfl := List.mem_singleton.mp h
      show 0 ≤ k ∧ k < W ∧ W ≤ W ∧ 0 ≤ H ∧ H < H + 1 ∧ H + 1 ≤ H + 1
      omega
  · refine ⟨B1.map (ext H k) ++ [⟨k, H, W, H + 1⟩], ?_, (c.a.mapx fun p => ⟨(ext_x p).1, (ext_x p).2.1⟩).app (ChX.cons (p := ⟨k, H, W, H + 1⟩) .nil)⟩
    unfold push
    rw [List.filter_append, List.filter_map]
    have e1 : ps.filter ((fun p => decide (p.y1 = H + 1)) ∘ ext H k) = ps.filter fun p => decide (p.y1 = H ∧ p.x0 < k) := by
      refine List.filter_congr fun p hp => ?_
      have z := g.pos p hp
      show decide ((ext H k p).y1 = H + 1) = _
      by_cases d : p.y1 = H ∧ p.x0 < k
      · rw [ext_yes d]
        simp [d.1, d.2]
      · rw [ext_no d]
        have n : ¬ p.y1 = H + 1 := by omega
        simp only [n, d, decide_false]
    have e2 : [(⟨k, H, W, H + 1⟩ : Pn)].filter (fun p => decide (p.y1 = H + 1)) = [⟨k, H, W, H + 1⟩] := by simp
    rw [e1, e2]
    exact ((c.f1 g).map _).append_right _
  · obtain ⟨R, r1, r2⟩ := g.rig
    refine ⟨R ++ [⟨k, H, W, H + 1⟩], ?_, ?_⟩
    · unfold push
      rw [List.filter_append, List.filter_map]
      have e1 : ps.filter ((fun p => decide (p.x1 = W)) ∘ ext H k) = ps.filter fun p => decide (p.x1 = W) := by
        refine List.filter_congr fun p hp => ?_
        show decide ((ext H k p).x1 = W) = _
        rw [(ext_x p).2.1]
      have e2 : [(⟨k, H, W, H + 1⟩ : Pn)].filter (fun p => decide (p.x1 = W)) = [⟨k, H, W, H + 1⟩] := by simp
      have e3 : (ps.filter fun p => decide (p.x1 = W)).map (ext H k) = ps.filter fun p => decide (p.x1 = W) := by
        refine (List.map_congr_left fun p hp => ?_).trans (List.map_id _)
        rw [List.mem_filter] at hp
        have hx : p.x1 = W := of_decide_eq_true hp.2
        refine ext_no fun d => ?_
        have m : p ∈ B1 := (c.f1 g).mem_iff.mpr (List.mem_filter.mpr ⟨hp.1, decide_eq_true d⟩)
        have z := (c.a.mem id (c.v1 g) p m).2
        simp only [id] at z
        omega
      rw [e1, e2, e3]
      exact r1.append_right _
    · rw [List.map_append]
      exact r2.app (ChX.cons (p := ⟨H, k, H + 1, W⟩) .nil)
  · -- where upright sides begin
    rcases List.mem_append.mp hp' with h | h
    · obtain ⟨p, hp, rfl⟩ := List.mem_map.mp h
      rw [(ext_x p).1]
      rcases g.cx p hp with z | ⟨q, hq, z⟩
      · exact .inl z
      · exact .inr ⟨ext H k q, List.mem_append_left _ (List.mem_map_of_mem hq), by rw [(ext_x q).2.1]; exact z⟩
    · obtain rfl := List.mem_singleton.mp h
      rcases c.a.tail with z | ⟨q, hq, z⟩
      · exact .inl z.symm
      · exact .inr ⟨ext H k q, List.mem_append_left _ (List.mem_map_of_mem (c.mem (List.mem_append_left _ hq)).1), by rw [(ext_x q).2.1]; exact z⟩
  · rcases List.mem_append.mp hp' with h | h
    · obtain ⟨p, hp, rfl⟩ := List.mem_map.mp h
      rw [(ext_x p).2.2]
      have z := g.pos p hp
      rcases g.cy p hp with z | ⟨q, hq, z2⟩
      · exact .inl z
      · refine .inr ⟨ext H k q, List.mem_append_left _ (List.mem_map_of_mem hq), ?_⟩
        rw [ext_no fun d => by omega]
        exact z2
    · obtain rfl := List.mem_singleton.mp h
      obtain ⟨q, r, hq⟩ : ∃ q r, B2 = q :: r := by
        cases hB : B2 with
        | nil => exact absurd hB c.ne
        | cons q r => exact ⟨q, r, rfl⟩
      have hq' : q ∈ B2 := by rw [hq]; exact List.mem_cons_self
      have m := c.mem (List.mem_append_right B1 hq')
      refine .inr ⟨ext H k q, List.mem_append_left _ (List.mem_map_of_mem m.1), ?_⟩
      rw [ext_no fun d => by have := c.ge g q hq'; omega]
      exact m.2
end
end Geo
set_option linter.all false
namespace Geo
/-- a layout: what is asked of a list of panes -/
structure Valid (ps : List Pn) : Prop where
  len : ps.length ≤ 60
  pos : ∀ p ∈ ps, 0 ≤ p.x0 ∧ p.x0 < p.x1 ∧ 0 ≤ p.y0 ∧ p.y0 < p.y1
  sep : ps.Pairwise fun p q => ¬ Ov p q
  full : ∃ W H : Int, (∀ p ∈ ps, p.x1 ≤ W ∧ p.y1 ≤ H) ∧ (∃ p ∈ ps, p.x1 = W) ∧ (∃ p ∈ ps, p.y1 = H) ∧ areas ps = W * H
  cnt : ∀ x y, ps.countP (Cor x y) ≤ 3
theorem pw_perm {α : Type} {R : α → α → Prop} (hs : ∀ a b, R a b → R b a) {l m : List α} (h : l.Perm m) : l.Pairwise R → m.Pairwise R := by
  induction h with
  | nil => exact fun h => h
  | cons a p ih =>
    intro h
    obtain ⟨h1, h2⟩ := List.pairwise_cons.mp h
    exact List.pairwise_cons.mpr ⟨fun b hb => h1 b (p.mem_iff.mpr hb), ih h2⟩
  | swap a b l =>
    intro h
    obtain ⟨h1, h2⟩ := List.pairwise_cons.mp h
    obtain ⟨h3, h4⟩ := List.pairwise_cons.mp h2
    refine List.pairwise_cons.mpr ⟨fun c hc => ?_, List.pairwise_cons.mpr ⟨fun c hc => h1 c (List.mem_cons_of_mem _ hc), h4⟩⟩
    rcases List.mem_cons.mp hc with rfl | hc
    · exact hs _ _ (h1 _ List.mem_cons_self)
    · exact h3 c hc
  | trans _ _ i1 i2 => exact fun h => i2 (i1 h)
theorem Valid.perm {ps qs : List Pn} (v : Valid ps) (h : ps.Perm qs) : Valid qs where
  len := h.length_eq ▸ v.len
  pos := fun p hp => v.pos p (h.mem_iff.mpr hp)
  sep := pw_perm (fun _ _ n z => n z.symm) h v.sep
  full := by
    obtain ⟨W, H, h1, ⟨p, hp, ep⟩, ⟨q, hq, eq⟩, h4⟩ := v.full
    refine ⟨W, H, fun r hr => h1 r (h.mem_iff.mpr hr), ⟨p, h.mem_iff.mp hp, ep⟩, ⟨q, h.mem_iff.mp hq, eq⟩, ?_⟩
    rw [← h4]
    exact (sum_perm (h.map _)).symm
  cnt := fun x y => by
    rw [← h.countP_eq]
    exact v.cnt x y
/-- a grown layout with its sides at other places -/
theorem Gr.valid {ps : List Pn} {W H : Int} (g : Gr ps W H) (hl : ps.length ≤ 60) {X Y : Int → Int} (v : ∀ p ∈ ps, (p.img X Y).ok) (x0 : X 0 = 0) (y0 : Y 0 = 0)
    (ix : ∀ p ∈ ps, ∀ q ∈ ps, ∀ a ∈ [p.x0, p.x1], ∀ b ∈ [q.x0, q.x1], X a = X b → a = b) (iy : ∀ p ∈ ps, ∀ q ∈ ps, ∀ a ∈ [p.y0, p.y1], ∀ b ∈ [q.y0, q.y1], Y a = Y b → a = b) :
    Valid (ps.map (Pn.img X Y)) := by
  obtain ⟨s, b⟩ := g.sep X Y v
  refine ⟨by rw [List.length_map]; exact hl, fun p' hp' => ?_, ?_, ?_, fun a c => ?_⟩
  · obtain ⟨p, hp, rfl⟩ := List.mem_map.mp hp'
    obtain ⟨b1, b2, b3, b4⟩ := b p hp
    obtain ⟨v1, v2⟩ := v p hp
    rw [x0] at b1
    rw [y0] at b3
    exact ⟨b1, v1, b3, v2⟩
  · rw [List.pairwise_map]
    exact s
  · refine ⟨X W, Y H, fun p' hp' => ?_, ?_, ?_, ?_⟩
    · obtain ⟨p, hp, rfl⟩ := List.mem_map.mp hp'
      obtain ⟨b1, b2, b3, b4⟩ := b p hp
      exact ⟨b2, b4⟩
    · obtain ⟨B, h1, h2⟩ := g.bot
      rcases h2.tail with z | ⟨q, hq, z⟩
      · have := g.w
        omega
      · have m := h1.mem_iff.mp hq
        rw [List.mem_filter] at m
        exact ⟨q.img X Y, List.mem_map_of_mem m.1, by show X q.x1 = X W; rw [z]⟩
    · obtain ⟨R, h1, h2⟩ := g.rig
      rcases h2.tail with z | ⟨q', hq', z⟩
      · have := g.h
        omega
      · obtain ⟨q, hq, rfl⟩ := List.mem_map.mp hq'
        have m := h1.mem_iff.mp hq
        rw [List.mem_filter] at m
        exact ⟨q.img X Y, List.mem_map_of_mem m.1, by
          show Y q.y1 = Y H
          have z2 : q.y1 = H := z
          rw [z2]⟩
    · have z := g.area X Y
      rw [x0, y0, Int.sub_zero, Int.sub_zero] at z
      unfold areas
      rw [List.map_map]
      exact z
  · rw [List.countP_map]
    by_cases e : ∃ p ∈ ps, Cor a c (p.img X Y) = true
    · obtain ⟨p, hp, hc⟩ := e
      obtain ⟨x, hx, ex, y, hy, ey⟩ : ∃ x ∈ [p.x0, p.x1], a = X x ∧ ∃ y ∈ [p.y0, p.y1], c = Y y := by
        unfold Cor at hc
        rw [Bool.and_eq_true, Bool.or_eq_true, Bool.or_eq_true, decide_eq_true_eq, decide_eq_true_eq, decide_eq_true_eq, decide_eq_true_eq] at hc
        obtain ⟨h1, h2⟩ := hc
        have hh1 : ∃ x ∈ [p.x0, p.x1], a = X x := by
          rcases h1 with h | h
          · exact ⟨p.x0, by simp, h⟩
          · exact ⟨p.x1, by simp, h⟩
        have hh2 : ∃ y ∈ [p.y0, p.y1], c = Y y := by
          rcases h2 with h | h
          · exact ⟨p.y0, by simp, h⟩
          · exact ⟨p.y1, by simp, h⟩
        obtain ⟨x, q1, q2⟩ := hh1
        obtain ⟨y, q3, q4⟩ := hh2
        exact ⟨x, q1, q2, y, q3, q4⟩
      refine Nat.le_trans ?_ (Nat.le_succ_of_le (g.cnt x y))
      refine List.countP_mono_left fun q hq h => ?_
      have h' : Cor a c (q.img X Y) = true := h
      unfold Cor at h'
      rw [Bool.and_eq_true, Bool.or_eq_true, Bool.or_eq_true, decide_eq_true_eq, decide_eq_true_eq, decide_eq_true_eq, decide_eq_true_eq] at h'
      obtain ⟨h1, h2⟩ := h'
      have k1 : x = q.x0 ∨ x = q.x1 := by
        rcases h1 with h | h
        · exact .inl (ix p hp q hq x hx q.x0 (by simp) (ex.symm.trans h))
        · exact .inr (ix p hp q hq x hx q.x1 (by simp) (ex.symm.trans h))
      have k2 : y = q.y0 ∨ y = q.y1 := by
        rcases h2 with h | h
        · exact .inl (iy p hp q hq y hy q.y0 (by simp) (ey.symm.trans h))
        · exact .inr (iy p hp q hq y hy q.y1 (by simp) (ey.symm.trans h))
      unfold Cor
      rw [Bool.and_eq_true, Bool.or_eq_true, Bool.or_eq_true, decide_eq_true_eq, decide_eq_true_eq, decide_eq_true_eq, decide_eq_true_eq]
      exact ⟨k1, k2⟩
    · have z : ps.countP (Cor a c ∘ Pn.img X Y) = 0 := List.countP_eq_zero.mpr fun p hp h => e ⟨p, hp, h⟩
      rw [z]
      omega
/-! ## at most four panes that do not lie over one another have a corner at a point -/
theorem countP_one {α : Type} {R : α → α → Prop} {f : α → Bool} (h : ∀ a b, f a = true → f b = true → ¬ R a b) : ∀ {l : List α}, l.Pairwise R → l.countP f ≤ 1
  | [], _ => Nat.zero_le _
  | a :: l, p => by
    obtain ⟨p1, p2⟩ := List.pairwise_cons.mp p
    rw [List.countP_cons]
    by_cases c : f a = true
    · have z : l.countP f = 0 := List.countP_eq_zero.mpr fun b hb hf => h a b c hf (p1 b hb)
      rw [z, if_pos c]
      omega
    · rw [if_neg c]
      exact countP_one h p2
theorem countP_or {α : Type} (f g : α → Bool) : ∀ l : List α, l.countP (fun a => f a || g a) ≤ l.countP f + l.countP g
  | [] => Nat.zero_le _
  | a :: l => by
    have ih := countP_or f g l
    rw [List.countP_cons, List.countP_cons, List.countP_cons]
    cases f a <;> cases g a <;> simp <;> omega
theorem four_most {ps : List Pn} (pos : ∀ p ∈ ps, p.x0 < p.x1 ∧ p.y0 < p.y1) (sep : ps.Pairwise fun p q => ¬ Ov p q) (x y : Int) : ps.countP (Cor x y) ≤ 4 := by
  have sep2 : ps.Pairwise fun p q => (p.x0 < p.x1 ∧ p.y0 < p.y1) ∧ (q.x0 < q.x1 ∧ q.y0 < q.y1) ∧ ¬ Ov p q := sep.imp_of_mem fun hp hq n => ⟨pos _ hp, pos _ hq, n⟩
  have one : ∀ (f : Pn → Bool), (∀ p q : Pn, f p = true → f q = true → (p.x0 < p.x1 ∧ p.y0 < p.y1) → (q.x0 < q.x1 ∧ q.y0 < q.y1) → Ov p q) → ps.countP f ≤ 1 := fun f h =>
    countP_one (fun p q a b z => z.2.2 (h p q a b z.1 z.2.1)) sep2
  have c1 := one (fun p => decide (x = p.x0 ∧ y = p.y0)) fun p q a b u v => by
    have a' := of_decide_eq_true a
    have b' := of_decide_eq_true b
    exact ⟨by omega, by omega, by omega, by omega⟩
  have c2 := one (fun p => decide (x = p.x0 ∧ y = p.y1)) fun p q a b u v => by
    have a' := of_decide_eq_true a
    have b' := of_decide_eq_true b
    exact ⟨by omega, by omega, by omega, by omega⟩
  have c3 := one (fun p => decide (x = p.x1 ∧ y = p.y0)) fun p q a b u v => by
    have a' := of_decide_eq_true a
    have b' := of_decide_eq_true b
    exact ⟨by omega, by omega, by omega, by omega⟩
  have c4 := one (fun p => decide (x = p.x1 ∧ y = p.y1)) fun p q a b u v => by
    have a' := of_decide_eq_true a
    have b' := of_decide_eq_true b
    exact ⟨by omega, by omega, by omega, by omega⟩
  have e : (Cor x y) = fun p => ((decide (x = p.x0 ∧ y = p.y0) || decide (x = p.x0 ∧ y = p.y1)) || (decide (x = p.x1 ∧ y = p.y0) || decide (x = p.x1 ∧ y = p.y1))) := funext fun p => by
    unfold Cor
    by_cases a : x = p.x0 <;> by_cases b : x = p.x1 <;> by_cases c : y = p.y0 <;> by_cases d : y = p.y1 <;> simp [a, b, c, d]
  rw [e]
  have t1 := countP_or (fun p : Pn => decide (x = p.x0 ∧ y = p.y0) || decide (x = p.x0 ∧ y = p.y1)) (fun p => decide (x = p.x1 ∧ y = p.y0) || decide (x = p.x1 ∧ y = p.y1)) ps
  have t2 := countP_or (fun p : Pn => decide (x = p.x0 ∧ y = p.y0)) (fun p => decide (x = p.x0 ∧ y = p.y1)) ps
  have t3 := countP_or (fun p : Pn => decide (x = p.x1 ∧ y = p.y0)) (fun p => decide (x = p.x1 ∧ y = p.y1)) ps
  omega
/-! ## a pane cut in two -/
theorem cut_sep {A B : List Pn} {p q r : Pn} (h : (A ++ p :: B).Pairwise fun p q => ¬ Ov p q) (hq : ∀ z, Ov q z → Ov p z) (hr : ∀ z, Ov r z → Ov p z) (n : ¬ Ov q r) :
    (A ++ q :: B ++ [r]).Pairwise fun p q => ¬ Ov p q := by
  obtain ⟨h1, h2, h3⟩ := List.pairwise_append.mp h
  obtain ⟨h4, h5⟩ := List.pairwise_cons.mp h2
  refine List.pairwise_append.mpr ⟨List.pairwise_append.mpr ⟨h1, List.pairwise_cons.mpr ⟨fun z hz o => h4 z hz (hq z o), h5⟩, fun a ha b hb o => ?_⟩, List.pairwise_singleton _ _, fun a ha b hb o => ?_⟩
  · rcases List.mem_cons.mp hb with rfl | hb
    · exact h3 a ha p List.mem_cons_self (hq a o.symm).symm
    · exact h3 a ha b (List.mem_cons_of_mem _ hb) o
  · obtain rfl := List.mem_singleton.mp hb
    rcases List.mem_append.mp ha with ha | ha
    · exact h3 a ha p List.mem_cons_self (hr a o.symm).symm
    · rcases List.mem_cons.mp ha with rfl | ha
      · exact n o
      · exact h4 a ha (hr a o.symm)
theorem areas_app (A B : List Pn) : areas (A ++ B) = areas A + areas B := by
  unfold areas
  rw [List.map_append, List.sum_append]
theorem areas_cons (p : Pn) (B : List Pn) : areas (p :: B) = p.area + areas B := by
  unfold areas
  rw [List.map_cons, List.sum_cons]
/-- the two parts at m: side by side, or one over the other -/
def cutX (p : Pn) (m : Int) : Pn × Pn := ({ p with x1 := m }, { p with x0 := m })
def cutY (p : Pn) (m : Int) : Pn × Pn := ({ p with y1 := m }, { p with y0 := m })
theorem cut_valid {A B : List Pn} {p : Pn} {m : Int} {two : Pn × Pn} (v : Valid (A ++ p :: B)) (h : (two = cutX p m ∧ p.x0 < m ∧ m < p.x1) ∨ (two = cutY p m ∧ p.y0 < m ∧ m < p.y1))
    (hl : (A ++ p :: B).length < 60) (nc : ∀ x y, (A ++ two.1 :: B ++ [two.2]).countP (Cor x y) ≠ 4) : Valid (A ++ two.1 :: B ++ [two.2]) := by
  have hp : p ∈ A ++ p :: B := List.mem_append_right _ List.mem_cons_self
  have vp := v.pos p hp
  have pos2 : ∀ z ∈ A ++ two.1 :: B ++ [two.2], 0 ≤ z.x0 ∧ z.x0 < z.x1 ∧ 0 ≤ z.y0 ∧ z.y0 < z.y1 := fun z hz => by
    rcases List.mem_append.mp hz with hz | hz
    · rcases List.mem_append.mp hz with hz | hz
      · exact v.pos z (List.mem_append_left _ hz)
      · rcases List.mem_cons.mp hz with rfl | hz
        · rcases h with ⟨rfl, a, b⟩ | ⟨rfl, a, b⟩
          · exact ⟨vp.1, a, vp.2.2⟩
          · exact ⟨vp.1, vp.2.1, vp.2.2.1, a⟩
        · exact v.pos z (List.mem_append_right _ (List.mem_cons_of_mem _ hz))
    · obtain rfl := List.mem_singleton.mp hz
      rcases h with ⟨rfl, a, b⟩ | ⟨rfl, a, b⟩
      · show 0 ≤ m ∧ m < p.x1 ∧ 0 ≤ p.y0 ∧ p.y0 < p.y1
        omega
      · show 0 ≤ p.x0 ∧ p.x0 < p.x1 ∧ 0 ≤ m ∧ m < p.y1
        omega
  have sep2 : (A ++ two.1 :: B ++ [two.2]).Pairwise fun p q => ¬ Ov p q := by
    rcases h with ⟨rfl, a, b⟩ | ⟨rfl, a, b⟩
    · refine cut_sep v.sep (fun z o => ?_) (fun z o => ?_) fun o => ?_
      · obtain ⟨o1, o2, o3⟩ := o
        have o2' : z.x0 < m := o2
        exact ⟨o1, by omega, o3⟩
      · obtain ⟨o1, o2, o3⟩ := o
        have o1' : m < z.x1 := o1
        exact ⟨by omega, o2, o3⟩
      · have o2 : m < m := o.2.1
        omega
    · refine cut_sep v.sep (fun z o => ?_) (fun z o => ?_) fun o => ?_
      · obtain ⟨o1, o2, o3, o4⟩ := o
        have o4' : z.y0 < m := o4
        exact ⟨o1, o2, o3, by omega⟩
      · obtain ⟨o1, o2, o3, o4⟩ := o
        have o3' : m < z.y1 := o3
        exact ⟨o1, o2, by omega, o4⟩
      · have o2 : m < m := o.2.2.2
        omega
  refine ⟨?_, pos2, sep2, ?_, fun x y => ?_⟩
  · simp only [List.length_append, List.length_cons, List.length_nil] at hl ⊢
    omega
  · obtain ⟨W, H, h1, ⟨q, hq, eq⟩, ⟨r, hr, er⟩, h4⟩ := v.full
    have mv : ∀ z ∈ A ++ p :: B, z ≠ p → z ∈ A ++ two.1 :: B ++ [two.2] := fun z hz n => by
      rcases List.mem_append.mp hz with hz | hz
      · exact List.mem_append_left _ (List.mem_append_left _ hz)
      · rcases List.mem_cons.mp hz with e | hz
        · exact absurd e n
        · exact List.mem_append_left _ (List.mem_append_right _ (List.mem_cons_of_mem _ hz))
    have m1 : two.1 ∈ A ++ two.1 :: B ++ [two.2] := List.mem_append_left _ (List.mem_append_right _ List.mem_cons_self)
    have m2 : two.2 ∈ A ++ two.1 :: B ++ [two.2] := List.mem_append_right _ List.mem_cons_self
    have hpb := h1 p hp
    refine ⟨W, H, fun z hz => ?_, ?_, ?_, ?_⟩
    · rcases List.mem_append.mp hz with hz | hz
      · rcases List.mem_append.mp hz with hz | hz
        · exact h1 z (List.mem_append_left _ hz)
        · rcases List.mem_cons.mp hz with rfl | hz
          · rcases h with ⟨rfl, a, b⟩ | ⟨rfl, a, b⟩
            · show m ≤ W ∧ p.y1 ≤ H
              omega
            · show p.x1 ≤ W ∧ m ≤ H
              omega
          · exact h1 z (List.mem_append_right _ (List.mem_cons_of_mem _ hz))
      · obtain rfl := List.mem_singleton.mp hz
        rcases h with ⟨rfl, a, b⟩ | ⟨rfl, a, b⟩
        · exact hpb
        · exact hpb
    · by_cases e : q = p
      · subst e
        rcases h with ⟨rfl, a, b⟩ | ⟨rfl, a, b⟩
        · exact ⟨_, m2, eq⟩
        · exact ⟨_, m2, eq⟩
      · exact ⟨q, mv q hq e, eq⟩
    · by_cases e : r = p
      · subst e
        rcases h with ⟨rfl, a, b⟩ | ⟨rfl, a, b⟩
        · exact ⟨_, m2, er⟩
        · exact ⟨_, m2, er⟩
      · exact ⟨r, mv r hr e, er⟩
    · rw [← h4, areas_app, areas_app, areas_app, areas_cons, areas_cons, areas_cons]
      have en : areas ([] : List Pn) = 0 := rfl
      have ea : p.area = two.1.area + two.2.area := by
        rcases h with ⟨rfl, a, b⟩ | ⟨rfl, a, b⟩
        · show (p.x1 - p.x0) * (p.y1 - p.y0) = (m - p.x0) * (p.y1 - p.y0) + (p.x1 - m) * (p.y1 - p.y0)
          rw [← Int.add_mul]
          congr 1
          omega
        · show (p.x1 - p.x0) * (p.y1 - p.y0) = (p.x1 - p.x0) * (m - p.y0) + (p.x1 - p.x0) * (p.y1 - m)
          rw [← Int.mul_add]
          congr 1
          omega
      rw [en]
      omega
  · have z := four_most (fun p hp => ⟨(pos2 p hp).2.1, (pos2 p hp).2.2.2⟩) sep2 x y
    have n := nc x y
    omega
end Geo
set_option Elab.async false
set_option linter.all false
set_option maxRecDepth 100000
set_option maxHeartbeats 4000000
/-! # where the defs stand -/
namespace GL
open PySem PySem.Spec PyProof.Rows L2
def topS (i : Nat) : Stmt := PySem.Challenge.pw_paneplans_k03_panes_that_touch.main.body.getD i (.Pass ⟨0, 0, 0, 0⟩)
abbrev s_is_layout : Stmt := topS 5
abbrev n_is_layout : List Str := ["thing", "item"]
theorem sc_is_layout : FnScope n_is_layout ["thing"] (defScope s_is_layout) := ⟨rfl, rfl, rfl, by decide +kernel, rfl, by decide +kernel, by decide +kernel⟩
abbrev s_touching_pairs : Stmt := topS 6
abbrev n_touching_pairs : List Str := ["layout"]
theorem sc_touching_pairs : FnScope n_touching_pairs ["layout"] (defScope s_touching_pairs) := ⟨rfl, rfl, rfl, by decide +kernel, rfl, by decide +kernel, by decide +kernel⟩
abbrev s_check_layout : Stmt := topS 7
abbrev n_check_layout : List Str := ["layout", "bad"]
theorem sc_check_layout : FnScope n_check_layout ["layout"] (defScope s_check_layout) := ⟨rfl, rfl, rfl, by decide +kernel, rfl, by decide +kernel, by decide +kernel⟩
abbrev s_is_list_of_items : Stmt := topS 8
abbrev n_is_list_of_items : List Str := ["thing"]
theorem sc_is_list_of_items : FnScope n_is_list_of_items ["thing"] (defScope s_is_list_of_items) := ⟨rfl, rfl, rfl, by decide +kernel, rfl, by decide +kernel, by decide +kernel⟩
abbrev s_is_pane : Stmt := topS 9
abbrev n_is_pane : List Str := ["thing", "x0", "y0", "x1", "y1"]
theorem sc_is_pane : FnScope n_is_pane ["thing"] (defScope s_is_pane) := ⟨rfl, rfl, rfl, by decide +kernel, rfl, by decide +kernel, by decide +kernel⟩
abbrev s_tiles_desk : Stmt := topS 10
abbrev n_tiles_desk : List Str := ["panes", "width", "height", "falling", "rising", "points", "others", "x0", "y0", "_", "x1", "y1"]
theorem sc_tiles_desk : FnScope n_tiles_desk ["panes"] (defScope s_tiles_desk) := ⟨rfl, rfl, rfl, by decide +kernel, rfl, by decide +kernel, by decide +kernel⟩
abbrev s_find_bad_item : Stmt := topS 11
abbrev n_find_bad_item : List Str := ["items", "index", "item"]
theorem sc_find_bad_item : FnScope n_find_bad_item ["items"] (defScope s_find_bad_item) := ⟨rfl, rfl, rfl, by decide +kernel, rfl, by decide +kernel, by decide +kernel⟩
abbrev s_overlap : Stmt := topS 12
abbrev n_overlap : List Str := ["corners", "others", "x0", "y0", "x1", "y1", "left", "top", "right", "bottom"]
theorem sc_overlap : FnScope n_overlap ["corners", "others"] (defScope s_overlap) := ⟨rfl, rfl, rfl, by decide +kernel, rfl, by decide +kernel, by decide +kernel⟩
abbrev s_find_desk : Stmt := topS 13
abbrev n_find_desk : List Str := ["panes", "corners"]
theorem sc_find_desk : FnScope n_find_desk ["panes"] (defScope s_find_desk) := ⟨rfl, rfl, rfl, by decide +kernel, rfl, by decide +kernel, by decide +kernel⟩
abbrev s_find_all_sides : Stmt := topS 14
abbrev n_find_all_sides : List Str := ["layout"]
theorem sc_find_all_sides : FnScope n_find_all_sides ["layout"] (defScope s_find_all_sides) := ⟨rfl, rfl, rfl, by decide +kernel, rfl, by decide +kernel, by decide +kernel⟩
abbrev s_find_sides : Stmt := topS 15
abbrev n_find_sides : List Str := ["layout", "kind", "corners", "ahead", "behind", "sides", "start", "panes", "place", "first", "last", "x0", "y0", "x1", "y1", "pane", "_"]
theorem sc_find_sides : FnScope n_find_sides ["layout", "kind"] (defScope s_find_sides) := ⟨rfl, rfl, rfl, by decide +kernel, rfl, by decide +kernel, by decide +kernel⟩
abbrev s_join_stretches : Stmt := topS 16
abbrev n_join_stretches : List Str := ["stretches", "lines", "start", "end", "place", "first", "last", "pane"]
theorem sc_join_stretches : FnScope n_join_stretches ["stretches"] (defScope s_join_stretches) := ⟨rfl, rfl, rfl, by decide +kernel, rfl, by decide +kernel, by decide +kernel⟩
abbrev s_find_touching : Stmt := topS 17
abbrev n_find_touching : List Str := ["layout", "pairs", "segment", "ahead", "behind", "pair"]
theorem sc_find_touching : FnScope n_find_touching ["layout"] (defScope s_find_touching) := ⟨rfl, rfl, rfl, by decide +kernel, rfl, by decide +kernel, by decide +kernel⟩
abbrev s_find_pairs_at : Stmt := topS 18
abbrev n_find_pairs_at : List Str := ["layout", "kind", "ahead", "behind", "side", "pairs", "first", "second"]
theorem sc_find_pairs_at : FnScope n_find_pairs_at ["layout", "kind", "ahead", "behind"] (defScope s_find_pairs_at) := ⟨rfl, rfl, rfl, by decide +kernel, rfl, by decide +kernel, by decide +kernel⟩
abbrev s__law_jar : Stmt := topS 20
abbrev n__law_jar : List Str := ["script", "k", "cell_here"]
theorem sc__law_jar : FnScope n__law_jar ["script", "k"] (defScope s__law_jar) := ⟨rfl, rfl, rfl, by decide +kernel, rfl, by decide +kernel, by decide +kernel⟩
abbrev s__law_dip : Stmt := topS 21
abbrev n__law_dip : List Str := ["jar", "many", "digit", "mixed"]
theorem sc__law_dip : FnScope n__law_dip ["jar", "many"] (defScope s__law_dip) := ⟨rfl, rfl, rfl, by decide +kernel, rfl, by decide +kernel, by decide +kernel⟩
abbrev s__law_crossed : Stmt := topS 22
abbrev n__law_crossed : List Str := ["panes", "counts_here", "one", "point"]
theorem sc__law_crossed : FnScope n__law_crossed ["panes"] (defScope s__law_crossed) := ⟨rfl, rfl, rfl, by decide +kernel, rfl, by decide +kernel, by decide +kernel⟩
abbrev s__law_pushed : Stmt := topS 23
abbrev n__law_pushed : List Str := ["panes", "entry", "axis", "one", "edge", "wide", "spot", "row_here", "kept", "names_here", "found", "corners", "last", "begin"]
theorem sc__law_pushed : FnScope n__law_pushed ["panes", "entry"] (defScope s__law_pushed) := ⟨rfl, rfl, rfl, by decide +kernel, rfl, by decide +kernel, by decide +kernel⟩
abbrev s__law_border : Stmt := topS 24
abbrev n__law_border : List Str := ["panes", "axis", "edge", "one"]
theorem sc__law_border : FnScope n__law_border ["panes", "axis"] (defScope s__law_border) := ⟨rfl, rfl, rfl, by decide +kernel, rfl, by decide +kernel, by decide +kernel⟩
abbrev s__law_grown : Stmt := topS 25
abbrev n__law_grown : List Str := ["jar", "many", "panes", "entries_here", "axis", "entry"]
theorem sc__law_grown : FnScope n__law_grown ["jar", "many"] (defScope s__law_grown) := ⟨rfl, rfl, rfl, by decide +kernel, rfl, by decide +kernel, by decide +kernel⟩
abbrev s__law_shaken : Stmt := topS 26
abbrev n__law_shaken : List Str := ["jar", "panes", "size", "one", "found", "axis", "places_here", "used", "place_here", "before", "there", "spot", "here"]
theorem sc__law_shaken : FnScope n__law_shaken ["jar", "panes", "size"] (defScope s__law_shaken) := ⟨rfl, rfl, rfl, by decide +kernel, rfl, by decide +kernel, by decide +kernel⟩
abbrev s__law_named : Stmt := topS 27
abbrev n__law_named : List Str := ["jar", "panes", "left", "found", "spot"]
theorem sc__law_named : FnScope n__law_named ["jar", "panes"] (defScope s__law_named) := ⟨rfl, rfl, rfl, by decide +kernel, rfl, by decide +kernel, by decide +kernel⟩
abbrev s__law_split : Stmt := topS 28
abbrev n__law_split : List Str := ["jar", "panes", "turns", "found", "turn", "spot", "axis", "chosen", "place_here", "one", "two", "later"]
theorem sc__law_split : FnScope n__law_split ["jar", "panes", "turns"] (defScope s__law_split) := ⟨rfl, rfl, rfl, by decide +kernel, rfl, by decide +kernel, by decide +kernel⟩
abbrev s__law_layout : Stmt := topS 29
abbrev n__law_layout : List Str := ["jar", "most", "size", "panes"]
theorem sc__law_layout : FnScope n__law_layout ["jar", "most", "size"] (defScope s__law_layout) := ⟨rfl, rfl, rfl, by decide +kernel, rfl, by decide +kernel, by decide +kernel⟩
abbrev s__law_cut : Stmt := topS 30
abbrev n__law_cut : List Str := ["jar", "turns", "size"]
theorem sc__law_cut : FnScope n__law_cut ["jar", "turns", "size"] (defScope s__law_cut) := ⟨rfl, rfl, rfl, by decide +kernel, rfl, by decide +kernel, by decide +kernel⟩
abbrev s__law_touch : Stmt := topS 31
abbrev n__law_touch : List Str := ["one", "two", "axis", "here", "there"]
theorem sc__law_touch : FnScope n__law_touch ["one", "two"] (defScope s__law_touch) := ⟨rfl, rfl, rfl, by decide +kernel, rfl, by decide +kernel, by decide +kernel⟩
abbrev s__law_right : Stmt := topS 32
abbrev n__law_right : List Str := ["panes", "kept", "due", "spot", "one", "other_spot", "told"]
theorem sc__law_right : FnScope n__law_right ["panes"] (defScope s__law_right) := ⟨rfl, rfl, rfl, by decide +kernel, rfl, by decide +kernel, by decide +kernel⟩
abbrev s_law : Stmt := topS 33
abbrev n_law : List Str := ["script", "k", "jar", "turn", "wheel", "due"]
theorem sc_law : FnScope n_law ["script"] (defScope s_law) := ⟨rfl, rfl, rfl, by decide +kernel, rfl, by decide +kernel, by decide +kernel⟩
abbrev sJar : Stmt := topS 20
abbrev sDip : Stmt := topS 21
abbrev sBorder : Stmt := topS 24
abbrev sPushed : Stmt := topS 23
abbrev sGrown : Stmt := topS 25
abbrev sNamed : Stmt := topS 27
abbrev sCrossed : Stmt := topS 22
abbrev sSplit : Stmt := topS 28
abbrev sCut : Stmt := topS 30
abbrev sLayout : Stmt := topS 29
abbrev sShaken : Stmt := topS 26
end GL
set_option Elab.async false
set_option linter.all false
set_option maxRecDepth 100000
set_option maxHeartbeats 0
/-! # the head -/
namespace HdZ
open PySem PySem.Spec PyProof.Rows L2 GL
def d_is_layout : He.DefD := ⟨("is_layout", none), "is_layout", "is_layout", defArgs s_is_layout, defBody s_is_layout, defScope s_is_layout, [], []⟩
def d_touching_pairs : He.DefD := ⟨("touching_pairs", none), "touching_pairs", "touching_pairs", defArgs s_touching_pairs, defBody s_touching_pairs, defScope s_touching_pairs, [], []⟩
def d_check_layout : He.DefD := ⟨("check_layout", none), "check_layout", "check_layout", defArgs s_check_layout, defBody s_check_layout, defScope s_check_layout, [], []⟩
def d_is_list_of_items : He.DefD := ⟨("is_list_of_items", none), "is_list_of_items", "is_list_of_items", defArgs s_is_list_of_items, defBody s_is_list_of_items, defScope s_is_list_of_items, [], []⟩
def d_is_pane : He.DefD := ⟨("is_pane", none), "is_pane", "is_pane", defArgs s_is_pane, defBody s_is_pane, defScope s_is_pane, [], []⟩
def d_tiles_desk : He.DefD := ⟨("tiles_desk", none), "tiles_desk", "tiles_desk", defArgs s_tiles_desk, defBody s_tiles_desk, defScope s_tiles_desk, [], []⟩
def d_find_bad_item : He.DefD := ⟨("find_bad_item", none), "find_bad_item", "find_bad_item", defArgs s_find_bad_item, defBody s_find_bad_item, defScope s_find_bad_item, [], []⟩
def d_overlap : He.DefD := ⟨("overlap", none), "overlap", "overlap", defArgs s_overlap, defBody s_overlap, defScope s_overlap, [], []⟩
def d_find_desk : He.DefD := ⟨("find_desk", none), "find_desk", "find_desk", defArgs s_find_desk, defBody s_find_desk, defScope s_find_desk, [], []⟩
def d_find_all_sides : He.DefD := ⟨("find_all_sides", none), "find_all_sides", "find_all_sides", defArgs s_find_all_sides, defBody s_find_all_sides, defScope s_find_all_sides, [], []⟩
def d_find_sides : He.DefD := ⟨("find_sides", none), "find_sides", "find_sides", defArgs s_find_sides, defBody s_find_sides, defScope s_find_sides, [], []⟩
def d_join_stretches : He.DefD := ⟨("join_stretches", none), "join_stretches", "join_stretches", defArgs s_join_stretches, defBody s_join_stretches, defScope s_join_stretches, [], []⟩
def d_find_touching : He.DefD := ⟨("find_touching", none), "find_touching", "find_touching", defArgs s_find_touching, defBody s_find_touching, defScope s_find_touching, [], []⟩
def d_find_pairs_at : He.DefD := ⟨("find_pairs_at", none), "find_pairs_at", "find_pairs_at", defArgs s_find_pairs_at, defBody s_find_pairs_at, defScope s_find_pairs_at, [], []⟩
def d__law_jar : He.DefD := ⟨("_law_jar", none), "_law_jar", "_law_jar", defArgs s__law_jar, defBody s__law_jar, defScope s__law_jar, [], []⟩
def d__law_dip : He.DefD := ⟨("_law_dip", none), "_law_dip", "_law_dip", defArgs s__law_dip, defBody s__law_dip, defScope s__law_dip, [], []⟩
def d__law_crossed : He.DefD := ⟨("_law_crossed", none), "_law_crossed", "_law_crossed", defArgs s__law_crossed, defBody s__law_crossed, defScope s__law_crossed, [], []⟩
def d__law_pushed : He.DefD := ⟨("_law_pushed", none), "_law_pushed", "_law_pushed", defArgs s__law_pushed, defBody s__law_pushed, defScope s__law_pushed, [], []⟩
def d__law_border : He.DefD := ⟨("_law_border", none), "_law_border", "_law_border", defArgs s__law_border, defBody s__law_border, defScope s__law_border, [], []⟩
def d__law_grown : He.DefD := ⟨("_law_grown", none), "_law_grown", "_law_grown", defArgs s__law_grown, defBody s__law_grown, defScope s__law_grown, [], []⟩
def d__law_shaken : He.DefD := ⟨("_law_shaken", none), "_law_shaken", "_law_shaken", defArgs s__law_shaken, defBody s__law_shaken, defScope s__law_shaken, [], []⟩
def d__law_named : He.DefD := ⟨("_law_named", none), "_law_named", "_law_named", defArgs s__law_named, defBody s__law_named, defScope s__law_named, [], []⟩
def d__law_split : He.DefD := ⟨("_law_split", none), "_law_split", "_law_split", defArgs s__law_split, defBody s__law_split, defScope s__law_split, [], []⟩
def d__law_layout : He.DefD := ⟨("_law_layout", none), "_law_layout", "_law_layout", defArgs s__law_layout, defBody s__law_layout, defScope s__law_layout, [], []⟩
def d__law_cut : He.DefD := ⟨("_law_cut", none), "_law_cut", "_law_cut", defArgs s__law_cut, defBody s__law_cut, defScope s__law_cut, [], []⟩
def d__law_touch : He.DefD := ⟨("_law_touch", none), "_law_touch", "_law_touch", defArgs s__law_touch, defBody s__law_touch, defScope s__law_touch, [], []⟩
def d__law_right : He.DefD := ⟨("_law_right", none), "_law_right", "_law_right", defArgs s__law_right, defBody s__law_right, defScope s__law_right, [], []⟩
def d_law : He.DefD := ⟨("law", none), "law", "law", defArgs s_law, defBody s_law, defScope s_law, [], []⟩
def fn : List He.DefD := [d_is_layout, d_touching_pairs, d_check_layout, d_is_list_of_items, d_is_pane, d_tiles_desk, d_find_bad_item, d_overlap, d_find_desk, d_find_all_sides, d_find_sides, d_join_stretches, d_find_touching, d_find_pairs_at, d__law_jar, d__law_dip, d__law_crossed, d__law_pushed, d__law_border, d__law_grown, d__law_shaken, d__law_named, d__law_split, d__law_layout, d__law_cut, d__law_touch, d__law_right, d_law]
def fa0 : List He.Fa := [.glo "is_layout", .glo "touching_pairs", .glo "check_layout", .glo "is_list_of_items", .glo "is_pane", .glo "tiles_desk", .glo "find_bad_item", .glo "overlap", .glo "find_desk", .glo "find_all_sides", .glo "find_sides", .glo "join_stretches", .glo "find_touching", .glo "find_pairs_at", .glo "_law_jar", .glo "_law_dip", .glo "_law_crossed", .glo "_law_pushed", .glo "_law_border", .glo "_law_grown", .glo "_law_shaken", .glo "_law_named", .glo "_law_split", .glo "_law_layout", .glo "_law_cut"]
def fa1 : List He.Fa := [.glo "_law_touch", .glo "_law_right", .glo "law", .free "len", .free "list", .free "tuple", .free "range", .free "enumerate", .free "abs", .free "int", .free "sum", .free "zip", .free "max", .free "min", .free "sorted", .free "type", .free "all", .free "isinstance", .free "bool", .free "str", .free "set", .free "repr", .int "MOST_PANES" 60]
def fa : List He.Fa := fa0 ++ fa1
def ex (K : PySem.W.Frag) : Bool := true
def tf : List He.Defn := []
def lo0 : List Str := ["PaneError", "InvalidLayout", "MOST_PANES", "is_layout", "touching_pairs", "check_layout", "is_list_of_items", "is_pane", "tiles_desk", "find_bad_item", "overlap", "find_desk", "find_all_sides", "find_sides", "join_stretches", "find_touching", "find_pairs_at", "_law_jar", "_law_dip", "_law_crossed", "_law_pushed", "_law_border", "_law_grown", "_law_shaken", "_law_named"]
def lo1 : List Str := ["_law_split", "_law_layout", "_law_cut", "_law_touch", "_law_right"]
def loose : List Str := lo0 ++ lo1
abbrev R : PySem.W.OpenRow := PySem.W.OpenLaw.row PySem.Challenge.rw_paneplans_k03_panes_that_touch
abbrev vw : Program := PySem.W.view R.prog [33]
abbrev hk : PySem.W.Hook := He.hookX 5 fa fn [] tf ex
def ob (s : PySem.W.SharedT) : He.AlX := He.obsX 5 fa fn [] tf ex (HandSHeadRun.getT s)
theorem ob_eq (s : PySem.W.SharedT) : ob s = hk.obs s.abs := He.obsX_eq (HandSHeadRun.getT_eq s)
theorem run (w : World) : HandSHeadRun.RunEqI R vw hk ob 6000 loose w := by
  unfold HandSHeadRun.RunEqI
  kernel_rfl
end HdZ
set_option Elab.async false
set_option linter.all false
set_option maxRecDepth 100000
set_option maxHeartbeats 4000000
/-! # pairs of numbers, sorted -/
namespace Rel
open PySem L2 Evl
def PrV (p : Int × Int) : HO := .tup [.int p.1, .int p.2]
def LeP (x y : Int × Int) : Prop := x.1 < y.1 ∨ (x.1 = y.1 ∧ x.2 ≤ y.2)
abbrev PrR (H : Hp) : List V → List (Int × Int) → Prop := Paired fun v p => ∃ a, v = .ref a ∧ H a = some (PrV p)
/-- a list at l of tuples of these pairs -/
def Pairs (H : Hp) (l : Addr) (ps : List (Int × Int)) : Prop := ∃ ys, H l = some (.lst ys) ∧ PrR H ys ps
theorem PrR.ex {H H' : Hp} (e : Ex H H') : ∀ {ys : List V} {ps : List (Int × Int)}, PrR H ys ps → PrR H' ys ps
  | _, _, .nil => .nil
  | _, _, .cons ⟨a, h1, h2⟩ t => .cons ⟨a, h1, e _ _ h2⟩ (PrR.ex e t)
theorem Pairs.ex {H H' : Hp} {l : Addr} {ps : List (Int × Int)} (h : Pairs H l ps) (e : Ex H H') : Pairs H' l ps := by
  obtain ⟨ys, h1, h2⟩ := h
  exact ⟨ys, e _ _ h1, h2.ex e⟩
/-- the numbers of a tuple of two -/
def pk (H : Hp) (v : V) : Int × Int := match v with
  | .ref a => (match H a with
    | some (.tup [.int i, .int j]) => (i, j)
    | _ => (0, 0))
  | _ => (0, 0)
theorem pk_of {H : Hp} {a : Addr} {p : Int × Int} (h : H a = some (PrV p)) : pk H (.ref a) = p := by
  simp only [pk, h, PrV]
theorem PrR.map {H : Hp} : ∀ {ys : List V} {ps : List (Int × Int)}, PrR H ys ps → ys.map (pk H) = ps
  | _, _, .nil => rfl
  | _, _, .cons ⟨a, h1, h2⟩ t => by
    rw [List.map_cons, PrR.map t, h1, pk_of h2]
theorem PrR.all {H : Hp} : ∀ {ys : List V} {ps : List (Int × Int)}, PrR H ys ps → ∀ y ∈ ys, ∃ a, y = .ref a ∧ H a = some (PrV (pk H y))
  | _, _, .nil, y, hy => by simp at hy
  | _, _, .cons ⟨a, h1, h2⟩ t, y, hy => by
    rcases List.mem_cons.mp hy with e | hy
    · subst e
      exact ⟨a, h1, by rw [h1, pk_of h2]; exact h2⟩
    · exact PrR.all t y hy
theorem PrR.mk {H : Hp} : ∀ {ys : List V}, (∀ y ∈ ys, ∃ a, y = .ref a ∧ H a = some (PrV (pk H y))) → PrR H ys (ys.map (pk H))
  | [], _ => .nil
  | y :: r, h => .cons (h y List.mem_cons_self) (PrR.mk fun z hz => h z (List.mem_cons_of_mem _ hz))
theorem PrR.drop {H : Hp} : ∀ {ys : List V} {ps : List (Int × Int)} (n : Nat), PrR H ys ps → PrR H (ys.drop n) (ps.drop n)
  | _, _, 0, h => h
  | _, _, _ + 1, .nil => .nil
  | _, _, n + 1, .cons _ t => PrR.drop n t
theorem PrR.at {H : Hp} : ∀ {ys : List V} {ps : List (Int × Int)} {i : Nat} {z : Int × Int} {x : V}, PrR H ys ps → ps[i]? = some z → ys[i]? = some x → ∃ b, x = .ref b ∧ H b = some (PrV z)
  | _, _, _, _, _, .nil, h, _ => by simp at h
  | _, _, 0, _, _, .cons hb _, h, k => by
    simp at h k
    subst h k
    exact hb
  | _, _, i + 1, _, _, .cons _ t, h, k => PrR.at (i := i) t (by simpa using h) (by simpa using k)
theorem PrR.len {H : Hp} {ys : List V} {ps : List (Int × Int)} (h : PrR H ys ps) : ys.length = ps.length := pr_len h
theorem PrR.of {α : Type} {H : Hp} {g : α → Int × Int} : ∀ {ys : List V} {zs : List α}, Paired (fun y z => ∃ p, y = .ref p ∧ H p = some (PrV (g z))) ys zs → PrR H ys (zs.map g)
  | _, _, .nil => .nil
  | _, _, .cons h t => .cons h (PrR.of t)
section
variable {K : PySem.W.Frag} {σ : L2.St} {H : Hp} {te : TE}
/-- what makes a new list of new pairs -/
def EvP (te : TE) (σ : L2.St) (H : Hp) (ps : List (Int × Int)) : Prop := ∀ H1, Ex H H1 → ∀ Q : VK, (∀ p H2, H1 p = none → Ex H1 H2 → Pairs H2 p ps → Q (.ref p) H2) → te σ H1 Q
/-- sorted of it -/
theorem ep_sorted {ps : List (Int × Int)} (h : EvP te σ H ps) : ∀ H1, Ex H H1 → ∀ Q : VK, (∀ p qs H2, H1 p = none → Ex H1 H2 → Pairs H2 p qs → qs.Perm ps → qs.Pairwise LeP → Q (.ref p) H2) → tCB (rSortedPO K) (tCons te tNil) σ H1 Q := fun H1 e Q q =>
  h H1 e _ fun a H2 na e2 hp => by
    obtain ⟨ys, h1, h2⟩ := hp
    refine ⟨a, ys, pk H2, rfl, SqL.of h1, fun y hy => ?_, fun zs p hs hb np => ?_⟩
    · obtain ⟨t, ht, hv⟩ := h2.all y hy
      exact ⟨t, ht, hv⟩
    · have hz : PrR H2 zs (zs.map (pk H2)) := PrR.mk fun y hy => h2.all y (hb.perm.mem_iff.mp hy)
      refine q p (zs.map (pk H2)) _ (fresh_back e2 np) (e2.trans (Ex.new np)) ⟨zs, upd_same, hz.ex (Ex.new np)⟩ ?_ ?_
      · rw [← h2.map]
        exact hb.perm.map _
      · rw [List.pairwise_map]
        refine hs.imp fun {x y} hxy => ?_
        have z := SrtO.lexB_no.mp hxy
        unfold LeP
        omega
theorem q_sortedP {ps : List (Int × Int)} {i : Nat} {D : Ends} {tz : TS} (h : EvP te σ H ps) (k : ∀ p qs H1, H p = none → Ex H H1 → Pairs H1 p qs → qs.Perm ps → qs.Pairwise LeP → tz D (σ.set i (some (.ref p))) H1) :
    tSeq (tAsg (tCB (rSortedPO K) (tCons te tNil)) (gName i)) tz D σ H := ep_sorted h H (Ex.refl H) _ fun p qs H1 np e hp h1 h2 => k p qs H1 np e hp h1 h2
/-- [e for a, b in a list of pairs], the items made values -/
theorem el_lcPr {tl : TE} {a : Addr} {ps : List (Int × Int)} {g : Int × Int → V} {j l : Nat} {vs : List Nat} (h : Ev tl σ H (.ref a)) (hp : Pairs H a ps) (hz : ps.length ≤ 40000) (hw : ∀ x y, wipe (((wipe σ vs).set j (some x)).set l (some y)) vs = wipe σ vs)
    (he : ∀ p ∈ ps, ∀ H1, Ex H H1 → Ev te (((wipe σ vs).set j (some (.int p.1))).set l (some (.int p.2))) H1 (g p)) (hg : ∀ p q, g p ≠ .ref q) : EvL (tLc (iList K tl) (gTup K 2 (gCons (gName j) (gCons (gName l) gNil))) tYes te vs) σ H (ps.map g) := fun H0 e Q q => by
  obtain ⟨ys, h1, h2⟩ := hp
  refine h H0 e _ fun H1 e1 => ⟨a, rfl, ⟨ys, SqL.of (e1 _ _ (e _ _ h1))⟩, fun D nD => ?_⟩
  have hall : (ps.filter fun _ => true) = ps := List.filter_eq_self.mpr fun _ _ => rfl
  refine lc_rel (H := H1) (zs := ps) (walk_list (K := K) (a := a) (xs := ys)) h2.len (fun H2 e2 => SqL.of (e2 _ _ (e1 _ _ (e _ _ h1)))) (fun _ => true) (fun (z : Int × Int) v (_ : Hp) => v = g z) (mono_val g) hz (fun i z x H2 H3 hzi hH hy => ?_) nD fun zs' H' e2 hD hr => q D H' (fresh_back e1 nD) (e1.trans e2) (by
    rw [hD, pr_val (H := H') hr, hall])
  obtain ⟨rfl, hy⟩ := hy
  have hm := List.mem_of_getElem? hzi
  -- the tuple at this place
  have hx := PrR.at (h2.ex ((e.trans e1).trans hH)) hzi hy
  obtain ⟨b, rfl, hb⟩ := hx
  exact ⟨Ex.refl _, fun Q' k => ⟨b, [_, _], rfl, .inl (.inl hb), rfl, _, _, rfl, _, _, rfl, rfl, k _ (hw _ _) (fun H4 e4 Q q => q H4 (Ex.refl _)) fun _ => en_val (he z hm H1 (e.trans e1)) (fun p hp => absurd hp (hg z p)) fun _ _ => rfl⟩⟩
/-- a, b = [..], [..] -/
theorem q_parL {t1 t2 : TE} {xs ys : List V} {i j : Nat} {D : Ends} {tz : TS} (h1 : EvL t1 σ H xs) (h2 : EvL t2 σ H ys)
    (k : ∀ p q H2, H p = none → H q = none → p ≠ q → Ex H H2 → H2 p = some (.lst xs) → H2 q = some (.lst ys) → tz D ((σ.set i (some (.ref p))).set j (some (.ref q))) H2) : tSeq (tPar i j (tCons t1 (tCons t2 tNil))) tz D σ H :=
  h1 H (Ex.refl H) _ fun p H1 np e1 hp => h2 H1 e1 _ fun q H2 nq e2 hq => ⟨_, _, rfl, k p q H2 np (fresh_back e1 nq) (fun z => by
    rw [← z, hp] at nq
    cases nq) (e1.trans e2) (e2 _ _ hp) hq⟩
end
end Rel
set_option Elab.async false
set_option linter.all false
set_option maxRecDepth 100000
set_option maxHeartbeats 4000000
/-! # sorted(a list of tuples of m + 1 whole numbers), any length -/
namespace SoT
open PySem PySem.Spec PyProof.Rows SrtO
/-- v is a tuple of the numbers ns -/
def IsTup (h : Heap) (v : Value) (ns : List Int) : Prop := ∃ a o items n, v = .ref a ∧ h.get? a = some o ∧ o.cls = .type "tuple" ∧ o.data = .seq items n ∧ IntsAre items.toList ns
theorem IsTup.keeps {h h' : Heap} {v : Value} {ns : List Int} (p : IsTup h v ns) (k : ∀ b o, h.get? b = some o → o.cls = .type "tuple" → h'.get? b = some o) : IsTup h' v ns := by
  obtain ⟨a, o, its, n, e, ho, hc, hd⟩ := p
  exact ⟨a, o, its, n, e, k _ _ ho hc, hc, hd⟩
section
variable {prog : Program} {w : World} {A : Around} {E : Value → Shared → Prop} {s : Shared}
theorem lex_run {Q : Bool → Shared → Prop} : ∀ (vs ws : List Value) (ns ms : List Int) (i : Nat), IntsAre vs ns → IntsAre ws ms → vs.length = ws.length → Q (HT.lexLt ns ms) s → PySem.W.KatLex prog w A true false Q (vs.zip ws) i s
  | [], [], _, _, i, .nil, .nil, _, q => PySem.W.kat_nil (by rw [HT.lexLt_nil_nil] at q; exact q)
  | [], _ :: _, _, _, _, _, _, h, _ => by cases h
  | _ :: _, [], _, _, _, _, _, h, _ => by cases h
  | _ :: vs, _ :: ws, _, _, i, .cons x t hv, .cons y u hw, h, q => by
    show PySem.W.KatLex prog w A true false Q ((.int x t, .int y u) :: vs.zip ws) i s
    rw [HT.lexLt_cons] at q
    refine PySem.W.kat_cons (SeqAt.EqAt.int_int x t y u prog w _ _ ?_)
    refine PySem.W.kat_go (fun e1 => ?_) (fun e1 => ?_)
    · have ex : x = y := by simpa using e1
      rw [if_pos ex] at q
      exact PySem.W.kat_yes (lex_run vs ws _ _ (i + 1) hv hw (Nat.succ.inj h) q)
    · have ex : ¬ x = y := by simpa using e1
      rw [if_neg ex] at q
      cases i with
      | zero => exact PySem.W.kat_no (oneLt_int q)
      | succ j => exact PySem.W.kat_no (PySem.W.kat_one _ _ (PyProof.Rows.lt_int q))
theorem tup_cmp {m : Nat} {vs : List Value} {k : Value → List Int} (hp : ∀ v ∈ vs, IsTup s.heap v (k v) ∧ (k v).length = m) : Cmp prog w A s (tuples' true) (fun p => p.1 ∈ vs) (lt2 fun v u => HT.lexLt (k v) (k u)) := by
  intro p q hm hm'
  obtain ⟨⟨a, o, its, n, e, ho, hc, hd, hi⟩, l1⟩ := hp _ hm
  obtain ⟨⟨a', o', its', n', e', ho', hc', hd', hi'⟩, l2⟩ := hp _ hm'
  show wpAny (model prog w) A (keyLt' (tuples' true) p.1 q.1) (fun r s' => s' = s ∧ r = HT.lexLt (k p.1) (k q.1)) (fun _ _ => False) s
  have z1 : its.size = m := by rw [← l1, ← hi.length]; simp
  have z2 : its'.size = m := by rw [← l2, ← hi'.length]; simp
  revert hi hi'
  generalize k p.1 = ns
  generalize k q.1 = ms
  intro hi hi'
  rw [e, e']
  refine PySem.W.kat_lt ho hd ho' hd' ?_
  have ef : decide (its.size < its'.size) = false := decide_eq_false (by omega)
  rw [ef]
  exact lex_run _ _ _ _ 0 hi hi' (by simp only [Array.length_toList]; omega) ⟨rfl, rfl⟩
theorem firsts {h : Heap} {m : Nat} {k : Value → List Int} : ∀ {vs : List Value}, (∀ v ∈ vs, IsTup h v (k v) ∧ (k v).length = m + 1) → ∃ fs : List Value, PySem.W.KatTups h vs fs ∧ fs.length = vs.length ∧ ∀ f ∈ fs, ∃ x t, f = Value.int x t
  | [], _ => ⟨[], PySem.W.KatTups.nil, rfl, fun _ hm => by simp at hm⟩
  | v :: vs, hp => by
    obtain ⟨fs, h1, h2, h3⟩ := firsts (vs := vs) fun v' hm => hp v' (List.mem_cons_of_mem _ hm)
    obtain ⟨⟨a, o, its, n, e, ho, hc, hd, hi⟩, l1⟩ := hp v (List.mem_cons_self ..)
    subst e
    obtain ⟨l⟩ := its
    revert hi l1
    generalize k (Value.ref a) = ks
    intro l1 hi
    cases hi with
    | nil => cases l1
    | cons x t hr =>
      refine ⟨.int x t :: fs, PySem.W.KatTups.cons ho hc hd rfl h1, by rw [List.length_cons, List.length_cons, h2], fun f hm => ?_⟩
      rcases List.mem_cons.mp hm with rfl | hm
      · exact ⟨x, t, rfl⟩
      · exact h3 f hm
theorem tup_sortable {m : Nat} {a : Addr} {vs : List Value} {k : Value → List Int} (h0 : 0 < vs.length) (hp : ∀ v ∈ vs, IsTup s.heap v (k v) ∧ (k v).length = m + 1) (ha : ∀ o, s.heap.get? a = some o → o.cls ≠ .type "tuple") : SortableO prog w A s a vs fun v u => HT.lexLt (k v) (k u) := by
  intro h' keep
  have hp' : ∀ v ∈ vs, IsTup h' v (k v) ∧ (k v).length = m + 1 := fun v hm => ⟨(hp v hm).1.keeps fun b o e c => keep b o (fun z => by subst z; exact ha o e c) e, (hp v hm).2⟩
  obtain ⟨fs, h1, h2, h3⟩ := firsts hp'
  refine ⟨tuples' true, fun Q E hq => ?_, tup_cmp hp'⟩
  refine PySem.W.kat_kind (T := .type "int") h1 (by omega) (fun f hm => ?_) (by rfl) ?_
  · obtain ⟨x, t, rfl⟩ := h3 f hm
    exact PySem.W.Looks.now
  · have e : (Value.type "int" != Value.type "tuple") = true := by first | decide +kernel | rfl | decide
    rw [e]
    exact hq
theorem sorted_tups {m : Nat} {l : Addr} {vs : List Value} {k : Value → List Int} {Q : Value → Shared → Prop} (hl : s.heap.IsList l vs.toArray) (hz : vs.length ≤ sizeLine) (hp : ∀ v ∈ vs, IsTup s.heap v (k v) ∧ (k v).length = m + 1)
    (h : ∀ (h' : Heap) (d : Addr) (out : List Value), Srtd (fun v u => HT.lexLt (k v) (k u)) out → Stb (fun v u => HT.lexLt (k v) (k u)) out vs → (∀ b o, s.heap.get? b = some o → h'.get? b = some o) → s.heap.objs.size ≤ d → (∃ n, h'.get? d = some (seqObj "list" out.toArray n)) → Q (.ref d) { s with heap := h' }) :
    wpAny (model prog w) A (call (.builtin "sorted") [.ref l]) Q E s := by
  refine sorted_ord (NtL.swo_lexL k) hl hz (fun h2 h₁ a ha kk => ?_) fun out hs hb => ?_
  · refine tup_sortable (s := { s with heap := h₁ }) (by omega) (fun v hm => ⟨(hp v hm).1.keeps fun b o e _ => (kk b o e).2, (hp v hm).2⟩) fun o e => ?_
    have e' : some o = some (seqObj "list" vs.toArray 0) := e.symm.trans ha
    cases e'
    intro c
    exact absurd (Value.type.inj c) (by decide)
  · exact h _ _ out hs hb (fun b o e => sortedAll_old e) (Nat.le_succ _) (sortedAll_at s.heap vs out.toArray)
end
end SoT
namespace SoT
open PySem PySem.Spec PyProof.Rows L2
/-- x before y, by their numbers -/
abbrev ltL (k : V → List Int) (x y : V) : Bool := HT.lexLt (k x) (k y)
theorem ltL_swo (k : V → List Int) : SrtO.Swo (ltL k) := NtL.swo_lexL k
def rSortedT (K : PySem.W.Frag) (m : Nat) : List V → Hp → VK → Prop := fun vs H Q => ∃ (a : Addr) (xs : List V) (k : V → List Int), vs = [V.ref a] ∧ SqL K H a xs ∧ (∀ x ∈ xs, (∃ t, x = V.ref t ∧ H t = some (.tup ((k x).map V.int))) ∧ (k x).length = m + 1) ∧
  ∀ ys p, SrtO.Srtd (ltL k) ys → SrtO.Stb (ltL k) ys xs → H p = none → Q (.ref p) (upd H p (.lst ys))
theorem cr_sortedT {X : Cx} {m : Nat} : CallR X (.builtin "sorted") (rSortedT X.K m) := by
  intro pins s σ H vs us Q I r h
  obtain ⟨a, xs, k, rfl, hs, hx, q⟩ := h
  obtain ⟨its, rv, hl, hz⟩ := I.list hs
  obtain ⟨u, rfl, ru⟩ := vals1 r
  obtain rfl : u = Value.ref a := ru
  obtain ⟨e1, e2⟩ := refs_back rv fun x hm => by
    obtain ⟨⟨t, e, _⟩, _⟩ := hx x hm
    exact ⟨t, e⟩
  refine sorted_tups (m := m) (k := fun u => k (backV u)) hl.isList (by rw [← rv.length]; exact hz) (fun v hv => ?_) fun h' d out h1 h2 kp hd hn => ?_
  · obtain ⟨t, rfl⟩ := e2 v hv
    have hm : V.ref t ∈ xs := by rw [e1]; exact List.mem_map.mpr ⟨_, hv, rfl⟩
    obtain ⟨⟨t', e, ht⟩, hk⟩ := hx _ hm
    cases e
    obtain ⟨_, its2, r2, o, ho, hc, n, hd⟩ := I.hok _ _ ht
    exact ⟨⟨t, o, its2.toArray, n, rfl, ho, hc, hd, intsAre_of r2⟩, hk⟩
  · have h3 : ∀ u ∈ out, ∃ a, u = Value.ref a := fun u hu => e2 u (h2.perm.mem_iff.mp hu)
    obtain ⟨n, hn⟩ := hn
    have hb : SrtO.Stb (ltL k) (out.map backV) xs := by
      rw [e1]
      exact SrtO.Stb.map (ltL_swo k) backV h2
    refine ⟨.ref d, upd H d (.lst (out.map backV)), I.laid (t' := s.toks) kp hd ⟨?_, out, n, vals_back h3, hn⟩, rfl, q _ d (SrtO.srtd_map h1) hb (I.hok.fresh hd)⟩
    rw [hb.len]
    exact hz
end SoT
set_option Elab.async false
set_option linter.all false
set_option maxRecDepth 100000
set_option maxHeartbeats 4000000
/-! # lists of objects of which a relation holds: walked, made, asked -/
namespace Rel
open PySem L2 Evl
/-- R stays where the heap only grows -/
abbrev MonoE {α : Type} (R : α → V → Hp → Prop) : Prop := ∀ z v H H', Ex H H' → R z v H → R z v H'
/-- a list at l, R of each item -/
def RL {α : Type} (R : α → V → Hp → Prop) (H : Hp) (l : Addr) (zs : List α) : Prop := ∃ ys, H l = some (.lst ys) ∧ Paired (fun y z => R z y H) ys zs
def tupI (r : List Int) (v : V) (H : Hp) : Prop := ∃ p, v = .ref p ∧ H p = some (.tup (r.map V.int))
def lstI (r : List Int) (v : V) (H : Hp) : Prop := ∃ p, v = .ref p ∧ H p = some (.lst (r.map V.int))
theorem tupI_e : MonoE tupI := fun _ _ _ _ e ⟨p, h1, h2⟩ => ⟨p, h1, e _ _ h2⟩
theorem lstI_e : MonoE lstI := fun _ _ _ _ e ⟨p, h1, h2⟩ => ⟨p, h1, e _ _ h2⟩
theorem tupI_m : Mono tupI := fun z v H H' D n k ⟨p, h1, h2⟩ => ⟨p, h1, k p _ (fun e => n (by rw [h1, e])) h2⟩
theorem lstI_m : Mono lstI := fun z v H H' D n k ⟨p, h1, h2⟩ => ⟨p, h1, k p _ (fun e => n (by rw [h1, e])) h2⟩
theorem pr_e {α : Type} {R : α → V → Hp → Prop} (m : MonoE R) {H H' : Hp} (e : Ex H H') : ∀ {ys : List V} {zs : List α}, Paired (fun y z => R z y H) ys zs → Paired (fun y z => R z y H') ys zs
  | _, _, .nil => .nil
  | _, _, .cons h t => .cons (m _ _ _ _ e h) (pr_e m e t)
theorem pr_map {α β : Type} {R : α → V → Hp → Prop} {S : β → V → Hp → Prop} {g : α → β} {H : Hp} (k : ∀ z y, R z y H → S (g z) y H) : ∀ {ys : List V} {zs : List α}, Paired (fun y z => R z y H) ys zs → Paired (fun y z => S z y H) ys (zs.map g)
  | _, _, .nil => .nil
  | _, _, .cons h t => .cons (k _ _ h) (pr_map k t)
theorem pr_at {α : Type} {R : α → V → Hp → Prop} {H : Hp} : ∀ {ys : List V} {zs : List α}, Paired (fun y z => R z y H) ys zs → ∀ {i : Nat} {z : α}, zs[i]? = some z → ∃ y, ys[i]? = some y ∧ R z y H
  | _, _, .nil, i, z, h => by simp at h
  | _, _, .cons h t, 0, z, q => by
    obtain rfl := Option.some.inj q
    exact ⟨_, rfl, h⟩
  | _, _, .cons h t, i + 1, z, q => pr_at t (i := i) q
theorem pr_at' {α : Type} {R : α → V → Hp → Prop} {H : Hp} : ∀ {ys : List V} {zs : List α}, Paired (fun y z => R z y H) ys zs → ∀ {i : Nat} {y : V}, ys[i]? = some y → ∃ z, zs[i]? = some z ∧ R z y H
  | _, _, .nil, i, z, h => by simp at h
  | _, _, .cons h t, 0, z, q => by
    obtain rfl := Option.some.inj q
    exact ⟨_, rfl, h⟩
  | _, _, .cons h t, i + 1, z, q => pr_at' t (i := i) q
theorem RL.ex {α : Type} {R : α → V → Hp → Prop} (m : MonoE R) {H H' : Hp} {l : Addr} {zs : List α} (h : RL R H l zs) (e : Ex H H') : RL R H' l zs := by
  obtain ⟨ys, h1, h2⟩ := h
  exact ⟨ys, e _ _ h1, pr_e m e h2⟩
theorem RL.map {α β : Type} {R : α → V → Hp → Prop} {S : β → V → Hp → Prop} {g : α → β} {H : Hp} {l : Addr} {zs : List α} (k : ∀ z y, R z y H → S (g z) y H) (h : RL R H l zs) : RL S H l (zs.map g) := by
  obtain ⟨ys, h1, h2⟩ := h
  exact ⟨ys, h1, pr_map k h2⟩
theorem RL.of_map {α β : Type} {R : α → V → Hp → Prop} {S : β → V → Hp → Prop} {g : α → β} {H : Hp} {l : Addr} {zs : List α} (h : RL S H l (zs.map g)) (k : ∀ z y, S (g z) y H → R z y H) : RL R H l zs := by
  obtain ⟨ys, h1, h2⟩ := h
  refine ⟨ys, h1, ?_⟩
  clear h1
  induction zs generalizing ys with
  | nil => cases h2; exact .nil
  | cons z zs ih =>
    cases h2 with
    | cons h t => exact .cons (k _ _ h) (ih _ t)
/-- te makes a new list of which R holds item by item -/
def EvRL {α : Type} (te : TE) (σ : L2.St) (H : Hp) (R : α → V → Hp → Prop) (zs : List α) : Prop := ∀ H1, Ex H H1 → ∀ Q : VK, (∀ p H2, H1 p = none → Ex H1 H2 → RL R H2 p zs → Q (.ref p) H2) → te σ H1 Q
section
variable {α β : Type} {K : PySem.W.Frag} {σ : L2.St} {H H' : Hp} {te tb tl : TE} {ta : TA} {t : TT} {v : V} {D : Ends} {tz : TS}
theorem EvRL.mono {R : α → V → Hp → Prop} {zs : List α} (e : Ex H H') (h : EvRL te σ H R zs) : EvRL te σ H' R zs := fun H1 a Q q => h H1 (e.trans a) Q q
theorem EvN.monoE {R : V → Hp → Prop} (e : Ex H H') (h : EvN te σ H R) (hH : ∀ p, H p ≠ none → H' p ≠ none) : EvN te σ H' R := fun H1 a Q q => h H1 (e.trans a) Q fun v H2 e2 hv hr => q v H2 e2 (fun p hp => (hv p hp).imp id (hH p)) hr
theorem ex_ne {p : Addr} (e : Ex H H') (h : H p ≠ none) : H' p ≠ none := fun n => by
  cases q : H p with
  | none => exact h q
  | some u =>
    rw [e _ _ q] at n
    cases n
/-- a comprehension over a list of objects; the object stands in slot j -/
theorem er_lcRL {R : α → V → Hp → Prop} (mR : MonoE R) {S : α → V → Hp → Prop} (mS : Mono S) {zs : List α} {a : Addr} {j : Nat} {vs : List Nat} (f : α → Bool) (h : Ev tl σ H (.ref a)) (hx : RL R H a zs) (hz : zs.length ≤ 40000) (hw : ∀ x, wipe ((wipe σ vs).set j (some x)) vs = wipe σ vs)
    (ht : ∀ z ∈ zs, ∀ y H1, Ex H H1 → R z y H1 → EvT t ((wipe σ vs).set j (some y)) H1 (f z)) (he : ∀ z ∈ zs, ∀ y H1, Ex H H1 → R z y H1 → f z = true → EvN te ((wipe σ vs).set j (some y)) H1 (S z)) :
    EvRL (tLc (iList K tl) (gName j) t te vs) σ H S (zs.filter f) := by
  obtain ⟨ys, hl, hp⟩ := hx
  intro H1 e Q q
  refine h H1 e _ fun H2 e1 => ⟨a, rfl, ⟨ys, sq_of ((e.trans e1) _ _ hl)⟩, fun Dl hD => ?_⟩
  refine lc_rel (H := H2) (walk_list (K := K) (a := a) (xs := ys)) (pr_len hp) (fun H3 e2 => sq_of (((e.trans e1).trans e2) _ _ hl)) f S mS hz (fun i z x H3 H4 hzi hH hy => ?_) hD fun us H3 e2 h3 hq => q Dl H3 (fresh_back e1 hD) (e1.trans e2) ⟨us, h3, hq⟩
  obtain ⟨rfl, hy⟩ := hy
  obtain ⟨y, hy2, hr⟩ := pr_at hp hzi
  obtain rfl : y = x := Option.some.inj (hy2.symm.trans hy)
  have hm := List.mem_of_getElem? hzi
  refine ⟨Ex.refl _, fun Q' k => k _ (hw _) (ht z hm y H2 (e.trans e1) (mR _ _ _ _ (e.trans e1) hr)) fun hf => ?_⟩
  exact he z hm y H2 (e.trans e1) (mR _ _ _ _ (e.trans e1) hr) hf
/-- .. over a range; the number stands in slot j -/
theorem er_lcRg {S : Int → V → Hp → Prop} (mS : Mono S) {lo hi : Int} {j : Nat} {vs : List Nat} (f : Int → Bool) (h : EvA ta σ H [.int lo, .int hi]) (hb : -100000 ≤ lo ∧ lo ≤ 100000 ∧ -100000 ≤ hi ∧ hi ≤ 100000 ∧ hi - lo ≤ 40000) (hw : ∀ x, wipe ((wipe σ vs).set j (some x)) vs = wipe σ vs)
    (ht : ∀ i : Int, lo ≤ i → i < hi → ∀ H1, Ex H H1 → EvT t ((wipe σ vs).set j (some (.int i))) H1 (f i)) (he : ∀ i : Int, lo ≤ i → i < hi → ∀ H1, Ex H H1 → f i = true → EvN te ((wipe σ vs).set j (some (.int i))) H1 (S i)) :
    EvRL (tLc (iRng2 ta) (gName j) t te vs) σ H S (((List.range (hi - lo).toNat).map fun i : Nat => lo + (i : Int)).filter f) := by
  intro H1 e Q q
  refine h H1 e _ fun H2 e1 => ⟨lo, hi, rfl, by omega, fun Dl hD => ?_⟩
  refine lc_rel (H := H2) (walk_range (lo := lo) (n := (hi - lo).toNat)) (by simp) (fun H3 e2 => trivial) f S mS (by simp; omega) (fun i z x H3 H4 hzi hH hy => ?_) hD fun us H3 e2 h3 hq => q Dl H3 (fresh_back e1 hD) (e1.trans e2) ⟨us, h3, hq⟩
  obtain ⟨rfl, rfl⟩ := hy
  have hzi2 : z = lo + (i : Int) ∧ i < (hi - lo).toNat := by
    rw [List.getElem?_map] at hzi
    cases c : (List.range (hi - lo).toNat)[i]? with
    | none => rw [c] at hzi; cases hzi
    | some u =>
      rw [c] at hzi
      obtain ⟨h1, h2⟩ := List.getElem?_eq_some_iff.mp c
      rw [List.getElem_range] at h2
      rw [List.length_range] at h1
      subst h2
      exact ⟨(Option.some.inj hzi).symm, h1⟩
  obtain ⟨rfl, hi2⟩ := hzi2
  exact ⟨Ex.refl _, fun Q' k => k _ (hw _) (ht _ (by omega) (by omega) H2 (e.trans e1)) fun hf => he _ (by omega) (by omega) H2 (e.trans e1) hf⟩
theorem er_lcRg1 {S : Int → V → Hp → Prop} (mS : Mono S) {hi : Int} {j : Nat} {vs : List Nat} (f : Int → Bool) (h : EvA ta σ H [.int hi]) (hb : -100000 ≤ hi ∧ hi ≤ 40000) (hw : ∀ x, wipe ((wipe σ vs).set j (some x)) vs = wipe σ vs)
    (ht : ∀ i : Int, 0 ≤ i → i < hi → ∀ H1, Ex H H1 → EvT t ((wipe σ vs).set j (some (.int i))) H1 (f i)) (he : ∀ i : Int, 0 ≤ i → i < hi → ∀ H1, Ex H H1 → f i = true → EvN te ((wipe σ vs).set j (some (.int i))) H1 (S i)) :
    EvRL (tLc (iRng1 ta) (gName j) t te vs) σ H S (((List.range hi.toNat).map fun i : Nat => (i : Int)).filter f) := by
  intro H1 e Q q
  refine h H1 e _ fun H2 e1 => ⟨hi, rfl, by omega, by omega, fun Dl hD => ?_⟩
  refine lc_rel (H := H2) (walk_range (lo := 0) (n := hi.toNat)) (by simp) (fun H3 e2 => trivial) f S mS (by simp; omega) (fun i z x H3 H4 hzi hH hy => ?_) hD fun us H3 e2 h3 hq => q Dl H3 (fresh_back e1 hD) (e1.trans e2) ⟨us, h3, hq⟩
  obtain ⟨rfl, rfl⟩ := hy
  have hzi2 : z = 0 + (i : Int) ∧ i < hi.toNat := by
    rw [List.getElem?_map] at hzi
    cases c : (List.range hi.toNat)[i]? with
    | none => rw [c] at hzi; cases hzi
    | some u =>
      rw [c] at hzi
      obtain ⟨h1, h2⟩ := List.getElem?_eq_some_iff.mp c
      rw [List.getElem_range] at h2
      rw [List.length_range] at h1
      subst h2
      exact ⟨(Option.some.inj hzi).symm.trans (Int.zero_add _).symm, h1⟩
  obtain ⟨rfl, hi2⟩ := hzi2
  exact ⟨Ex.refl _, fun Q' k => k _ (hw _) (ht _ (by omega) (by omega) H2 (e.trans e1)) fun hf => he _ (by omega) (by omega) H2 (e.trans e1) hf⟩
/-- a list of values, as a list made -/
theorem el_ofRL {g : α → V} {zs : List α} (h : EvRL te σ H (fun z v _ => v = g z) zs) : EvL te σ H (zs.map g) := fun H1 e Q q => h H1 e Q fun p H2 np e2 ⟨ys, h1, h2⟩ => q p H2 np e2 (by rw [h1, pr_val (H := H2) h2])
theorem val_m (g : α → V) : Mono fun (z : α) v (_ : Hp) => v = g z := mono_val g
theorem en_int {i : Int} (h : Ev te σ H (.int i)) : EvN te σ H (fun v _ => v = .int i) := en_val h (fun p hp => by cases hp) fun _ _ => rfl
theorem en_tupI {ns : List Int} (h : EvA ta σ H (ns.map V.int)) (hl : ns.length ≤ 1000) : EvN (tTup ta) σ H (tupI ns) := en_tup h (by rw [List.length_map]; omega)
theorem en_lstI {ns : List Int} (h : EvL te σ H (ns.map V.int)) : EvN te σ H (lstI ns) := en_lst h
theorem et_yes {σ : L2.St} {H : Hp} : EvT tYes σ H true := fun H2 _ Q q => q H2 (Ex.refl H2)
theorem fil_yes (zs : List α) : zs.filter (fun _ => true) = zs := List.filter_eq_self.mpr fun _ _ => rfl
/-- without a test -/
theorem er_lc0 {R : α → V → Hp → Prop} (mR : MonoE R) {S : α → V → Hp → Prop} (mS : Mono S) {zs : List α} {a : Addr} {j : Nat} {vs : List Nat} (h : Ev tl σ H (.ref a)) (hx : RL R H a zs) (hz : zs.length ≤ 40000) (hw : ∀ x, wipe ((wipe σ vs).set j (some x)) vs = wipe σ vs)
    (he : ∀ z ∈ zs, ∀ y H1, Ex H H1 → R z y H1 → EvN te ((wipe σ vs).set j (some y)) H1 (S z)) : EvRL (tLc (iList K tl) (gName j) tYes te vs) σ H S zs := by
  have z := er_lcRL (K := K) (te := te) mR mS (fun _ => true) h hx hz hw (fun _ _ _ _ _ _ => et_yes) (fun z hz y H1 e hr _ => he z hz y H1 e hr)
  rw [fil_yes] at z
  exact z
/-- .. whole numbers -/
theorem el_lcI {R : α → V → Hp → Prop} (mR : MonoE R) {f : α → Int} {zs : List α} {a : Addr} {j : Nat} {vs : List Nat} (h : Ev tl σ H (.ref a)) (hx : RL R H a zs) (hz : zs.length ≤ 40000) (hw : ∀ x, wipe ((wipe σ vs).set j (some x)) vs = wipe σ vs)
    (he : ∀ z ∈ zs, ∀ y H1, Ex H H1 → R z y H1 → Ev te ((wipe σ vs).set j (some y)) H1 (.int (f z))) : EvL (tLc (iList K tl) (gName j) tYes te vs) σ H ((zs.map f).map V.int) := by
  have z := el_ofRL (er_lc0 (K := K) (te := te) mR (val_m fun z => .int (f z)) h hx hz hw fun z hz y H1 e hr => en_int (he z hz y H1 e hr))
  rw [List.map_map]
  exact z
end
end Rel
set_option Elab.async false
set_option linter.all false
set_option maxRecDepth 100000
set_option maxHeartbeats 4000000
/-! # loops over such lists; lists that grow -/
namespace Rel
open PySem L2 Evl
/-- all but j is as it was -/
def But1 (j : Addr) (H H' : Hp) : Prop := ∀ a o, a ≠ j → H a = some o → H' a = some o
theorem But1.ex {j : Addr} {H H1 H2 : Hp} (n : H j = none) (e : Ex H H1) (b : But1 j H1 H2) : Ex H H2 := fun a o h => b a o (fun z => by
  subst z
  rw [n] at h
  cases h) (e a o h)
theorem But1.of {j : Addr} {H H' : Hp} (e : Ex H H') : But1 j H H' := fun a o _ h => e a o h
theorem But1.tr {j : Addr} {H H1 H2 : Hp} (x : But1 j H H1) (y : But1 j H1 H2) : But1 j H H2 := fun a o n h => y a o n (x a o n h)
theorem But1.upd {j : Addr} {H H1 : Hp} {o : HO} (x : But1 j H H1) : But1 j H (upd H1 j o) := fun a u n h => by
  rw [upd_ne n]
  exact x a u n h
theorem ne_lt {H : Hp} {a b : Addr} {xs ys : List V} (h1 : H a = some (.tup xs)) (h2 : H b = some (.lst ys)) : a ≠ b := fun e => by
  rw [e, h2] at h1
  cases h1
theorem ne_no {H : Hp} {a b : Addr} {o : HO} (h1 : H a = some o) (h2 : H b = none) : a ≠ b := fun e => by
  rw [e, h2] at h1
  cases h1
section
variable {α : Type} {g : α → List Int}
/-- tuples are not touched where a list is changed -/
theorem rl_but {H H' : Hp} {l F : Addr} {zs : List α} {xs : List V} (h : RL (fun z => tupI (g z)) H l zs) (hF : H F = some (.lst xs)) (n : l ≠ F) (b : But1 F H H') : RL (fun z => tupI (g z)) H' l zs := by
  obtain ⟨ys, h1, h2⟩ := h
  refine ⟨ys, b _ _ n h1, ?_⟩
  clear h1 n
  induction h2 with
  | nil => exact .nil
  | cons h t ih =>
    obtain ⟨p, e, hp⟩ := h
    exact .cons ⟨p, e, b _ _ (ne_lt hp hF) hp⟩ ih
theorem pr_but {H H' : Hp} {F : Addr} {zs : List α} {xs ys : List V} (h2 : Paired (fun y z => tupI (g z) y H) ys zs) (hF : H F = some (.lst xs)) (b : But1 F H H') : Paired (fun y z => tupI (g z) y H') ys zs := by
  induction h2 with
  | nil => exact .nil
  | cons h t ih =>
    obtain ⟨p, e, hp⟩ := h
    exact .cons ⟨p, e, b _ _ (ne_lt hp hF) hp⟩ ih
theorem rl_nil {R : α → V → Hp → Prop} {H : Hp} {l : Addr} (h : H l = some (.lst [])) : RL R H l [] := ⟨[], h, .nil⟩
theorem rl_len {R : α → V → Hp → Prop} {H : Hp} {l : Addr} {zs : List α} (h : RL R H l zs) : ∃ ys, H l = some (.lst ys) ∧ ys.length = zs.length := by
  obtain ⟨ys, h1, h2⟩ := h
  exact ⟨ys, h1, pr_len h2⟩
end
section
variable {α : Type} {K : PySem.W.Frag} {R : α → V → Hp → Prop} {p : Addr} {zs : List α}
theorem walk_RL : Walk (Itl K p) zs.length (fun H => RL R H p zs) (fun i H x H' => H' = H ∧ ∃ z, zs[i]? = some z ∧ R z x H) := by
  refine ⟨fun i H hi h => ?_, fun H h => ?_, fun i H x H' hi h y => ?_⟩
  · obtain ⟨ys, h1, h2⟩ := h
    have hl := pr_len h2
    exact ⟨ys, ys[i], sq_of h1, List.getElem?_eq_getElem (show i < ys.length by omega)⟩
  · obtain ⟨ys, h1, h2⟩ := h
    exact ⟨ys, sq_of h1, Nat.le_of_eq (pr_len h2)⟩
  · obtain ⟨ys, h1, h2⟩ := h
    exact ⟨y.1, pr_at' h2 (y.2 ys (sq_of h1))⟩
theorem walk_enumRL : Walk (Ite K p) zs.length (fun H => RL R H p zs) (fun i H x H' => ∃ T y z, x = .ref T ∧ H T = none ∧ H' = upd H T (.tup [.int (i : Nat), y]) ∧ zs[i]? = some z ∧ R z y H) := by
  refine ⟨fun i H hi h => ?_, fun H h => ?_, fun i H x H' hi h y => ?_⟩
  · obtain ⟨ys, h1, h2⟩ := h
    have hl := pr_len h2
    exact ⟨ys, ys[i], sq_of h1, List.getElem?_eq_getElem (show i < ys.length by omega)⟩
  · obtain ⟨ys, h1, h2⟩ := h
    exact ⟨ys, sq_of h1, Nat.le_of_eq (pr_len h2)⟩
  · obtain ⟨T, w, e1, e2, e3, e4⟩ := y
    obtain ⟨ys, h1, h2⟩ := h
    obtain ⟨z, q1, q2⟩ := pr_at' h2 (e4 ys (sq_of h1))
    exact ⟨T, w, z, e1, e2, e3, q1, q2⟩
variable {σ : L2.St} {H : Hp} {tl : TE} {g : TG} {tb : TS} {D : Ends}
/-- for .. in l -/
theorem s_forRL (h : Ev tl σ H (.ref p)) (Pv : Nat → L2.St → Hp → Prop) (h0 : ∀ H1, Ex H H1 → Pv 0 σ H1) (hk : ∀ i σ' H', i ≤ zs.length → Pv i σ' H' → RL R H' p zs)
    (hs : ∀ i z y σ' H', zs[i]? = some z → R z y H' → Pv i σ' H' → g y σ' H' fun σ2 H2 => tb { D with nx := Pv (i + 1), ct := Pv (i + 1), bk := D.nx } σ2 H2) (hd : ∀ σ' H', Pv zs.length σ' H' → D.nx σ' H') : tFor (iList K tl) g tb D σ H := by
  refine h H (Ex.refl H) _ fun H1 e1 => ?_
  obtain ⟨ys, h1, h2⟩ := hk 0 _ _ (Nat.zero_le _) (h0 H1 e1)
  refine ⟨p, rfl, ⟨ys, sq_of h1⟩, for_it (walk_RL (K := K) (R := R) (p := p) (zs := zs)) Pv (h0 H1 e1) (fun i σ' H' hi q => hk i σ' H' hi q) (fun i x σ' H' H2 hi q y => ?_) hd⟩
  obtain ⟨rfl, z, hz, hr⟩ := y
  exact hs i z x σ' _ hz hr q
/-- .. in a list made there -/
theorem s_forNRL (h : EvRL tl σ H R zs) (Pv : Addr → Nat → L2.St → Hp → Prop) (h0 : ∀ p H1, H p = none → Ex H H1 → RL R H1 p zs → Pv p 0 σ H1) (hk : ∀ p i σ' H', i ≤ zs.length → Pv p i σ' H' → RL R H' p zs)
    (hs : ∀ p i z y σ' H', zs[i]? = some z → R z y H' → Pv p i σ' H' → g y σ' H' fun σ2 H2 => tb { D with nx := Pv p (i + 1), ct := Pv p (i + 1), bk := D.nx } σ2 H2) (hd : ∀ p σ' H', Pv p zs.length σ' H' → D.nx σ' H') : tFor (iList K tl) g tb D σ H := by
  refine h H (Ex.refl H) _ fun p H1 np e1 hp => ?_
  have q0 := h0 p H1 np e1 hp
  obtain ⟨ys, h1, h2⟩ := hp
  refine ⟨p, rfl, ⟨ys, sq_of h1⟩, for_it (walk_RL (K := K) (R := R) (p := p) (zs := zs)) (Pv p) q0 (fun i σ' H' hi q => hk p i σ' H' hi q) (fun i x σ' H' H2 hi q y => ?_) (hd p)⟩
  obtain ⟨rfl, z, hz, hr⟩ := y
  exact hs p i z x σ' _ hz hr q
/-- for i, y in enumerate(l): the pair is a new tuple T -/
theorem s_forERL (h : Ev tl σ H (.ref p)) (Pv : Nat → L2.St → Hp → Prop) (h0 : ∀ H1, Ex H H1 → Pv 0 σ H1) (hk : ∀ i σ' H', i ≤ zs.length → Pv i σ' H' → RL R H' p zs)
    (hs : ∀ i z y T σ' H', zs[i]? = some z → R z y H' → Pv i σ' H' → H' T = none → g (.ref T) σ' (upd H' T (.tup [.int (i : Nat), y])) fun σ2 H2 => tb { D with nx := Pv (i + 1), ct := Pv (i + 1), bk := D.nx } σ2 H2) (hd : ∀ σ' H', Pv zs.length σ' H' → D.nx σ' H') :
    tFor (iEnum K (tCons tl tNil)) g tb D σ H := by
  refine h H (Ex.refl H) _ fun H1 e1 => ?_
  obtain ⟨ys, h1, h2⟩ := hk 0 _ _ (Nat.zero_le _) (h0 H1 e1)
  refine ⟨p, ys, rfl, sq_of h1, for_it (walk_enumRL (K := K) (R := R) (p := p) (zs := zs)) Pv (h0 H1 e1) (fun i σ' H' hi q => hk i σ' H' hi q) (fun i x σ' H' H2 hi q y => ?_) hd⟩
  obtain ⟨T, w, z, rfl, nT, rfl, hz, hr⟩ := y
  exact hs i z w T σ' H' hz hr q nT
variable {tz : TS}
theorem q_forRL (h : Ev tl σ H (.ref p)) (Pv : Nat → L2.St → Hp → Prop) (h0 : ∀ H1, Ex H H1 → Pv 0 σ H1) (hk : ∀ i σ' H', i ≤ zs.length → Pv i σ' H' → RL R H' p zs)
    (hs : ∀ i z y σ' H', zs[i]? = some z → R z y H' → Pv i σ' H' → g y σ' H' fun σ2 H2 => tb { D with nx := Pv (i + 1), ct := Pv (i + 1), bk := tz D } σ2 H2) (hd : ∀ σ' H', Pv zs.length σ' H' → tz D σ' H') : tSeq (tFor (iList K tl) g tb) tz D σ H :=
  s_forRL (D := { D with nx := tz D }) h Pv h0 hk hs hd
theorem q_forNRL (h : EvRL tl σ H R zs) (Pv : Addr → Nat → L2.St → Hp → Prop) (h0 : ∀ p H1, H p = none → Ex H H1 → RL R H1 p zs → Pv p 0 σ H1) (hk : ∀ p i σ' H', i ≤ zs.length → Pv p i σ' H' → RL R H' p zs)
    (hs : ∀ p i z y σ' H', zs[i]? = some z → R z y H' → Pv p i σ' H' → g y σ' H' fun σ2 H2 => tb { D with nx := Pv p (i + 1), ct := Pv p (i + 1), bk := tz D } σ2 H2) (hd : ∀ p σ' H', Pv p zs.length σ' H' → tz D σ' H') : tSeq (tFor (iList K tl) g tb) tz D σ H :=
  s_forNRL (D := { D with nx := tz D }) h Pv h0 hk hs hd
theorem q_forERL (h : Ev tl σ H (.ref p)) (Pv : Nat → L2.St → Hp → Prop) (h0 : ∀ H1, Ex H H1 → Pv 0 σ H1) (hk : ∀ i σ' H', i ≤ zs.length → Pv i σ' H' → RL R H' p zs)
    (hs : ∀ i z y T σ' H', zs[i]? = some z → R z y H' → Pv i σ' H' → H' T = none → g (.ref T) σ' (upd H' T (.tup [.int (i : Nat), y])) fun σ2 H2 => tb { D with nx := Pv (i + 1), ct := Pv (i + 1), bk := tz D } σ2 H2) (hd : ∀ σ' H', Pv zs.length σ' H' → tz D σ' H') :
    tSeq (tFor (iEnum K (tCons tl tNil)) g tb) tz D σ H :=
  s_forERL (D := { D with nx := tz D }) h Pv h0 hk hs hd
/-- the same, the target a name -/
theorem s_forRLn {j : Nat} (h : Ev tl σ H (.ref p)) (Pv : Nat → L2.St → Hp → Prop) (h0 : ∀ H1, Ex H H1 → Pv 0 σ H1) (hk : ∀ i σ' H', i ≤ zs.length → Pv i σ' H' → RL R H' p zs)
    (hs : ∀ i z y σ' H', zs[i]? = some z → R z y H' → Pv i σ' H' → tb { D with nx := Pv (i + 1), ct := Pv (i + 1), bk := D.nx } (σ'.set j (some y)) H') (hd : ∀ σ' H', Pv zs.length σ' H' → D.nx σ' H') : tFor (iList K tl) (gName j) tb D σ H := s_forRL h Pv h0 hk hs hd
theorem q_forRLn {j : Nat} (h : Ev tl σ H (.ref p)) (Pv : Nat → L2.St → Hp → Prop) (h0 : ∀ H1, Ex H H1 → Pv 0 σ H1) (hk : ∀ i σ' H', i ≤ zs.length → Pv i σ' H' → RL R H' p zs)
    (hs : ∀ i z y σ' H', zs[i]? = some z → R z y H' → Pv i σ' H' → tb { D with nx := Pv (i + 1), ct := Pv (i + 1), bk := tz D } (σ'.set j (some y)) H') (hd : ∀ σ' H', Pv zs.length σ' H' → tz D σ' H') : tSeq (tFor (iList K tl) (gName j) tb) tz D σ H := q_forRL h Pv h0 hk hs hd
/-- l.append(a tuple of numbers) -/
theorem s_appT {α : Type} {zs : List α} {gg : α → List Int} {z : α} {l : Addr} {ta te : TE} (hl : RL (fun z => tupI (gg z)) H l zs) (ha : Ev ta σ H (.ref l)) (h : EvU te σ H ((gg z).map V.int)) (hz : zs.length < 50000)
    (k : ∀ H2, But1 l H H2 → RL (fun z => tupI (gg z)) H2 l (zs ++ [z]) → D.nx σ H2) : tDrop (tBM K "list" rAppend ta (tCons te tNil)) D σ H := by
  obtain ⟨ys, h1, h2⟩ := hl
  have hlen := pr_len h2
  refine s_appU h1 ha h (by omega) fun p H1 np e1 hp => k _ ((But1.of e1).upd) ⟨ys ++ [.ref p], upd_same, ?_⟩
  have hl1 := e1 _ _ h1
  have b : But1 l H1 (upd H1 l (.lst (ys ++ [.ref p]))) := (But1.of (Ex.refl H1)).upd
  exact pr_app (pr_but (pr_e (fun z v H H' e h => tupI_e (gg z) v H H' e h) e1 h2) hl1 b) (.cons ⟨p, rfl, b _ _ (ne_lt hp hl1) hp⟩ .nil)
theorem tupI_but {r : List Int} {y : V} {H H' : Hp} {F : Addr} {xs : List V} (h : tupI r y H) (hF : H F = some (.lst xs)) (b : But1 F H H') : tupI r y H' := by
  obtain ⟨p, e, hp⟩ := h
  exact ⟨p, e, b _ _ (ne_lt hp hF) hp⟩
/-- if c: l.append(a tuple of numbers) -/
theorem s_ifAppT {α : Type} {zs : List α} {gg : α → List Int} {z : α} {l : Addr} {ta te : TE} {t : TT} {b : Bool} (ht : EvT t σ H b) (hl : RL (fun z => tupI (gg z)) H l zs) (ha : Ev ta σ H (.ref l)) (h : b = true → EvU te σ H ((gg z).map V.int)) (hz : zs.length < 50000)
    (k : ∀ H2, But1 l H H2 → RL (fun z => tupI (gg z)) H2 l (zs ++ if b = true then [z] else []) → D.nx σ H2) : tIfS t (tDrop (tBM K "list" rAppend ta (tCons te tNil))) tNext D σ H := by
  have e0 : MonoE fun z => tupI (gg z) := fun z v H H' e h => tupI_e (gg z) v H H' e h
  refine s_when ht (fun hb H1 e1 => ?_) (fun hb H1 e1 => ?_)
  · subst hb
    exact s_appT (hl.ex e0 e1) (ha.mono e1) (fun H2 e2 Q q => h rfl H2 (e1.trans e2) Q q) hz fun H2 b2 h2 => k H2 ((But1.of e1).tr b2) h2
  · subst hb
    refine k H1 (But1.of e1) ?_
    rw [if_neg Bool.false_ne_true, List.append_nil]
    exact hl.ex e0 e1
theorem q_ifAppT {α : Type} {zs : List α} {gg : α → List Int} {z : α} {l : Addr} {ta te : TE} {t : TT} {b : Bool} {tz : TS} (ht : EvT t σ H b) (hl : RL (fun z => tupI (gg z)) H l zs) (ha : Ev ta σ H (.ref l)) (h : b = true → EvU te σ H ((gg z).map V.int)) (hz : zs.length < 50000)
    (k : ∀ H2, But1 l H H2 → RL (fun z => tupI (gg z)) H2 l (zs ++ if b = true then [z] else []) → tz D σ H2) : tSeq (tIfS t (tDrop (tBM K "list" rAppend ta (tCons te tNil))) tNext) tz D σ H :=
  s_ifAppT (D := { D with nx := tz D }) ht hl ha h hz k
/-- l.append(a whole number) -/
theorem s_appI {ns : List Int} {n : Int} {l : Addr} {ta te : TE} (hl : H l = some (.lst (ns.map V.int))) (ha : Ev ta σ H (.ref l)) (h : Ev te σ H (.int n)) (hz : ns.length < 50000)
    (k : ∀ H2, But1 l H H2 → H2 l = some (.lst ((ns ++ [n]).map V.int)) → D.nx σ H2) : tDrop (tBM K "list" rAppend ta (tCons te tNil)) D σ H :=
  s_app hl ha h (by rw [List.length_map]; omega) fun H1 e1 => k _ ((But1.of e1).upd) (by rw [upd_same, List.map_append]; rfl)
end
/-- l.append(x), lists of numbers in l -/
theorem lst_but {r : List Int} {y : V} {H H' : Hp} {F : Addr} (h : lstI r y H) (hF : y ≠ .ref F) (b : But1 F H H') : lstI r y H' := by
  obtain ⟨p, e, hp⟩ := h
  exact ⟨p, e, b _ _ (fun z => hF (by rw [e, z])) hp⟩
/-- the target a, b, c of a tuple of three numbers -/
theorem g_tup3 {K : PySem.W.Frag} {σ : L2.St} {H : Hp} {i j k : Nat} {a b c : Int} {y : V} {Q : L2.St → Hp → Prop} (h : tupI [a, b, c] y H) (q : Q (((σ.set i (some (.int a))).set j (some (.int b))).set k (some (.int c))) H) :
    gTup K 3 (gCons (gName i) (gCons (gName j) (gCons (gName k) gNil))) y σ H Q := by
  obtain ⟨p, rfl, hp⟩ := h
  exact ⟨p, _, rfl, SqT.of hp, rfl, _, _, rfl, _, _, rfl, _, _, rfl, rfl, q⟩
theorem g_tup2 {K : PySem.W.Frag} {σ : L2.St} {H : Hp} {i j : Nat} {a b : Int} {y : V} {Q : L2.St → Hp → Prop} (h : tupI [a, b] y H) (q : Q ((σ.set i (some (.int a))).set j (some (.int b))) H) :
    gTup K 2 (gCons (gName i) (gCons (gName j) gNil)) y σ H Q := by
  obtain ⟨p, rfl, hp⟩ := h
  exact ⟨p, _, rfl, SqT.of hp, rfl, _, _, rfl, _, _, rfl, rfl, q⟩
theorem g_tup2v {K : PySem.W.Frag} {σ : L2.St} {H : Hp} {i j : Nat} {a b : V} {p : Addr} {Q : L2.St → Hp → Prop} (hp : H p = some (.tup [a, b])) (q : Q ((σ.set i (some a)).set j (some b)) H) :
    gTup K 2 (gCons (gName i) (gCons (gName j) gNil)) (.ref p) σ H Q := ⟨p, _, rfl, SqT.of hp, rfl, _, _, rfl, _, _, rfl, rfl, q⟩
end Rel
set_option Elab.async false
set_option linter.all false
set_option maxRecDepth 100000
set_option maxHeartbeats 4000000
/-! # sorted, told by a function -/
namespace Rel
open PySem L2 Evl
section
variable {α : Type} (g : α → List Int)
def ins (z : α) : List α → List α
  | [] => [z]
  | y :: ys => if HT.lexLt (g z) (g y) = true then z :: y :: ys else y :: ins z ys
def isort : List α → List α
  | [] => []
  | z :: zs => ins g z (isort zs)
theorem ins_perm (z : α) : ∀ ys : List α, (ins g z ys).Perm (z :: ys)
  | [] => List.Perm.refl _
  | y :: ys => by
    unfold ins
    split
    · exact List.Perm.refl _
    · exact ((ins_perm z ys).cons y).trans (List.Perm.swap z y ys)
theorem isort_perm : ∀ zs : List α, (isort g zs).Perm zs
  | [] => List.Perm.refl _
  | z :: zs => (ins_perm g z _).trans ((isort_perm zs).cons z)
theorem lex_ns (x y : List Int) (h : HT.lexLt x y = true) : HT.lexLt y x = false := NtL.lex_asym x y h
theorem ins_srt (z : α) : ∀ ys : List α, (ys.Pairwise fun x y => HT.lexLt (g y) (g x) = false) → (ins g z ys).Pairwise fun x y => HT.lexLt (g y) (g x) = false
  | [], _ => List.pairwise_singleton _ _
  | y :: ys, h => by
    obtain ⟨h1, h2⟩ := List.pairwise_cons.mp h
    unfold ins
    split
    · rename_i c
      refine List.pairwise_cons.mpr ⟨fun u hu => ?_, h⟩
      rcases List.mem_cons.mp hu with rfl | hu
      · exact lex_ns _ _ c
      · exact NtL.lex_tr _ _ _ (lex_ns _ _ c) (h1 u hu)
    · rename_i c
      refine List.pairwise_cons.mpr ⟨fun u hu => ?_, ins_srt z ys h2⟩
      rcases List.mem_cons.mp ((ins_perm g z ys).mem_iff.mp hu) with rfl | hu
      · cases q : HT.lexLt (g u) (g y) with
        | true => exact absurd q c
        | false => rfl
      · exact h1 u hu
theorem isort_srt : ∀ zs : List α, (isort g zs).Pairwise fun x y => HT.lexLt (g y) (g x) = false
  | [] => List.Pairwise.nil
  | z :: zs => ins_srt g z _ (isort_srt zs)
end
theorem kNum {H2 : Hp} : ∃ k : V → List Int, ∀ r y, tupI r y H2 → k y = r := by
  refine ⟨fun v => match v with
    | .ref a => match H2 a with
      | some (.tup xs) => xs.map (fun x => (match x with | .int i => i | _ => 0))
      | _ => []
    | _ => [], ?_⟩
  rintro r y ⟨b, rfl, hb⟩
  show (match H2 b with | some (.tup xs) => xs.map (fun x => (match x with | .int i => i | _ => 0)) | _ => []) = r
  rw [hb]
  show (r.map V.int).map _ = r
  rw [List.map_map]
  exact List.map_id' r
section
variable {α : Type} {g : α → List Int} {K : PySem.W.Frag} {σ : L2.St} {H : Hp} {te : TE}
theorem lex_anti : ∀ x y : List Int, HT.lexLt x y = false → HT.lexLt y x = false → x = y := by
  intro x
  induction x with
  | nil =>
    intro y h1 h2
    cases y with
    | nil => rfl
    | cons b y => rw [HT.lexLt_nil_cons] at h1; cases h1
  | cons a x ih =>
    intro y h1 h2
    cases y with
    | nil => rw [HT.lexLt_nil_cons] at h2; cases h2
    | cons b y =>
      rw [HT.lexLt_cons] at h1 h2
      by_cases c : a = b
      · subst c
        rw [if_pos rfl] at h1 h2
        rw [ih y h1 h2]
      · rw [if_neg c] at h1
        rw [if_neg (Ne.symm c)] at h2
        have := of_decide_eq_false h1
        have := of_decide_eq_false h2
        omega
/-- what sorted makes of the list at p -/
theorem sortT_at {m : Nat} {H2 : Hp} {p : Addr} {zs : List α} (hz : ∀ z ∈ zs, (g z).length = m + 1) (hl : RL (fun z => tupI (g z)) H2 p zs) {Q : VK} (q : ∀ d H3, H2 d = none → Ex H2 H3 → RL (fun z => tupI (g z)) H3 d (isort g zs) → Q (.ref d) H3) : SoT.rSortedT K m [.ref p] H2 Q := by
  obtain ⟨ys, hl, hq⟩ := hl
  obtain ⟨k, kk⟩ := kNum (H2 := H2)
  have kmap : ∀ {ys : List V} {zs : List α}, Paired (fun y z => tupI (g z) y H2) ys zs → ys.map k = zs.map g := by
    intro ys zs hq
    induction hq with
    | nil => rfl
    | cons h t ih => rw [List.map_cons, List.map_cons, ih, kk _ _ h]
  have mem : ∀ x ∈ ys, ∃ z ∈ zs, tupI (g z) x H2 := by
    intro x hx
    obtain ⟨i, hi⟩ := List.getElem?_of_mem hx
    obtain ⟨z, h1, h2⟩ := pr_at' hq hi
    exact ⟨z, List.mem_of_getElem? h1, h2⟩
  refine ⟨p, ys, k, rfl, sq_of hl, fun x hx => ?_, fun us d h1 h2 nd => ?_⟩
  · obtain ⟨z, hz2, ht⟩ := mem x hx
    rw [kk _ _ ht]
    exact ⟨ht, hz z hz2⟩
  · refine q d _ nd (Ex.new nd) ⟨us, upd_same, ?_⟩
    have hus : us.Perm ys := h2.perm
    have e3 : us.map k = (isort g zs).map g := by
      have p1 : (us.map k).Perm ((isort g zs).map g) := (hus.map k).trans (by rw [kmap hq]; exact ((isort_perm g zs).map g).symm)
      have s1 : (us.map k).Pairwise fun x y => HT.lexLt y x = false := List.pairwise_map.mpr h1
      have s2 : ((isort g zs).map g).Pairwise fun x y => HT.lexLt y x = false := List.pairwise_map.mpr (isort_srt g zs)
      exact List.Perm.eq_of_pairwise (fun a b _ _ h1 h2 => lex_anti a b h2 h1) s1 s2 p1
    have all : ∀ x ∈ us, tupI (k x) x (upd H2 d (.lst us)) := by
      intro x hx
      obtain ⟨z, _, ht⟩ := mem x (hus.mem_iff.mp hx)
      rw [kk _ _ ht]
      exact tupI_e _ _ _ _ (Ex.new nd) ht
    clear h1 h2 hus
    generalize upd H2 d (.lst us) = H3 at all
    generalize isort g zs = out at e3
    induction us generalizing out with
    | nil =>
      cases out with
      | nil => exact .nil
      | cons _ _ => cases e3
    | cons x us ih =>
      cases out with
      | nil => cases e3
      | cons z out =>
        rw [List.map_cons, List.map_cons] at e3
        injection e3 with h3 h4
        have hx := all x List.mem_cons_self
        rw [h3] at hx
        exact .cons hx (ih (fun y hy => all y (List.mem_cons_of_mem _ hy)) out h4)
theorem er_sortV {m : Nat} {p : Addr} {zs : List α} (h : Ev te σ H (.ref p)) (hz : ∀ z ∈ zs, (g z).length = m + 1) (hl : RL (fun z => tupI (g z)) H p zs) : EvRL (tCB (SoT.rSortedT K m) (tCons te tNil)) σ H (fun z => tupI (g z)) (isort g zs) := fun H1 e Q q =>
  h H1 e _ fun H2 e2 => sortT_at hz (hl.ex (fun z v H H' e h => tupI_e (g z) v H H' e h) (e.trans e2)) fun d H3 nd e3 h3 => q d H3 (fresh_back e2 nd) (e2.trans e3) h3
theorem er_sortN {m : Nat} {zs : List α} (h : EvRL te σ H (fun z => tupI (g z)) zs) (hz : ∀ z ∈ zs, (g z).length = m + 1) : EvRL (tCB (SoT.rSortedT K m) (tCons te tNil)) σ H (fun z => tupI (g z)) (isort g zs) := fun H1 e Q q =>
  h H1 e _ fun p H2 np e2 hl => sortT_at hz hl fun d H3 nd e3 h3 => q d H3 (fresh_back e2 nd) (e2.trans e3) h3
end
end Rel
set_option Elab.async false
set_option linter.all false
set_option maxRecDepth 100000
set_option maxHeartbeats 4000000
/-! # what of which a relation holds, as data: it is compared, and shown -/
namespace Rel
open PySem L2 Evl
structure Dat {α : Type} [DecidableEq α] (R : α → V → Hp → Prop) (d : α → PyData) (n : Nat) : Prop where
  dp : ∀ (K : PySem.W.Frag) z v H, R z v H → Dp K H v (d z)
  can : ∀ z, (d z).canLay0 = true
  dep : ∀ z, (d z).depth ≤ n
  eq : ∀ z w, PyData.eqv (d z) (d w) = decide (z = w)
def intR (i : Int) (v : V) (_ : Hp) : Prop := v = .int i
def rlR {α : Type} (R : α → V → Hp → Prop) (zs : List α) (v : V) (H : Hp) : Prop := ∃ l, v = .ref l ∧ RL R H l zs
theorem intR_e : MonoE intR := fun _ _ _ _ _ h => h
theorem rlR_e {α : Type} {R : α → V → Hp → Prop} (m : MonoE R) : MonoE (rlR R) := fun _ _ _ _ e ⟨l, h1, h2⟩ => ⟨l, h1, h2.ex m e⟩
section
variable {α : Type} [DecidableEq α] {R : α → V → Hp → Prop} {d : α → PyData} {n : Nat}
theorem Dat.all (D : Dat R d n) (K : PySem.W.Frag) {H : Hp} : ∀ {ys : List V} {zs : List α}, Paired (fun y z => R z y H) ys zs → DpAll K H ys (zs.map d)
  | _, _, .nil => .nil
  | _, _, .cons h t => .cons (D.dp K _ _ _ h) (D.all K t)
theorem Dat.canAll (D : Dat R d n) : ∀ zs : List α, PyData.canLayAll0 (zs.map d) = true
  | [] => rfl
  | z :: zs => by
    rw [List.map_cons]
    unfold PyData.canLayAll0
    rw [D.can z, D.canAll zs]
    rfl
theorem Dat.depAll (D : Dat R d n) : ∀ zs : List α, PyData.depthAll (zs.map d) ≤ n
  | [] => by
    rw [List.map_nil]
    unfold PyData.depthAll
    exact Nat.zero_le _
  | z :: zs => by
    rw [List.map_cons]
    unfold PyData.depthAll
    exact Nat.max_le.mpr ⟨D.dep z, D.depAll zs⟩
theorem Dat.eqAll (D : Dat R d n) : ∀ zs ws : List α, PyData.eqvAll (zs.map d) (ws.map d) = decide (zs = ws)
  | [], [] => rfl
  | [], _ :: _ => rfl
  | _ :: _, [] => rfl
  | z :: zs, w :: ws => by
    rw [List.map_cons, List.map_cons]
    unfold PyData.eqvAll
    rw [D.eq z w, D.eqAll zs ws]
    by_cases h1 : z = w
    · by_cases h2 : zs = ws
      · simp [h1, h2]
      · simp [h1, h2]
    · simp [h1]
/-- lists of such -/
theorem Dat.list (D : Dat R d n) : Dat (rlR R) (fun zs : List α => .list (zs.map d)) (n + 1) where
  dp := fun K zs v H ⟨l, e, ys, h1, h2⟩ => by
    subst e
    exact .lst (sq_of h1) (D.all K h2)
  can := fun zs => by
    show PyData.canLay0 (.list (zs.map d)) = true
    unfold PyData.canLay0
    exact D.canAll zs
  dep := fun zs => by
    show PyData.depth (.list (zs.map d)) ≤ n + 1
    unfold PyData.depth
    exact Nat.succ_le_succ (D.depAll zs)
  eq := fun zs ws => by
    show PyData.eqv (.list (zs.map d)) (.list (ws.map d)) = _
    unfold PyData.eqv
    exact D.eqAll zs ws
theorem Dat.shaped (D : Dat R d n) (h : n ≤ 64) (z : α) : SeqAt.shaped (d z) = true := by
  unfold SeqAt.shaped
  rw [D.can z, decide_eq_true (Nat.le_trans (D.dep z) h)]
  rfl
/-- x == y, of two such -/
theorem Dat.rv_eq (D : Dat R d n) (hn : n ≤ 64) (m : MonoE R) {K : PySem.W.Frag} {H : Hp} {x y : V} {z w : α} (h1 : R z x H) (h2 : R w y H) : RV (rEqD K) x y H (.bl (decide (z = w))) := fun H1 e Q q =>
  ⟨d z, d w, D.dp K _ _ _ (m _ _ _ _ e h1), D.dp K _ _ _ (m _ _ _ _ e h2), D.shaped hn z, D.shaped hn w, by rw [D.eq]; exact q H1 (Ex.refl H1)⟩
theorem Dat.rv_ne (D : Dat R d n) (hn : n ≤ 64) (m : MonoE R) {K : PySem.W.Frag} {H : Hp} {x y : V} {z w : α} (h1 : R z x H) (h2 : R w y H) : RV (rNeD K) x y H (.bl (!decide (z = w))) := fun H1 e Q q =>
  ⟨d z, d w, D.dp K _ _ _ (m _ _ _ _ e h1), D.dp K _ _ _ (m _ _ _ _ e h2), D.shaped hn z, D.shaped hn w, by rw [D.eq]; exact q H1 (Ex.refl H1)⟩
/-- by an embedding -/
theorem Dat.comp {β : Type} [DecidableEq β] (D : Dat R d n) (g : β → α) (inj : ∀ a b, g a = g b → a = b) : Dat (fun z => R (g z)) (fun z => d (g z)) n where
  dp := fun K z v H h => D.dp K _ _ _ h
  can := fun z => D.can _
  dep := fun z => D.dep _
  eq := fun z w => by
    rw [D.eq]
    by_cases h : z = w
    · rw [h]
      simp
    · rw [decide_eq_false h, decide_eq_false (fun e => h (inj _ _ e))]
end
theorem datI : Dat intR PyData.int 0 where
  dp := fun K z v H h => by
    obtain rfl : v = V.int z := h
    exact .int z
  can := fun _ => by unfold PyData.canLay0; rfl
  dep := fun _ => by unfold PyData.depth; exact Nat.le_refl _
  eq := fun z w => by
    unfold PyData.eqv
    by_cases h : z = w
    · simp [h]
    · simp [h]
theorem dpInts (K : PySem.W.Frag) (H : Hp) : ∀ ns : List Int, DpAll K H (ns.map V.int) (ns.map PyData.int)
  | [] => .nil
  | n :: ns => .cons (.int n) (dpInts K H ns)
theorem datTup : Dat tupI (fun r => .tuple (r.map PyData.int)) 1 where
  dp := fun K z v H ⟨p, e, h⟩ => by
    subst e
    exact .tup (st_of h) (dpInts K H z)
  can := fun z => by
    show PyData.canLay0 (.tuple (z.map PyData.int)) = true
    unfold PyData.canLay0
    exact datI.canAll z
  dep := fun z => by
    show PyData.depth (.tuple (z.map PyData.int)) ≤ 1
    unfold PyData.depth
    exact Nat.succ_le_succ (datI.depAll z)
  eq := fun z w => by
    show PyData.eqv (.tuple (z.map PyData.int)) (.tuple (w.map PyData.int)) = _
    unfold PyData.eqv
    exact datI.eqAll z w
theorem datLst : Dat lstI (fun r => .list (r.map PyData.int)) 1 where
  dp := fun K z v H ⟨p, e, h⟩ => by
    subst e
    exact .lst (sq_of h) (dpInts K H z)
  can := fun z => by
    show PyData.canLay0 (.list (z.map PyData.int)) = true
    unfold PyData.canLay0
    exact datI.canAll z
  dep := fun z => by
    show PyData.depth (.list (z.map PyData.int)) ≤ 1
    unfold PyData.depth
    exact Nat.succ_le_succ (datI.depAll z)
  eq := fun z w => by
    show PyData.eqv (.list (z.map PyData.int)) (.list (w.map PyData.int)) = _
    unfold PyData.eqv
    exact datI.eqAll z w
section
variable {K : PySem.W.Frag} {σ : L2.St} {H : Hp} {ta : TE}
/-- l == [], l != [] -/
theorem ev_isNil {α : Type} [DecidableEq α] {R : α → V → Hp → Prop} {d : α → PyData} {n : Nat} (D : Dat R d n) (m : MonoE R) (hn : n + 1 ≤ 64) {l : Addr} {zs : List α} (h : Ev ta σ H (.ref l)) (hl : RL R H l zs) : Ev (tOp (rEqD K) ta (tLst tNil)) σ H (.bl (decide (zs = []))) :=
  ev_opL h (el_lst (vs := []) ea_nil (Nat.zero_le _)) fun p H1 hp e => (D.list).rv_eq hn (rlR_e m) ⟨l, rfl, hl.ex m e⟩ ⟨p, rfl, rl_nil hp⟩
theorem ev_noNil {α : Type} [DecidableEq α] {R : α → V → Hp → Prop} {d : α → PyData} {n : Nat} (D : Dat R d n) (m : MonoE R) (hn : n + 1 ≤ 64) {l : Addr} {zs : List α} (h : Ev ta σ H (.ref l)) (hl : RL R H l zs) : Ev (tOp (rNeD K) ta (tLst tNil)) σ H (.bl (!decide (zs = []))) :=
  ev_opL h (el_lst (vs := []) ea_nil (Nat.zero_le _)) fun p H1 hp e => (D.list).rv_ne hn (rlR_e m) ⟨l, rfl, hl.ex m e⟩ ⟨p, rfl, rl_nil hp⟩
end
end Rel
set_option Elab.async false
set_option linter.all false
set_option maxRecDepth 100000
set_option maxHeartbeats 4000000
/-! # the last item of a list of tuples -/
namespace Rel
open PySem L2 Evl
section
variable {α : Type} {g : α → List Int} {K : PySem.W.Frag} {σ : L2.St} {H : Hp} {D : Ends} {n : Nat} {l : Addr} {te : TE}
theorem rl_snoc {R : α → V → Hp → Prop} {init : List α} {q : α} (h : RL R H l (init ++ [q])) : ∃ us v, H l = some (.lst (us ++ [v])) ∧ Paired (fun y z => R z y H) us init ∧ R q v H := by
  obtain ⟨ys, h1, h2⟩ := h
  have go : ∀ {ys : List V} {init : List α}, Paired (fun y z => R z y H) ys (init ++ [q]) → ∃ us v, ys = us ++ [v] ∧ Paired (fun y z => R z y H) us init ∧ R q v H := by
    intro ys init
    induction init generalizing ys with
    | nil =>
      intro h
      cases h with
      | cons h t =>
        cases t
        exact ⟨[], _, rfl, .nil, h⟩
    | cons z init ih =>
      intro h
      cases h with
      | cons h t =>
        obtain ⟨us, v, rfl, h3, h4⟩ := ih t
        exact ⟨_ :: us, v, rfl, .cons h h3, h4⟩
  obtain ⟨us, v, rfl, h3, h4⟩ := go h2
  exact ⟨us, v, h1, h3, h4⟩
theorem ev_m1 : Ev (tUn (rU fun i => .int (-i)) (tC (.int 1))) σ H (.int (-1)) := ev_un ev_c ru_neg
/-- l[-1] -/
theorem ev_lastV {xs : List V} {v : V} (hn : σ[n]? = some (some (.ref l))) (h : H l = some (.lst (xs ++ [v]))) : Ev (tOp (rIxL K) (tVar n) (tUn (rU fun i => .int (-i)) (tC (.int 1)))) σ H v :=
  ev_op (ev_var hn) ev_m1 (rv_ixL (SqL.of h) (atI_last _ _))
theorem ev_lastT {init : List α} {q : α} {i : Nat} {c : Int} (hn : σ[n]? = some (some (.ref l))) (h : RL (fun z => tupI (g z)) H l (init ++ [q])) (hc : (g q)[i]? = some c) : Ev (tOp (rIxT K) (tOp (rIxL K) (tVar n) (tUn (rU fun i => .int (-i)) (tC (.int 1)))) (tC (.int (i : Int)))) σ H (.int c) := by
  obtain ⟨us, v, h1, _, p, rfl, hp⟩ := rl_snoc h
  exact ev_op (ev_lastV hn h1) ev_c (rv_ixT (SqT.of hp) (atI_nat (by rw [List.getElem?_map, hc]; rfl)))
theorem ixN_last (k : Nat) : ixN (k + 1) (-1) = some k := by
  unfold ixN
  have e : ((-1 : Int) < 0) := by decide
  simp
  try omega
/-- l[-1] = a tuple of numbers -/
theorem s_setLastT {init : List α} {q z : α} (hn : σ[n]? = some (some (.ref l))) (h : RL (fun z => tupI (g z)) H l (init ++ [q])) (ht : EvU te σ H ((g z).map V.int)) (k : ∀ H2, But1 l H H2 → RL (fun z => tupI (g z)) H2 l (init ++ [z]) → D.nx σ H2) :
    tAsg te (gSub (tVar n) (tUn (rU fun i => .int (-i)) (tC (.int 1))) rSetL) D σ H := by
  obtain ⟨us, v, h1, h2, h3⟩ := rl_snoc h
  refine ht H (Ex.refl H) _ fun p H1 np e1 hp => ?_
  refine ⟨_, hn, 1, rfl, l, us ++ [v], -1, us.length, rfl, rfl, e1 _ _ h1, by rw [List.length_append]; exact ixN_last _, ?_⟩
  have e : (us ++ [v]).set us.length (.ref p) = us ++ [.ref p] := by
    rw [List.set_append_right _ _ (Nat.le_refl _), Nat.sub_self]
    rfl
  rw [e]
  have b : But1 l H1 (upd H1 l (.lst (us ++ [.ref p]))) := (But1.of (Ex.refl H1)).upd
  refine k _ ((But1.of e1).tr b) ⟨us ++ [.ref p], upd_same, ?_⟩
  have hl1 := e1 _ _ h1
  exact pr_app (pr_but (pr_e (fun z v H H' e h => tupI_e (g z) v H H' e h) e1 h2) hl1 b) (.cons ⟨p, rfl, b _ _ (ne_lt hp hl1) hp⟩ .nil)
end
end Rel
set_option Elab.async false
set_option linter.all false
set_option maxRecDepth 100000
set_option maxHeartbeats 4000000
/-! # comprehensions over enumerate, over pairs; pairs made -/
namespace Rel
open PySem L2 Evl
/-- the items with their places -/
def enumL {α : Type} (zs : List α) : List (Nat × α) := zs.zipIdx.map fun p => (p.2, p.1)
theorem enumL_len {α : Type} (zs : List α) : (enumL zs).length = zs.length := by simp [enumL]
theorem enumL_at {α : Type} {zs : List α} {i : Nat} {u : Nat × α} (h : (enumL zs)[i]? = some u) : u.1 = i ∧ zs[i]? = some u.2 := by
  unfold enumL at h
  rw [List.getElem?_map, List.getElem?_zipIdx] at h
  cases hq : zs[i]? with
  | none =>
    rw [hq] at h
    simp at h
  | some z =>
    rw [hq] at h
    simp at h
    rw [← h]
    exact ⟨rfl, rfl⟩
theorem enumL_mem {α : Type} {zs : List α} {u : Nat × α} (h : u ∈ enumL zs) : zs[u.1]? = some u.2 := by
  obtain ⟨i, hi⟩ := List.getElem?_of_mem h
  obtain ⟨h1, h2⟩ := enumL_at hi
  rw [h1]
  exact h2
theorem mem_enumL {α : Type} {zs : List α} {i : Nat} {z : α} (h : zs[i]? = some z) : (i, z) ∈ enumL zs := by
  unfold enumL
  refine List.mem_map.mpr ⟨(z, i), ?_, rfl⟩
  exact List.mk_mem_zipIdx_iff_getElem?.mpr h
section
variable {α : Type} {K : PySem.W.Frag} {σ : L2.St} {H : Hp} {te tl : TE} {ta : TA} {t : TT}
theorem er_lcERL {R : α → V → Hp → Prop} (mR : MonoE R) {S : Nat × α → V → Hp → Prop} (mS : Mono S) {zs : List α} {a : Addr} {j l : Nat} {vs : List Nat} (f : Nat × α → Bool) (h : Ev tl σ H (.ref a)) (hx : RL R H a zs) (hz : zs.length ≤ 40000)
    (hw : ∀ x y, wipe (((wipe σ vs).set j (some x)).set l (some y)) vs = wipe σ vs)
    (ht : ∀ (i : Nat) z, zs[i]? = some z → ∀ y H1, Ex H H1 → R z y H1 → EvT t (((wipe σ vs).set j (some (.int (i : Nat)))).set l (some y)) H1 (f (i, z)))
    (he : ∀ (i : Nat) z, zs[i]? = some z → ∀ y H1, Ex H H1 → R z y H1 → f (i, z) = true → EvN te (((wipe σ vs).set j (some (.int (i : Nat)))).set l (some y)) H1 (S (i, z))) :
    EvRL (tLc (iEnum K (tCons tl tNil)) (gTup K 2 (gCons (gName j) (gCons (gName l) gNil))) t te vs) σ H S ((enumL zs).filter f) := by
  obtain ⟨ys, hl, hp⟩ := hx
  intro H1 e Q q
  refine h H1 e _ fun H2 e1 => ⟨a, ys, rfl, sq_of ((e.trans e1) _ _ hl), fun Dl hD => ?_⟩
  refine lc_rel (H := H2) (zs := enumL zs) (walk_enum (K := K) (a := a) (xs := ys)) (by rw [enumL_len]; exact pr_len hp) (fun H3 e2 => sq_of (((e.trans e1).trans e2) _ _ hl)) f S mS (by rw [enumL_len]; exact hz) (fun i u x H3 H4 hu hH hy => ?_) hD fun us H3 e2 h3 hq => q Dl H3 (fresh_back e1 hD) (e1.trans e2) ⟨us, h3, hq⟩
  obtain ⟨T, x1, x2, rfl, nT, rfl, h1, h2⟩ := hy
  obtain ⟨hi, hz2⟩ := enumL_at hu
  obtain ⟨u1, u2⟩ := u
  dsimp only at hi hz2
  subst hi
  obtain rfl : x1 = .int (u1 : Nat) := (Option.some.inj h1).symm
  obtain ⟨y, hy2, hr⟩ := pr_at hp hz2
  obtain rfl : y = x2 := Option.some.inj (hy2.symm.trans h2)
  have e4 : Ex H H2 := e.trans e1
  refine ⟨Ex.new nT, fun Q' k => ?_⟩
  refine ⟨T, [_, _], rfl, .inl (.inl upd_same), rfl, _, _, rfl, _, _, rfl, rfl, k _ (hw _ _) (ht u1 u2 hz2 y H2 e4 (mR _ _ _ _ e4 hr)) fun hf => he u1 u2 hz2 y H2 e4 (mR _ _ _ _ e4 hr) hf⟩
/-- over a list of pairs of numbers: the two names -/
theorem er_lcT2 {g : α → Int × Int} {S : α → V → Hp → Prop} (mS : Mono S) {zs : List α} {a : Addr} {j l : Nat} {vs : List Nat} (f : α → Bool) (h : Ev tl σ H (.ref a)) (hx : RL (fun z => tupI [(g z).1, (g z).2]) H a zs) (hz : zs.length ≤ 40000)
    (hw : ∀ x y, wipe (((wipe σ vs).set j (some x)).set l (some y)) vs = wipe σ vs)
    (ht : ∀ z ∈ zs, ∀ H1, Ex H H1 → EvT t (((wipe σ vs).set j (some (.int (g z).1))).set l (some (.int (g z).2))) H1 (f z))
    (he : ∀ z ∈ zs, ∀ H1, Ex H H1 → f z = true → EvN te (((wipe σ vs).set j (some (.int (g z).1))).set l (some (.int (g z).2))) H1 (S z)) :
    EvRL (tLc (iList K tl) (gTup K 2 (gCons (gName j) (gCons (gName l) gNil))) t te vs) σ H S (zs.filter f) := by
  obtain ⟨ys, hl, hp⟩ := hx
  intro H1 e Q q
  refine h H1 e _ fun H2 e1 => ⟨a, rfl, ⟨ys, sq_of ((e.trans e1) _ _ hl)⟩, fun Dl hD => ?_⟩
  refine lc_rel (H := H2) (walk_list (K := K) (a := a) (xs := ys)) (pr_len hp) (fun H3 e2 => sq_of (((e.trans e1).trans e2) _ _ hl)) f S mS hz (fun i z x H3 H4 hzi hH hy => ?_) hD fun us H3 e2 h3 hq => q Dl H3 (fresh_back e1 hD) (e1.trans e2) ⟨us, h3, hq⟩
  obtain ⟨rfl, hy⟩ := hy
  obtain ⟨y, hy2, T, hT1, hT⟩ := pr_at hp hzi
  obtain rfl : y = x := Option.some.inj (hy2.symm.trans hy)
  subst hT1
  have hm := List.mem_of_getElem? hzi
  refine ⟨Ex.refl _, fun Q' k => ⟨T, _, rfl, SqT.of (((e.trans e1).trans hH) _ _ hT), rfl, _, _, rfl, _, _, rfl, rfl, k _ (hw _ _) (ht z hm H2 (e.trans e1)) fun hf => he z hm H2 (e.trans e1) hf⟩⟩
theorem er_lcT20 {g : α → Int × Int} {S : α → V → Hp → Prop} (mS : Mono S) {zs : List α} {a : Addr} {j l : Nat} {vs : List Nat} (h : Ev tl σ H (.ref a)) (hx : RL (fun z => tupI [(g z).1, (g z).2]) H a zs) (hz : zs.length ≤ 40000)
    (hw : ∀ x y, wipe (((wipe σ vs).set j (some x)).set l (some y)) vs = wipe σ vs)
    (he : ∀ z ∈ zs, ∀ H1, Ex H H1 → EvN te (((wipe σ vs).set j (some (.int (g z).1))).set l (some (.int (g z).2))) H1 (S z)) :
    EvRL (tLc (iList K tl) (gTup K 2 (gCons (gName j) (gCons (gName l) gNil))) tYes te vs) σ H S zs := by
  have z := er_lcT2 (K := K) (te := te) mS (fun _ => true) h hx hz hw (fun _ _ _ _ => et_yes) (fun z hz H1 e _ => he z hz H1 e)
  rw [fil_yes] at z
  exact z
/-- EvRL, its rows told by a function of others -/
theorem EvRL.to {β : Type} {R : α → V → Hp → Prop} {S : β → V → Hp → Prop} {g : α → β} {zs : List α} (k : ∀ z y H, R z y H → S (g z) y H) (h : EvRL te σ H R zs) : EvRL te σ H S (zs.map g) := fun H1 e Q q =>
  h H1 e Q fun p H2 np e2 hl => q p H2 np e2 (hl.map fun z y => k z y H2)
/-- a, b, c = a tuple of three numbers -/
theorem q_asgT3 {i j k : Nat} {a b c : Int} {y : V} {D : Ends} {tz : TS} (h : Ev te σ H y) (hy : tupI [a, b, c] y H) (q : ∀ H1, Ex H H1 → tz D (((σ.set i (some (.int a))).set j (some (.int b))).set k (some (.int c))) H1) :
    tSeq (tAsg te (gTup K 3 (gCons (gName i) (gCons (gName j) (gCons (gName k) gNil))))) tz D σ H := h H (Ex.refl H) _ fun H1 e1 => g_tup3 (tupI_e _ _ _ _ e1 hy) (q H1 e1)
theorem q_asgT2 {i j : Nat} {a b : Int} {y : V} {D : Ends} {tz : TS} (h : Ev te σ H y) (hy : tupI [a, b] y H) (q : ∀ H1, Ex H H1 → tz D ((σ.set i (some (.int a))).set j (some (.int b))) H1) :
    tSeq (tAsg te (gTup K 2 (gCons (gName i) (gCons (gName j) gNil)))) tz D σ H := h H (Ex.refl H) _ fun H1 e1 => g_tup2 (tupI_e _ _ _ _ e1 hy) (q H1 e1)
/-- return two new lists -/
theorem s_retLL {t1 t2 : TE} {xs ys : List V} {D : Ends} (h1 : EvL t1 σ H xs) (h2 : EvL t2 σ H ys) (k : ∀ a b c H1, Ex H H1 → H a = none → H b = none → H c = none → H1 a = some (.lst xs) → H1 b = some (.lst ys) → H1 c = some (.tup [.ref a, .ref b]) → D.rt (.ref c) H1) :
    tRet (tTup (tCons t1 (tCons t2 tNil))) D σ H :=
  h1 H (Ex.refl H) _ fun a H1 na e1 ha => h2 H1 e1 _ fun b H2 nb e2 hb => ⟨(show 2 ≤ sizeLine by decide), fun c nc =>
    k a b c _ ((e1.trans e2).trans (Ex.new nc)) na (fresh_back e1 nb) (fresh_back (e1.trans e2) nc) (Ex.new nc _ _ (e2 _ _ ha)) (Ex.new nc _ _ hb) upd_same⟩
/-- as RL, none of the items the list itself -/
def RLx (R : α → V → Hp → Prop) (H : Hp) (l : Addr) (zs : List α) : Prop := ∃ ys, H l = some (.lst ys) ∧ Paired (fun y z => R z y H) ys zs ∧ ∀ y ∈ ys, y ≠ .ref l
theorem RLx.rl {R : α → V → Hp → Prop} {l : Addr} {zs : List α} (h : RLx R H l zs) : RL R H l zs := by
  obtain ⟨ys, h1, h2, _⟩ := h
  exact ⟨ys, h1, h2⟩
theorem RLx.ex {R : α → V → Hp → Prop} (m : MonoE R) {H' : Hp} {l : Addr} {zs : List α} (h : RLx R H l zs) (e : Ex H H') : RLx R H' l zs := by
  obtain ⟨ys, h1, h2, h3⟩ := h
  exact ⟨ys, e _ _ h1, pr_e m e h2, h3⟩
theorem rlx_nil {R : α → V → Hp → Prop} {l : Addr} (h : H l = some (.lst [])) : RLx R H l [] := ⟨[], h, .nil, by simp⟩
/-- l.append(x) -/
theorem s_appX {R : α → V → Hp → Prop} (mR : MonoE R) (mo : Mono R) {zs : List α} {z : α} {l : Addr} {v : V} {D : Ends} {t1 t2 : TE} (hl : RLx R H l zs) (ha : Ev t1 σ H (.ref l)) (h : Ev t2 σ H v) (hv : v ≠ .ref l) (hr : R z v H) (hz : zs.length < 50000)
    (k : ∀ H2, But1 l H H2 → RLx R H2 l (zs ++ [z]) → D.nx σ H2) : tDrop (tBM K "list" rAppend t1 (tCons t2 tNil)) D σ H := by
  obtain ⟨ys, h1, h2, h3⟩ := hl
  have hlen := pr_len h2
  refine s_app h1 ha h (by omega) fun H1 e1 => k _ ((But1.of e1).upd) ⟨ys ++ [v], upd_same, ?_, ?_⟩
  · have kp : ∀ a o, a ≠ l → H1 a = some o → upd H1 l (.lst (ys ++ [v])) a = some o := fun a o n h => by
      rw [upd_ne n]
      exact h
    exact pr_app (pr_mono mo kp h3 (pr_e mR e1 h2)) (.cons (mo _ _ _ _ _ hv kp (mR _ _ _ _ e1 hr)) .nil)
  · intro y hy
    rcases List.mem_append.mp hy with hy | hy
    · exact h3 y hy
    · rw [List.mem_singleton.mp hy]
      exact hv
/-- name = a new list of such -/
theorem q_asgRL {R : α → V → Hp → Prop} {zs : List α} {i : Nat} {D : Ends} {tz : TS} (h : EvRL te σ H R zs) (k : ∀ p H1, H p = none → Ex H H1 → RL R H1 p zs → tz D (σ.set i (some (.ref p))) H1) : tSeq (tAsg te (gName i)) tz D σ H := h H (Ex.refl H) _ fun p H1 np e1 hl => k p H1 np e1 hl
theorem s_retRL {R : α → V → Hp → Prop} {zs : List α} {D : Ends} (h : EvRL te σ H R zs) (k : ∀ p H1, H p = none → Ex H H1 → RL R H1 p zs → D.rt (.ref p) H1) : tRet te D σ H := h H (Ex.refl H) _ k
theorem rl_ints {g : α → Int} {zs : List α} {l : Addr} (h : RL (fun z v _ => v = .int (g z)) H l zs) : H l = some (.lst ((zs.map g).map V.int)) := by
  obtain ⟨ys, h1, h2⟩ := h
  rw [h1, pr_val (g := fun z => V.int (g z)) (H := H) h2, List.map_map]
  rfl
theorem ints_rl {ns : List Int} {l : Addr} (h : H l = some (.lst (ns.map V.int))) : RL intR H l ns := by
  refine ⟨_, h, ?_⟩
  clear h
  induction ns with
  | nil => exact .nil
  | cons n ns ih => exact .cons rfl ih
theorem ints_m {g : α → Int} : MonoE fun (z : α) v (_ : Hp) => v = V.int (g z) := fun _ _ _ _ _ h => h
end
end Rel
set_option Elab.async false
set_option linter.all false
set_option maxRecDepth 100000
set_option maxHeartbeats 4000000
/-! # the numbers that a law draws -/
namespace GL
open PySem PySem.Spec PyProof.Rows L2
theorem scJar : FnScope ["script", "k", "cell_here"] ["script", "k"] (defScope sJar) := ⟨rfl, rfl, rfl, by decide +kernel, rfl, by decide +kernel, by decide +kernel⟩
theorem scDip : FnScope ["jar", "many", "digit", "mixed"] ["jar", "many"] (defScope sDip) := ⟨rfl, rfl, rfl, by decide +kernel, rfl, by decide +kernel, by decide +kernel⟩

/-- a jar stands at j; at most m numbers were mixed so far -/
def Jar (H : Hp) (j : Addr) (m : Nat) : Prop := ∃ a b c : Int, H j = some (.lst [.int a, .int b, .int c]) ∧ 0 ≤ b ∧ b < 2 ^ 160 ∧ 0 ≤ c ∧ c ≤ m
/-- all but j is as it was -/
def But (j : Addr) (H H' : Hp) : Prop := ∀ a o, a ≠ j → H a = some o → H' a = some o
theorem But.refl (j : Addr) (H : Hp) : But j H H := fun _ _ _ h => h
theorem But.trans {j : Addr} {H H1 H2 : Hp} (x : But j H H1) (y : But j H1 H2) : But j H H2 := fun a o n h => y a o n (x a o n h)
theorem But.set {j : Addr} {H H' : Hp} {o : HO} (x : But j H H') : But j H (upd H' j o) := fun a u n h => by
  rw [upd_ne n]
  exact x a u n h
theorem But.same {j : Addr} {H H1 H2 : Hp} (x : But j H H1) (y : Same H1 H2) : But j H H2 := fun a o n h => y a o (x a o n h)
theorem Same.but {j : Addr} {H H' : Hp} (x : Same H H') : But j H H' := fun a o _ h => x a o h
theorem Jar.mono {H : Hp} {j : Addr} {m n : Nat} (h : m ≤ n) (x : Jar H j m) : Jar H j n := by
  obtain ⟨a, b, c, e, h1, h2, h3, h4⟩ := x
  exact ⟨a, b, c, e, h1, h2, h3, by omega⟩
theorem Jar.same {H H' : Hp} {j : Addr} {m : Nat} (x : Jar H j m) (y : Same H H') : Jar H' j m := by
  obtain ⟨a, b, c, e, r⟩ := x
  exact ⟨a, b, c, y _ _ e, r⟩
/-- a ** b of whole numbers, as long as the answer stays below 2 ^ 27 bits -/
def CPowW (i j : Int) : Prop := 0 ≤ j ∧ (Builtin.Int.intBits i : Int) * j ≤ 2 ^ 27
theorem op_powW {X : Cx} : OpR X (binaryOp .Pow) (rI CPowW fun i j => .int (i ^ j.toNat)) := opI fun _ _ _ _ _ _ _ hc q => pow_int hc.1 hc.2 q
theorem cube_ok {i : Int} (h : i.natAbs < 2 ^ 162) : CPowW i 3 := by
  have z := PyProof.Rows.intBits_le (k := 162) h
  have e : (2 : Int) ^ 27 = 134217728 := by decide
  refine ⟨by decide, ?_⟩
  rw [e]
  omega
theorem fmod_range {i j : Int} (h : 0 < j) : 0 ≤ i.fmod j ∧ i.fmod j < j := by
  rw [Int.fmod_eq_emod_of_nonneg _ (by omega)]
  exact ⟨Int.emod_nonneg _ (by omega), Int.emod_lt_of_pos _ h⟩
section
variable {P : Program} {w : World} {K : PySem.W.Frag} {mg : Str → Option Value} {base : Heap}
def spJar (K : PySem.W.Frag) : Sp := fun vs H Q _ => ∃ (a : Addr) (ns : List Int) (k : Int), vs = [.ref a, .int k] ∧ SqL K H a (ns.map V.int) ∧ ns.length ≤ 63 ∧ 0 ≤ k ∧ k ≤ 1000 ∧
  ∀ H' j, Same H H' → H j = none → Jar H' j 0 → Q (.ref j) H'
theorem ok_jar {f : Addr} {fd : FuncData} {l : Nat} (F : Fun K "_law_jar" "_law_jar" sJar f fd) (ml : mg "len" = none) (ma : mg "abs" = none) (mm : mg "max" = none) (mi : mg "int" = none) :
    FnOk P w K mg base CX0 (l + 1) f fd ["script", "k"] (spJar K) := by
  refine F.ok scJar (fun vs H Q E h => ?_) (fun cdv A outer s H vs Q E hr h => ?_)
  · obtain ⟨a, ns, k, rfl, _⟩ := h
    rfl
  · obtain ⟨a, ns, k, rfl, hS, hlen, hk0, hk1, q⟩ := h
    refine ⟨_, Evl.pss_cut (ps_set (i := 2) scJar.nd rfl (.inl rfl) (pe_ifExp (pt_cmpR op_lt (pv 1) (pe_callB call_len_seq (by rfl) ml PySem.boot_len (pa_cons (pv 0) pa_nil)) (nomark _))
        (pe_callB call_abs (by rfl) ma (by decide +kernel) (pa_cons (pe_ix ix_list (pv 0) (pv 1) (fun _ _ => rfl)) pa_nil)) pe_int))
      (pss_one (ps_ret (pe_lst (pa_cons (pe_callB (call_max2 rfl) (by rfl) mm (by decide +kernel) (pa_cons pe_int (pa_cons (pe_op op_sub (pv 2) (pe_op op_pow pe_int pe_int)) pa_nil)))
        (pa_cons (pe_op op_add (pe_op op_mul (pe_op op_modN (pe_callTy call_int1 (by rfl) mi (by decide +kernel) (pa_cons (pv 2) pa_nil)) (pe_op op_add (pe_op op_pow pe_int pe_int) pe_int)) pe_int) (pe_op op_mul pe_int (pv 1)))
        (pa_cons pe_int pa_nil)))))), ?_⟩
    refine ⟨fun σ H1 => H1 = H ∧ ∃ c : Int, σ = [some (.ref a), some (.int k), some (.int c)], ?_, ?_⟩
    · refine ⟨_, rfl, .ref a, rfl, a, _, rfl, .inl hS, k, _, rfl, rfl, _, rfl, ite2 (fun e => ?_) (fun e => ?_)⟩
      · have hlt : k < ns.length := by
          have z := of_decide_eq_true e
          rw [List.length_map] at z
          exact z
        obtain ⟨i, rfl⟩ : ∃ i : Nat, k = i := ⟨k.toNat, by omega⟩
        have hi : i < ns.length := by omega
        refine ⟨.ref a, rfl, _, rfl, a, _, (i : Int), .int ns[i], rfl, rfl, hS, atI_nat (by rw [List.getElem?_map, List.getElem?_eq_getElem hi]; rfl), ns[i], rfl, rfl, _, rfl⟩
      · exact ⟨rfl, 0, rfl⟩
    · rintro σ H1 ⟨rfl, c, rfl⟩
      have hbig : (10 ^ Int.toNat 43 + 57 : Int) = 10000000000000000000000000000000000000000057 := by decide +kernel
      have e160 : (2 : Int) ^ 160 = 1461501637330902918203684832716283019655932542976 := by decide +kernel
      refine ⟨_, rfl, 10, 18, rfl, rfl, ⟨by decide, by decide, by decide⟩, c, _, rfl, rfl, 0, _, rfl, ?_⟩
      refine ⟨_, rfl, .inl ⟨c, rfl, 10, 43, rfl, rfl, ⟨by decide, by decide, by decide⟩, _, 57, rfl, rfl, c, _, rfl, rfl, ?_, _, 101, rfl, rfl, .inr ⟨by decide, by decide⟩, _, rfl, 70001, k, rfl, rfl, .inl ⟨by decide, by decide⟩, _, _, rfl, rfl, ?_⟩⟩
      · show (10 ^ Int.toNat 43 + 57 : Int) ≠ 0
        rw [hbig]
        decide
      refine ⟨(show 3 ≤ sizeLine by decide), fun j nj => q _ j (Evl.Ex.new nj) nj ⟨_, _, 0, upd_same, ?_, ?_, Int.le_refl _, Int.le_refl _⟩⟩
      all_goals rw [hbig]
      all_goals have z := fmod_range (i := c) (j := 10000000000000000000000000000000000000000057) (by decide)
      · omega
      · rw [e160]
        omega
def spDip : Sp := fun vs H Q _ => ∃ (j : Addr) (n : Int) (m : Nat), vs = [.ref j, .int n] ∧ 0 < n ∧ n < 2 ^ 200 ∧ Jar H j m ∧ m ≤ 1000000 ∧
  ∀ H' r, 0 ≤ r → r < n → But j H H' → Jar H' j (m + 1) → Q (.int r) H'
theorem ok_dip {f : Addr} {fd : FuncData} {l : Nat} (F : Fun K "_law_dip" "_law_dip" sDip f fd) (mi : mg "int" = none) : FnOk P w K mg base CX0 (l + 1) f fd ["jar", "many"] spDip := by
  refine F.ok scDip (fun vs H Q E h => ?_) (fun cdv A outer s H vs Q E hr h => ?_)
  · obtain ⟨j, n, m, rfl, _⟩ := h
    rfl
  · obtain ⟨j, n, m, rfl, hn, hn2, hj, hm, q⟩ := h
    refine ⟨_, pss_cons (ps_if (pt_cmpR op_gt (pe_ix ix_list (pv 0) pe_int (fun _ _ => rfl)) pe_int (nomark _))
        (pss_cons (ps_set (i := 2) scDip.nd rfl (.inl rfl) (pe_op op_modN (pe_callTy call_int1 (by rfl) mi (by decide +kernel) (pa_cons (pe_ix ix_list (pv 0) pe_int (fun _ _ => rfl)) pa_nil)) (pv 1)))
        (pss_cons (ps_asg (pe_op op_fdivW (pe_ix ix_list (pv 0) pe_int (fun _ _ => rfl)) (pv 1)) (pg_sub (pv 0) pe_int set_list))
        (pss_one (ps_ret (pv 2))))) pss_nil)
      (pss_cons (ps_asg (pe_op op_add (pe_ix ix_list (pv 0) pe_int (fun _ _ => rfl)) pe_int) (pg_sub (pv 0) pe_int set_list))
      (Evl.pss_cut (ps_set (i := 3) scDip.nd rfl (.inl rfl) (pe_op op_modN (pe_callTy call_int1 (by rfl) mi (by decide +kernel) (pa_cons
          (pe_op op_powW (pe_op op_add (pe_ix ix_list (pv 0) pe_int (fun _ _ => rfl)) (pe_op op_mul pe_int (pe_ix ix_list (pv 0) pe_int (fun _ _ => rfl)))) pe_int) pa_nil)) (pe_op op_add (pe_op op_pow pe_int pe_int) pe_int)))
      (pss_cons (ps_set (i := 3) scDip.nd rfl (.inl rfl) (pe_op op_modN (pe_callTy call_int1 (by rfl) mi (by decide +kernel) (pa_cons
          (pe_op op_powW (pe_op op_add (pv 3) (pe_op op_mul pe_int (pe_ix ix_list (pv 0) pe_int (fun _ _ => rfl)))) pe_int) pa_nil)) (pe_op op_add (pe_op op_pow pe_int pe_int) pe_int)))
      (pss_one (ps_ret (pe_op op_modN (pe_callTy call_int1 (by rfl) mi (by decide +kernel) (pa_cons (pe_op op_fdivW (pv 3) pe_int) pa_nil)) (pv 1))))))), ?_⟩
    obtain ⟨a, b, c, e, hb0, hb1, hc0, hc1⟩ := hj
    have e160 : (2 : Int) ^ 160 = 1461501637330902918203684832716283019655932542976 := by decide +kernel
    have e162 : (2 : Nat) ^ 162 = 5846006549323611672814739330865132078623730171904 := by decide +kernel
    have e200 : (2 : Int) ^ 200 = 1606938044258990275541962092341162602522202993782792835301376 := by decide +kernel
    have n200 : (2 : Nat) ^ 200 = 1606938044258990275541962092341162602522202993782792835301376 := by decide +kernel
    have hbig : (10 ^ Int.toNat 47 + 91 : Int) = 100000000000000000000000000000000000000000000091 := by decide +kernel
    have hbig2 : (10 ^ Int.toNat 46 + 79 : Int) = 10000000000000000000000000000000000000000000079 := by decide +kernel
    refine ⟨.ref j, rfl, j, _, 0, .int a, rfl, rfl, SqL.of e, rfl, a, 0, rfl, rfl, _, rfl, ite2 (fun z => ?_) (fun z => ?_)⟩
    · refine ⟨.ref j, rfl, j, _, 0, .int a, rfl, rfl, SqL.of e, rfl, .inl ⟨a, rfl, _, rfl, a, n, rfl, rfl, (show n ≠ 0 by omega), ?_⟩⟩
      refine ⟨.ref j, rfl, j, _, 0, .int a, rfl, rfl, SqL.of e, rfl, _, rfl, a, n, rfl, rfl, wide_div hn (b := 200) (by rw [n200]; rw [e200] at hn2; omega) (by decide) (by decide), .ref j, rfl, j, _, 0, 0, rfl, rfl, e, rfl, ?_⟩
      refine ⟨_, rfl, q _ _ (fmod_range hn).1 (fmod_range hn).2 (But.refl j H).set ⟨_, b, c, upd_same, hb0, hb1, hc0, by omega⟩⟩
    · refine ⟨.ref j, rfl, j, _, 2, .int c, rfl, rfl, SqL.of e, rfl, c, 1, rfl, rfl, .ref j, rfl, j, _, 2, 2, rfl, rfl, e, rfl, ?_⟩
      -- mixed
      refine ⟨fun σ H1 => ∃ m1 : Int, 0 ≤ m1 ∧ m1 < 100000000000000000000000000000000000000000000091 ∧ σ = [some (.ref j), some (.int n), none, some (.int m1)] ∧ H1 = upd H j (.lst [.int a, .int b, .int (c + 1)]), ?_, ?_⟩
      · refine ⟨.ref j, rfl, j, _, 1, .int b, rfl, rfl, SqL.of upd_same, rfl, .ref j, rfl, j, _, 2, .int (c + 1), rfl, rfl, SqL.of upd_same, rfl, 60000049, c + 1, rfl, rfl, .inl ⟨by decide, by decide⟩, b, _, rfl, rfl, _, 3, rfl, rfl,
          cube_ok (by rw [e162]; rw [e160] at hb1; omega), .inl ⟨_, rfl, 10, 47, rfl, rfl, ⟨by decide, by decide, by decide⟩, _, 91, rfl, rfl, _, _, rfl, rfl, (by show (10 ^ Int.toNat 47 + 91 : Int) ≠ 0; rw [hbig]; decide), ?_⟩⟩
        rw [hbig]
        have r1 := fmod_range (i := (b + 60000049 * (c + 1)) ^ Int.toNat 3) (j := 100000000000000000000000000000000000000000000091) (by decide)
        exact ⟨_, r1.1, r1.2, rfl, rfl⟩
      rintro σ H1 ⟨m1, r0, r1, rfl, rfl⟩
      refine ⟨_, rfl, .ref j, rfl, j, _, 2, .int (c + 1), rfl, rfl, SqL.of upd_same, rfl, 35000021, c + 1, rfl, rfl, .inl ⟨by decide, by decide⟩, m1, _, rfl, rfl, _, 3, rfl, rfl,
        cube_ok (by rw [e162]; omega), .inl ⟨_, rfl, 10, 46, rfl, rfl, ⟨by decide, by decide, by decide⟩, _, 79, rfl, rfl, _, _, rfl, rfl, (by show (10 ^ Int.toNat 46 + 79 : Int) ≠ 0; rw [hbig2]; decide), ?_⟩⟩
      refine ⟨_, rfl, _, 1073741827, rfl, rfl, wide_div (by decide) (b := 200) (by rw [n200]; decide) (by decide) (by decide), .inl ⟨_, rfl, _, rfl, _, n, rfl, rfl, (show n ≠ 0 by omega), ?_⟩⟩
      exact q _ _ (fmod_range hn).1 (fmod_range hn).2 (But.refl j H).set ⟨a, b, c + 1, upd_same, hb0, hb1, by omega, by omega⟩
end
end GL
set_option Elab.async false
set_option linter.all false
set_option maxRecDepth 100000
set_option maxHeartbeats 4000000
/-! # panes at addresses; borders -/
namespace GL
open PySem PySem.Spec PyProof.Rows L2 Geo Rel
abbrev nBorder : List Str := ["panes", "axis", "edge", "one"]
theorem scBorder : FnScope nBorder ["panes", "axis"] (defScope sBorder) := ⟨rfl, rfl, rfl, by decide +kernel, rfl, by decide +kernel, by decide +kernel⟩
/-- a pane's corners; by their number -/
def PnV (p : Pn) : List V := [.int p.x0, .int p.y0, .int p.x1, .int p.y1]
def cm (p : Pn) (i : Int) : Int := if i = 0 then p.x0 else if i = 1 then p.y0 else if i = 2 then p.x1 else p.y1
theorem cm_at (p : Pn) {i : Int} (h : 0 ≤ i ∧ i ≤ 3) : atI (PnV p) i = some (.int (cm p i)) := by
  have e : i = 0 ∨ i = 1 ∨ i = 2 ∨ i = 3 := by omega
  rcases e with rfl | rfl | rfl | rfl <;> rfl
/-- the panes zs, each at its address, in a list at l -/
structure Lay (H : Hp) (l : Addr) (zs : List (Addr × Pn)) : Prop where
  l : H l = some (.lst (zs.map fun z => .ref z.1))
  t : ∀ z ∈ zs, H z.1 = some (.tup (PnV z.2))
theorem Lay.same {H H' : Hp} {l : Addr} {zs : List (Addr × Pn)} (h : Lay H l zs) (e : Same H H') : Lay H' l zs := ⟨e _ _ h.l, fun z hz => e _ _ (h.t z hz)⟩
theorem Lay.but {H H' : Hp} {l j : Addr} {m : Nat} {zs : List (Addr × Pn)} (h : Lay H l zs) (hj : Jar H j m) (e : But j H H') (hn : zs ≠ []) : Lay H' l zs := by
  obtain ⟨a, b, c, ej, _⟩ := hj
  refine ⟨e _ _ (fun z => ?_) h.l, fun z hz => e _ _ (fun y => ?_) (h.t z hz)⟩
  · have q := h.l
    rw [z, ej] at q
    cases zs with
    | nil => exact hn rfl
    | cons u r =>
      injection q with q
      injection q with q
      rw [List.map_cons] at q
      injection q with q _
      cases q
  · have q := h.t z hz
    rw [y, ej] at q
    cases q
theorem ixLK {K : PySem.W.Frag} {X : Cx} (e : X.K = K) : IxR X (rIxL K) := e ▸ ix_list
theorem ixTK {K : PySem.W.Frag} {X : Cx} (e : X.K = K) : IxR X (rIxT K) := e ▸ ix_tup
section
variable {K : PySem.W.Frag} {σ : L2.St} {H : Hp} {te ti : TE}
/-- one[i], one a pane -/
theorem ev_cm {a : Addr} {p : Pn} {i : Int} (h : Evl.Ev te σ H (.ref a)) (hi : Evl.Ev ti σ H (.int i)) (ht : H a = some (.tup (PnV p))) (hr : 0 ≤ i ∧ i ≤ 3) : Evl.Ev (tOp (rIxT K) te ti) σ H (.int (cm p i)) :=
  Evl.ev_op h hi (Evl.rv_ixT (SqT.of ht) (cm_at p hr))
end
section
variable {P : Program} {w : World} {K : PySem.W.Frag} {mg : Str → Option Value} {base : Heap}
/-- m is the greatest of f over zs -/
def Top {α : Type} (f : α → Int) (zs : List α) (m : Int) : Prop := (∃ z ∈ zs, f z = m) ∧ ∀ z ∈ zs, f z ≤ m
theorem top_of {α : Type} {f : α → Int} {zs : List α} {m : Int} (h1 : m ∈ zs.map f) (h2 : ∀ y ∈ zs.map f, y ≤ m) : Top f zs m := by
  obtain ⟨z, hz, e⟩ := List.mem_map.mp h1
  exact ⟨⟨z, hz, e⟩, fun z hz => h2 _ (List.mem_map_of_mem hz)⟩
theorem top_one {α : Type} {f : α → Int} {zs : List α} {m n : Int} (h : Top f zs m) (k : Top f zs n) : m = n := by
  obtain ⟨⟨a, ha, ea⟩, h2⟩ := h
  obtain ⟨⟨b, hb, eb⟩, k2⟩ := k
  have := h2 b hb
  have := k2 a ha
  omega
def spBorder : Sp := fun vs H Q _ => ∃ (l : Addr) (zs : List (Addr × Pn)) (ax : Int), vs = [.ref l, .int ax] ∧ Lay H l zs ∧ zs ≠ [] ∧ zs.length ≤ 1000 ∧ (0 ≤ ax ∧ ax ≤ 1) ∧
  ∀ H' m, Same H H' → Top (fun z : Addr × Pn => cm z.2 (ax + 2)) zs m → Q (.int (zs.filter fun z => decide (cm z.2 (ax + 2) = m)).length) H'
theorem ok_border {f : Addr} {fd : FuncData} {k : Nat} (F : Fun K "_law_border" "_law_border" sBorder f fd) (mm : mg "max" = none) (ml : mg "len" = none) :
    FnOk P w K mg base CX0 (k + 1) f fd ["panes", "axis"] spBorder := by
  refine F.ok scBorder (fun vs H Q E h => ?_) (fun cdv A outer s H vs Q E hr h => ?_)
  · obtain ⟨l, zs, ax, rfl, _⟩ := h
    rfl
  · obtain ⟨l, zs, ax, rfl, hL, hne, hlen, hax, q⟩ := h
    refine ⟨_, pss_cons (ps_set (i := 2) scBorder.nd rfl (.inr rfl) (pe_callB (cr_max rfl) (by rfl) mm (by decide +kernel) (pa_cons (pe_lc (own := [("one", 3)]) (g := gName 3) (tt := tYes) rfl scBorder.nd (pi_list (pv 0))
          (blkOk_by (N := nBorder) (sc := defScope sBorder) (by decide +kernel)) (fun _ _ _ _ _ => pg_name (i := 3) scBorder.nd rfl (Or.inl rfl)) (fun _ _ _ _ _ => pts_nil)
          (fun _ _ _ _ _ => pe_ix (ixTK (K := K) rfl) (pv 3) (pe_op op_add (pv 1) pe_int) (fun _ _ => rfl))) pa_nil)))
      (pss_one (ps_ret (pe_callB call_len_seq (by rfl) ml PySem.boot_len (pa_cons (pe_lc (own := [("one", 3)]) (g := gName 3) (tt := tTest (tOp rEq (tOp (rIxT K) (tVar 3) (tOp (rI0 fun i j => .int (i + j)) (tVar 1) (tC (.int 2)))) (tVar 2))) rfl scBorder.nd (pi_list (pv 0))
          (blkOk_by (N := nBorder) (sc := defScope sBorder) (by decide +kernel)) (fun _ _ _ _ _ => pg_name (i := 3) scBorder.nd rfl (Or.inl rfl))
          (fun _ _ _ _ _ => pts_one (pt_cmpR op_eq (pe_ix (ixTK (K := K) rfl) (pv 3) (pe_op op_add (pv 1) pe_int) (fun _ _ => rfl)) (pv 2) (nomark _)))
          (fun _ _ _ _ _ => pv 3)) pa_nil)))), ?_⟩
    have ev2 : ∀ {σ : L2.St} {H1 : Hp} {z : Addr × Pn}, σ[1]? = some (some (.int ax)) → σ[3]? = some (some (.ref z.1)) → z ∈ zs → Evl.Ex H H1 →
        Evl.Ev (tOp (rIxT K) (tVar 3) (tOp (rI0 fun i j => .int (i + j)) (tVar 1) (tC (.int 2)))) σ H1 (.int (cm z.2 (ax + 2))) := fun h1 h3 hz e =>
      ev_cm (Evl.ev_var h3) (Evl.ev_op (Evl.ev_var h1) Evl.ev_c Evl.rv_I0) (e _ _ (hL.t _ hz)) (by omega)
    have hfil : zs.filter (fun _ => true) = zs := List.filter_eq_self.mpr fun _ _ => rfl
    refine q_maxN (ns := zs.map fun z => cm z.2 (ax + 2)) ?lc ?pos fun m H1 e1 hm1 hm2 => ?_
    case pos =>
      rw [List.length_map]
      exact List.length_pos_iff.mpr hne
    case lc =>
      have z := el_lcV (K := K) (σ := [some (.ref l), some (.int ax), none, none]) (H := H) (tl := tVar 0) (j := 3) (vs := [3]) (t := tYes) (zs := zs) (val := fun z => .ref z.1) (g := fun z => .int (cm z.2 (ax + 2))) (fun _ => true) (Evl.ev_var rfl) (SqL.of hL.l) (by omega) (fun _ => rfl)
        (fun z hz H1 e H2 e2 Q q => q H2 (Evl.Ex.refl _)) (fun z hz H1 e _ => ev2 rfl rfl hz e) (fun z hz p hp => by cases hp)
      rw [hfil] at z
      rw [List.map_map]
      exact z
    have top := top_of hm1 hm2
    refine Evl.s_ret (Evl.ev_lenN (el_lcV (K := K) (σ := [some (.ref l), some (.int ax), some (.int m), none]) (H := H1) (j := 3) (vs := [3]) (zs := zs) (val := fun z => .ref z.1) (g := fun z => .ref z.1) (fun z => decide (V.int (cm z.2 (ax + 2)) = V.int m)) (Evl.ev_var rfl) (SqL.of (e1 _ _ hL.l)) (by omega) (fun _ => rfl)
      (fun z hz H2 e => Evl.et_test (Evl.ev_op (ev2 rfl rfl hz (e1.trans e)) (Evl.ev_var rfl) (Evl.rv_eq rfl))) (fun z hz H2 e _ => Evl.ev_var rfl) (fun z hz p hp => by
        cases hp
        rw [e1 _ _ (hL.t z hz)]
        exact fun h => nomatch h))) fun H2 e2 => ?_
    rw [List.length_map]
    have e : (fun z : Addr × Pn => decide (V.int (cm z.2 (ax + 2)) = V.int m)) = fun z => decide (cm z.2 (ax + 2) = m) := funext fun z => by
      simp
    rw [e]
    exact q H2 m (e1.trans e2) top
end
end GL
set_option Elab.async false
set_option linter.all false
set_option maxRecDepth 100000
set_option maxHeartbeats 8000000
/-! # one pane more -/
namespace GL
open PySem PySem.Spec PyProof.Rows L2 Geo Rel
abbrev nPushed : List Str := ["panes", "entry", "axis", "one", "edge", "wide", "spot", "row_here", "kept", "names_here", "found", "corners", "last", "begin"]
theorem scPushed : FnScope nPushed ["panes", "entry"] (defScope sPushed) := ⟨rfl, rfl, rfl, by decide +kernel, rfl, by decide +kernel, by decide +kernel⟩
/-- one corner another -/
def sc (p : Pn) (i v : Int) : Pn := if i = 0 then { p with x0 := v } else if i = 1 then { p with y0 := v } else if i = 2 then { p with x1 := v } else { p with y1 := v }
theorem sc_set (p : Pn) (v : Int) {i : Int} {k : Nat} (h : i = (k : Int)) (hk : k ≤ 3) : (PnV p).set k (.int v) = PnV (sc p i v) := by
  subst h
  have e : k = 0 ∨ k = 1 ∨ k = 2 ∨ k = 3 := by omega
  rcases e with rfl | rfl | rfl | rfl <;> rfl
section
variable {P : Program} {w : World} {K : PySem.W.Frag} {mg : Str → Option Value} {base : Heap}
/-- the pane number i, drawn out by one where it lies at the border and is not kept -/
def outp (ax E : Int) (kept : List (Int × Int)) (i : Nat) (p : Pn) : Pn := if cm p (ax + 2) = E ∧ (i : Int) ∉ kept.map (·.2) then sc p (ax + 2) (E + 1) else p
/-- how the panes of zs become one more: E, W the sides of the desk ahead, row the border, kept its last n -/
structure Made (zs : List (Addr × Pn)) (ax : Int) (n : Nat) (E W : Int) (row : List (Int × Int)) (k0 : Int × Int) (r : List (Int × Int)) (ps' : List Pn) : Prop where
  e : Top (fun z : Addr × Pn => cm z.2 (ax + 2)) zs E
  w : Top (fun z : Addr × Pn => cm z.2 (3 - ax)) zs W
  perm : row.Perm (((zs.zipIdx.map fun p => (p.2, p.1)).filter fun u : Nat × (Addr × Pn) => decide (cm u.2.2 (ax + 2) = E)).map fun u => (cm u.2.2 (1 - ax), (u.1 : Int)))
  srt : row.Pairwise LeP
  cut : row.drop (row.length - n) = k0 :: r
  out : ps' = ((zs.zipIdx.map fun p => (p.2, p.1)).map fun u : Nat × (Addr × Pn) => outp ax E (k0 :: r) u.1 u.2.2) ++ [sc (sc (sc (sc ⟨0, 0, 0, 0⟩ ax E) (ax + 2) (E + 1)) (1 - ax) k0.1) (3 - ax) W]
def spPushed : Sp := fun vs H Q _ => ∃ (l : Addr) (zs : List (Addr × Pn)) (en ax : Int), vs = [.ref l, .int en] ∧ Lay H l zs ∧ zs ≠ [] ∧ zs.length ≤ 1000 ∧ en ≠ 0 ∧ ax = (if 0 < en then 1 else 0) ∧
  (∀ E, Top (fun z : Addr × Pn => cm z.2 (ax + 2)) zs E → (en.natAbs ≤ (zs.filter fun z => decide (cm z.2 (ax + 2) = E)).length)) ∧
  ∀ H' l' zs' E W row k0 r, Same H H' → H l' = none → Lay H' l' zs' → Made zs ax en.natAbs E W row k0 r (zs'.map (·.2)) → Q (.ref l') H'
/-- the built-in names -/
structure BI (mg : Str → Option Value) : Prop where
  ma : mg "max" = none
  so : mg "sorted" = none
  en : mg "enumerate" = none
  le : mg "len" = none
  ab : mg "abs" = none
  li : mg "list" = none
  tu : mg "tuple" = none
theorem inV_ints (i : Int) : ∀ ns : List Int, inV (.int i) (ns.map V.int) = decide (i ∈ ns)
  | [] => rfl
  | n :: r => by
    have ih := inV_ints i r
    unfold inV at ih ⊢
    rw [List.map_cons, List.any_cons, ih]
    by_cases c : n = i
    · subst c
      simp [eqV]
    · have c2 : ¬ i = n := fun z => c z.symm
      simp [eqV, c, c2]
theorem sc4 (p : Pn) {i : Int} (h : 0 ≤ i ∧ i ≤ 3) (v : Int) : ∃ k : Nat, i = (k : Int) ∧ k < 4 ∧ (PnV p).set k (.int v) = PnV (sc p i v) := ⟨i.toNat, by omega, by omega, sc_set p v (by omega) (by omega)⟩
/-- xs[i], xs[j] = a, b, xs a list of four numbers -/
theorem q_two {K : PySem.W.Frag} {σ : L2.St} {H : Hp} {t1 t2 ti tj : TE} {n : Nat} {D : Ends} {tz : TS} {pl : Addr} {p : Pn} {a b i j : Int} (hs : σ[n]? = some (some (.ref pl))) (hp : H pl = some (.lst (PnV p))) (h1 : Evl.Ev t1 σ H (.int a)) (h2 : Evl.Ev t2 σ H (.int b))
    (hi : ∀ H1, But pl H H1 → Evl.Ev ti σ H1 (.int i)) (hj : ∀ H1, But pl H H1 → Evl.Ev tj σ H1 (.int j)) (ri : 0 ≤ i ∧ i ≤ 3) (rj : 0 ≤ j ∧ j ≤ 3) (k : ∀ H1, But pl H H1 → H1 pl = some (.lst (PnV (sc (sc p i a) j b))) → tz D σ H1) :
    tSeq (tAsg (tTup (tCons t1 (tCons t2 tNil))) (gTup K 2 (gCons (gSub (tVar n) ti rSetL) (gCons (gSub (tVar n) tj rSetL) gNil)))) tz D σ H := by
  refine h1 H (Evl.Ex.refl H) _ fun H1 e1 => h2 H1 e1 _ fun H2 e2 => ⟨(show 2 ≤ sizeLine by decide), fun T nT => ?_⟩
  have e3 : Evl.Ex H (upd H2 T (.tup [.int a, .int b])) := (e1.trans e2).trans (Evl.Ex.new nT)
  refine ⟨T, [.int a, .int b], rfl, .inl (.inl upd_same), rfl, .int a, [.int b], rfl, .ref pl, hs, ?_⟩
  refine hi _ (fun c o _ h => e3 _ _ h) _ (Evl.Ex.refl _) _ fun H3 e4 => ?_
  obtain ⟨ki, e5, l5, s5⟩ := sc4 p ri a
  refine ⟨pl, PnV p, i, ki, rfl, rfl, e4 _ _ (e3 _ _ hp), by rw [e5]; exact Evl.ixN_nat l5, .int b, [], rfl, .ref pl, hs, ?_⟩
  rw [s5]
  refine hj _ (fun c o n h => ?_) _ (Evl.Ex.refl _) _ fun H4 e6 => ?_
  · rw [upd_ne n]
    exact e4 _ _ (e3 _ _ h)
  obtain ⟨kj, e7, l7, s7⟩ := sc4 (sc p i a) rj b
  refine ⟨pl, PnV (sc p i a), j, kj, rfl, rfl, e6 _ _ upd_same, by rw [e7]; exact Evl.ixN_nat l7, rfl, ?_⟩
  rw [s7]
  refine k _ (fun c o n h => ?_) upd_same
  rw [upd_ne n]
  exact e6 _ _ (by rw [upd_ne n]; exact e4 _ _ (e3 _ _ h))
theorem zip_filter_len {α : Type} (l : List α) (f : α → Bool) : ((l.zipIdx.map fun p => (p.2, p.1)).filter fun u : Nat × α => f u.2).length = (l.filter f).length := by
  have e : ∀ (l : List α) (n : Nat), (((l.zipIdx n).map fun p => (p.2, p.1)).filter fun u : Nat × α => f u.2).length = (l.filter f).length := by
    intro l
    induction l with
    | nil => intro n; rfl
    | cons a l ih =>
      intro n
      rw [List.zipIdx_cons, List.map_cons, List.filter_cons, List.filter_cons]
      by_cases c : f a = true
      · rw [if_pos c, if_pos c, List.length_cons, List.length_cons, ih]
      · rw [if_neg c, if_neg c, ih]
  exact e l 0
theorem ok_pushed {f : Addr} {fd : FuncData} {k : Nat} (F : Fun K "_law_pushed" "_law_pushed" sPushed f fd) (m : BI mg) : FnOk P w K mg base CX0 (k + 1) f fd ["panes", "entry"] spPushed := by
  refine F.ok scPushed (fun vs H Q E h => ?_) (fun cdv A outer s H vs Q E hr h => ?_)
  · obtain ⟨l, zs, en, ax, rfl, _⟩ := h
    rfl
  · obtain ⟨l, zs, en, ax, rfl, hL, hne, hlen, hen, hax, hn, q⟩ := h
    refine ⟨_, pss_cons (ps_set (i := 2) scPushed.nd rfl (Or.inr rfl) (pe_ifExp (pt_cmpR op_gt (pv 1) pe_int (nomark _)) pe_int pe_int))
      (pss_cons (ps_set (i := 4) scPushed.nd rfl (Or.inr rfl) (pe_callB (cr_max rfl) (by rfl) m.ma (by decide +kernel) (pa_cons (pe_lc (own := [("one", 3)]) (g := gName 3) (tt := tYes) rfl scPushed.nd (pi_list (pv 0)) (blkOk_by (N := nPushed) (sc := defScope sPushed) (by decide +kernel)) (fun _ _ _ _ _ => (pg_name (i := 3) scPushed.nd rfl (Or.inl rfl))) (fun _ _ _ _ _ => pts_nil) (fun _ _ _ _ _ => (pe_ix (ixTK (K := K) rfl) (pv 3) (pe_op op_add (pv 2) pe_int) (fun _ _ => rfl)))) pa_nil)))
      (pss_cons (ps_set (i := 5) scPushed.nd rfl (Or.inl rfl) (pe_callB (cr_max rfl) (by rfl) m.ma (by decide +kernel) (pa_cons (pe_lc (own := [("one", 3)]) (g := gName 3) (tt := tYes) rfl scPushed.nd (pi_list (pv 0)) (blkOk_by (N := nPushed) (sc := defScope sPushed) (by decide +kernel)) (fun _ _ _ _ _ => (pg_name (i := 3) scPushed.nd rfl (Or.inl rfl))) (fun _ _ _ _ _ => pts_nil) (fun _ _ _ _ _ => (pe_ix (ixTK (K := K) rfl) (pv 3) (pe_op op_sub pe_int (pv 2)) (fun _ _ => rfl)))) pa_nil)))
      (pss_cons (ps_set (i := 7) scPushed.nd rfl (Or.inl rfl) (pe_callB cr_sortedPO (by rfl) m.so (by decide +kernel) (pa_cons (pe_lc (own := [("spot", 6), ("one", 3)]) (g := gTup K 2 (gCons (gName 6) (gCons (gName 3) gNil))) (tt := tTest (tOp rEq (tOp (rIxT K) (tVar 3) (tOp (rI0 fun i j => .int (i + j)) (tVar 2) (tC (.int 2)))) (tVar 4))) rfl scPushed.nd (pi_enum (by rfl) m.en (pa_cons (pv 0) pa_nil)) (blkOk_by (N := nPushed) (sc := defScope sPushed) (by decide +kernel)) (fun _ _ _ _ _ => pg_tup rfl (pgs_cons (pg_name (i := 6) scPushed.nd rfl (Or.inl rfl)) (pgs_cons (pg_name (i := 3) scPushed.nd rfl (Or.inl rfl)) pgs_nil))) (fun _ _ _ _ _ => pts_one (pt_cmpR op_eq (pe_ix (ixTK (K := K) rfl) (pv 3) (pe_op op_add (pv 2) pe_int) (fun _ _ => rfl)) (pv 4) (nomark _))) (fun _ _ _ _ _ => pe_tup (pa_cons (pe_ix (ixTK (K := K) rfl) (pv 3) (pe_op op_sub pe_int (pv 2)) (fun _ _ => rfl)) (pa_cons (pv 6) pa_nil)))) pa_nil)))
      (pss_cons (ps_set (i := 8) scPushed.nd rfl (Or.inl rfl) (pe_slice sl_list (pv 7) (po_some (pe_op op_sub (pe_callB call_len_seq (by rfl) m.le PySem.boot_len (pa_cons (pv 7) pa_nil)) (pe_callB call_abs (by rfl) m.ab (by decide +kernel) (pa_cons (pv 1) pa_nil)))) po_none))
      (pss_cons (ps_par (i := 9) (j := 10) rfl scPushed.nd rfl rfl (by decide) rfl rfl (pa_cons (pe_lc (own := [("begin", 13), ("spot", 6)]) (g := gTup K 2 (gCons (gName 13) (gCons (gName 6) gNil))) (tt := tYes) rfl scPushed.nd (pi_list (pv 8)) (blkOk_by (N := nPushed) (sc := defScope sPushed) (by decide +kernel)) (fun _ _ _ _ _ => pg_tup rfl (pgs_cons (pg_name (i := 13) scPushed.nd rfl (Or.inl rfl)) (pgs_cons (pg_name (i := 6) scPushed.nd rfl (Or.inl rfl)) pgs_nil))) (fun _ _ _ _ _ => pts_nil) (fun _ _ _ _ _ => pv 6)) (pa_cons (pe_lst pa_nil) pa_nil)) (by rfl))
      (Evl.pss_cut (ps_for PassesOwn.never rfl (pi_enum (by rfl) m.en (pa_cons (pv 0) pa_nil)) (pg_tup rfl (pgs_cons (pg_name (i := 6) scPushed.nd rfl (Or.inl rfl)) (pgs_cons (pg_name (i := 3) scPushed.nd rfl (Or.inl rfl)) pgs_nil)))
        (pss_cons (ps_set (i := 11) scPushed.nd rfl (Or.inl rfl) (pe_callTy call_list_of (by rfl) m.li (by decide +kernel) (pa_cons (pv 3) pa_nil)))
          (Evl.pss_cut (ps_if (PW.pt (pw_and (pt_cmpR op_eq (pe_ix ix_list (pv 11) (pe_op op_add (pv 2) pe_int) (fun _ _ => rfl)) (pv 4) (nomark _)) (pw_and1 (pt_cmpR op_notIn_seq (pv 6) (pv 9) rfl)))) (pss_one (ps_asg (pe_op op_add (pv 4) pe_int) (pg_sub (pv 11) (pe_op op_add (pv 2) pe_int) set_list))) pss_nil)
          (pss_one (ps_expr (pe_bm PySem.F.plainAttrs_list PySem.F.slot_list_append PySem.F.type_list_append mt_append (pv 10) (pa_cons (pe_callTy call_tuple_of (by rfl) m.tu (by decide +kernel) (pa_cons (pv 11) pa_nil)) pa_nil)))))))
      (pss_cons (ps_set (i := 12) scPushed.nd rfl (Or.inl rfl) (pe_lst (pa_cons pe_int (pa_cons pe_int (pa_cons pe_int (pa_cons pe_int pa_nil))))))
      (pss_cons (ps_asg (pe_tup (pa_cons (pv 4) (pa_cons (pe_op op_add (pv 4) pe_int) pa_nil))) (pg_tup rfl (pgs_cons (pg_sub (pv 12) (pv 2) set_list) (pgs_cons (pg_sub (pv 12) (pe_op op_add (pv 2) pe_int) set_list) pgs_nil))))
      (pss_cons (ps_asg (pe_tup (pa_cons (pe_ix (ixTK (K := K) rfl) (pe_ix ix_list (pv 8) pe_int (fun _ _ => rfl)) pe_int (fun _ _ => rfl)) (pa_cons (pv 5) pa_nil))) (pg_tup rfl (pgs_cons (pg_sub (pv 12) (pe_op op_sub pe_int (pv 2)) set_list) (pgs_cons (pg_sub (pv 12) (pe_op op_sub pe_int (pv 2)) set_list) pgs_nil))))
      (pss_one (ps_ret (pe_op op_cat (pv 10) (pe_lst (pa_cons (pe_callTy call_tuple_of (by rfl) m.tu (by decide +kernel) (pa_cons (pv 12) pa_nil)) pa_nil)))))))))))))), ?_⟩
    have hx01 : ax = 0 ∨ ax = 1 := by
      rw [hax]
      by_cases c : 0 < en
      · rw [if_pos c]
        exact .inr rfl
      · rw [if_neg c]
        exact .inl rfl
    have hfil : zs.filter (fun _ => true) = zs := List.filter_eq_self.mpr fun _ _ => rfl
    -- one[axis + 2], one[3 - axis], one[1 - axis]
    have cmA : ∀ {σ : L2.St} {H1 : Hp} {z : Addr × Pn}, σ[2]? = some (some (.int ax)) → σ[3]? = some (some (.ref z.1)) → H1 z.1 = some (.tup (PnV z.2)) →
        Evl.Ev (tOp (rIxT K) (tVar 3) (tOp (rI0 fun i j => .int (i + j)) (tVar 2) (tC (.int 2)))) σ H1 (.int (cm z.2 (ax + 2))) := fun h1 h3 ht =>
      ev_cm (Evl.ev_var h3) (Evl.ev_op (Evl.ev_var h1) Evl.ev_c Evl.rv_I0) ht (by omega)
    have cmS : ∀ (c : Int) {σ : L2.St} {H1 : Hp} {z : Addr × Pn}, (c = 1 ∨ c = 3) → σ[2]? = some (some (.int ax)) → σ[3]? = some (some (.ref z.1)) → H1 z.1 = some (.tup (PnV z.2)) →
        Evl.Ev (tOp (rIxT K) (tVar 3) (tOp (rI0 fun i j => .int (i - j)) (tC (.int c)) (tVar 2))) σ H1 (.int (cm z.2 (c - ax))) := fun c {σ H1 z} hc h1 h3 ht =>
      ev_cm (Evl.ev_var h3) (Evl.ev_op Evl.ev_c (Evl.ev_var h1) Evl.rv_I0) ht (by omega)
    -- axis
    refine Evl.q_asg (Evl.ev_if (v := .int ax) (Evl.et_test (Evl.ev_op (Evl.ev_var rfl) Evl.ev_c Evl.rv_I0)) (fun z => ?_) fun z => ?_) fun H1 e1 => ?_
    · have c : 0 < en := of_decide_eq_true z
      rw [hax, if_pos c]
      exact Evl.ev_c
    · have c : ¬ 0 < en := of_decide_eq_false z
      rw [hax, if_neg c]
      exact Evl.ev_c
    have L1 := hL.same e1
    -- edge
    refine q_maxN (ns := zs.map fun z => cm z.2 (ax + 2)) ?lc1 (by rw [List.length_map]; exact List.length_pos_iff.mpr hne) fun Ed H2 e2 hm1 hm2 => ?_
    case lc1 =>
      have z := el_lcV (K := K) (σ := [some (.ref l), some (.int en), some (.int ax), none, none, none, none, none, none, none, none, none, none, none]) (H := H1) (tl := tVar 0) (j := 3) (vs := [3]) (t := tYes) (zs := zs) (val := fun z => .ref z.1) (g := fun z => .int (cm z.2 (ax + 2))) (fun _ => true) (Evl.ev_var rfl) (SqL.of L1.l) (by omega) (fun _ => rfl)
        (fun z hz H1 e H2 e2 Q q => q H2 (Evl.Ex.refl _)) (fun z hz H2 e _ => cmA rfl rfl (e _ _ (L1.t z hz))) (fun z hz p hp => by cases hp)
      rw [hfil] at z
      rw [List.map_map]
      exact z
    have topE := top_of hm1 hm2
    have L2' := L1.same e2
    -- wide
    refine q_maxN (ns := zs.map fun z => cm z.2 (3 - ax)) ?lc2 (by rw [List.length_map]; exact List.length_pos_iff.mpr hne) fun Wd H3 e3 hm3 hm4 => ?_
    case lc2 =>
      have z := el_lcV (K := K) (σ := [some (.ref l), some (.int en), some (.int ax), none, some (.int Ed), none, none, none, none, none, none, none, none, none]) (H := H2) (tl := tVar 0) (j := 3) (vs := [3]) (t := tYes) (zs := zs) (val := fun z => .ref z.1) (g := fun z => .int (cm z.2 (3 - ax))) (fun _ => true) (Evl.ev_var rfl) (SqL.of L2'.l) (by omega) (fun _ => rfl)
        (fun z hz H1 e H2 e2 Q q => q H2 (Evl.Ex.refl _)) (fun z hz H2 e _ => cmS 3 (.inr rfl) rfl rfl (e _ _ (L2'.t z hz))) (fun z hz p hp => by cases hp)
      rw [hfil] at z
      rw [List.map_map]
      exact z
    have topW := top_of hm3 hm4
    have L3 := L2'.same e3
    -- row_here
    refine q_sortedP (ps := ((zs.zipIdx.map fun p => (p.2, p.1)).filter fun u : Nat × (Addr × Pn) => decide (V.int (cm u.2.2 (ax + 2)) = V.int Ed)).map fun u => (cm u.2.2 (1 - ax), (u.1 : Int))) ?lc3 fun pr row H4 n4 e4 hrow hperm hsrt => ?_
    case lc3 =>
      intro Ha ea Q q
      refine er_lcE (K := K) (σ := [some (.ref l), some (.int en), some (.int ax), none, some (.int Ed), some (.int Wd), none, none, none, none, none, none, none, none]) (H := H3) (tl := tVar 0) (j := 6) (l := 3) (vs := [6, 3]) (zs := zs) (val := fun z => .ref z.1)
        (fun u : Nat × (Addr × Pn) => decide (V.int (cm u.2.2 (ax + 2)) = V.int Ed)) (fun u v H => ∃ p, v = .ref p ∧ H p = some (PrV (cm u.2.2 (1 - ax), (u.1 : Int)))) (mono_obj fun u : Nat × (Addr × Pn) => PrV (cm u.2.2 (1 - ax), (u.1 : Int)))
        (Evl.ev_var rfl) (SqL.of L3.l) (by omega) (fun _ _ => rfl) (fun i z hz Hb eb => Evl.et_test (Evl.ev_op (cmA rfl rfl (eb _ _ (L3.t z (List.mem_of_getElem? hz)))) (Evl.ev_var rfl) (Evl.rv_eq rfl)))
        (fun i z hz Hb eb _ => en_tup (Evl.ea_cons (cmS 1 (.inl rfl) rfl rfl (eb _ _ (L3.t z (List.mem_of_getElem? hz)))) (Evl.ea_cons (Evl.ev_var rfl) Evl.ea_nil)) (Nat.le_of_ble_eq_true rfl)) Ha ea Q fun p ys Hc np ec hp hr => q p Hc np ec ⟨ys, hp, PrR.of hr⟩
    have ebord : (fun u : Nat × (Addr × Pn) => decide (V.int (cm u.2.2 (ax + 2)) = V.int Ed)) = fun u => decide (cm u.2.2 (ax + 2) = Ed) := funext fun u => by simp
    rw [ebord] at hperm
    have rlen : row.length = (zs.filter fun z => decide (cm z.2 (ax + 2) = Ed)).length := by
      rw [hperm.length_eq, List.length_map]
      exact zip_filter_len zs fun z => decide (cm z.2 (ax + 2) = Ed)
    have hnr := hn Ed topE
    rw [← rlen] at hnr
    obtain ⟨k0, r, hcut⟩ : ∃ k0 r, row.drop (row.length - en.natAbs) = k0 :: r := by
      cases hd : row.drop (row.length - en.natAbs) with
      | nil =>
        have := congrArg List.length hd
        rw [List.length_drop, List.length_nil] at this
        omega
      | cons a b => exact ⟨a, b, rfl⟩
    obtain ⟨ysr, hr1, hr2⟩ := hrow
    -- kept
    refine Evl.q_asgL (xs := ysr.drop (row.length - en.natAbs)) ?lc4 fun pk H5 n5 e5 g5 => ?_
    case lc4 =>
      have z := Evl.el_sl (K := K) (σ := [some (.ref l), some (.int en), some (.int ax), none, some (.int Ed), some (.int Wd), none, some (.ref pr), none, none, none, none, none, none]) (H := H4) (te := tVar 7) (lo := some (((row.length - en.natAbs : Nat)) : Int)) (hi := none)
        (Evl.ev_var rfl) (Evl.eo_some (Evl.ev_is (Evl.ev_op (Evl.ev_cb (r := fun xs H Q => ∃ p ys, xs = [.ref p] ∧ (SqL K H p ys ∨ SqT K H p ys) ∧ Q (.int ys.length) H) (z := .int row.length) (Evl.ea_cons (Evl.ev_var (i := 7) rfl) Evl.ea_nil) fun Ha ea Q q => ⟨pr, ysr, rfl, .inl (SqL.of (ea _ _ hr1)), by rw [hr2.len]; exact q Ha (Evl.Ex.refl _)⟩)
          (Evl.ev_cb (r := fun xs H Q => ∃ i, xs = [.int i] ∧ Q (.int (if i < 0 then -i else i)) H) (z := .int (if en < 0 then -en else en)) (Evl.ea_cons (Evl.ev_var (i := 1) rfl) Evl.ea_nil) fun Ha ea Q q => ⟨en, rfl, q Ha (Evl.Ex.refl _)⟩) (Evl.rv_I0 (g := fun i j => V.int (i - j)))) (by
            show V.int ((row.length : Int) - (if en < 0 then -en else en)) = V.int ((row.length - en.natAbs : Nat) : Int)
            congr 1
            split <;> omega))) Evl.eo_none (SqL.of hr1)
      have ec : cutV ysr (some (((row.length - en.natAbs : Nat)) : Int)) none = ysr.drop (row.length - en.natAbs) := by
        have hl := hr2.len
        unfold cutV
        rw [HT.sIx_none, show HT.sIx ysr.length 0 (some (((row.length - en.natAbs : Nat)) : Int)) = min (row.length - en.natAbs) ysr.length from HT.sIx_nat _ _ _, Nat.min_eq_left (by omega)]
        exact List.take_of_length_le (by rw [List.length_drop]; omega)
      rw [ec] at z
      exact z
    have hk : Pairs H5 pk (k0 :: r) := ⟨_, g5, by
      have z := (hr2.drop (row.length - en.natAbs)).ex e5
      rw [hcut] at z
      exact z⟩
    have L5 := (L3.same e4).same e5
    have klen : (k0 :: r).length ≤ 1000 := by
      rw [← hcut, List.length_drop]
      have : (zs.filter fun z => decide (cm z.2 (ax + 2) = Ed)).length ≤ zs.length := List.length_filter_le _ _
      omega
    -- names_here, found
    refine q_parL (xs := (k0 :: r).map fun p : Int × Int => V.int p.2) (ys := []) (el_lcPr (K := K) (σ := [some (.ref l), some (.int en), some (.int ax), none, some (.int Ed), some (.int Wd), none, some (.ref pr), some (.ref pk), none, none, none, none, none]) (H := H5) (tl := tVar 8) (te := tVar 6) (j := 13) (l := 6) (vs := [13, 6]) (g := fun p : Int × Int => .int p.2)
      (Evl.ev_var rfl) hk (by omega) (fun _ _ => rfl) (fun p hp Ha ea => Evl.ev_var rfl) (fun p q h => nomatch h)) (Evl.el_lst Evl.ea_nil (Nat.le_of_ble_eq_true rfl)) fun pn pf H6 n6 nf hne6 e6 g6 gf => ?_
    have L6 := L5.same e6
    have pnl : pn ≠ l := fun z => by
      rw [z, L5.l] at n6
      cases n6
    have pfl : pf ≠ l := fun z => by
      rw [z, L5.l] at nf
      cases nf
    have pfk : pk ≠ pf := fun z => by
      rw [← z, g5] at nf
      cases nf
    have pft : ∀ z ∈ zs, z.1 ≠ pf := fun z hz e => by
      have t := L5.t z hz
      rw [e, nf] at t
      cases t
    -- the loop
    refine ⟨fun σ H' => ∃ (y3 y6 y11 : Option V) (us : List (Addr × Pn)), σ = [some (.ref l), some (.int en), some (.int ax), y3, some (.int Ed), some (.int Wd), y6, some (.ref pr), some (.ref pk), some (.ref pn), some (.ref pf), y11, none, none] ∧ But pf H6 H' ∧
      H' pf = some (.lst (us.map fun u => .ref u.1)) ∧ (∀ u ∈ us, H' u.1 = some (.tup (PnV u.2))) ∧ us.map (·.2) = (zs.zipIdx.map fun p => (p.2, p.1)).map fun u : Nat × (Addr × Pn) => outp ax Ed (k0 :: r) u.1 u.2.2, ?_, ?_⟩
    · refine ⟨.ref l, rfl, l, _, rfl, SqL.of L6.l, ?_⟩
      refine for_it (walk_enum (K := K) (a := l) (xs := zs.map fun z => .ref z.1)) (fun i σ H' => ∃ (y3 y6 y11 : Option V) (us : List (Addr × Pn)), σ = [some (.ref l), some (.int en), some (.int ax), y3, some (.int Ed), some (.int Wd), y6, some (.ref pr), some (.ref pk), some (.ref pn), some (.ref pf), y11, none, none] ∧ But pf H6 H' ∧
        H' pf = some (.lst (us.map fun u => .ref u.1)) ∧ (∀ u ∈ us, H' u.1 = some (.tup (PnV u.2))) ∧ us.map (·.2) = ((zs.zipIdx.map fun p => (p.2, p.1)).take i).map fun u : Nat × (Addr × Pn) => outp ax Ed (k0 :: r) u.1 u.2.2)
        ⟨none, none, none, [], rfl, But.refl _ _, gf, by simp, rfl⟩ (fun i σ H' _ ⟨_, _, _, _, _, hb, _⟩ => SqL.of (hb _ _ (Ne.symm pfl) L6.l)) ?_ ?_
      · rintro i x σ H7 H8 hi ⟨y3, y6, y11, us, rfl, hb, hpf, hus, hmap⟩ ⟨T, x1, x2, rfl, nT, rfl, h1, h2⟩
        have hi' : i < zs.length := by simpa using hi
        have ex1 : x1 = .int (i : Nat) := (Option.some.inj h1).symm
        have ex2 : x2 = .ref zs[i].1 := by
          have h2' : (zs.map fun z => V.ref z.1)[i]? = some x2 := h2
          rw [List.getElem?_map, List.getElem?_eq_getElem hi'] at h2'
          exact (Option.some.inj h2').symm
        subst ex1 ex2
        have hz : zs[i] ∈ zs := List.getElem_mem hi'
        have ht7 : H7 zs[i].1 = some (.tup (PnV zs[i].2)) := hb _ _ (pft _ hz) (L6.t _ hz)
        have e8 : Evl.Ex H7 (upd H7 T (.tup [.int (i : Nat), .ref zs[i].1])) := Evl.Ex.new nT
        refine ⟨T, [_, _], rfl, .inl (.inl upd_same), rfl, _, _, rfl, _, _, rfl, rfl, ?_⟩
        -- corners = list(one)
        refine ⟨.ref zs[i].1, rfl, zs[i].1, PnV zs[i].2, rfl, .inr (SqT.of (e8 _ _ ht7)), fun c nc => ?_⟩
        have e9 : Evl.Ex H7 (upd (upd H7 T (.tup [.int (i : Nat), .ref zs[i].1])) c (.lst (PnV zs[i].2))) := e8.trans (Evl.Ex.new nc)
        have nc7 : H7 c = none := Evl.fresh_back e8 nc
        have cpf : pf ≠ c := fun z => by
          rw [← z, hpf] at nc7
          cases nc7
        obtain ⟨j, hj, hj3⟩ : ∃ j : Nat, ax + 2 = (j : Int) ∧ j ≤ 3 := ⟨(ax + 2).toNat, by omega, by omega⟩
        refine ⟨fun σ H' => σ = [some (.ref l), some (.int en), some (.int ax), some (.ref zs[i].1), some (.int Ed), some (.int Wd), some (.int (i : Nat)), some (.ref pr), some (.ref pk), some (.ref pn), some (.ref pf), some (.ref c), none, none] ∧
          But c (upd (upd H7 T (.tup [.int (i : Nat), .ref zs[i].1])) c (.lst (PnV zs[i].2))) H' ∧ H' c = some (.lst (PnV (outp ax Ed (k0 :: r) i zs[i].2))), ?_, ?_⟩
        · have g9 : SqL K (upd (upd H7 T (.tup [.int (i : Nat), .ref zs[i].1])) c (.lst (PnV zs[i].2))) c (PnV zs[i].2) := SqL.of upd_same
          have gn : SqL K (upd (upd H7 T (.tup [.int (i : Nat), .ref zs[i].1])) c (.lst (PnV zs[i].2))) pn (((k0 :: r).map fun p : Int × Int => p.2).map V.int) := SqL.of (by
            rw [List.map_map]
            exact e9 _ _ (hb _ _ hne6 g6))
          refine Evl.s_when (b := (decide (V.int (cm zs[i].2 (ax + 2)) = V.int Ed) && !inV (.int (i : Nat)) (((k0 :: r).map fun p : Int × Int => p.2).map V.int))) (Evl.et_and (Evl.et_test (Evl.ev_op (Evl.ev_op (Evl.ev_var rfl) (Evl.ev_op (Evl.ev_var rfl) Evl.ev_c Evl.rv_I0) (Evl.rv_ixL g9 (cm_at zs[i].2 (by omega)))) (Evl.ev_var rfl) (Evl.rv_eq rfl)))
            (fun _ => Evl.et_test (Evl.ev_op (Evl.ev_var rfl) (Evl.ev_var rfl) (Evl.rv_niL gn rfl (by simp [flatV]))))) (fun z Ha ea => ?_) fun z Ha ea => ?_
          · rw [inV_ints, Bool.and_eq_true] at z
            have z1 : cm zs[i].2 (ax + 2) = Ed := V.int.inj (of_decide_eq_true z.1)
            have z2 : ((i : Nat) : Int) ∉ (k0 :: r).map (·.2) := by simpa using z.2
            refine ⟨.int Ed, rfl, Ed, 1, rfl, rfl, .ref c, rfl, .int ax, rfl, ax, 2, rfl, rfl, c, PnV zs[i].2, ax + 2, j, rfl, rfl, ea _ _ upd_same, ?_, rfl, ?_, ?_⟩
            · rw [hj]
              exact Evl.ixN_nat (show j < 4 by omega)
            · intro a o n h
              rw [upd_ne n]
              exact ea _ _ h
            · rw [upd_same, sc_set _ _ hj hj3]
              unfold outp
              rw [if_pos ⟨z1, z2⟩]
          · rw [inV_ints] at z
            refine ⟨rfl, fun a o _ h => ea _ _ h, ?_⟩
            unfold outp
            rw [if_neg fun y => ?_]
            · exact ea _ _ upd_same
            · have t1 : decide (V.int (cm zs[i].2 (ax + 2)) = V.int Ed) = true := decide_eq_true (by rw [y.1])
              have t2 : decide (((i : Nat) : Int) ∈ (k0 :: r).map (·.2)) = false := decide_eq_false y.2
              rw [t1, t2] at z
              cases z
        · rintro σ H8 ⟨rfl, hb8, hc8⟩
          have b78 : ∀ a o, H7 a = some o → H8 a = some o := fun a o h => hb8 a o (ne_of_none h nc7) (e9 _ _ h)
          refine ⟨.ref pf, rfl, .inl ⟨rfl, _, SqL.of (b78 _ _ hpf)⟩, .ref c, rfl, c, _, rfl, .inl ⟨SqL.of hc8, fun t nt => ?_⟩⟩
          have nt7 : H7 t = none := by
            cases q7 : H7 t with
            | none => rfl
            | some o =>
              rw [b78 _ _ q7] at nt
              cases nt
          have tpf : t ≠ pf := fun z => by
            rw [z, hpf] at nt7
            cases nt7
          have usl : us.length ≤ i := by
            have := congrArg List.length hmap
            rw [List.length_map, List.length_map, List.length_take] at this
            omega
          refine ⟨pf, us.map fun u => .ref u.1, .ref t, rfl, rfl, ?_, ?_, some (.ref zs[i].1), some (.int (i : Nat)), some (.ref c), us ++ [(t, outp ax Ed (k0 :: r) i zs[i].2)], rfl, ?_, ?_, ?_, ?_⟩
          · rw [upd_ne (Ne.symm tpf)]
            exact b78 _ _ hpf
          · rw [List.length_map]
            exact small1000 (by omega)
          · intro a o n h
            rw [upd_ne n]
            have h7 := hb a o n h
            rw [upd_ne (ne_of_none h7 nt7)]
            exact b78 _ _ h7
          · rw [upd_same, List.map_append]
            rfl
          · intro u hu
            have fresh : ∀ {a : Addr} {p : Pn}, H7 a = some (.tup (PnV p)) → upd (upd H8 t (.tup (PnV (outp ax Ed (k0 :: r) i zs[i].2)))) pf (.lst (us.map (fun u => V.ref u.1) ++ [.ref t])) a = some (.tup (PnV p)) := fun {a p} h => by
              rw [upd_ne (fun z => by rw [z, hpf] at h; cases h), upd_ne (ne_of_none h nt7)]
              exact b78 _ _ h
            rcases List.mem_append.mp hu with hu | hu
            · exact fresh (hus u hu)
            · obtain rfl := List.mem_singleton.mp hu
              rw [upd_ne tpf, upd_same]
          · rw [List.map_append, hmap, List.take_add_one, List.map_append]
            congr 1
            have hz2 : (zs.zipIdx.map fun p => (p.2, p.1))[i]? = some (i, zs[i]) := by
              rw [List.getElem?_map, List.getElem?_zipIdx, List.getElem?_eq_getElem hi']
              simp
            rw [hz2]
            rfl
      · rintro σ H7 ⟨y3, y6, y11, us, rfl, hb, hpf, hus, hmap⟩
        refine ⟨y3, y6, y11, us, rfl, hb, hpf, hus, ?_⟩
        rw [hmap]
        congr 1
        exact List.take_of_length_le (by simp)
    · rintro σ H7 ⟨y3, y6, y11, us, rfl, hb, hpf, hus, hmap⟩
      obtain ⟨ysk, hk1, hk2⟩ := hk
      obtain ⟨a0, rk, rfl, h0⟩ : ∃ a0 rk, ysk = .ref a0 :: rk ∧ H5 a0 = some (PrV k0) := by
        cases hk2 with
        | cons hb t =>
          obtain ⟨a0, e0, h0⟩ := hb
          exact ⟨a0, _, by rw [e0], h0⟩
      have a0f : a0 ≠ pf := fun z => by
        rw [z, nf] at h0
        cases h0
      have s6 : Same H H6 := ((((e1.trans e2).trans e3).trans e4).trans e5).trans e6
      have s5' : Same H H5 := (((e1.trans e2).trans e3).trans e4).trans e5
      have pf0 : H pf = none := s5'.free nf
      have s7 : Same H H7 := fun b o h => hb _ _ (ne_of_none h pf0) (s6 _ _ h)
      have hk7 : H7 pk = some (.lst (.ref a0 :: rk)) := hb _ _ pfk (e6 _ _ hk1)
      have h07 : H7 a0 = some (PrV k0) := hb _ _ a0f (e6 _ _ h0)
      -- last
      refine Evl.q_asgL (xs := PnV ⟨0, 0, 0, 0⟩) (Evl.el_lst (Evl.ea_cons Evl.ev_c (Evl.ea_cons Evl.ev_c (Evl.ea_cons Evl.ev_c (Evl.ea_cons Evl.ev_c Evl.ea_nil)))) (Nat.le_of_ble_eq_true rfl)) fun pl H8 n8 e8 g8 => ?_
      have plf : pl ≠ pf := fun z => by
        rw [z, hpf] at n8
        cases n8
      have plk : pl ≠ pk := fun z => by
        rw [z, hk7] at n8
        cases n8
      have pla : pl ≠ a0 := fun z => by
        rw [z, h07] at n8
        cases n8
      refine q_two (n := 12) (i := ax) (j := ax + 2) (a := Ed) (b := Ed + 1) rfl g8 (Evl.ev_var rfl) (Evl.ev_op (Evl.ev_var rfl) Evl.ev_c Evl.rv_I0) (fun H1 _ => Evl.ev_var rfl) (fun H1 _ => Evl.ev_op (Evl.ev_var rfl) Evl.ev_c Evl.rv_I0) (by omega) (by omega) fun H9 b9 g9 => ?_
      have hk9 : H9 pk = some (.lst (.ref a0 :: rk)) := b9 _ _ (Ne.symm plk) (e8 _ _ hk7)
      have h09 : H9 a0 = some (PrV k0) := b9 _ _ (Ne.symm pla) (e8 _ _ h07)
      refine q_two (n := 12) (i := 1 - ax) (j := 3 - ax) (a := k0.1) (b := Wd) rfl g9 (Evl.ev_op (Evl.ev_op (Evl.ev_var rfl) Evl.ev_c (Evl.rv_ixL (SqL.of hk9) (atI_nat (j := 0) rfl))) Evl.ev_c (Evl.rv_ixT (SqT.of h09) (atI_nat (j := 0) rfl))) (Evl.ev_var rfl)
        (fun H1 _ => Evl.ev_op Evl.ev_c (Evl.ev_var rfl) Evl.rv_I0) (fun H1 _ => Evl.ev_op Evl.ev_c (Evl.ev_var rfl) Evl.rv_I0) (by omega) (by omega) fun H10 b10 g10 => ?_
      have b810 : But pl H8 H10 := b9.trans b10
      have s10 : ∀ a o, a ≠ pl → H7 a = some o → H10 a = some o := fun a o n h => b810 _ _ n (e8 _ _ h)
      have pl0 : H pl = none := s7.free n8
      have usl : us.length = zs.length := by
        have := congrArg List.length hmap
        simpa using this
      refine ⟨.ref pf, rfl, .ref pl, rfl, pl, _, rfl, .inl ⟨SqL.of g10, fun t nt => ⟨(show 1 ≤ sizeLine by decide), fun u nu => ?_⟩⟩⟩
      have k11 : ∀ a o, a ≠ pl → H7 a = some o → upd (upd H10 t (.tup (PnV (sc (sc (sc (sc ⟨0, 0, 0, 0⟩ ax Ed) (ax + 2) (Ed + 1)) (1 - ax) k0.1) (3 - ax) Wd)))) u (.lst [.ref t]) a = some o := fun a o n h => by
        have h10 := s10 a o n h
        rw [upd_ne (ne_of_none (by rw [upd_ne (ne_of_none h10 nt)]; exact h10) nu), upd_ne (ne_of_none h10 nt)]
        exact h10
      refine ⟨pf, u, us.map fun u => .ref u.1, [.ref t], rfl, rfl, k11 _ _ (Ne.symm plf) hpf, upd_same, ?_, fun v nv => ?_⟩
      · rw [List.length_map, usl, sizeLine_eq]
        show zs.length + 1 ≤ 16777216
        omega
      have tu : t ≠ u := fun z => by
        rw [← z, upd_same] at nu
        cases nu
      have s12 : Same H (upd (upd (upd H10 t (.tup (PnV (sc (sc (sc (sc ⟨0, 0, 0, 0⟩ ax Ed) (ax + 2) (Ed + 1)) (1 - ax) k0.1) (3 - ax) Wd)))) u (.lst [.ref t])) v (.lst (us.map (fun u => V.ref u.1) ++ [.ref t]))) := fun a o h => by
        have z := k11 a o (ne_of_none h pl0) (s7 _ _ h)
        rw [upd_ne (ne_of_none z nv)]
        exact z
      refine q _ v (us ++ [(t, sc (sc (sc (sc ⟨0, 0, 0, 0⟩ ax Ed) (ax + 2) (Ed + 1)) (1 - ax) k0.1) (3 - ax) Wd)]) Ed Wd row k0 r s12 ?_ ⟨?_, fun z hz => ?_⟩ ⟨topE, topW, hperm, hsrt, hcut, ?_⟩
      · cases hv : H v with
        | none => rfl
        | some o =>
          rw [k11 v o (ne_of_none hv pl0) (s7 _ _ hv)] at nv
          cases nv
      · rw [upd_same, List.map_append]
        rfl
      · rcases List.mem_append.mp hz with hz | hz
        · have z7 := hus z hz
          have z11 := k11 _ _ (ne_of_none z7 n8) z7
          rw [upd_ne (ne_of_none z11 nv)]
          exact z11
        · obtain rfl := List.mem_singleton.mp hz
          have z11 : upd (upd H10 t (.tup (PnV (sc (sc (sc (sc ⟨0, 0, 0, 0⟩ ax Ed) (ax + 2) (Ed + 1)) (1 - ax) k0.1) (3 - ax) Wd)))) u (.lst [.ref t]) t = some (.tup (PnV (sc (sc (sc (sc ⟨0, 0, 0, 0⟩ ax Ed) (ax + 2) (Ed + 1)) (1 - ax) k0.1) (3 - ax) Wd))) := by
            rw [upd_ne tu, upd_same]
          rw [upd_ne (ne_of_none z11 nv)]
          exact z11
      · rw [List.map_append, hmap]
        rfl
end
end GL
set_option Elab.async false
set_option linter.all false
set_option maxRecDepth 100000
set_option maxHeartbeats 8000000
/-! # the segments of panes, as a law finds them -/
namespace GL
open PySem PySem.Spec PyProof.Rows L2 Geo Rel
structure BN (mg : Str → Option Value) : Prop where
  max_ : mg "max" = none
  min_ : mg "min" = none
  sorted_ : mg "sorted" = none
  len_ : mg "len" = none
  list_ : mg "list" = none
  tuple_ : mg "tuple" = none
  range_ : mg "range" = none
  enumerate_ : mg "enumerate" = none
  abs_ : mg "abs" = none
  int_ : mg "int" = none
  sum_ : mg "sum" = none
  zip_ : mg "zip" = none
theorem maxK {X : Cx} {K : PySem.W.Frag} (e : X.K = K) (hc : X.calm = true) : CallR X (.builtin "max") (rMax K) := e ▸ cr_max hc
theorem minK {X : Cx} {K : PySem.W.Frag} (e : X.K = K) (hc : X.calm = true) : CallR X (.builtin "min") (rMin K) := e ▸ cr_min hc
theorem sumK {X : Cx} {K : PySem.W.Frag} (e : X.K = K) (hc : X.calm = true) : CallR X (.builtin "sum") (rSum K) := e ▸ cr_sum hc
theorem lenK {X : Cx} {K : PySem.W.Frag} (e : X.K = K) : CallR X (.builtin "len") (Evl.rLenS K) := e ▸ call_len_seq
theorem lsK {X : Cx} {K : PySem.W.Frag} (e : X.K = K) : CallR X (.type "list") (Evl.rListS K) := e ▸ call_list_of
/-- a pane's four numbers -/
abbrev f4 (p : Pn) : List Int := [p.x0, p.y0, p.x1, p.y1]
abbrev panR (p : Pn) : V → Hp → Prop := tupI (f4 p)
abbrev Pns (H : Hp) (l : Addr) (ps : List Pn) : Prop := RL panR H l ps
theorem panR_e : MonoE panR := fun z v H H' e h => tupI_e (f4 z) v H H' e h
abbrev Tr := Int × Int × Int
abbrev t3 (z : Tr) : List Int := [z.1, z.2.1, z.2.2]
abbrev trR (z : Tr) : V → Hp → Prop := tupI (t3 z)
theorem trR_e : MonoE trR := fun z v H H' e h => tupI_e (t3 z) v H H' e h
/-- the sides of a pane that are no border -/
def sidesOf (ax E : Int) (p : Pn) : List Tr := (if 0 < cm p ax then [(cm p ax, cm p (1 - ax), cm p (3 - ax))] else []) ++ (if cm p (ax + 2) < E then [(cm p (ax + 2), cm p (1 - ax), cm p (3 - ax))] else [])
def mstep (acc : List Tr) (r : Tr) : List Tr := match acc.getLast? with
  | some q => if q.1 = r.1 ∧ r.2.1 ≤ q.2.2 then acc.dropLast ++ [(r.1, q.2.1, if q.2.2 > r.2.2 then q.2.2 else r.2.2)] else acc ++ [r]
  | none => acc ++ [r]
/-- the segments across ax -/
def linesF (ps : List Pn) (ax E : Int) : List Tr := (isort t3 (ps.flatMap (sidesOf ax E))).foldl mstep []
theorem sidesOf_len (ax E : Int) (p : Pn) : (sidesOf ax E p).length ≤ 2 := by
  unfold sidesOf
  split <;> split <;> simp
theorem sides_len (ax E : Int) (ps : List Pn) : (ps.flatMap (sidesOf ax E)).length ≤ 2 * ps.length := by
  induction ps with
  | nil => simp
  | cons p ps ih =>
    rw [List.flatMap_cons, List.length_append, List.length_cons]
    have := sidesOf_len ax E p
    omega
theorem mstep_len (acc : List Tr) (r : Tr) : (mstep acc r).length ≤ acc.length + 1 := by
  unfold mstep
  split
  · split
    · rw [List.length_append, List.length_dropLast, List.length_singleton]
      omega
    · simp
  · simp
theorem foldm_len : ∀ (rs acc : List Tr), (rs.foldl mstep acc).length ≤ acc.length + rs.length
  | [], acc => by simp
  | r :: rs, acc => by
    rw [List.foldl_cons, List.length_cons]
    have := foldm_len rs (mstep acc r)
    have := mstep_len acc r
    omega
section
variable {P : Program} {w : World} {K : PySem.W.Frag} {mg : Str → Option Value} {base : Heap}
/-- y[i], y a pane that stands in slot n -/
theorem ev_pan {σ : L2.St} {H : Hp} {n : Nat} {y : V} {p : Pn} {i : Int} {ti : TE} (h : σ[n]? = some (some y)) (hp : panR p y H) (hi : Evl.Ev ti σ H (.int i)) (hr : 0 ≤ i ∧ i ≤ 3) : Evl.Ev (tOp (rIxT K) (tVar n) ti) σ H (.int (cm p i)) := by
  obtain ⟨a, rfl, ha⟩ := hp
  exact ev_cm (Evl.ev_var h) hi ha hr
theorem ev_pans {σ : L2.St} {H : Hp} {n m : Nat} {y : V} {p : Pn} {ax : Int} (h : σ[n]? = some (some y)) (hm : σ[m]? = some (some (.int ax))) (hp : panR p y H) (hr : 0 ≤ ax ∧ ax ≤ 1) :
    Evl.Ev (tOp (rIxT K) (tVar n) (tVar m)) σ H (.int (cm p ax)) ∧ Evl.Ev (tOp (rIxT K) (tVar n) (tOp (rI0 fun i j => .int (i + j)) (tVar m) (tC (.int 2)))) σ H (.int (cm p (ax + 2))) ∧
    Evl.Ev (tOp (rIxT K) (tVar n) (tOp (rI0 fun i j => .int (i - j)) (tC (.int 1)) (tVar m))) σ H (.int (cm p (1 - ax))) ∧ Evl.Ev (tOp (rIxT K) (tVar n) (tOp (rI0 fun i j => .int (i - j)) (tC (.int 3)) (tVar m))) σ H (.int (cm p (3 - ax))) :=
  ⟨ev_pan h hp (Evl.ev_var hm) (by omega), ev_pan h hp (Evl.ev_op (Evl.ev_var hm) Evl.ev_c Evl.rv_I0) (by omega), ev_pan h hp (Evl.ev_op Evl.ev_c (Evl.ev_var hm) Evl.rv_I0) (by omega), ev_pan h hp (Evl.ev_op Evl.ev_c (Evl.ev_var hm) Evl.rv_I0) (by omega)⟩
def spLines : Sp := fun vs H Q _ => ∃ (l : Addr) (ps : List Pn) (ax E : Int), vs = [.ref l, .int ax] ∧ Pns H l ps ∧ ps ≠ [] ∧ ps.length ≤ 1000 ∧ (0 ≤ ax ∧ ax ≤ 1) ∧ Top (fun p => cm p (ax + 2)) ps E ∧
  ∀ H' d, Evl.Ex H H' → H d = none → RL trR H' d (linesF ps ax E) → Q (.ref d) H'
end
end GL
set_option Elab.async false
set_option linter.all false
set_option maxRecDepth 100000
set_option maxHeartbeats 8000000
/-! # the panes along a segment -/
namespace GL
open PySem PySem.Spec PyProof.Rows L2 Geo Rel
/-- the panes along the stretch of a line -/
def nearF (ps : List Pn) (ln : Tr) (ax : Int) : List (Nat × Pn) := (enumL ps).filter fun u => decide (ln.2.1 ≤ cm u.2 (1 - ax)) && decide (cm u.2 (3 - ax) ≤ ln.2.2)
def p2 (z : Int × Int) : List Int := [z.1, z.2]
/-- those of them that lie at it with their side i, in sequence -/
def sideF (ps : List Pn) (ln : Tr) (ax i : Int) : List (Int × Int) := isort p2 (((nearF ps ln ax).filter fun u => decide (cm u.2 i = ln.1)).map fun u => (cm u.2 (1 - ax), (u.1 : Int)))
def aheadF (ps : List Pn) (ln : Tr) (ax : Int) : List Int := (sideF ps ln ax (ax + 2)).map (·.2)
def behindF (ps : List Pn) (ln : Tr) (ax : Int) : List Int := (sideF ps ln ax ax).map (·.2)
section
variable {K : PySem.W.Frag} {σ : L2.St} {H : Hp} {te ti : TE}
theorem ev_panE {y : V} {p : Pn} {i : Int} (h : Evl.Ev te σ H y) (hp : panR p y H) (hi : Evl.Ev ti σ H (.int i)) (hr : 0 ≤ i ∧ i ≤ 3) : Evl.Ev (tOp (rIxT K) te ti) σ H (.int (cm p i)) := by
  obtain ⟨a, rfl, ha⟩ := hp
  exact ev_cm h hi ha hr
/-- l[i], l a list of objects -/
theorem ev_rlIx {α : Type} {R : α → V → Hp → Prop} {l : Addr} {zs : List α} {i : Nat} {z : α} (h : Evl.Ev te σ H (.ref l)) (hl : RL R H l zs) (hz : zs[i]? = some z) (hi : Evl.Ev ti σ H (.int (i : Int))) : ∃ y, R z y H ∧ Evl.Ev (tOp (rIxL K) te ti) σ H y := by
  obtain ⟨ys, h1, h2⟩ := hl
  obtain ⟨y, hy, hr⟩ := pr_at h2 hz
  exact ⟨y, hr, Evl.ev_op h hi (Evl.rv_ixL (SqL.of h1) (atI_nat hy))⟩
end
section
variable {P : Program} {w : World} {K : PySem.W.Frag} {mg : Str → Option Value} {base : Heap}
def spAt (K : PySem.W.Frag) : Sp := fun vs H Q _ => ∃ (l : Addr) (ps : List Pn) (ln : Tr) (y : V) (ax : Int), vs = [.ref l, y, .int ax] ∧ Pns H l ps ∧ trR ln y H ∧ ps.length ≤ 1000 ∧ (0 ≤ ax ∧ ax ≤ 1) ∧
  ∀ H' a b c, Evl.Ex H H' → H' a = some (.lst ((aheadF ps ln ax).map V.int)) → H' b = some (.lst ((behindF ps ln ax).map V.int)) → H' c = some (.tup [.ref a, .ref b]) → H c = none → H b = none → Q (.ref c) H'
end
end GL
set_option Elab.async false
set_option linter.all false
set_option maxRecDepth 100000
set_option maxHeartbeats 8000000
/-! # the panes behind each pane at its segment -/
namespace GL
open PySem PySem.Spec PyProof.Rows L2 Geo Rel
/-- a def that is called -/
structure Cal (P : Program) (w : World) (K : PySem.W.Frag) (mg : Str → Option Value) (base : Heap) (x : Str) (l : Nat) (f : Addr) (fd : FuncData) (ps : List Str) (sp : Sp) : Prop where
  G : FnOk P w K mg base CX0 l f fd ps sp
  g : mg x = some (.ref f)
  k : PySem.W.keepIn K (.ref f) = true
  b : Binds K fd ps []
/-- the segment lies at the side ax + 2 of the pane -/
abbrev coversF (ax : Int) (p : Pn) (ln : Tr) : Prop := ln.1 = cm p (ax + 2) ∧ ln.2.1 ≤ cm p (1 - ax) ∧ cm p (3 - ax) ≤ ln.2.2
def laterF (ps : List Pn) (ax : Int) (lns : List Tr) (p : Pn) : List Int := lns.foldl (fun acc ln => if coversF ax p ln then behindF ps ln ax else acc) []
def stepsF (ps : List Pn) (ax E : Int) : List (List Int) := ps.map (laterF ps ax (linesF ps ax E))
section
variable {P : Program} {w : World} {K : PySem.W.Frag} {mg : Str → Option Value} {base : Heap}
theorem lines_len (ps : List Pn) (ax E : Int) : (linesF ps ax E).length ≤ 2 * ps.length := by
  unfold linesF
  have := foldm_len (isort t3 (ps.flatMap (sidesOf ax E))) []
  rw [(isort_perm t3 _).length_eq] at this
  have := sides_len ax E ps
  simp at *
  omega
def spSteps : Sp := fun vs H Q _ => ∃ (l : Addr) (ps : List Pn) (ax E : Int), vs = [.ref l, .int ax] ∧ Pns H l ps ∧ ps ≠ [] ∧ ps.length ≤ 1000 ∧ (0 ≤ ax ∧ ax ≤ 1) ∧ Top (fun p => cm p (ax + 2)) ps E ∧
  ∀ H' d, Evl.Ex H H' → H d = none → RL lstI H' d (stepsF ps ax E) → Q (.ref d) H'
end
end GL
set_option Elab.async false
set_option linter.all false
set_option maxRecDepth 100000
set_option maxHeartbeats 4000000
/-! # comprehensions whose items are new objects, apart; dicts of numbers -/
namespace Rel
open PySem L2 Evl
/-- te gives a new object o -/
def EvNew (te : TE) (σ : L2.St) (H : Hp) (o : HO) : Prop := ∀ H1, Ex H H1 → ∀ Q : VK, (∀ p H2, H1 p = none → Ex H1 H2 → H2 p = some o → Q (.ref p) H2) → te σ H1 Q
section
variable {α : Type} {K : PySem.W.Frag} {σ : L2.St} {H : Hp} {te tl : TE} {ta : TA}
/-- over what walks through zs -/
theorem lc_new {J : It} {zs : List α} {n : Nat} {G : Hp → Prop} {Y : Nat → Hp → V → Hp → Prop} (w : Walk J n G Y) (hn : n = zs.length) (hG : ∀ H1, Ex H H1 → G H1) (o : α → HO) (hz : zs.length ≤ 40000) {g : TG} {vs : List Nat}
    (step : ∀ i z x H1 H2, zs[i]? = some z → Ex H H1 → Y i H1 x H2 → Ex H1 H2 ∧ ∀ Q' : L2.St → Hp → Prop, (∀ σ2, wipe σ2 vs = wipe σ vs → EvNew te σ2 H2 (o z) → Q' σ2 H2) → g x (wipe σ vs) H2 Q')
    {D : Addr} (nD : H D = none) {Qd : Hp → Prop} (q : ∀ (as : List Addr) H', Ex H H' → H' D = some (.lst (as.map V.ref)) → as.Nodup → (∀ b ∈ as, H b = none ∧ b ≠ D) → as.length = zs.length → (∀ (i : Nat) (b : Addr) (z : α), as[i]? = some b → zs[i]? = some z → H' b = some (o z)) → Qd H') :
    ∃ W : Nat → Nat → Hp → Prop, (∃ m, W 0 m (upd H D (.lst []))) ∧ ∀ i m H, W i m H →
      (J.stop i H ∧ Qd H) ∨ (J.go i H ∧ ∃ Nx : Hp → Prop, (∀ H', Nx H' → ∃ m', m' < m ∧ W (i + 1) m' H') ∧ ∀ x H', J.yld i H x H' → g x (wipe σ vs) H' fun σ2 H2 => wipe σ2 vs = wipe σ vs ∧ tYes σ2 H2 fun b H3 =>
        if b = true then te σ2 H3 fun y H4 => ∃ acc, H4 D = some (.lst acc) ∧ acc.length < sizeLine ∧ Nx (upd H4 D (.lst (acc ++ [y]))) else Nx H3) := by
  subst hn
  refine lc_it w (fun i H1 => Ex H H1 ∧ ∃ as : List Addr, H1 D = some (.lst (as.map V.ref)) ∧ as.Nodup ∧ (∀ b ∈ as, H b = none ∧ b ≠ D) ∧ as.length = i ∧ ∀ (k : Nat) (b : Addr) (z : α), as[k]? = some b → zs[k]? = some z → H1 b = some (o z)) ⟨Ex.new nD, [], upd_same, .nil, by simp, rfl, by simp⟩ (fun i H1 _ p => hG H1 p.1) ?_ ?_
  · rintro i x H1 H2 hi ⟨e1, as, hD, hnd, hf, hl, hc⟩ hy
    have hzi : zs[i]? = some zs[i] := List.getElem?_eq_getElem hi
    obtain ⟨e2, st⟩ := step i zs[i] x H1 H2 hzi e1 hy
    refine st _ fun σ2 hw he => ⟨hw, ?_⟩
    show te σ2 H2 _
    refine he H2 (Ex.refl _) _ fun b H4 nb e4 gb => ?_
    have D4 : H4 D = some (.lst (as.map V.ref)) := e4 _ _ (e2 _ _ hD)
    have bD : b ≠ D := fun z => by
      rw [z, e2 _ _ hD] at nb
      cases nb
    have nb1 : H b = none := fresh_back (e1.trans e2) nb
    have bas : b ∉ as := fun hb => by
      obtain ⟨k, hk, ek⟩ := List.getElem_of_mem hb
      have g := e2 _ _ (hc k b (zs[k]'(by omega)) (by rw [List.getElem?_eq_getElem hk, ek]) (List.getElem?_eq_getElem (by omega)))
      rw [nb] at g
      cases g
    refine ⟨as.map V.ref, D4, ?_, ((e1.trans e2).trans e4).mut nD, as ++ [b], by rw [upd_same, List.map_append]; rfl, ?_, ?_, by rw [List.length_append, hl]; rfl, ?_⟩
    · rw [List.length_map]
      exact Nat.lt_of_lt_of_le (show as.length < 100000 by omega) (by decide)
    · refine List.nodup_append.mpr ⟨hnd, List.nodup_cons.mpr ⟨List.not_mem_nil, .nil⟩, fun u hu v hv euv => ?_⟩
      obtain rfl := List.mem_singleton.mp hv
      exact bas (euv ▸ hu)
    · intro u hu
      rcases List.mem_append.mp hu with hu | hu
      · exact hf u hu
      · rw [List.mem_singleton.mp hu]
        exact ⟨nb1, bD⟩
    · intro k u z hk hz2
      rcases Nat.lt_or_ge k as.length with hlt | hge
      · rw [List.getElem?_append_left hlt] at hk
        rw [upd_ne (hf u (List.mem_of_getElem? hk)).2]
        exact e4 _ _ (e2 _ _ (hc k u z hk hz2))
      · rw [List.getElem?_append_right hge] at hk
        have ek : k = i := by
          have := (List.getElem?_eq_some_iff.mp hk).1
          rw [List.length_singleton] at this
          omega
        subst ek
        rw [hl, Nat.sub_self] at hk
        obtain rfl : b = u := Option.some.inj hk
        rw [upd_ne bD, Option.some.inj (hz2.symm.trans hzi)]
        exact gb
  · rintro H1 ⟨e1, as, hD, hnd, hf, hl, hc⟩
    exact q as H1 e1 hD hnd hf hl hc
/-- a list of new objects -/
def EvNews (te : TE) (σ : L2.St) (H : Hp) (os : List HO) : Prop := ∀ H1, Ex H H1 → ∀ Q : VK, (∀ (p : Addr) (as : List Addr) (H2 : Hp), H1 p = none → Ex H1 H2 → H2 p = some (.lst (as.map V.ref)) → as.Nodup → (∀ b ∈ as, H1 b = none ∧ b ≠ p) → as.length = os.length →
  (∀ (i : Nat) (b : Addr) (o : HO), as[i]? = some b → os[i]? = some o → H2 b = some o) → Q (.ref p) H2) → te σ H1 Q
theorem en_lcRL {R : α → V → Hp → Prop} (mR : MonoE R) {zs : List α} {a : Addr} {j : Nat} {vs : List Nat} (o : α → HO) (h : Ev tl σ H (.ref a)) (hx : RL R H a zs) (hz : zs.length ≤ 40000) (hw : ∀ x, wipe ((wipe σ vs).set j (some x)) vs = wipe σ vs)
    (he : ∀ z ∈ zs, ∀ y H1, Ex H H1 → R z y H1 → EvNew te ((wipe σ vs).set j (some y)) H1 (o z)) : EvNews (tLc (iList K tl) (gName j) tYes te vs) σ H (zs.map o) := by
  obtain ⟨ys, hl, hp⟩ := hx
  intro H1 e Q q
  refine h H1 e _ fun H2 e1 => ⟨a, rfl, ⟨ys, sq_of ((e.trans e1) _ _ hl)⟩, fun Dl hD => ?_⟩
  refine lc_new (H := H2) (walk_list (K := K) (a := a) (xs := ys)) (pr_len hp) (fun H3 e2 => sq_of (((e.trans e1).trans e2) _ _ hl)) o hz (fun i z x H3 H4 hzi hH hy => ?_) hD fun as H3 e2 h3 hnd hf hl2 hc => q Dl as H3 (fresh_back e1 hD) (e1.trans e2) h3 hnd (fun b hb => ⟨fresh_back e1 (hf b hb).1, (hf b hb).2⟩) (by rw [List.length_map]; exact hl2) (fun i b ob h1 h2 => ?_)
  · obtain ⟨rfl, hy⟩ := hy
    obtain ⟨y, hy2, hr⟩ := pr_at hp hzi
    obtain rfl : y = x := Option.some.inj (hy2.symm.trans hy)
    exact ⟨Ex.refl _, fun Q' k => k _ (hw _) fun H5 e5 Q q => he z (List.mem_of_getElem? hzi) y H2 (e.trans e1) (mR _ _ _ _ (e.trans e1) hr) H5 (hH.trans e5) Q q⟩
  · rw [List.getElem?_map] at h2
    cases c : zs[i]? with
    | none => rw [c] at h2; cases h2
    | some z =>
      rw [c] at h2
      rw [hc i b z h1 c]
      exact h2
end
/-- a dict whose keys are the numbers ks, in that sequence, all True -/
def dkv (ks : List Int) : List (L2.Key × V) := ks.map fun k => (.inl k, .bl true)
def addKey (ks : List Int) (k : Int) : List Int := if k ∈ ks then ks else ks ++ [k]
theorem dkv_any (ks : List Int) (k : Int) : ((dkv ks).any fun kv => decide (kv.1 = (.inl k : L2.Key))) = decide (k ∈ ks) := by
  induction ks with
  | nil => rfl
  | cons x ks ih =>
    show (decide ((.inl x : L2.Key) = .inl k) || _) = _
    rw [show (List.map (fun k => ((.inl k : L2.Key), V.bl true)) ks) = dkv ks from rfl, ih]
    by_cases c : x = k
    · simp [c]
    · have c2 : ¬ k = x := fun e => c e.symm
      by_cases d : k ∈ ks
      · simp [d]
      · simp [c, c2, d]
theorem putK_dkv (ks : List Int) (k : Int) : putK (dkv ks) (.inl k) (.bl true) = dkv (addKey ks k) := by
  unfold putK addKey
  rw [dkv_any]
  by_cases c : k ∈ ks
  · rw [if_pos (decide_eq_true c), if_pos c]
    unfold dkv
    rw [List.map_map]
    refine List.map_congr_left fun x hx => ?_
    show (if (Sum.inl x : L2.Key) = .inl k then ((Sum.inl x : L2.Key), V.bl true) else (Sum.inl x, V.bl true)) = _
    split <;> rfl
  · rw [if_neg (by rw [decide_eq_false c]; decide), if_neg c]
    unfold dkv
    rw [List.map_append]
    rfl
theorem dkv_len (ks : List Int) : (dkv ks).length = ks.length := List.length_map _
theorem addKey_len (ks : List Int) (k : Int) : (addKey ks k).length ≤ ks.length + 1 := by
  unfold addKey
  split <;> simp
theorem valV_dkv (ks : List Int) (k : Int) : (valV (dkv ks) (.inl k)).isSome = decide (k ∈ ks) := by rw [← valV_any, dkv_any]
end Rel
set_option Elab.async false
set_option linter.all false
set_option maxRecDepth 100000
set_option maxHeartbeats 8000000
/-! # all the panes behind each pane -/
namespace GL
open PySem PySem.Spec PyProof.Rows L2 Geo Rel
/-- at F a list of dicts, apart, whose keys are the numbers of acc -/
structure Found (H : Hp) (F : Addr) (ds : List Addr) (acc : List (List Int)) : Prop where
  l : H F = some (.lst (ds.map V.ref))
  nd : ds.Nodup
  len : ds.length = acc.length
  at_ : ∀ (i : Nat) (d : Addr) (ks : List Int), ds[i]? = some d → acc[i]? = some ks → H d = some (.dK (dkv ks))
def addAll (ks l : List Int) : List Int := l.foldl addKey ks
def bLater (s : Nat) (acc : List (List Int)) (t : Int) : List (List Int) := acc.set s (addAll (addKey (acc.getD s []) t) (acc.getD t.toNat []))
def bSpot (steps : List (List Int)) (acc : List (List Int)) (s : Nat) : List (List Int) := (steps.getD s []).foldl (bLater s) acc
/-- from the last pane to the first -/
def orderF (ps : List Pn) (ax : Int) : List (Int × Int) := isort p2 ((enumL ps).map fun u => (0 - cm u.2 ax, (u.1 : Int)))
def behindsF (ps : List Pn) (ax E : Int) : List (List Int) := (orderF ps ax).foldl (fun acc z => bSpot (stepsF ps ax E) acc z.2.toNat) (ps.map fun _ => [])
theorem Found.ex {H H' : Hp} {F : Addr} {ds : List Addr} {acc : List (List Int)} (h : Found H F ds acc) (e : Evl.Ex H H') : Found H' F ds acc := ⟨e _ _ h.l, h.nd, h.len, fun i d ks h1 h2 => e _ _ (h.at_ i d ks h1 h2)⟩
theorem Found.get {H : Hp} {F : Addr} {ds : List Addr} {acc : List (List Int)} (h : Found H F ds acc) {i : Nat} (hi : i < acc.length) : ∃ d, ds[i]? = some d ∧ H d = some (.dK (dkv (acc.getD i []))) := by
  have h2 : i < ds.length := by
    rw [h.len]
    exact hi
  refine ⟨ds[i], List.getElem?_eq_getElem h2, h.at_ i _ _ (List.getElem?_eq_getElem h2) ?_⟩
  rw [List.getD_eq_getElem?_getD, List.getElem?_eq_getElem hi]
  rfl
theorem Found.put {H : Hp} {F d : Addr} {ds : List Addr} {acc : List (List Int)} {s : Nat} {ks : List Int} (h : Found H F ds acc) (hd : ds[s]? = some d) : Found (upd H d (.dK (dkv ks))) F ds (acc.set s ks) := by
  have hs : s < acc.length := by
    rw [← h.len]
    exact (List.getElem?_eq_some_iff.mp hd).1
  obtain ⟨d', hd', hk⟩ := h.get hs
  obtain rfl : d' = d := Option.some.inj (hd'.symm.trans hd)
  have Fd : F ≠ d' := fun z => by
    rw [← z, h.l] at hk
    cases hk
  refine ⟨by rw [upd_ne Fd]; exact h.l, h.nd, by rw [List.length_set]; exact h.len, fun i b u h1 h2 => ?_⟩
  by_cases c : s = i
  · subst c
    rw [List.getElem?_set_self hs] at h2
    obtain rfl := Option.some.inj h2
    obtain rfl : d' = b := Option.some.inj (hd.symm.trans h1)
    exact upd_same
  · rw [List.getElem?_set_ne c] at h2
    have bd : b ≠ d' := fun z => by
      subst z
      obtain ⟨i1, e1⟩ := List.getElem?_eq_some_iff.mp hd
      obtain ⟨i2, e2⟩ := List.getElem?_eq_some_iff.mp h1
      exact c ((List.getElem_inj h.nd).mp (e1.trans e2.symm))
    rw [upd_ne bd]
    exact h.at_ i b u h1 h2
/-- all but the dicts is as it was -/
def ButD (ds : List Addr) (H H' : Hp) : Prop := ∀ a o, a ∉ ds → H a = some o → H' a = some o
theorem ButD.refl (ds : List Addr) (H : Hp) : ButD ds H H := fun _ _ _ h => h
theorem ButD.tr {ds : List Addr} {H H1 H2 : Hp} (x : ButD ds H H1) (y : ButD ds H1 H2) : ButD ds H H2 := fun a o n h => y a o n (x a o n h)
theorem ButD.ex {ds : List Addr} {H H1 : Hp} (e : Evl.Ex H H1) : ButD ds H H1 := fun a o _ h => e a o h
theorem ButD.upd {ds : List Addr} {H : Hp} {d : Addr} {s : Nat} {o : HO} (h : ds[s]? = some d) : ButD ds H (upd H d o) := fun a u n e => by
  rw [upd_ne (fun z => n (by rw [z]; exact List.mem_of_getElem? h))]
  exact e
theorem Found.no_lst {H : Hp} {F a : Addr} {ds : List Addr} {acc : List (List Int)} (h : Found H F ds acc) {xs : List V} (ha : H a = some (.lst xs)) : a ∉ ds := fun m => by
  obtain ⟨i, hi⟩ := List.getElem?_of_mem m
  have hl : i < acc.length := by
    rw [← h.len]
    exact (List.getElem?_eq_some_iff.mp hi).1
  obtain ⟨d, hd, hk⟩ := h.get hl
  obtain rfl : d = a := Option.some.inj (hd.symm.trans hi)
  rw [ha] at hk
  cases hk
theorem Found.no_tup {H : Hp} {F a : Addr} {ds : List Addr} {acc : List (List Int)} (h : Found H F ds acc) {xs : List V} (ha : H a = some (.tup xs)) : a ∉ ds := fun m => by
  obtain ⟨i, hi⟩ := List.getElem?_of_mem m
  have hl : i < acc.length := by
    rw [← h.len]
    exact (List.getElem?_eq_some_iff.mp hi).1
  obtain ⟨d, hd, hk⟩ := h.get hl
  obtain rfl : d = a := Option.some.inj (hd.symm.trans hi)
  rw [ha] at hk
  cases hk
theorem Found.lists {H H' : Hp} {F l : Addr} {ds : List Addr} {acc rs : List (List Int)} (h : Found H F ds acc) (b : ButD ds H H') (hl : RL lstI H l rs) : RL lstI H' l rs := by
  obtain ⟨ys, h1, h2⟩ := hl
  refine ⟨ys, b _ _ (h.no_lst h1) h1, ?_⟩
  clear h1
  induction h2 with
  | nil => exact .nil
  | cons q t ih =>
    obtain ⟨p, e, hp⟩ := q
    exact .cons ⟨p, e, b _ _ (h.no_lst hp) hp⟩ ih
theorem Found.tups {α : Type} {g : α → List Int} {zs : List α} {H H' : Hp} {F l : Addr} {ds : List Addr} {acc : List (List Int)} (h : Found H F ds acc) (b : ButD ds H H') (hl : RL (fun z => tupI (g z)) H l zs) : RL (fun z => tupI (g z)) H' l zs := by
  obtain ⟨ys, h1, h2⟩ := hl
  refine ⟨ys, b _ _ (h.no_lst h1) h1, ?_⟩
  clear h1
  induction h2 with
  | nil => exact .nil
  | cons q t ih =>
    obtain ⟨p, e, hp⟩ := q
    exact .cons ⟨p, e, b _ _ (h.no_tup hp) hp⟩ ih
theorem upd_self {H : Hp} {d : Addr} {o : HO} (h : H d = some o) : upd H d o = H := funext fun a => by
  by_cases c : a = d
  · rw [c, upd_same, h]
  · rw [upd_ne c]
theorem upd_upd {H : Hp} {d : Addr} {o u : HO} : upd (upd H d o) d u = upd H d u := funext fun a => by
  by_cases c : a = d
  · rw [c, upd_same, upd_same]
  · rw [upd_ne c, upd_ne c, upd_ne c]
theorem upd_comm {H : Hp} {d e : Addr} {o u : HO} (n : d ≠ e) : upd (upd H d o) e u = upd (upd H e u) d o := funext fun a => by
  by_cases c : a = d
  · subst c
    rw [upd_ne n, upd_same, upd_same]
  · by_cases c2 : a = e
    · subst c2
      rw [upd_same, upd_ne c, upd_same]
    · rw [upd_ne c2, upd_ne c, upd_ne c, upd_ne c2]
/-- what stands behind a pane are panes whose side ax is its side ax + 2 -/
theorem mem_later {ps : List Pn} {ax : Int} {lns : List Tr} {p : Pn} {t : Int} (h : t ∈ laterF ps ax lns p) : ∃ (j : Nat) (q : Pn), t = (j : Int) ∧ ps[j]? = some q ∧ cm q ax = cm p (ax + 2) := by
  have go : ∀ (lns : List Tr) (acc : List Int), (∀ t ∈ acc, ∃ (j : Nat) (q : Pn), t = (j : Int) ∧ ps[j]? = some q ∧ cm q ax = cm p (ax + 2)) → ∀ t ∈ lns.foldl (fun acc ln => if coversF ax p ln then behindF ps ln ax else acc) acc, ∃ (j : Nat) (q : Pn), t = (j : Int) ∧ ps[j]? = some q ∧ cm q ax = cm p (ax + 2) := by
    intro lns
    induction lns with
    | nil => exact fun acc h => h
    | cons ln lns ih =>
      intro acc hacc
      rw [List.foldl_cons]
      refine ih _ ?_
      by_cases c : coversF ax p ln
      · rw [if_pos c]
        intro t ht
        obtain ⟨z, hz, rfl⟩ := List.mem_map.mp ht
        have hz := (isort_perm p2 _).mem_iff.mp hz
        obtain ⟨u, hu, rfl⟩ := List.mem_map.mp hz
        obtain ⟨h1, h2⟩ := List.mem_filter.mp hu
        exact ⟨u.1, u.2, rfl, enumL_mem (List.mem_filter.mp h1).1, (of_decide_eq_true h2).trans c.1⟩
      · rw [if_neg c]
        exact hacc
  exact go lns [] (by simp) t h
theorem addAll_len (l : List Int) : ∀ ks : List Int, (addAll ks l).length ≤ ks.length + l.length := by
  induction l with
  | nil => exact fun ks => Nat.le_refl _
  | cons x l ih =>
    intro ks
    have := ih (addKey ks x)
    have := addKey_len ks x
    show (addAll (addKey ks x) l).length ≤ _
    rw [List.length_cons]
    omega
theorem nodup_len {α : Type} [DecidableEq α] : ∀ (l m : List α), l.Nodup → (∀ x ∈ l, x ∈ m) → l.length ≤ m.length
  | [], _, _, _ => Nat.zero_le _
  | x :: l, m, h, k => by
    obtain ⟨h1, h2⟩ := List.nodup_cons.mp h
    have hx := k x List.mem_cons_self
    have ih := nodup_len l (m.erase x) h2 fun y hy => (List.mem_erase_of_ne (fun e : y = x => h1 (by rw [← e]; exact hy))).mpr (k y (List.mem_cons_of_mem _ hy))
    rw [List.length_erase_of_mem hx] at ih
    have := List.length_pos_of_mem hx
    rw [List.length_cons]
    omega
/-- keys are panes, each once -/
def KeysOk (n : Nat) (ks : List Int) : Prop := ks.Nodup ∧ ∀ k ∈ ks, 0 ≤ k ∧ k < n
theorem KeysOk.len {n : Nat} {ks : List Int} (h : KeysOk n ks) : ks.length ≤ n := by
  have nd : (ks.map Int.toNat).Nodup := by
    refine List.pairwise_map.mpr (List.Pairwise.imp_of_mem ?_ h.1)
    intro a b ha hb hab e
    have := h.2 a ha
    have := h.2 b hb
    exact hab (by omega)
  have sub : ks.map Int.toNat ⊆ List.range n := by
    intro x hx
    obtain ⟨k, hk, rfl⟩ := List.mem_map.mp hx
    have := h.2 k hk
    exact List.mem_range.mpr (by omega)
  have := nodup_len _ _ nd fun x hx => sub hx
  rw [List.length_map, List.length_range] at this
  exact this
theorem KeysOk.add {n : Nat} {ks : List Int} {k : Int} (h : KeysOk n ks) (hk : 0 ≤ k ∧ k < n) : KeysOk n (addKey ks k) := by
  unfold addKey
  split
  · exact h
  · rename_i c
    refine ⟨List.nodup_append.mpr ⟨h.1, List.nodup_cons.mpr ⟨List.not_mem_nil, .nil⟩, fun u hu v hv e => ?_⟩, fun x hx => ?_⟩
    · obtain rfl := List.mem_singleton.mp hv
      exact c (e ▸ hu)
    · rcases List.mem_append.mp hx with hx | hx
      · exact h.2 x hx
      · obtain rfl := List.mem_singleton.mp hx
        exact hk
theorem KeysOk.all {n : Nat} : ∀ {l ks : List Int}, KeysOk n ks → (∀ k ∈ l, 0 ≤ k ∧ k < n) → KeysOk n (addAll ks l)
  | [], _, h, _ => h
  | k :: l, ks, h, hl => KeysOk.all (l := l) (h.add (hl k List.mem_cons_self)) fun x hx => hl x (List.mem_cons_of_mem _ hx)
end GL
set_option Elab.async false
set_option linter.all false
set_option maxRecDepth 100000
set_option maxHeartbeats 8000000
namespace GL
open PySem PySem.Spec PyProof.Rows L2 Geo Rel
section
variable {K : PySem.W.Frag} {σ : L2.St} {H : Hp} {D : Ends} {F : Addr} {ds : List Addr} {acc : List (List Int)} {n s : Nat} {t : Int}
/-- found[spot][t] = True -/
theorem s_putF {m : Nat} (hF : Found H F ds acc) (h3 : σ[3]? = some (some (.ref F))) (h4 : σ[4]? = some (some (.int (s : Int)))) (hx : σ[m]? = some (some (.int t))) (hs : s < acc.length) (hlen : (acc.getD s []).length ≤ 1000)
    (k : ∀ d, ds[s]? = some d → D.nx σ (upd H d (.dK (dkv (addKey (acc.getD s []) t))))) : tAsg (tC (.bl true)) (gSub (tOp (rIxL K) (tVar 3) (tVar 4)) (tVar m) rSetD) D σ H := by
  obtain ⟨d, hd, hk⟩ := hF.get hs
  refine ⟨.ref F, h3, .int (s : Int), h4, F, _, (s : Int), .ref d, rfl, rfl, SqL.of hF.l, atI_nat (by rw [List.getElem?_map, hd]; rfl), .int t, hx, ?_⟩
  refine ⟨d, _, rfl, DPut.k (k := .inl t) hk ?_, ?_⟩
  · rw [dkv_len]
    exact small1000 hlen
  · rw [putK_dkv]
    exact k d hd
/-- for further in found[t]: found[spot][further] = True -/
theorem s_allF {σ0 : V → L2.St} (hF : Found H F ds acc) (h3 : ∀ v, (σ0 v)[3]? = some (some (.ref F))) (h4 : ∀ v, (σ0 v)[4]? = some (some (.int (s : Int)))) (h6 : ∀ v, (σ0 v)[6]? = some (some (.int t))) (h7 : ∀ v, (σ0 v)[7]? = some (some v)) (hset : ∀ v v', (σ0 v).set 7 (some v') = σ0 v')
    {σi : L2.St} (i3 : σi[3]? = some (some (.ref F))) (i4 : σi[4]? = some (some (.int (s : Int)))) (i6 : σi[6]? = some (some (.int t))) (iset : ∀ v', σi.set 7 (some v') = σ0 v') {j : Nat} (ht : t = (j : Int)) (hj : j < acc.length) (hs : s < acc.length) (hne : j ≠ s)
    (ok : KeysOk acc.length (acc.getD s [])) (ok2 : KeysOk acc.length (acc.getD j [])) (hl : acc.length ≤ 1000)
    (k : ∀ d σ', ds[s]? = some d → (σ' = σi ∨ ∃ v, σ' = σ0 v) → D.nx σ' (upd H d (.dK (dkv (addAll (acc.getD s []) (acc.getD j [])))))) :
    tLock (tFor (iKeys (tOp (rIxL K) (tVar 3) (tVar 6))) (gName 7) (tAsg (tC (.bl true)) (gSub (tOp (rIxL K) (tVar 3) (tVar 4)) (tVar 7) rSetD))) D σi H := by
  obtain ⟨d, hd, hk⟩ := hF.get hs
  obtain ⟨d2, hd2, hk2⟩ := hF.get hj
  have dd : d ≠ d2 := fun z => by
    subst z
    obtain ⟨i1, e1⟩ := List.getElem?_eq_some_iff.mp hd
    obtain ⟨i2, e2⟩ := List.getElem?_eq_some_iff.mp hd2
    exact hne ((List.getElem_inj hF.nd).mp (e2.trans e1.symm))
  have Fd : F ≠ d := fun z => by
    rw [← z, hF.l] at hk
    cases hk
  have Fd2 : F ≠ d2 := fun z => by
    rw [← z, hF.l] at hk2
    cases hk2
  generalize acc.getD s [] = ks at hk ok k
  generalize acc.getD j [] = k2 at hk2 ok2 k
  refine ⟨d2, _, hk2, trivial, fun od => ?_⟩
  have hl2 : (upd H d2 (.frz od (.dK (dkv k2)))) F = some (.lst (ds.map V.ref)) := by
    rw [upd_ne Fd2]
    exact hF.l
  have hkd : (upd H d2 (.frz od (.dK (dkv k2)))) d = some (.dK (dkv ks)) := by
    rw [upd_ne dd]
    exact hk
  have e6 : ∃ w, σi[6]? = some (some w) ∧ w = .int (j : Int) := ⟨_, i6, by rw [ht]⟩
  obtain ⟨w, e6a, e6b⟩ := e6
  subst e6b
  refine ⟨.ref F, i3, .int (j : Int), e6a, F, _, (j : Int), .ref d2, rfl, rfl, SqL.of hl2, atI_nat (by rw [List.getElem?_map, hd2]; rfl), d2, od, rfl, .inl ⟨dkv k2, upd_same, ?_⟩⟩
  refine for_it walk_keys (fun i σ' H' => (σ' = σi ∨ ∃ v, σ' = σ0 v) ∧ H' = upd (upd H d2 (.frz od (.dK (dkv k2)))) d (.dK (dkv (addAll ks (k2.take i))))) ⟨.inl rfl, ?_⟩ (fun i σ' H' hi q => ?_) (fun i x σ' H' H2 hi q y => ?_) (fun σ' H' q => ?_)
  · exact (upd_self hkd).symm
  · obtain ⟨_, rfl⟩ := q
    rw [upd_ne dd.symm, upd_same]
  · obtain ⟨hσ, rfl⟩ := q
    obtain ⟨rfl, key, v, hy, rfl⟩ := y
    rw [dkv_len] at hi
    have hk2i : k2[i]? = some k2[i] := List.getElem?_eq_getElem hi
    have ek : key = .inl k2[i] := by
      unfold dkv at hy
      rw [List.getElem?_map, hk2i] at hy
      cases hy
      rfl
    subst ek
    show tAsg _ _ _ (σ'.set 7 (some (.int k2[i]))) _
    have es : σ'.set 7 (some (.int k2[i])) = σ0 (.int k2[i]) := by
      rcases hσ with rfl | ⟨v, rfl⟩
      · exact iset _
      · exact hset _ _
    rw [es]
    have okp : KeysOk acc.length (addAll ks (k2.take i)) := ok.all fun x hx => ok2.2 x (List.mem_of_mem_take hx)
    have step : addAll ks (k2.take (i + 1)) = addKey (addAll ks (k2.take i)) k2[i] := by
      unfold addAll
      rw [List.take_add_one, hk2i, Option.toList_some, List.foldl_append]
      rfl
    rw [step]
    generalize addAll ks (k2.take i) = kp at okp
    refine ⟨.ref F, h3 _, .int (s : Int), h4 _, F, _, (s : Int), .ref d, rfl, rfl, SqL.of (by rw [upd_ne Fd]; exact hl2), atI_nat (by rw [List.getElem?_map, hd]; rfl), .int k2[i], h7 _, d, _, rfl, DPut.k (k := .inl k2[i]) upd_same ?_, .inr ⟨_, rfl⟩, ?_⟩
    · rw [dkv_len]
      exact small1000 (Nat.le_trans okp.len hl)
    · rw [putK_dkv, upd_upd]
  · obtain ⟨hσ, rfl⟩ := q
    rw [dkv_len, List.take_length]
    refine ⟨by rw [upd_ne dd.symm, upd_same], ?_⟩
    rw [upd_comm dd, upd_upd, upd_self hk2]
    exact k d σ' hd hσ
end
end GL
set_option Elab.async false
set_option linter.all false
set_option maxRecDepth 100000
set_option maxHeartbeats 8000000
namespace GL
open PySem PySem.Spec PyProof.Rows L2 Geo Rel
structure AccOk (n : Nat) (acc : List (List Int)) : Prop where
  len : acc.length = n
  ok : ∀ i, KeysOk n (acc.getD i [])
theorem AccOk.set {n s : Nat} {acc : List (List Int)} {ks : List Int} (h : AccOk n acc) (k : KeysOk n ks) : AccOk n (acc.set s ks) := by
  refine ⟨by rw [List.length_set]; exact h.len, fun i => ?_⟩
  by_cases c : i = s
  · subst c
    by_cases hl : i < acc.length
    · rw [List.getD_eq_getElem?_getD, List.getElem?_set_self hl]
      exact k
    · have := h.ok i
      rw [List.set_eq_of_length_le (by omega)]
      exact this
  · rw [List.getD_eq_getElem?_getD, List.getElem?_set_ne (Ne.symm c), ← List.getD_eq_getElem?_getD]
    exact h.ok i
theorem getD_set {acc : List (List Int)} {s : Nat} {ks : List Int} (h : s < acc.length) : (acc.set s ks).getD s [] = ks := by
  rw [List.getD_eq_getElem?_getD, List.getElem?_set_self h]
  rfl
theorem getD_setne {acc : List (List Int)} {s i : Nat} {ks : List Int} (h : i ≠ s) : (acc.set s ks).getD i [] = acc.getD i [] := by
  rw [List.getD_eq_getElem?_getD, List.getElem?_set_ne (Ne.symm h), ← List.getD_eq_getElem?_getD]
theorem ButD.ex' {ds : List Addr} {H H2 H' : Hp} (n : ∀ d ∈ ds, H d = none) (e : Evl.Ex H H2) (b : ButD ds H2 H') : Evl.Ex H H' := fun a o h => b a o (fun m => by
  rw [n a m] at h
  cases h) (e a o h)
theorem p2_e : MonoE fun z : Int × Int => tupI (p2 z) := fun z v H H' e h => tupI_e (p2 z) v H H' e h
theorem order_mem {ps : List Pn} {ax : Int} {z : Int × Int} (h : z ∈ orderF ps ax) : ∃ (s : Nat) (p : Pn), z.2 = (s : Int) ∧ ps[s]? = some p ∧ z.1 = 0 - cm p ax := by
  have h := (isort_perm p2 _).mem_iff.mp h
  obtain ⟨u, hu, rfl⟩ := List.mem_map.mp h
  exact ⟨u.1, u.2, rfl, enumL_mem hu, rfl⟩
theorem order_len (ps : List Pn) (ax : Int) : (orderF ps ax).length = ps.length := by
  unfold orderF
  rw [(isort_perm p2 _).length_eq, List.length_map, enumL_len]
section
variable {P : Program} {w : World} {K : PySem.W.Frag} {mg : Str → Option Value} {base : Heap}
def spBehind : Sp := fun vs H Q _ => ∃ (l : Addr) (ps : List Pn) (ax E : Int), vs = [.ref l, .int ax] ∧ Pns H l ps ∧ ps ≠ [] ∧ ps.length ≤ 1000 ∧ (0 ≤ ax ∧ ax ≤ 1) ∧ Top (fun p => cm p (ax + 2)) ps E ∧ (∀ p ∈ ps, cm p ax < cm p (ax + 2)) ∧
  ∀ H' d ds, Evl.Ex H H' → H d = none → Found H' d ds (behindsF ps ax E) → AccOk ps.length (behindsF ps ax E) → Q (.ref d) H'
end
end GL
set_option Elab.async false
set_option linter.all false
set_option maxRecDepth 100000
set_option maxHeartbeats 8000000
/-! # the rows of panes, their plan -/
namespace GL
open PySem PySem.Spec PyProof.Rows L2 Geo Rel
theorem indexK {X : Cx} {K : PySem.W.Frag} (e : X.K = K) : MtR X "list.index" (rIndex K) := e ▸ mt_index
theorem pe_bmK {X : Cx} {K : PySem.W.Frag} (eK : X.K = K) {o e : Expr} {es : List Expr} {to : TE} {t : TA} {name : Str} {apos cpos : Pos} {T id : String} {r : V → List V → Hp → VK → Prop} (pa : PlainAttrs T) (slot : Slot T name id) (hty : typeOf (.builtin id) = pure (.type "method_descriptor")) (hm : MtR X id r) (ho : PE X o to) (ha : PA X (e :: es) t)
    (hbase : attributeBase o name X.env (eval o X.env) = eval o X.env := by rfl)
    (hfew : ((backTo cpos (starEach (e :: es) X.env)).all (fun x => !x.1) && (backToKw cpos (keywordEach [] X.env)).all (fun x => x.1.isSome)
      && decide ((e :: es).length + ([] : List Keyword).length + (if ([] : List Keyword).isEmpty then 0 else 1) < 30)) = true := by rfl)
    (hline : (apos.endLine == cpos.line) = true := by rfl) (hs : starEach (e :: es) X.env = (false, eval e X.env) :: starEach es X.env := by rfl) (hplain : (backTo cpos (starEach es X.env)).any (·.1) = false := by rfl) :
    PE X (.Call (.Attribute o name apos) (e :: es) [] cpos) (tBM K T r to t) := eK ▸ pe_bm pa slot hty hm ho ha hbase hfew hline hs hplain
def overF (under : List (List Int)) (n s : Nat) : Nat := ((List.range n).filter fun o => decide ((s : Int) ∈ under.getD o [])).length
def fallP (right under : List (List Int)) (i n : Nat) : List (Int × Int) := (List.range i).map fun s => ((n : Int) - ((right.getD s []).length : Int) - ((under.getD s []).length : Int), (s : Int))
def riseP (right under : List (List Int)) (i n : Nat) : List (Int × Int) := (List.range i).map fun s => ((n : Int) - ((right.getD s []).length : Int) - (overF under n s : Int), (s : Int))
def fallF (ps : List Pn) (E0 E1 : Int) : List Int := (isort p2 (fallP (behindsF ps 0 E0) (behindsF ps 1 E1) ps.length ps.length)).map (·.2)
def riseF (ps : List Pn) (E0 E1 : Int) : List Int := (isort p2 (riseP (behindsF ps 0 E0) (behindsF ps 1 E1) ps.length ps.length)).map (·.2)
theorem fall_perm (ps : List Pn) (E0 E1 : Int) : (fallF ps E0 E1).Perm ((List.range ps.length).map fun s : Nat => (s : Int)) := by
  refine ((isort_perm p2 _).map _).trans ?_
  unfold fallP
  rw [List.map_map]
  exact List.Perm.refl _
theorem rise_perm (ps : List Pn) (E0 E1 : Int) : (riseF ps E0 E1).Perm ((List.range ps.length).map fun s : Nat => (s : Int)) := by
  refine ((isort_perm p2 _).map _).trans ?_
  unfold riseP
  rw [List.map_map]
  exact List.Perm.refl _
/-- the plan: the rising row's places in the falling row -/
def planF (ps : List Pn) (E0 E1 : Int) : List Int := (riseF ps E0 E1).map fun s => ((fallF ps E0 E1).idxOf s : Int)
/-- what the law's own functions want of panes -/
structure PsOk (ps : List Pn) (E0 E1 : Int) : Prop where
  ne : ps ≠ []
  len : ps.length ≤ 1000
  e0 : Top (fun p => cm p 2) ps E0
  e1 : Top (fun p => cm p 3) ps E1
  pos : ∀ p ∈ ps, p.x0 < p.x1 ∧ p.y0 < p.y1
section
variable {P : Program} {w : World} {K : PySem.W.Frag} {mg : Str → Option Value} {base : Heap}
/-- len(found[s]) -/
theorem ev_lenF {σ : L2.St} {H : Hp} {F : Addr} {ds : List Addr} {acc : List (List Int)} {n m s : Nat} (hF : Found H F ds acc) (hn : σ[n]? = some (some (.ref F))) (hm : σ[m]? = some (some (.int (s : Int)))) (hs : s < acc.length) :
    Evl.Ev (tCB (fun xs H Q => ∃ a kvs, xs = [V.ref a] ∧ H a = some (.dK kvs) ∧ Q (.int kvs.length) H) (tCons (tOp (rIxL K) (tVar n) (tVar m)) tNil)) σ H (.int ((acc.getD s []).length : Int)) := fun H1 e Q q => by
  obtain ⟨d, hd, hk⟩ := hF.get hs
  refine ⟨.ref F, hn, .int (s : Int), hm, F, _, (s : Int), .ref d, rfl, rfl, SqL.of (e _ _ hF.l), atI_nat (by rw [List.getElem?_map, hd]; rfl), d, _, rfl, e _ _ hk, ?_⟩
  rw [dkv_len]
  exact q H1 (Evl.Ex.refl _)
/-- s in found[o] -/
theorem ev_inF {σ : L2.St} {H : Hp} {F : Addr} {ds : List Addr} {acc : List (List Int)} {n m j o : Nat} {t : Int} (hF : Found H F ds acc) (hn : σ[n]? = some (some (.ref F))) (hm : σ[m]? = some (some (.int (o : Int)))) (hj : σ[j]? = some (some (.int t))) (ho : o < acc.length) :
    Evl.Ev (tDIn (tVar j) (tOp (rIxL K) (tVar n) (tVar m))) σ H (.bl (decide (t ∈ acc.getD o []))) := fun H1 e Q q => by
  obtain ⟨d, hd, hk⟩ := hF.get ho
  refine ⟨.int t, hj, .ref F, hn, .int (o : Int), hm, F, _, (o : Int), .ref d, rfl, rfl, SqL.of (e _ _ hF.l), atI_nat (by rw [List.getElem?_map, hd]; rfl), d, _, rfl, DGet.k (k := .inl t) (e _ _ hk), ?_⟩
  rw [valV_dkv]
  exact q H1 (Evl.Ex.refl _)
theorem Found.but {H H' : Hp} {F G : Addr} {ds : List Addr} {acc : List (List Int)} {xs : List V} (h : Found H F ds acc) (hG : H G = some (.lst xs)) (n : F ≠ G) (b : But1 G H H') : Found H' F ds acc :=
  ⟨b F _ n h.l, h.nd, h.len, fun i d ks h1 h2 => b d _ (fun e => by
    have := h.at_ i d ks h1 h2
    rw [e, hG] at this
    cases this) (h.at_ i d ks h1 h2)⟩
theorem q_appT {α : Type} {zs : List α} {gg : α → List Int} {z : α} {l : Addr} {ta te : TE} {σ : L2.St} {H : Hp} {tz : TS} {D : Ends} (hl : RL (fun z => tupI (gg z)) H l zs) (ha : Evl.Ev ta σ H (.ref l)) (h : Evl.EvU te σ H ((gg z).map V.int)) (hz : zs.length < 50000)
    (k : ∀ H2, But1 l H H2 → RL (fun z => tupI (gg z)) H2 l (zs ++ [z]) → tz D σ H2) : tSeq (tDrop (tBM K "list" rAppend ta (tCons te tNil))) tz D σ H := s_appT (D := { D with nx := tz D }) hl ha h hz k
/-- over a new list of pairs of numbers -/
theorem er_lcT20N {α : Type} {σ : L2.St} {H : Hp} {tl te : TE} {g : α → Int × Int} {S : α → V → Hp → Prop} (mS : Mono S) {zs : List α} {j l : Nat} {vs : List Nat} (h : EvRL tl σ H (fun z => tupI [(g z).1, (g z).2]) zs) (hz : zs.length ≤ 40000)
    (hw : ∀ x y, wipe (((wipe σ vs).set j (some x)).set l (some y)) vs = wipe σ vs)
    (he : ∀ z ∈ zs, ∀ H1, Evl.Ex H H1 → EvN te (((wipe σ vs).set j (some (.int (g z).1))).set l (some (.int (g z).2))) H1 (S z)) :
    EvRL (tLc (iList K tl) (gTup K 2 (gCons (gName j) (gCons (gName l) gNil))) tYes te vs) σ H S zs := fun H1 e Q q =>
  h H1 e _ fun p H2 np e2 hl => er_lcT20 (K := K) (tl := tC (.ref p)) (σ := σ) (H := H2) mS Evl.ev_c hl hz hw (fun z hz H3 e3 => he z hz H3 ((e.trans e2).trans e3)) H2 (Evl.Ex.refl _) Q fun p' H3 np' e3 hl' => q p' H3 (Evl.fresh_back e2 np') (e2.trans e3) hl'
def spRows : Sp := fun vs H Q _ => ∃ (l : Addr) (ps : List Pn) (E0 E1 : Int), vs = [.ref l] ∧ Pns H l ps ∧ PsOk ps E0 E1 ∧
  ∀ H' a b c, Evl.Ex H H' → H' a = some (.lst ((fallF ps E0 E1).map V.int)) → H' b = some (.lst ((riseF ps E0 E1).map V.int)) → H' c = some (.tup [.ref a, .ref b]) → H a = none → H b = none → H c = none → Q (.ref c) H'
def spPlan : Sp := fun vs H Q _ => ∃ (l : Addr) (ps : List Pn) (E0 E1 : Int), vs = [.ref l] ∧ Pns H l ps ∧ PsOk ps E0 E1 ∧
  ∀ H' a, Evl.Ex H H' → H' a = some (.lst ((planF ps E0 E1).map V.int)) → H a = none → Q (.ref a) H'
end
end GL
set_option Elab.async false
set_option linter.all false
set_option maxRecDepth 100000
set_option maxHeartbeats 8000000
/-! # a pane pushed, exactly -/
namespace GL
open PySem PySem.Spec PyProof.Rows L2 Geo Rel
def topF : List Int → Int
  | [] => 0
  | n :: r => r.foldl (fun a b => if a < b then b else a) n
theorem fold_top : ∀ (r : List Int) (n : Int), (r.foldl (fun a b => if a < b then b else a) n ∈ n :: r) ∧ ∀ y ∈ n :: r, y ≤ r.foldl (fun a b => if a < b then b else a) n
  | [], n => ⟨by simp, by simp⟩
  | b :: r, n => by
    obtain ⟨h1, h2⟩ := fold_top r (if n < b then b else n)
    rw [List.foldl_cons]
    constructor
    · rcases List.mem_cons.mp h1 with h | h
      · rw [h]
        split <;> simp
      · exact List.mem_cons_of_mem _ (List.mem_cons_of_mem _ h)
    · intro y hy
      have h3 := h2 _ List.mem_cons_self
      have h4 : n ≤ (if n < b then b else n) ∧ b ≤ (if n < b then b else n) := by split <;> omega
      rcases List.mem_cons.mp hy with rfl | hy
      · exact Int.le_trans h4.1 h3
      · rcases List.mem_cons.mp hy with rfl | hy
        · exact Int.le_trans h4.2 h3
        · exact h2 _ (List.mem_cons_of_mem _ hy)
theorem topF_top {α : Type} {f : α → Int} {ps : List α} (ne : ps ≠ []) : Top f ps (topF (ps.map f)) := by
  cases ps with
  | nil => exact absurd rfl ne
  | cons p r =>
    obtain ⟨h1, h2⟩ := fold_top (r.map f) (f p)
    exact top_of (by exact h1) (by exact h2)
theorem top_map {α β : Type} {f : β → Int} {g : α → β} {zs : List α} {m : Int} (h : Top (fun z => f (g z)) zs m) : Top f (zs.map g) m := by
  obtain ⟨⟨z, hz, e⟩, h2⟩ := h
  refine ⟨⟨g z, List.mem_map_of_mem hz, e⟩, fun y hy => ?_⟩
  obtain ⟨z, hz, rfl⟩ := List.mem_map.mp hy
  exact h2 z hz
theorem enumL_map {α β : Type} (g : α → β) (zs : List α) : enumL (zs.map g) = (enumL zs).map fun u => (u.1, g u.2) := by
  unfold enumL
  rw [List.zipIdx_map, List.map_map, List.map_map]
  rfl
def borderF (ps : List Pn) (ax : Int) : Nat := (ps.filter fun p => decide (cm p (ax + 2) = topF (ps.map fun p => cm p (ax + 2)))).length
def rowF (ps : List Pn) (ax : Int) : List (Int × Int) := isort p2 (((enumL ps).filter fun u : Nat × Pn => decide (cm u.2 (ax + 2) = topF (ps.map fun p => cm p (ax + 2)))).map fun u => (cm u.2 (1 - ax), (u.1 : Int)))
def pushA (ps : List Pn) (ax : Int) (n : Nat) : List Pn :=
  ((enumL ps).map fun u : Nat × Pn => outp ax (topF (ps.map fun p => cm p (ax + 2))) ((rowF ps ax).drop ((rowF ps ax).length - n)) u.1 u.2) ++
    [sc (sc (sc (sc ⟨0, 0, 0, 0⟩ ax (topF (ps.map fun p => cm p (ax + 2)))) (ax + 2) (topF (ps.map fun p => cm p (ax + 2)) + 1)) (1 - ax) (((rowF ps ax).drop ((rowF ps ax).length - n)).headD (0, 0)).1) (3 - ax) (topF (ps.map fun p => cm p (3 - ax)))]
def pushF (ps : List Pn) (en : Int) : List Pn := pushA ps (if 0 < en then 1 else 0) en.natAbs
theorem lex_p2 {x y : Int × Int} : HT.lexLt (p2 y) (p2 x) = false ↔ LeP x y := by
  unfold p2 LeP
  rw [HT.lexLt_cons]
  by_cases c : y.1 = x.1
  · rw [if_pos c, HT.lexLt_cons]
    by_cases d : y.2 = x.2
    · rw [if_pos d]
      simp [HT.lexLt_nil_nil]
      omega
    · rw [if_neg d]
      simp
      omega
  · rw [if_neg c]
    simp
    omega
theorem made_push {zs : List (Addr × Pn)} {ax : Int} {n : Nat} {E W : Int} {row : List (Int × Int)} {k0 : Int × Int} {r : List (Int × Int)} {ps' : List Pn} (h : Made zs ax n E W row k0 r ps') (ne : zs ≠ []) : ps' = pushA (zs.map (·.2)) ax n := by
  have ne2 : zs.map (·.2) ≠ [] := fun e => ne (List.map_eq_nil_iff.mp e)
  have eE : E = topF ((zs.map (·.2)).map fun p => cm p (ax + 2)) := top_one (top_map h.e) (topF_top ne2)
  have eW : W = topF ((zs.map (·.2)).map fun p => cm p (3 - ax)) := top_one (top_map h.w) (topF_top ne2)
  have eR : row = rowF (zs.map (·.2)) ax := by
    refine List.Perm.eq_of_pairwise (le := LeP) (fun a b _ _ h1 h2 => ?_) h.srt ((isort_srt p2 _).imp fun h => lex_p2.mp h) (h.perm.trans ((isort_perm p2 _).trans ?_).symm)
    · unfold LeP at h1 h2
      exact Prod.ext (by omega) (by omega)
    · rw [enumL_map, List.filter_map, List.map_map, ← eE]
      exact List.Perm.refl _
  have eC : (rowF (zs.map (·.2)) ax).drop ((rowF (zs.map (·.2)) ax).length - n) = k0 :: r := by
    rw [← eR]
    exact h.cut
  rw [h.out]
  unfold pushA
  rw [eC, ← eE, ← eW, enumL_map, List.map_map (l := enumL zs)]
  rfl
theorem lay_pns {H : Hp} {l : Addr} {zs : List (Addr × Pn)} (h : Lay H l zs) : Pns H l (zs.map (·.2)) := by
  obtain ⟨hl, ht⟩ := h
  refine ⟨_, hl, ?_⟩
  clear hl
  induction zs with
  | nil => exact .nil
  | cons z r ih => exact .cons ⟨z.1, rfl, ht z List.mem_cons_self⟩ (ih fun z hz => ht z (List.mem_cons_of_mem _ hz))
theorem pns_lay {H : Hp} {l : Addr} {ps : List Pn} (h : Pns H l ps) : ∃ zs : List (Addr × Pn), Lay H l zs ∧ zs.map (·.2) = ps := by
  obtain ⟨ys, hl, hp⟩ := h
  have : ∃ zs : List (Addr × Pn), (zs.map fun z => V.ref z.1) = ys ∧ zs.map (·.2) = ps ∧ ∀ z ∈ zs, H z.1 = some (.tup (PnV z.2)) := by
    clear hl
    induction hp with
    | nil => exact ⟨[], rfl, rfl, by simp⟩
    | cons h1 _ ih =>
      obtain ⟨zs, e1, e2, e3⟩ := ih
      obtain ⟨T, rfl, hT⟩ := h1
      refine ⟨(T, _) :: zs, by rw [List.map_cons, e1], by rw [List.map_cons, e2], fun z hz => ?_⟩
      rcases List.mem_cons.mp hz with rfl | hz
      · exact hT
      · exact e3 z hz
  obtain ⟨zs, rfl, e2, e3⟩ := this
  exact ⟨zs, ⟨hl, e3⟩, e2⟩
section
variable {P : Program} {w : World} {K : PySem.W.Frag} {mg : Str → Option Value} {base : Heap}
def spBorderE : Sp := fun vs H Q _ => ∃ (l : Addr) (ps : List Pn) (ax : Int), vs = [.ref l, .int ax] ∧ Pns H l ps ∧ ps ≠ [] ∧ ps.length ≤ 1000 ∧ (0 ≤ ax ∧ ax ≤ 1) ∧
  ∀ H', Evl.Ex H H' → Q (.int (borderF ps ax : Int)) H'
def spPushedE : Sp := fun vs H Q _ => ∃ (l : Addr) (ps : List Pn) (en : Int), vs = [.ref l, .int en] ∧ Pns H l ps ∧ ps ≠ [] ∧ ps.length ≤ 1000 ∧ en ≠ 0 ∧ en.natAbs ≤ borderF ps (if 0 < en then 1 else 0) ∧
  ∀ H' l', Evl.Ex H H' → H l' = none → Pns H' l' (pushF ps en) → Q (.ref l') H'
theorem borderE {vs : List V} {H : Hp} {Q : VK} {E : XK} (h : spBorderE vs H Q E) : spBorder vs H Q E := by
  obtain ⟨l, ps, ax, rfl, hL, ne, hlen, hax, q⟩ := h
  obtain ⟨zs, hz, rfl⟩ := pns_lay hL
  refine ⟨l, zs, ax, rfl, hz, fun e => ne (by rw [e]; rfl), by rwa [List.length_map] at hlen, hax, fun H' m e top => ?_⟩
  have := q H' e
  unfold borderF at this
  rw [List.filter_map, List.length_map, top_one (topF_top ne) (top_map (f := fun p : Pn => cm p (ax + 2)) top)] at this
  exact this
theorem pushedE {vs : List V} {H : Hp} {Q : VK} {E : XK} (h : spPushedE vs H Q E) : spPushed vs H Q E := by
  obtain ⟨l, ps, en, rfl, hL, ne, hlen, hen, hb, q⟩ := h
  obtain ⟨zs, hz, rfl⟩ := pns_lay hL
  refine ⟨l, zs, en, _, rfl, hz, fun e => ne (by rw [e]; rfl), by rwa [List.length_map] at hlen, hen, rfl, fun E top => ?_, fun H' l' zs' E W row k0 r e n' hl' hm => ?_⟩
  · unfold borderF at hb
    rw [List.filter_map, List.length_map, top_one (topF_top ne) (top_map (f := fun p : Pn => cm p ((if 0 < en then 1 else 0) + 2)) top)] at hb
    exact hb
  · have := made_push hm (fun e => ne (by rw [e]; rfl))
    have z := lay_pns hl'
    rw [this] at z
    exact q H' l' e n' z
end
end GL
set_option Elab.async false
set_option linter.all false
set_option maxRecDepth 100000
set_option maxHeartbeats 8000000
/-! # all codes of so many panes, with their layouts -/
namespace GL
open PySem PySem.Spec PyProof.Rows L2 Geo Rel
abbrev Coded : Type := List Int × List Pn
def entriesF (ps : List Pn) : List Int := ((List.range (borderF ps 0 + borderF ps 1 + 1)).map fun i : Nat => 0 - (borderF ps 0 : Int) + (i : Int)).filter fun e => !decide (e = 0)
def growF (u : Coded) : List Coded := (entriesF u.2).map fun e => (u.1 ++ [e], pushF u.2 e)
def allF : Nat → List Coded
  | 0 => [([], [⟨0, 0, 1, 1⟩])]
  | n + 1 => (allF n).flatMap growF
theorem enumL_length {α : Type} (zs : List α) : (enumL zs).length = zs.length := enumL_len zs
theorem pushA_len (ps : List Pn) (ax : Int) (n : Nat) : (pushA ps ax n).length = ps.length + 1 := by
  unfold pushA
  rw [List.length_append, List.length_map, enumL_len]
  rfl
theorem allF_len : ∀ (n : Nat), ∀ u ∈ allF n, u.2.length = n + 1 ∧ u.1.length = n
  | 0, u, h => by
    rw [List.mem_singleton.mp h]
    exact ⟨rfl, rfl⟩
  | n + 1, u, h => by
    obtain ⟨w, hw, hu⟩ := List.mem_flatMap.mp h
    obtain ⟨e, he, rfl⟩ := List.mem_map.mp hu
    have := allF_len n w hw
    exact ⟨by rw [show (w.1 ++ [e], pushF w.2 e).2 = pushF w.2 e from rfl, pushF, pushA_len, this.1], by simp [this.2]⟩
def allR (u : Coded) (v : V) (H : Hp) : Prop := ∃ T a b, v = .ref T ∧ H T = some (.tup [.ref a, .ref b]) ∧ H a = some (.lst (u.1.map V.int)) ∧ Pns H b u.2
theorem allR_e : MonoE allR := fun u v H H' e ⟨T, a, b, h1, h2, h3, h4⟩ => ⟨T, a, b, h1, e _ _ h2, e _ _ h3, h4.ex panR_e e⟩
def hide (D : Addr) (H : Hp) : Hp := fun x => if x = D then none else H x
theorem hide_ex {D : Addr} {H : Hp} : Evl.Ex (hide D H) H := fun a o h => by
  unfold hide at h
  split at h
  · cases h
  · exact h
theorem hide_but {D : Addr} {H H' : Hp} (b : But1 D H H') : Evl.Ex (hide D H) (hide D H') := fun a o h => by
  unfold hide at h ⊢
  split at h
  · cases h
  · next n =>
    rw [if_neg n]
    exact b a o n h
theorem hide_of {D a : Addr} {H : Hp} {o : HO} (n : a ≠ D) (h : H a = some o) : hide D H a = some o := by
  unfold hide
  rw [if_neg n]
  exact h
abbrev KR (D : Addr) (u : Coded) (v : V) (H : Hp) : Prop := allR u v (hide D H)
theorem kr_of {H : Hp} {D T a b : Addr} {c : List Int} {ps : List Pn} {xs : List V} (hD : H D = some (.lst xs)) (hT : H T = some (.tup [.ref a, .ref b])) (ha : H a = some (.lst (c.map V.int))) (hb : Pns H b ps) (na : a ≠ D) (nb : b ≠ D) : KR D (c, ps) (.ref T) H := by
  refine ⟨T, a, b, rfl, hide_of (fun e => ?_) hT, hide_of na ha, ?_⟩
  · rw [e, hD] at hT
    cases hT
  · obtain ⟨ys, h1, h2⟩ := hb
    refine ⟨ys, hide_of nb h1, ?_⟩
    clear h1
    induction h2 with
    | nil => exact .nil
    | cons h _ ih =>
      obtain ⟨p, e, hp⟩ := h
      refine .cons ⟨p, e, hide_of (fun e => ?_) hp⟩ ih
      rw [e, hD] at hp
      cases hp
theorem kr_but {H H' : Hp} {D : Addr} {u : Coded} {v : V} (h : KR D u v H) (b : But1 D H H') : KR D u v H' := allR_e _ _ _ _ (hide_but b) h
theorem rl_kr {H H' : Hp} {D : Addr} {us : List Coded} {xs : List V} (h : Paired (fun y z => KR D z y H) xs us) (b : But1 D H H') : Paired (fun y z => KR D z y H') xs us := by
  induction h with
  | nil => exact .nil
  | cons h _ ih => exact .cons (kr_but h b) ih
section
variable {P : Program} {w : World} {K : PySem.W.Frag} {mg : Str → Option Value} {base : Heap}
theorem s_appN {σ : L2.St} {H : Hp} {D : Ends} {l : Addr} {xs : List V} {ta te : TE} {R : V → Hp → Prop} (hl : H l = some (.lst xs)) (ha : Evl.Ev ta σ H (.ref l)) (h : ∀ H1, Evl.Ex H H1 → ∀ Q : VK, (∀ v H2, Evl.Ex H1 H2 → R v H2 → Q v H2) → te σ H1 Q) (hz : xs.length < 100000)
    (k : ∀ v H1, Evl.Ex H H1 → R v H1 → D.nx σ (upd H1 l (.lst (xs ++ [v])))) :
    tDrop (tBM K "list" rAppend ta (tCons te tNil)) D σ H := ha H (Evl.Ex.refl H) _ fun H1 e1 =>
  ⟨Or.inl ⟨rfl, xs, Evl.sq_of (e1 l _ hl)⟩, h H1 e1 _ fun v H2 e2 hv => ⟨l, xs, v, rfl, rfl, e2 l _ (e1 l _ hl), Evl.sz_lt hz, k v H2 (e1.trans e2) hv⟩⟩
theorem s_forR2n {σ : L2.St} {H : Hp} {D : Ends} {tu : TS} {ta : TA} {j : Nat} {lo n : Int} (h : Evl.EvA ta σ H [.int lo, .int n]) (hn : -100000 ≤ lo ∧ lo ≤ 100000 ∧ -100000 ≤ n ∧ n ≤ 100000) (Pv : Nat → L2.St → Hp → Prop) (h0 : ∀ H1, Evl.Ex H H1 → Pv 0 σ H1)
    (hs : ∀ (i : Nat) σ' H', lo + (i : Int) < n → Pv i σ' H' → tu { D with nx := Pv (i + 1), ct := Pv (i + 1), bk := D.nx } (σ'.set j (some (.int (lo + (i : Int))))) H') (hd : ∀ σ' H', Pv (n - lo).toNat σ' H' → D.nx σ' H') : tFor (iRng2 ta) (gName j) tu D σ H :=
  h H (Evl.Ex.refl H) _ fun H1 e => ⟨lo, n, rfl, ⟨by omega, by omega, by omega, by omega⟩, for_range (lo := lo) (n := (n - lo).toNat) Pv (h0 H1 e) (fun i σ' H' hi p => hs i σ' H' (by omega) p) hd⟩
theorem ev_init {σ : L2.St} {H : Hp} : EvRL (tLst (tCons (tTup (tCons (tLst tNil) (tCons (tLst (tCons (tTup (tCons (tC (.int 0)) (tCons (tC (.int 0)) (tCons (tC (.int 1)) (tCons (tC (.int 1)) tNil))))) tNil)) tNil))) tNil)) σ H allR (allF 0) := fun H1 e Q q =>
  ⟨(show 0 ≤ sizeLine by decide), fun a na => ⟨(show 4 ≤ sizeLine by decide), fun t nt => ⟨(show 1 ≤ sizeLine by decide), fun b nb => ⟨(show 2 ≤ sizeLine by decide), fun T nT => ⟨(show 1 ≤ sizeLine by decide), fun f nf => by
    have e1 := Evl.Ex.new (o := .lst []) na
    have e2 := Evl.Ex.new (o := .tup [.int 0, .int 0, .int 1, .int 1]) nt
    have e3 := Evl.Ex.new (o := .lst [.ref t]) nb
    have e4 := Evl.Ex.new (o := .tup [.ref a, .ref b]) nT
    have e5 := Evl.Ex.new (o := .lst [.ref T]) nf
    exact q f _ (Evl.fresh_back (((e1.trans e2).trans e3).trans e4) nf) ((((e1.trans e2).trans e3).trans e4).trans e5)
      ⟨[.ref T], upd_same, .cons ⟨T, a, b, rfl, e5 _ _ upd_same, (((e2.trans e3).trans e4).trans e5) _ _ upd_same, ⟨[.ref t], (e4.trans e5) _ _ upd_same, .cons ⟨t, rfl, ((e3.trans e4).trans e5) _ _ upd_same⟩ .nil⟩⟩ .nil⟩⟩⟩⟩⟩⟩
theorem border_le (ps : List Pn) (ax : Int) : borderF ps ax ≤ ps.length := List.length_filter_le _ _
def partF (z : Coded) (j : Nat) : List Coded := (((List.range j).map fun i : Nat => 0 - (borderF z.2 0 : Int) + (i : Int)).filter fun e => !decide (e = 0)).map fun e => (z.1 ++ [e], pushF z.2 e)
theorem bCall {H : Hp} {b : Addr} {ps : List Pn} {ax : Int} (hb : Pns H b ps) (ne : ps ≠ []) (hl : ps.length ≤ 1000) (hax : 0 ≤ ax ∧ ax ≤ 1) : Evl.SpV spBorderE ([.ref b, .int ax] ++ []) H (.int (borderF ps ax : Int)) := fun H1 e Q q E =>
  ⟨b, ps, ax, rfl, hb.ex panR_e e, ne, hl, hax, fun H' e' => q H' e'⟩
theorem unhide {H : Hp} {D l : Addr} {us : List Coded} (h : RL (KR D) H l us) : RL allR H l us := by
  obtain ⟨ys, h1, h2⟩ := h
  refine ⟨ys, h1, ?_⟩
  clear h1
  induction h2 with
  | nil => exact .nil
  | cons h _ ih => exact .cons (allR_e _ _ _ _ hide_ex h) ih
def spAll : Sp := fun vs H Q _ => ∃ (m : Nat), vs = [.int (m : Int)] ∧ 1 ≤ m ∧ m ≤ 100 ∧ (∀ i < m, (allF i).length < 40000) ∧
  ∀ H' l, Evl.Ex H H' → H l = none → RL allR H' l (allF (m - 1)) → Q (.ref l) H'
end
end GL
set_option Elab.async false
set_option linter.all false
set_option maxRecDepth 100000
set_option maxHeartbeats 4000000
/-! # a def that tells whether a thing is a whole number, called where no frame is known -/
namespace GnR
open PySem PySem.Spec PyProof.Rows L2
section
variable {P : Program} {w : World} {K : PySem.W.Frag} {mg : Str → Option Value} {base : Heap}
/-- the def «return type(x) is int» -/
structure IsNum (st : Stmt) (x : Str) : Prop where
  body : ∃ p1 p2 p3 p4 p5 p6, defBody st = [.Return (some (.Compare (.Call (.Name "type" p1) [.Name x p2] [] p3) [.Is] [.Name "int" p4] p5)) p6]
  kind : (defScope st).kind = .function
  co : (defScope st).isCoroutine = false
  gen : (defScope st).isGenerator = false
  lx : (defScope st).names.lookup x = some .local
  ty : (defScope st).names.lookup ("type" : Str) = some .globalImplicit
  it : (defScope st).names.lookup ("int" : Str) = some .globalImplicit
  dx : (x == ("__debug__" : Str)) = false
theorem raw_num {x nm qual : Str} {st : Stmt} {f : Addr} {fd : FuncData} (M : Mod K mg base) (F : Fun K nm qual st f fd) (N : IsNum st x) (bd : ∀ (s : Shared) (u : Value), BindsTo s fd ⟨[u], []⟩ [(x, u)]) (mt : mg "type" = none) (mi : mg "int" = none)
    {A : Around} {E : Value → Shared → Prop} {s : Shared} {n : Int} {t : Tok} {Q : Value → Shared → Prop} (hk : ∀ b o, base.get? b = some o → s.heap.get? b = some o) (hd : A.depth < recursionLimit) (h : ∀ s', Keeps s s' → Q (.bool true) s') :
    wpAny (model P w) A (call (.ref f) [.int n t]) Q E s := by
  have bd1 := bd s (.int n t)
  obtain ⟨oc, od, kV, doc, pm, an, cdv, ct, osl, rfl, lk, hcd⟩ := F.ex
  obtain ⟨p1, p2, p3, p4, p5, p6, hb⟩ := N.body
  have KX : K.In s.heap := M.kin.keeps hk
  have lim : s.heap.NoLimit := M.nolimit.keeps hk
  refine wpAny_call ?_
  refine codeAny_call_function hd (KX _ _ lk) rfl N.co N.gen rfl (PySem.W.codeRec_of KX hcd) (bd1 _ _ _ _ ?_)
  refine wpAny_newFunctionEnv_cells N.kind (fun y hy => ?_) fun env he s1 x1 => ?_
  · rw [List.mem_singleton.mp hy]
    exact .inl N.lx
  · subst he
    refine ⟨lim.keeps x1.toInCall.keep, codeAny_func ?_⟩
    rw [hb]
    obtain ⟨h1, tk, rfl, hk1⟩ := x1.done
    have hkb : ∀ b o, base.get? b = some o → h1.get? b = some o := fun b o e => hk1 b o (hk b o e)
    obtain ⟨mb, hb1, hb2⟩ := M.blt
    refine wpAny_execs_cons (wpAny_Return_some (wpAny_Compare1 ?_ (by rfl)))
    refine wpAny_Call_Name_kw (Calls.Name_function_global N.kind N.ty (Calls.loadGlobal_builtin (M.glob.keeps hkb) mt (hb1.keeps hkb) ((hb2 _ (by decide)).trans (by decide +kernel : bootBuiltins "type" = some (.type "type"))) ?_) (by decide))
    refine PyProof.Rows.callWith_type1 ?_ (by rfl) (by rfl)
    refine Calls.spliced_cons ?_
    refine wpAny_Name (wpAny_loadName_local N.kind N.lx x1.toInCall.ns (v := .int n t) ?_ ?_) N.dx
    · exact bindL_get (P := [x]) (vs := [.int n t]) (i := 0) (by simp) rfl rfl N.lx
    · refine Calls.spliced_nil ?_
      refine call_type_of (Tx := "int") rfl (by decide +kernel) ?_
      refine Calls.Name_function_global N.kind N.it (Calls.loadGlobal_builtin (M.glob.keeps hkb) mi (hb1.keeps hkb) ((hb2 _ (by decide)).trans (by decide +kernel : bootBuiltins "int" = some (.type "int"))) ?_) (by decide)
      refine wpAny_is_self rfl ?_
      exact h _ ⟨h1, tk, rfl, hk1⟩
end
end GnR
set_option Elab.async false
set_option linter.all false
set_option maxRecDepth 100000
set_option maxHeartbeats 4000000
/-! # all(f(x) for x in a list of whole numbers), f such a def; the code's table is known to be one, no more -/
namespace GnR
open PySem PySem.Spec PyProof.Rows L2 GxR
/-- the table at p, whatever it holds by now -/
def TabIs (p : Addr) (h : Heap) : Prop := ∃ ps : Array Value, h.get? p = some { cls := .none, data := .fields ps } ∧ TriplesOk ps.toList
def TabO (p : Addr) : HO := .ext (TabIs p)
section
variable {P : Program} {w : World} {K : PySem.W.Frag} {mg : Str → Option Value} {base : Heap}
/-- the element: true of each whole number, and nothing is changed -/
def EltI (P : Program) (w : World) (base : Heap) (scope : Scope) (x : Str) (elt : Expr) : Prop :=
  ∀ (ce : Env) (A1 : Around) (E1 : Value → Shared → Prop) (n : Int) (t : Tok) (s1 : Shared) (m1 : Str → Option Value), ce.scope = scope → ce.globals = mainGlobals → A1.depth < recursionLimit →
    (∀ b o, base.get? b = some o → s1.heap.get? b = some o) → s1.heap.Ns ce.locals m1 → m1 x = some (.int n t) → wpAny (model P w) A1 (eval elt ce) (fun y s2 => y = .bool true ∧ Keeps s1 s2) E1 s1
theorem elt_num {x y nm qual : Str} {st : Stmt} {f : Addr} {fd : FuncData} {scope : Scope} {p1 p2 p3 : Pos} (M : Mod K mg base) (F : Fun K nm qual st f fd) (N : IsNum st y) (bd : ∀ (s : Shared) (u : Value), BindsTo s fd ⟨[u], []⟩ [(y, u)]) (mt : mg "type" = none) (mi : mg "int" = none)
    (hf : mg nm = some (.ref f)) (hk : scope.kind = .function) (lx : scope.names.lookup x = some .local) (ln : scope.names.lookup nm = some .globalImplicit) (dx : (x == ("__debug__" : Str)) = false) (dn : (nm == ("__debug__" : Str)) = false) :
    EltI P w base scope x (.Call (.Name nm p1) [.Name x p2] [] p3) := by
  intro ce A1 E1 n t s1 m1 hs hg hd hb hn hm
  subst hs
  refine wpAny_Call_Name_kw (Calls.Name_function_global hk ln (Calls.loadGlobal_global (by rw [hg]; exact M.glob.keeps hb) hf ?_) dn)
  refine PySem.W.callWith_K (h₀ := base) M.kin F.kp ?_ (by rfl) (by rfl)
  refine Calls.spliced_cons (wpAny_Name (wpAny_loadName_local hk lx hn hm ?_) dx)
  refine Calls.spliced_nil ⟨M.kin.keeps hb, ?_⟩
  exact raw_num M F N bd mt mi hb hd fun s2 k => ⟨rfl, k⟩
end
section
variable {X : Cx} {pins : List (Addr × Obj)} {σ : L2.St} {H : Hp} {s : Shared}
theorem tab_ok {p : Addr} {h : Heap} (t : TabIs p h) {Pg : Program} {w : World} {H : Hp} : ObjOk Pg w H h p (TabO p) := by
  obtain ⟨ps, e, r⟩ := t
  exact ⟨⟨ps, e, r⟩, ⟨_, e⟩, fun h1 h2 ⟨qs, e1, r1⟩ k => ⟨qs, k _ e1, r1⟩⟩
/-- the table may have grown: nothing else is known to have changed -/
theorem inv_tabO {p : Addr} {h1 : Heap} {g1 : Array GenState} {d1 : Drawn} {t1 : Nat} (I : Inv X pins σ H s) (hP : H p = some (TabO p)) (k : ∀ b o, b ≠ p → s.heap.get? b = some o → h1.get? b = some o) (ht : TabIs p h1) (hg : AllBare g1) :
    Inv X pins σ H { s with heap := h1, gens := g1, drawn := d1, toks := t1 } := by
  have ne0 : ∀ b, H b = none → b ≠ p := fun b e z => by
    rw [z, hP] at e
    cases e
  have neX : ∀ b u, H b = some u → (∀ φ, u ≠ .ext φ) → b ≠ p := fun b u e q z => by
    rw [z, hP] at e
    exact q _ (Option.some.inj e).symm
  obtain ⟨ps, hp, _⟩ := id ht
  refine I.step (H' := H) (ch := []) ?c1 ?c2 ?c3 ?c4 ?c5 (fun _ _ e => e) (fun _ _ _ e => e) ?c6 ?c7 ?c8 hg
  case c1 => exact fun b hb => (nomatch hb)
  case c2 => exact fun b o _ _ _ e n => k b o (ne0 b n) e
  case c3 => exact fun b o _ _ _ e n => ⟨o.slots, k b o (ne0 b n) e⟩
  case c4 => exact fun b o _ _ n => n
  case c5 =>
    intro b o _ e
    by_cases z : b = p
    · exact ⟨_, z ▸ hp⟩
    · exact ⟨o, k b o z e⟩
  case c6 => exact fun b qs e => ⟨#[], by rw [e]; simp⟩
  case c7 =>
    intro m hn
    exact hn.at' fun o e => k _ o (ne0 _ I.free) e
  case c8 =>
    intro b u e
    by_cases z : b = p
    · subst z
      obtain rfl := Option.some.inj (hP.symm.trans e)
      exact tab_ok ht
    · refine (I.hok b u e).stay (fun d v hd q => k d v (fun zd => ?_) q) (fun _ q => q) fun _ _ q => q
      rcases hd with y | y
      · exact z (y.symm.trans zd)
      · rw [zd, hP] at y
        cases y
end
end GnR
set_option Elab.async false
set_option linter.all false
set_option maxRecDepth 100000
set_option maxHeartbeats 4000000
/-! # the rule for all(f(x) for x in xs) -/
namespace GnR
open PySem PySem.Spec PyProof.Rows L2 GxR
def tAllN (K : PySem.W.Frag) (p : Addr) (te : TE) : TE := fun σ H Q => te σ H fun v H1 => ∃ (l : Addr) (ns : List Int), v = .ref l ∧ SqL K H1 l (ns.map V.int) ∧ H1 p = some (TabO p) ∧ Q (.bl true) H1
section
variable {X : Cx}
/-- what is asked of the generator when it stands: it can be walked, yields True and leaves all but the table -/
def Stands (X : Cx) (pins : List (Addr × Obj)) (σ : L2.St) (H : Hp) (g : Addr) (s : Shared) : Prop :=
  ∃ (fp wr : List Addr) (G : Array GenState → Array GenState → Prop) (n : Nat) (F : Nat → Value → Prop) (St : Nat → Shared → Prop),
    WalksS X.prog X.w X.A.in1 g fp wr G n F St ∧ St 0 s ∧ (∀ i y, F i y → y = .bool true) ∧ ∀ s2, Moved wr G s s2 → Inv X pins σ H s2
theorem gen_nums {c p : Addr} {elt iter : Expr} {x : Str} {px gpos : Pos} {scope : Scope} {te : TE} {k : Nat} {pins : List (Addr × Obj)} {σ : L2.St} {H : Hp} {s : Shared} {R : Hp → Prop} {Qv : Value → Shared → Prop}
    (hr : Room k X.A) (TB : TabB X.base X.mg c p) (hcode : X.env.code = .ref c) (S : GenS X.env scope x) (hi : PE X iter te) (hel : EltI X.prog X.w X.base scope x elt) (hs : ∀ v, genFold iter X.env v = pure v) (I : Inv X pins σ H s)
    (h : te σ H fun v H1 => ∃ (l : Addr) (ns : List Int), v = .ref l ∧ SqL X.K H1 l (ns.map V.int) ∧ H1 p = some (TabO p) ∧ R H1) (hQ : ∀ H1 g s2, R H1 → Stands X pins σ H1 g s2 → Qv (.ref g) s2) :
    wpAny (model X.prog X.w) X.A (eval (.GeneratorExp elt [⟨.Name x px, iter, [], 0⟩] scope gpos) X.env) Qv X.xe s := by
  have room : X.A.depth + 1 < recursionLimit := by
    have := hr.dp
    omega
  refine wpAny_GeneratorExp_walksQD hr.hd S.co (closure_ok S.free) S.cell S.dot S.loc S.kind (by omega) ?_ hs
  refine thn (hi.run pins s σ H _ I h) fun xv s1 hx => ?_
  obtain ⟨v, H1, I1, r1, l, ns, rfl, hl, hP, hR⟩ := hx
  cases r1
  obtain ⟨its, rv, pl, hz⟩ := I1.list hl
  have isInt : ∀ (i : Nat) (u : Value), its.toArray[i]? = some u → ∃ n t, u = .int n t := fun i u hu => by
    have hu2 : its[i]? = some u := by simpa using hu
    have hi2 : i < ns.length := by
      have q := rv.length
      rw [List.length_map] at q
      have := (List.getElem?_eq_some_iff.mp hu2).1
      omega
    obtain ⟨u2, k1, k2⟩ := rv.get (i := i) (x := .int ns[i]) (by rw [List.getElem?_map, List.getElem?_eq_getElem hi2]; rfl)
    obtain rfl := Option.some.inj (k1.symm.trans hu2)
    obtain ⟨t, e⟩ := k2
    exact ⟨_, t, e⟩
  refine wpAny_pyIter_list pl.isList ?_
  have llt : l < s1.heap.objs.size := by
    obtain ⟨o, ho, _⟩ := pl.isList
    exact Heap.lt_size ho
  obtain ⟨ps, hps, htr⟩ := (I1.hok p _ hP).1
  have plt : p < s1.heap.objs.size := Heap.lt_size hps
  have lp : l ≠ p := fun z => by
    obtain ⟨o, ho, hc, _⟩ := pl.isList
    rw [z, hps] at ho
    cases ho
    cases hc
  generalize hob : ({ cls := .type "list_iterator", data := .fields #[.ref l, .int 0 0] } : Obj) = ob
  have sz2 : (s1.heap.push ob).objs.size = s1.heap.objs.size + 1 := Heap.size_push ..
  have old2 : ∀ b u, s1.heap.get? b = some u → (s1.heap.push ob).get? b = some u := fun b u e => Heap.get?_push_of_some _ e
  have lim2 : (s1.heap.push ob).NoLimit := I1.nolimit.push ob
  have cd : PySem.W.CodeHd (s1.heap.push ob) c p := TB.code.keeps fun b u e => old2 b u (I1.bk b u e)
  have rest : ∀ (code : Value) (h3 : Heap) (tk : Nat), Heap.ExtBut p (s1.heap.push ob) h3 → (s1.heap.push ob).objs.size ≤ h3.objs.size → TabIs p h3 →
      wpAny (model X.prog X.w) X.A (builtinsFor X.env.globals X.env.builtins) (fun bi s4 =>
        ∃ Ia fp wr n Pf Sf pz F, Value.ref s1.heap.objs.size = .ref Ia ∧ (∀ A1 : Around, A1.handled = none → Walks X.prog X.w A1 Ia fp wr n Pf Sf) ∧ Sf 0 s4.heap ∧ (∀ b ∈ fp, b < s4.heap.objs.size) ∧ s4.heap.NoLimit ∧ cStatics ∉ wr ∧
          (∀ href : Heap, (∀ b o, s4.heap.get? b = some o → href.get? b = some o) → QuietGenD X.prog X.w (genEnv scope (cloFrom X.env.cells scope.names []) s4.heap.objs.size code bi X.env) x [] elt (List.range s4.heap.objs.size) wr Pf pz F href (X.A.depth + 1) (X.A.units + 8)) ∧
          (∀ a h5 tk5 gs, gs.bare = true → s4.heap.objs.size < a → h5.objs.size = a + 1 → (∀ b o, s4.heap.get? b = some o → h5.get? b = some o) →
            WalksS X.prog X.w X.A.in4 a (a :: s4.heap.objs.size :: List.range s4.heap.objs.size) (s4.heap.objs.size :: wr) (GenOnlyQ s4.gens.size) (passing pz n 0).length
              (fun j y => ∃ i, (passing pz n 0)[j]? = some i ∧ F i y) (GenAt X.prog X.w X.A.in4 a s4.gens.size s4.heap.objs.size (List.range s4.heap.objs.size) wr pz n F) →
            GenAt X.prog X.w X.A.in4 a s4.gens.size s4.heap.objs.size (List.range s4.heap.objs.size) wr pz n F 0 { s4 with gens := s4.gens.push gs, toks := tk5, heap := h5 } →
            Qv (.ref a) { s4 with gens := s4.gens.push gs, toks := tk5, heap := h5 })) X.xe { s1 with heap := h3, toks := tk } := by
    intro code h3 tk hx sz3 ht3
    have up : ∀ b u, b ≠ p → s1.heap.get? b = some u → h3.get? b = some u := fun b u n e => hx b u n (old2 b u e)
    obtain ⟨bm, bo, e1, e2, e3, e4, e5, e6, e7, e8⟩ := TB.bm
    have stat : cStatics ≠ p := fun z => by
      obtain ⟨_, ns2, _⟩ := I1.nolimit
      obtain ⟨o', es, ep, ho, hd, _⟩ := ns2
      rw [z, hps] at ho
      cases ho
      cases hd
    have statlt : cStatics < s1.heap.objs.size := by
      obtain ⟨_, ns2, _⟩ := I1.nolimit
      exact ns2.lt
    have gl : h3.Ns X.env.globals X.mg := by
      rw [I1.ok.glob]
      exact ((I1.mod.glob.keeps I1.bk).push ob).extBut hx TB.gP
    refine wpAny_builtinsFor gl e1 e2 (up _ _ e4 (I1.bk _ _ e5)) e6 e7 e8 ?_
    have lne : l ≠ s1.heap.objs.size := Nat.ne_of_lt llt
    have itN : s1.heap.objs.size ≠ p := fun z => by
      have := z ▸ plt
      exact Nat.lt_irrefl _ this
    refine ⟨s1.heap.objs.size, [s1.heap.objs.size, l], [s1.heap.objs.size], its.toArray.size, _, _, fun _ => true, fun _ y => y = .bool true, rfl, fun A1 hA => Walks.list hA _ l lne its.toArray, ⟨?s1, ?s2⟩, ?fp, lim2.extBut hx stat, ?st, ?qt, ?fin⟩
    case s1 =>
      refine ⟨_, hx _ _ itN (Heap.get?_push_size _ (by rw [← hob]; rfl)), ?_⟩
      subst hob
      exact ⟨rfl, rfl⟩
    case s2 => exact pl.isList.at fun o e => up l o lp e
    case fp =>
      intro b hb
      show b < h3.objs.size
      have : s1.heap.objs.size + 1 ≤ h3.objs.size := sz2 ▸ sz3
      rcases List.mem_cons.mp hb with z | hb
      · rw [z]
        exact Nat.lt_of_lt_of_le (Nat.lt_succ_self _) this
      · rw [List.mem_singleton.mp hb]
        exact Nat.lt_of_lt_of_le (Nat.lt_succ_of_lt llt) this
    case st =>
      intro z
      rw [List.mem_singleton.mp z] at statlt
      exact Nat.lt_irrefl _ statlt
    case qt =>
      intro href hh
      have keepB : ∀ (s2 : Shared), (∀ b ∈ List.range h3.objs.size, b ∉ [s1.heap.objs.size] → ∀ o, href.get? b = some o → s2.heap.get? b = some o) → ∀ b o, X.base.get? b = some o → s2.heap.get? b = some o := fun s2 hk b o e => by
        have e2 := I1.bk b o e
        have nb : b ≠ p := fun z => by
          have := (I1.bs b o e).2
          rw [z, hP] at this
          cases this
        have e3 := up b o nb e2
        refine hk b (List.mem_range.mpr (Heap.lt_size e3)) (fun z => ?_) o (hh b o e3)
        have := Heap.lt_size e2
        rw [List.mem_singleton.mp z] at this
        exact Nat.lt_irrefl _ this
      refine ⟨fun A1 E1 i v s2 m2 hA hD hU hv hn hm hk => ?_, fun A1 E1 i v s2 m2 hA hD hU hv hz2 hn hm hk => ?_⟩
      · simp only [List.forIn_nil]
        exact wpAny_pure ⟨rfl, keeps_refl _⟩
      · obtain ⟨n, t, rfl⟩ := isInt i v hv
        exact hel _ A1 E1 n t s2 m2 rfl I1.ok.glob (by omega) (keepB s2 hk) hn hm
    case fin =>
      intro a h5 tk5 gs hgb hag hsz5 hk5 W5 hat
      refine hQ H1 a _ hR ⟨_, _, _, _, _, _, W5.in4_1, hat, fun i y hy => ?_, fun s2 hm => ?_⟩
      · obtain ⟨j, _, e⟩ := hy
        exact e
      · have notw : ∀ b u, s1.heap.get? b = some u → b ∉ h3.objs.size :: [s1.heap.objs.size] := fun b u e hb => by
          have hl := Heap.lt_size e
          have : s1.heap.objs.size + 1 ≤ h3.objs.size := sz2 ▸ sz3
          rcases List.mem_cons.mp hb with z | z
          · rw [z] at hl
            have : (h3.objs.size : Nat) < s1.heap.objs.size := hl
            omega
          · rw [List.mem_singleton.mp z] at hl
            exact Nat.lt_irrefl _ hl
        have ht5 : TabIs p s2.heap := by
          obtain ⟨qs, e, r⟩ := ht3
          exact ⟨qs, hm.heap p _ (notw p _ hps) (hk5 p _ e), r⟩
        have J := inv_tabO (h1 := s2.heap) (g1 := s2.gens) (d1 := s2.drawn) (t1 := s2.toks) I1 hP (fun b u n e => hm.heap b u (notw b u e) (hk5 b u (up b u n e))) ht5 (AllBare.movedS (I1.bare.push hgb) hm)
        rwa [sh_eta s1 s2 hm.os] at J
  refine ⟨lim2, ?_⟩
  have tab2 := cd.code (old2 p _ hps) htr
  cases hf : codeAmong gpos ps.toList with
  | some cv =>
    refine wpAny_genexprCode_hit hcode tab2 hf (rest cv _ s1.toks (Heap.ExtBut.refl _ _) (Nat.le_refl _) ⟨ps, old2 p _ hps, htr⟩)
  | none =>
    refine wpAny_genexprCodeX hcode tab2 (cd.tab (old2 p _ hps)) hf fun c2 h3 tk hx3 hge hlt hc3 _ htb3 _ => ?_
    obtain ⟨o1, vs, f1, tf, fl, tg, inF, tx, tt, op, _, _, _, _, _, _, _, _, _, htr3, _⟩ := hc3
    exact rest _ h3 tk hx3 (Nat.le_trans hge (Nat.le_of_lt hlt)) ⟨_, htb3.2, htr3⟩
/-- all(f(x) for x in xs) -/
theorem pe_allN {c p : Addr} {elt iter : Expr} {x : Str} {px pp pos gpos : Pos} {scope : Scope} {te : TE} {k : Nat} (hr : Room k X.A) (hg : Gl X "all") (hm : X.mg "all" = none) (TB : TabB X.base X.mg c p) (hcode : X.env.code = .ref c) (S : GenS X.env scope x) (hi : PE X iter te)
    (hel : Mod X.K X.mg X.base → EltI X.prog X.w X.base scope x elt) (hs : ∀ v, genFold iter X.env v = pure v)
    (he : starEach [.GeneratorExp elt [⟨.Name x px, iter, [], 0⟩] scope gpos] X.env = (false, eval (.GeneratorExp elt [⟨.Name x px, iter, [], 0⟩] scope gpos) X.env) :: starEach [] X.env := by rfl) :
    PE X (.Call (.Name "all" pp) [.GeneratorExp elt [⟨.Name x px, iter, [], 0⟩] scope gpos] [] pos) (tAllN X.K p te) := by
  refine ⟨fun pins s σ H Q I h => ?_⟩
  have hb : bootBuiltins "all" = some (.builtin "all") := by decide +kernel
  refine wpAny_Call_Name_kw (ld_blt I hg hm hb (PyProof.Rows.callWith_builtin1 ?_ he (by rfl)))
  rw [he]
  refine Calls.spliced_cons (gen_nums (R := fun H1 => Q (.bl true) H1) hr TB hcode S hi (hel I.ok.mod) hs I h fun H1 g s2 hR hG => ?_)
  obtain ⟨fp, wr, G, n, F, St, W, hst, hF, hI⟩ := hG
  refine Calls.spliced_nil (call_all_walkS (W.self 0 _ _ _ hst ⟨g, fp, wr, G, _, F, St, fun _ => true, rfl, W, hst, fun i y s3 Q3 E3 hy q => ?_, fun s3 hmv => ?_⟩))
  · rw [hF i y hy]
    exact wpAny_truthy_bool q
  · have e : ((List.range n).all fun _ => true) = true := by simp
    rw [e]
    exact ⟨.bl true, H1, hI s3 hmv, rfl, hR⟩
end
end GnR
set_option Elab.async false
set_option linter.all false
set_option maxRecDepth 100000
set_option maxHeartbeats 8000000
/-! # defs of the program: whether a number, the places of a row -/
namespace GL
open PySem PySem.Spec PyProof.Rows L2 Geo Rel
structure BP (mg : Str → Option Value) : Prop extends BN mg where
  type_ : mg "type" = none
  all_ : mg "all" = none
  isinstance_ : mg "isinstance" = none
section
variable {P : Program} {w : World} {K : PySem.W.Frag} {mg : Str → Option Value} {base : Heap}
def spIsNum : Sp := fun vs H Q _ => ∃ n : Int, vs = [.int n] ∧ ∀ H', Evl.Ex H H' → Q (.bl true) H'
/-- the places of a row -/
def placesF (row : List Int) : List Int := (enumL row).foldl (fun acc u => acc.set u.2.toNat (u.1 : Int)) (row.map fun _ => 0)
theorem fold_len (us : List (Nat × Int)) : ∀ acc : List Int, (us.foldl (fun acc u => acc.set u.2.toNat (u.1 : Int)) acc).length = acc.length := by
  induction us with
  | nil => exact fun _ => rfl
  | cons u us ih =>
    intro acc
    rw [List.foldl_cons, ih, List.length_set]
theorem placesF_len (row : List Int) : (placesF row).length = row.length := by
  unfold placesF
  rw [fold_len, List.length_map]
theorem enum_take {α : Type} {zs : List α} {i : Nat} {z : α} (h : zs[i]? = some z) : (enumL zs).take (i + 1) = (enumL zs).take i ++ [(i, z)] := by
  have : (enumL zs)[i]? = some (i, z) := by
    unfold enumL
    rw [List.getElem?_map, List.getElem?_zipIdx, h]
    simp
  rw [List.take_add_one, this]
  rfl
def spPlaces : Sp := fun vs H Q _ => ∃ (l : Addr) (row : List Int), vs = [.ref l] ∧ H l = some (.lst (row.map V.int)) ∧ row.length ≤ 1000 ∧ (∀ r ∈ row, 0 ≤ r ∧ r < row.length) ∧ ∀ H' a, Evl.Ex H H' → H a = none → H' a = some (.lst ((placesF row).map V.int)) → Q (.ref a) H'
end
end GL
set_option Elab.async false
set_option linter.all false
set_option maxRecDepth 100000
set_option maxHeartbeats 8000000
/-! # the last lesser number before each; panes by their places -/
namespace GL
open PySem PySem.Spec PyProof.Rows L2 Geo Rel
section
variable {P : Program} {w : World} {K : PySem.W.Frag} {mg : Str → Option Value} {base : Heap} {σ : L2.St} {H : Hp}
theorem et_list {l : Addr} {xs : List V} {n : Nat} (hn : σ[n]? = some (some (.ref l))) (hl : H l = some (.lst xs)) : Evl.EvT (fun σ H Q => tVar n σ H fun x H1 => ∃ k, TruV K x H1 k ∧ Q k H1) σ H (!xs.isEmpty) :=
  fun H1 e Q q => ⟨.ref l, hn, _, .inl ⟨xs, SqL.of (e _ _ hl), rfl⟩, q H1 (Evl.Ex.refl _)⟩
theorem s_popL {D : Ends} {l : Addr} {xs : List V} {y : V} {ta : TE} (hl : H l = some (.lst (xs ++ [y]))) (ha : Evl.Ev ta σ H (.ref l)) (k : ∀ H1, Evl.Ex H H1 → D.nx σ (upd H1 l (.lst xs))) : tDrop (tBM0 K "list" rPop ta) D σ H :=
  ha H (Evl.Ex.refl H) _ fun H1 e1 => ⟨Or.inl ⟨rfl, _, Evl.sq_of (e1 l _ hl)⟩, l, _, y, rfl, rfl, e1 l _ hl, by simp, by
    rw [List.dropLast_concat]
    exact k H1 e1⟩
def popF (ns : List Int) (n : Int) (L : List Int) : List Int := (L.reverse.dropWhile fun p => decide (ns.getD p.toNat 0 > n)).reverse
def stepLL (ns : List Int) (st : List Int × List Int) (u : Nat × Int) : List Int × List Int := (st.1 ++ [(popF ns u.2 st.2).getLastD (-1)], popF ns u.2 st.2 ++ [(u.1 : Int)])
def lastF (ns : List Int) : List Int := ((enumL ns).foldl (stepLL ns) ([], [])).1
theorem popF_nil (ns : List Int) (n : Int) : popF ns n [] = [] := rfl
theorem popF_snoc (ns : List Int) (n : Int) (L : List Int) (p : Int) : popF ns n (L ++ [p]) = if ns.getD p.toNat 0 > n then popF ns n L else L ++ [p] := by
  unfold popF
  rw [List.reverse_append, List.reverse_singleton, List.singleton_append, List.dropWhile_cons]
  by_cases c : ns.getD p.toNat 0 > n
  · rw [if_pos (decide_eq_true c), if_pos c]
  · rw [if_neg (by simp at c ⊢; exact c), if_neg c]
    simp
theorem popF_sub (ns : List Int) (n : Int) (L : List Int) : ∀ p ∈ popF ns n L, p ∈ L := fun p hp => by
  unfold popF at hp
  exact List.mem_reverse.mp ((List.dropWhile_sublist _).subset (List.mem_reverse.mp hp))
theorem popF_len (ns : List Int) (n : Int) (L : List Int) : (popF ns n L).length ≤ L.length := by
  unfold popF
  rw [List.length_reverse]
  have := (List.dropWhile_sublist (l := L.reverse) fun p => decide (ns.getD p.toNat 0 > n)).length_le
  rwa [List.length_reverse] at this
theorem lastF_len (ns : List Int) : (lastF ns).length = ns.length := by
  have key : ∀ (us : List (Nat × Int)) (st : List Int × List Int), (us.foldl (stepLL ns) st).1.length = st.1.length + us.length := by
    intro us
    induction us with
    | nil => intro st; rfl
    | cons u us ih =>
      intro st
      rw [List.foldl_cons, ih]
      simp [stepLL]
      omega
  unfold lastF
  rw [key, enumL_len]
  simp
def spLast : Sp := fun vs H Q _ => ∃ (l : Addr) (ns : List Int), vs = [.ref l] ∧ H l = some (.lst (ns.map V.int)) ∧ ns.length ≤ 1000 ∧ ∀ H' a, Evl.Ex H H' → H a = none → H' a = some (.lst ((lastF ns).map V.int)) → Q (.ref a) H'
end
end GL
set_option Elab.async false
set_option linter.all false
set_option maxRecDepth 100000
set_option maxHeartbeats 8000000
/-! # panes by their places -/
namespace GL
open PySem PySem.Spec PyProof.Rows L2 Geo Rel
section
variable {P : Program} {w : World} {K : PySem.W.Frag} {mg : Str → Option Value} {base : Heap} {σ : L2.St} {H : Hp}
/-- a list of new objects, one for each number of a range -/
theorem en_lcRg1 {ta : TA} {te : TE} {n : Nat} {j : Nat} {vs : List Nat} (o : Nat → HO) (h : Evl.EvA ta σ H [.int (n : Int)]) (hz : n ≤ 40000) (hw : ∀ x, wipe ((wipe σ vs).set j (some x)) vs = wipe σ vs)
    (he : ∀ i, i < n → ∀ H1, Evl.Ex H H1 → EvNew te ((wipe σ vs).set j (some (.int (i : Int)))) H1 (o i)) : EvNews (tLc (iRng1 ta) (gName j) tYes te vs) σ H ((List.range n).map o) := by
  intro H1 e Q q
  refine h H1 e _ fun H2 e1 => ⟨n, rfl, by omega, by omega, fun Dl hD => ?_⟩
  refine lc_new (H := H2) (walk_range (lo := 0) (n := (n : Int).toNat)) (zs := List.range n) (by simp) (fun H3 e2 => trivial) o (by simp; omega) (fun i z x H3 H4 hzi hH hy => ?_) hD fun as H3 e2 h3 hnd hf hl2 hc => q Dl as H3 (Evl.fresh_back e1 hD) (e1.trans e2) h3 hnd (fun b hb => ⟨Evl.fresh_back e1 (hf b hb).1, (hf b hb).2⟩) (by rw [List.length_map]; exact hl2) (fun i b ob h1 h2 => ?_)
  · obtain ⟨rfl, rfl⟩ := hy
    obtain ⟨k1, k2⟩ := List.getElem?_eq_some_iff.mp hzi
    rw [List.getElem_range] at k2
    rw [List.length_range] at k1
    subst k2
    refine ⟨Evl.Ex.refl _, fun Q' k => ?_⟩
    have z0 : (0 : Int) + ((i : Nat) : Int) = (i : Int) := Int.zero_add _
    show Q' ((wipe σ vs).set j (some (.int (0 + (i : Int))))) _
    rw [z0]
    exact k _ (hw _) fun H5 e5 Q q => he i k1 H2 (e.trans e1) H5 (hH.trans e5) Q q
  · rw [List.getElem?_map] at h2
    cases c : (List.range n)[i]? with
    | none => rw [c] at h2; cases h2
    | some z =>
      rw [c] at h2
      rw [hc i b z h1 c]
      exact h2
theorem q_asgNews {te : TE} {os : List HO} {i : Nat} {D : Ends} {tz : TS} (h : EvNews te σ H os) (k : ∀ (p : Addr) (as : List Addr) (H1 : Hp), H p = none → Evl.Ex H H1 → H1 p = some (.lst (as.map V.ref)) → as.Nodup → (∀ b ∈ as, H b = none ∧ b ≠ p) → as.length = os.length →
    (∀ (i : Nat) (b : Addr) (o : HO), as[i]? = some b → os[i]? = some o → H1 b = some o) → tz D (σ.set i (some (.ref p))) H1) : tSeq (tAsg te (gName i)) tz D σ H := h H (Evl.Ex.refl H) _ k
/-- a list of lists of numbers, all of them apart, made since H0 -/
structure Grp (H0 H : Hp) (p : Addr) (as : List Addr) (gs : List (List Int)) : Prop where
  l : H p = some (.lst (as.map V.ref))
  nd : as.Nodup
  fr : ∀ b ∈ as, H0 b = none ∧ b ≠ p
  p0 : H0 p = none
  len : as.length = gs.length
  at_ : ∀ (i : Nat) (b : Addr) (g : List Int), as[i]? = some b → gs[i]? = some g → H b = some (.lst (g.map V.int))
theorem Grp.ex {H0 H H' : Hp} {p : Addr} {as : List Addr} {gs : List (List Int)} (h : Grp H0 H p as gs) (e : Evl.Ex H H') : Grp H0 H' p as gs := ⟨e _ _ h.l, h.nd, h.fr, h.p0, h.len, fun i b g h1 h2 => e _ _ (h.at_ i b g h1 h2)⟩
theorem Grp.rl {H0 H : Hp} {p : Addr} {as : List Addr} {gs : List (List Int)} (h : Grp H0 H p as gs) : RL lstI H p gs := by
  refine ⟨_, h.l, ?_⟩
  have key : ∀ (as : List Addr) (gs : List (List Int)), as.length = gs.length → (∀ (i : Nat) (b : Addr) (g : List Int), as[i]? = some b → gs[i]? = some g → H b = some (.lst (g.map V.int))) → Paired (fun y z => lstI z y H) (as.map V.ref) gs := by
    intro as
    induction as with
    | nil =>
      intro gs hl _
      cases gs with
      | nil => exact .nil
      | cons => cases hl
    | cons a as ih =>
      intro gs hl k
      cases gs with
      | nil => cases hl
      | cons g gs => exact .cons ⟨a, rfl, k 0 a g rfl rfl⟩ (ih gs (by simpa using hl) fun i b g' h1 h2 => k (i + 1) b g' h1 h2)
  exact key as gs h.len h.at_
/-- groups[z].append(n) -/
theorem Grp.put {H0 H : Hp} {p b : Addr} {as : List Addr} {gs : List (List Int)} {i : Nat} {g : List Int} {n : Int} (h : Grp H0 H p as gs) (hb : as[i]? = some b) (hg : gs[i]? = some g) : Grp H0 (upd H b (.lst (g.map V.int ++ [.int n]))) p as (gs.set i (g ++ [n])) := by
  have hi := (List.getElem?_eq_some_iff.mp hg).1
  have pb : p ≠ b := fun e => (h.fr b (List.mem_of_getElem? hb)).2 e.symm
  refine ⟨by rw [upd_ne pb]; exact h.l, h.nd, h.fr, h.p0, by rw [List.length_set]; exact h.len, fun j c g' h1 h2 => ?_⟩
  by_cases e : i = j
  · subst e
    obtain rfl := Option.some.inj (hb.symm.trans h1)
    rw [List.getElem?_set_self hi] at h2
    obtain rfl := Option.some.inj h2
    rw [upd_same, List.map_append]
    rfl
  · rw [List.getElem?_set_ne e] at h2
    have : c ≠ b := fun e2 => by
      subst e2
      obtain ⟨q1, q2⟩ := List.getElem?_eq_some_iff.mp hb
      obtain ⟨q3, q4⟩ := List.getElem?_eq_some_iff.mp h1
      exact e ((List.getElem_inj h.nd).mp (q2.trans q4.symm))
    rw [upd_ne this]
    exact h.at_ j c g' h1 h2
def stepG (gs : List (List Int)) (u : Nat × Int) : List (List Int) := gs.set u.2.toNat (gs.getD u.2.toNat [] ++ [(u.1 : Int)])
def groupsF (ps : List Int) : List (List Int) := (enumL ps).foldl stepG ((List.range (ps.length + 1)).map fun _ => [])
theorem stepG_len (us : List (Nat × Int)) : ∀ gs : List (List Int), (us.foldl stepG gs).length = gs.length := by
  induction us with
  | nil => exact fun _ => rfl
  | cons u us ih =>
    intro gs
    rw [List.foldl_cons, ih]
    exact List.length_set
theorem stepG_size (us : List (Nat × Int)) : ∀ (gs : List (List Int)) (m : Nat), (∀ g ∈ gs, g.length ≤ m) → ∀ g ∈ us.foldl stepG gs, g.length ≤ m + us.length := by
  induction us with
  | nil => exact fun gs m h g hg => by simpa using h g hg
  | cons u us ih =>
    intro gs m h g hg
    rw [List.foldl_cons] at hg
    have := ih (stepG gs u) (m + 1) (fun g' hg' => ?_) g hg
    · simp
      omega
    · unfold stepG at hg'
      rcases List.mem_or_eq_of_mem_set hg' with k | k
      · have := h g' k
        omega
      · rw [k, List.length_append, List.length_singleton]
        rw [List.getD_eq_getElem?_getD]
        cases c : gs[u.2.toNat]? with
        | none => simp
        | some g2 =>
          have := h g2 (List.mem_of_getElem? c)
          simp
          exact this
def spGroups : Sp := fun vs H Q _ => ∃ (l : Addr) (ps : List Int), vs = [.ref l] ∧ H l = some (.lst (ps.map V.int)) ∧ ps.length ≤ 1000 ∧ (∀ r ∈ ps, 0 ≤ r ∧ r ≤ ps.length) ∧ ∀ H' a as, Evl.Ex H H' → Grp H H' a as (groupsF ps) → Q (.ref a) H'
end
end GL
set_option Elab.async false
set_option linter.all false
set_option maxRecDepth 100000
set_option maxHeartbeats 8000000
/-! # the sides of the drawn panes -/
namespace GL
open PySem PySem.Spec PyProof.Rows L2 Geo Rel
section
variable {P : Program} {w : World} {K : PySem.W.Frag} {mg : Str → Option Value} {base : Heap} {σ : L2.St} {H : Hp}
theorem el_revL {t : TE} {l : Addr} {xs : List V} (h : Evl.Ev t σ H (.ref l)) (hl : H l = some (.lst xs)) : Evl.EvL (tRevL K t) σ H xs.reverse := fun H1 e Q q =>
  h H1 e _ fun H2 e2 => ⟨l, xs, rfl, SqL.of ((e.trans e2) _ _ hl), fun p np => q p _ (Evl.fresh_back e2 np) (e2.trans (Evl.Ex.new np)) upd_same⟩
theorem el_last {t : TE} {E : XK} {l : Addr} {ns : List Int} (h : Evl.Ev t σ H (.ref l)) (hl : H l = some (.lst (ns.map V.int))) (hn : ns.length ≤ 1000) : Evl.EvL (tCall spLast [] E (tCons t tNil)) σ H ((lastF ns).map V.int) := fun H1 e Q q =>
  h H1 e _ fun H2 e2 => ⟨l, ns, rfl, (e.trans e2) _ _ hl, hn, fun H3 a e3 na ha => q a H3 (Evl.fresh_back e2 na) (e2.trans e3) ha⟩
theorem el_lastN {t : TE} {E : XK} {ns : List Int} (h : Evl.EvL t σ H (ns.map V.int)) (hn : ns.length ≤ 1000) : Evl.EvL (tCall spLast [] E (tCons t tNil)) σ H ((lastF ns).map V.int) := fun H1 e Q q =>
  h H1 e _ fun l H2 nl e2 hl => ⟨l, ns, rfl, hl, hn, fun H3 a e3 na ha => q a H3 (Evl.fresh_back e2 na) (e2.trans e3) ha⟩
/-- over a new list of numbers -/
theorem el_lcIN {f : Int → Int} {ns : List Int} {tl te : TE} {j : Nat} {vs : List Nat} (h : Evl.EvL tl σ H (ns.map V.int)) (hz : ns.length ≤ 40000) (hw : ∀ x, wipe ((wipe σ vs).set j (some x)) vs = wipe σ vs)
    (he : ∀ n ∈ ns, ∀ H1, Evl.Ex H H1 → Evl.Ev te ((wipe σ vs).set j (some (.int n))) H1 (.int (f n))) : Evl.EvL (tLc (iList K tl) (gName j) tYes te vs) σ H ((ns.map f).map V.int) := fun H1 e Q q =>
  h H1 e _ fun p H2 np e2 hl => el_lcI (K := K) (R := intR) (f := f) (tl := tC (.ref p)) (σ := σ) (H := H2) (zs := ns) (a := p) intR_e Evl.ev_c (ints_rl hl) hz hw (fun s hs y H3 e3 hy => by
    obtain rfl : y = .int s := hy
    exact he s hs H3 ((e.trans e2).trans e3)) H2 (Evl.Ex.refl _) Q fun p' H3 np' e3 hl' => q p' H3 (Evl.fresh_back e2 np') (e2.trans e3) hl'
def leftsF (plan : List Int) : List Int := (lastF (placesF plan)).map (· + 1)
def topsF (plan : List Int) : List Int := (lastF ((placesF plan).map fun p => -p)).map (· + 1)
def rightsF (plan : List Int) : List Int := ((lastF ((placesF plan).map fun p => -p).reverse).map fun p => (plan.length : Int) - 1 - p).reverse
def bottomsF (plan : List Int) : List Int := ((lastF (placesF plan).reverse).map fun p => (plan.length : Int) - 1 - p).reverse
theorem psides_len (plan : List Int) : (leftsF plan).length = plan.length ∧ (topsF plan).length = plan.length ∧ (rightsF plan).length = plan.length ∧ (bottomsF plan).length = plan.length := by
  unfold leftsF topsF rightsF bottomsF
  simp [lastF_len, placesF_len]
def spSides : Sp := fun vs H Q _ => ∃ (l : Addr) (plan : List Int), vs = [.ref l] ∧ H l = some (.lst (plan.map V.int)) ∧ plan.length ≤ 1000 ∧ (∀ r ∈ plan, 0 ≤ r ∧ r < plan.length) ∧
  ∀ H' t a b c d, Evl.Ex H H' → H t = none → H' t = some (.tup [.ref a, .ref b, .ref c, .ref d]) → H' a = some (.lst ((leftsF plan).map V.int)) → H' b = some (.lst ((topsF plan).map V.int)) → H' c = some (.lst ((rightsF plan).map V.int)) → H' d = some (.lst ((bottomsF plan).map V.int)) → Q (.ref t) H'
end
end GL
set_option Elab.async false
set_option linter.all false
set_option maxRecDepth 100000
set_option maxHeartbeats 8000000
/-! # panes by sides -/
namespace GL
open PySem PySem.Spec PyProof.Rows L2 Geo Rel
section
open Evl
variable {σ : L2.St} {H : Hp} {te : TE} {t : TT}
theorem pr_monoD {α : Type} {R : α → V → Hp → Prop} {D : Addr} {H H' : Hp} (m : ∀ z v H H2, v ≠ V.ref D → (∀ a o, a ≠ D → H a = some o → H2 a = some o) → R z v H → R z v H2) (k : ∀ a o, a ≠ D → H a = some o → H' a = some o) : ∀ {ys : List V} {zs : List α}, (∀ y ∈ ys, y ≠ .ref D) → Paired (fun y z => R z y H) ys zs → Paired (fun y z => R z y H') ys zs
  | _, _, _, .nil => .nil
  | _, _, n, .cons h t => .cons (m _ _ _ _ (n _ List.mem_cons_self) k h) (pr_monoD m k (fun y hy => n y (List.mem_cons_of_mem _ hy)) t)
theorem lc_relD {α : Type} {D : Addr} {J : It} {zs : List α} {n : Nat} {G : Hp → Prop} {Y : Nat → Hp → V → Hp → Prop} (w : Walk J n G Y) (hn : n = zs.length) (hG : ∀ H1, Ex H H1 → G H1) (f : α → Bool) (R : α → V → Hp → Prop) (m : ∀ z v H H2, v ≠ V.ref D → (∀ a o, a ≠ D → H a = some o → H2 a = some o) → R z v H → R z v H2) (hz : zs.length ≤ 40000) {g : TG} {vs : List Nat}
    (step : ∀ i z x H1 H2, zs[i]? = some z → Ex H H1 → Y i H1 x H2 → Ex H1 H2 ∧ ∀ Q' : L2.St → Hp → Prop, (∀ σ2, wipe σ2 vs = wipe σ vs → EvT t σ2 H (f z) → (f z = true → ∀ H1, Ex H H1 → (∃ xs, H1 D = some (.lst xs)) → ∀ Q : VK, (∀ v H3, Ex H1 H3 → (∀ p, v = .ref p → H1 p = none ∨ H p ≠ none) → R z v H3 → Q v H3) → te σ2 H1 Q) → Q' σ2 H2) → g x (wipe σ vs) H2 Q')
    (nD : H D = none) {Qd : Hp → Prop} (q : ∀ ys H', Ex H H' → H' D = some (.lst ys) → Paired (fun y z => R z y H') ys (zs.filter f) → Qd H') :
    ∃ W : Nat → Nat → Hp → Prop, (∃ m, W 0 m (upd H D (.lst []))) ∧ ∀ i m H, W i m H →
      (J.stop i H ∧ Qd H) ∨ (J.go i H ∧ ∃ Nx : Hp → Prop, (∀ H', Nx H' → ∃ m', m' < m ∧ W (i + 1) m' H') ∧ ∀ x H', J.yld i H x H' → g x (wipe σ vs) H' fun σ2 H2 => wipe σ2 vs = wipe σ vs ∧ t σ2 H2 fun b H3 =>
        if b = true then te σ2 H3 fun y H4 => ∃ acc, H4 D = some (.lst acc) ∧ acc.length < sizeLine ∧ Nx (upd H4 D (.lst (acc ++ [y]))) else Nx H3) := by
  subst hn
  refine lc_it w (fun i H1 => Ex H H1 ∧ ∃ ys, H1 D = some (.lst ys) ∧ (∀ y ∈ ys, y ≠ .ref D) ∧ Paired (fun y z => R z y H1) ys ((zs.take i).filter f)) ⟨Ex.new nD, [], upd_same, by simp, .nil⟩ (fun i H1 _ p => hG H1 p.1) ?_ ?_
  · rintro i x H1 H2 hi ⟨e1, ys, hD, hnd, hp⟩ hy
    have hzi : zs[i]? = some zs[i] := List.getElem?_eq_getElem hi
    obtain ⟨e2, st⟩ := step i zs[i] x H1 H2 hzi e1 hy
    have tk : zs.take (i + 1) = zs.take i ++ [zs[i]] := by
      rw [List.take_add_one, hzi]
      rfl
    have yl : ys.length ≤ i := by
      rw [pr_len hp]
      exact Nat.le_trans (List.length_filter_le _ _) (by rw [List.length_take]; omega)
    refine st _ fun σ2 hw ht he => ⟨hw, ht H2 (e1.trans e2) _ fun H3 e3 => ?_⟩
    have e03 := (e1.trans e2).trans e3
    have D3 : H3 D = some (.lst ys) := e3 _ _ (e2 _ _ hD)
    cases hf : f zs[i] with
    | true =>
      show te σ2 H3 _
      refine he hf H3 e03 ⟨ys, D3⟩ _ fun y H4 e4 hv hr => ?_
      have yD : y ≠ .ref D := fun z => by
        rcases hv D z with h | h
        · rw [D3] at h
          cases h
        · exact h nD
      refine ⟨ys, e4 _ _ D3, Nat.lt_of_lt_of_le (show ys.length < 100000 by omega) (by decide), (e03.trans e4).mut nD, ys ++ [y], upd_same, ?_, ?_⟩
      · intro u hu
        rcases List.mem_append.mp hu with hu | hu
        · exact hnd u hu
        · rw [List.mem_singleton.mp hu]
          exact yD
      · have keep : ∀ {H5 : Hp}, Ex H5 H4 → ∀ a o, a ≠ D → H5 a = some o → upd H4 D (.lst (ys ++ [y])) a = some o := fun e a o n h => by
          rw [upd_ne n]
          exact e a o h
        rw [tk, List.filter_append, List.filter_cons, if_pos hf, List.filter_nil]
        exact pr_app (pr_monoD m (keep ((e2.trans e3).trans e4)) hnd hp) (.cons (m _ _ _ _ yD (keep (Ex.refl H4)) hr) .nil)
    | false =>
      show Ex H H3 ∧ _
      refine ⟨e03, ys, D3, hnd, ?_⟩
      rw [tk, List.filter_append, List.filter_cons, if_neg (by rw [hf]; decide), List.filter_nil, List.append_nil]
      exact pr_monoD m (fun a o _ h => (e2.trans e3) a o h) hnd hp
  · rintro H1 ⟨e1, ys, hD, hnd, hp⟩
    rw [List.take_length] at hp
    exact q ys H1 e1 hD hp
end
section
variable {P : Program} {w : World} {K : PySem.W.Frag} {mg : Str → Option Value} {base : Heap} {σ : L2.St} {H : Hp}
/-- the groups of the places ps -/
def grpR (ps : List Int) (v : V) (H : Hp) : Prop := ∃ b, v = .ref b ∧ RL lstI H b (groupsF ps)
theorem grpR_e : MonoE grpR := fun z v H H' e ⟨b, h1, h2⟩ => ⟨b, h1, h2.ex lstI_e e⟩
theorem unhideG {D : Addr} {H : Hp} : ∀ {us : List V} {zs : List (List Int)}, Paired (fun y z => (fun (z : List Int) (v : V) (H : Hp) => ∃ b, v = .ref b ∧ RL lstI (hide D H) b (groupsF z)) z y H) us zs → Paired (fun y z => grpR z y H) us zs
  | _, _, .nil => .nil
  | _, _, .cons ⟨b, h1, h2⟩ t => .cons ⟨b, h1, h2.ex lstI_e hide_ex⟩ (unhideG t)
/-- [f(x) for x in a tuple of lists], f making groups -/
theorem er_lcGrp {tl te : TE} {zs : List (List Int)} {j : Nat} {vs : List Nat} (h : ∀ H1, Evl.Ex H H1 → ∀ Q : VK, (∀ a xs H2, Evl.Ex H1 H2 → H2 a = some (.tup xs) → Paired (fun y z => lstI z y H2) xs zs → Q (.ref a) H2) → tl σ H1 Q) (hz : zs.length ≤ 40000)
    (hw : ∀ x, wipe ((wipe σ vs).set j (some x)) vs = wipe σ vs)
    (he : ∀ z ∈ zs, ∀ y H1, Evl.Ex H H1 → lstI z y H1 → ∀ H2, Evl.Ex H1 H2 → ∀ Q : VK, (∀ b as H3, Evl.Ex H2 H3 → Grp H2 H3 b as (groupsF z) → Q (.ref b) H3) → te ((wipe σ vs).set j (some y)) H2 Q) :
    EvRL (tLc (iTup K tl) (gName j) tYes te vs) σ H grpR zs := by
  intro H1 e Q q
  refine h H1 e _ fun a xs H2 e1 ha hp => ⟨a, rfl, ⟨xs, SqT.of ha⟩, fun Dl hD => ?_⟩
  refine lc_relD (H := H2) (D := Dl) (walk_tup (K := K) (a := a) (xs := xs)) (pr_len hp) (fun H3 e2 => SqT.of (e2 _ _ ha)) (fun _ => true) (fun z v H => ∃ b, v = .ref b ∧ RL lstI (hide Dl H) b (groupsF z)) (fun z v H3 H4 hv k ⟨b, h1, h2⟩ => ⟨b, h1, h2.ex lstI_e (hide_but k)⟩) hz (fun i z x H3 H4 hzi hH hy => ?_) hD fun us H3 e2 h3 hq => ?_
  · obtain ⟨rfl, hy⟩ := hy
    obtain ⟨y, hy2, hr⟩ := pr_at hp hzi
    obtain rfl : y = x := Option.some.inj (hy2.symm.trans hy)
    refine ⟨Evl.Ex.refl _, fun Q' k => k _ (hw _) et_yes fun _ H5 e5 ⟨ds, hDs⟩ Q2 q2 => ?_⟩
    refine he z (List.mem_of_getElem? hzi) y H2 (e.trans e1) hr H5 e5 _ fun b as H6 e6 hg => q2 _ H6 e6 (fun p hp => .inl (by cases hp; exact hg.p0)) ⟨b, rfl, ?_⟩
    have bD : b ≠ Dl := fun e => by
      have := hg.p0
      rw [e, hDs] at this
      cases this
    have asD : ∀ c ∈ as, c ≠ Dl := fun c hc e => by
      have := (hg.fr c hc).1
      rw [e, hDs] at this
      cases this
    have hg' : Grp H5 (hide Dl H6) b as (groupsF z) := ⟨hide_of bD hg.l, hg.nd, hg.fr, hg.p0, hg.len, fun i c g h1 h2 => hide_of (asD c (List.mem_of_getElem? h1)) (hg.at_ i c g h1 h2)⟩
    exact hg'.rl
  · have hf : zs.filter (fun _ => true) = zs := List.filter_eq_self.mpr fun _ _ => rfl
    rw [hf] at hq
    exact q Dl H3 (Evl.fresh_back e1 hD) (e1.trans e2) ⟨us, h3, unhideG hq⟩
def spBySides : Sp := fun vs H Q _ => ∃ (l : Addr) (plan : List Int), vs = [.ref l] ∧ H l = some (.lst (plan.map V.int)) ∧ plan.length ≤ 1000 ∧ (∀ r ∈ plan, 0 ≤ r ∧ r < plan.length) ∧ (∀ ps ∈ [leftsF plan, topsF plan, rightsF plan, bottomsF plan], ∀ r ∈ ps, 0 ≤ r ∧ r ≤ plan.length) ∧
  ∀ H' p, Evl.Ex H H' → H p = none → RL grpR H' p [leftsF plan, topsF plan, rightsF plan, bottomsF plan] → Q (.ref p) H'
end
end GL
set_option Elab.async false
set_option linter.all false
set_option maxRecDepth 100000
set_option maxHeartbeats 8000000
/-! # the segments of a plan, its code -/
namespace GL
open PySem PySem.Spec PyProof.Rows L2 Geo Rel
abbrev Sg : Type := Bool × List Int × List Int
def kindS (b : Bool) : Str := if b then "upright" else "level"
def segR (u : Sg) (v : V) (H : Hp) : Prop := ∃ T a b, v = .ref T ∧ H T = some (.tup [.str (kindS u.1), .ref a, .ref b]) ∧ H a = some (.lst (u.2.1.map V.int)) ∧ H b = some (.lst (u.2.2.map V.int))
theorem segR_e : MonoE segR := fun u v H H' e ⟨T, a, b, h1, h2, h3, h4⟩ => ⟨T, a, b, h1, e _ _ h2, e _ _ h3, e _ _ h4⟩
def segF (L T R B : List (List Int)) (p : Nat) : Sg := if (R.getD p []).isEmpty then (false, B.getD p [], T.getD p []) else (true, R.getD p [], L.getD p [])
def segsF (plan : List Int) : List Sg := (List.range (plan.length - 1)).map fun i => segF (groupsF (leftsF plan)) (groupsF (topsF plan)) (groupsF (rightsF plan)) (groupsF (bottomsF plan)) (i + 1)
def codeF (plan : List Int) : List Int := (segsF plan).map fun u => if u.1 then -(u.2.1.length : Int) else (u.2.1.length : Int)
theorem groupsF_len (ps : List Int) : (groupsF ps).length = ps.length + 1 := by
  unfold groupsF
  rw [stepG_len, List.length_map, List.length_range]
section
variable {P : Program} {w : World} {K : PySem.W.Frag} {mg : Str → Option Value} {base : Heap} {σ : L2.St} {H : Hp}
theorem prS_but {D : Addr} {H H' : Hp} : ∀ {ys : List V} {us : List Sg}, Paired (fun y z => (fun u v H => segR u v (hide D H)) z y H) ys us → But1 D H H' → Paired (fun y z => (fun u v H => segR u v (hide D H)) z y H') ys us
  | _, _, .nil, _ => .nil
  | _, _, .cons h t, b => .cons (segR_e _ _ _ _ (hide_but b) h) (prS_but t b)
theorem prS_un {D : Addr} {H H' : Hp} : ∀ {ys : List V} {us : List Sg}, Paired (fun y z => (fun u v H => segR u v (hide D H)) z y H) ys us → Evl.Ex H H' → Paired (fun y z => segR z y H') ys us
  | _, _, .nil, _ => .nil
  | _, _, .cons h t, e => .cons (segR_e _ _ _ _ (hide_ex.trans e) h) (prS_un t e)
/-- what the defs below want of a plan -/
structure PlanIn (plan : List Int) : Prop where
  len : plan.length ≤ 1000
  ent : ∀ r ∈ plan, 0 ≤ r ∧ r < plan.length
  sid : ∀ ps ∈ [leftsF plan, topsF plan, rightsF plan, bottomsF plan], ∀ r ∈ ps, 0 ≤ r ∧ r ≤ plan.length
def spSegs : Sp := fun vs H Q _ => ∃ (l : Addr) (plan : List Int), vs = [.ref l] ∧ H l = some (.lst (plan.map V.int)) ∧ PlanIn plan ∧
  ∀ H' p, Evl.Ex H H' → H p = none → RL segR H' p (segsF plan) → Q (.ref p) H'
end
end GL
set_option Elab.async false
set_option linter.all false
set_option maxRecDepth 100000
set_option maxHeartbeats 8000000
/-! # the code of a plan; borders -/
namespace GL
open PySem PySem.Spec PyProof.Rows L2 Geo Rel
section
variable {P : Program} {w : World} {K : PySem.W.Frag} {mg : Str → Option Value} {base : Heap} {σ : L2.St} {H : Hp}
/-- a comprehension over segments -/
theorem el_lcSeg {f : Sg → Int} {us : List Sg} {tl te : TE} {j k l : Nat} {vs : List Nat} (h : EvRL tl σ H segR us) (hz : us.length ≤ 40000) (hw : ∀ x y z, wipe ((((wipe σ vs).set j (some x)).set k (some y)).set l (some z)) vs = wipe σ vs)
    (he : ∀ u ∈ us, ∀ (a b : Addr) H1, H1 a = some (.lst (u.2.1.map V.int)) → Evl.Ev te ((((wipe σ vs).set j (some (.str (kindS u.1)))).set k (some (.ref a))).set l (some (.ref b))) H1 (.int (f u))) :
    Evl.EvL (tLc (iList K tl) (gTup K 3 (gCons (gName j) (gCons (gName k) (gCons (gName l) gNil)))) tYes te vs) σ H ((us.map f).map V.int) := by
  rw [List.map_map]
  refine el_ofRL (g := fun u => V.int (f u)) fun H1 e Q q => h H1 e _ fun p H2 np e2 hp => ?_
  obtain ⟨ys, hl, hp⟩ := hp
  refine ⟨p, rfl, ⟨ys, Evl.sq_of hl⟩, fun Dl hD => ?_⟩
  have hf : us.filter (fun _ => true) = us := List.filter_eq_self.mpr fun _ _ => rfl
  refine lc_rel (H := H2) (walk_list (K := K) (a := p) (xs := ys)) (pr_len hp) (fun H3 e3 => Evl.sq_of (e3 _ _ hl)) (fun _ => true) (fun u v _ => v = V.int (f u)) (val_m fun u => V.int (f u)) hz (fun i z x H3 H4 hzi hH hy => ?_) hD fun xs H3 e3 h3 hq => q Dl H3 (Evl.fresh_back e2 hD) (e2.trans e3) ⟨xs, h3, by rwa [hf] at hq⟩
  obtain ⟨rfl, hy⟩ := hy
  obtain ⟨y, hy2, hr⟩ := pr_at hp hzi
  obtain rfl : y = x := Option.some.inj (hy2.symm.trans hy)
  obtain ⟨T, a, b, rfl, hT, ha, hb⟩ := hr
  refine ⟨Evl.Ex.refl _, fun Q' k => ⟨T, _, rfl, SqT.of (hH _ _ hT), rfl, _, _, rfl, _, _, rfl, _, _, rfl, rfl, k _ (hw _ _ _) et_yes fun _ => en_int (he z (List.mem_of_getElem? hzi) a b H2 ha)⟩⟩
def spCode : Sp := fun vs H Q _ => ∃ (l : Addr) (plan : List Int), vs = [.ref l] ∧ H l = some (.lst (plan.map V.int)) ∧ PlanIn plan ∧ ∀ H' p, Evl.Ex H H' → H p = none → H' p = some (.lst ((codeF plan).map V.int)) → Q (.ref p) H'
def spGrow : Sp := fun vs H Q _ => ∃ lo ri n : Int, vs = [.int lo, .int ri, .int n] ∧ ∀ H' t, Evl.Ex H H' → H t = none → H' t = some (.tup [.int (if n > 0 then lo - n + 1 else lo + 1), .int (if n > 0 then ri + 1 else ri + n + 1)]) → Q (.ref t) H'
end
end GL
set_option Elab.async false
set_option linter.all false
set_option maxRecDepth 100000
set_option maxHeartbeats 8000000
/-! # whether a list of numbers is a row -/
namespace GL
open PySem PySem.Spec PyProof.Rows L2 Geo Rel GxR
theorem perm_of_sub {α : Type} [DecidableEq α] : ∀ {l m : List α}, l.Nodup → (∀ x ∈ l, x ∈ m) → l.length = m.length → l.Perm m
  | [], m, _, _, h => by
    rw [List.length_eq_zero_iff.mp h.symm]
  | a :: l, m, nd, sub, h => by
    obtain ⟨n1, n2⟩ := List.nodup_cons.mp nd
    have ha := sub a List.mem_cons_self
    have pm := List.perm_cons_erase ha
    refine List.Perm.trans (List.Perm.cons a (perm_of_sub n2 (fun x hx => ?_) ?_)) pm.symm
    · have : x ≠ a := fun e => n1 (e ▸ hx)
      exact (List.mem_erase_of_ne this).mpr (sub x (List.mem_cons_of_mem _ hx))
    · have := List.length_erase_of_mem ha
      have := List.length_pos_of_mem ha
      simp at h
      omega
/-- a def and its code object -/
structure FunC (K : PySem.W.Frag) (x qual : Str) (st : Stmt) (f : Addr) (fd : FuncData) (c : Value) : Prop where
  ex : ∃ (oc : Value) (od : Option Addr) (kV doc pm : Value) (an : Option Addr) (ct : Value) (osl : Array (Option Value)),
    fd = PySem.W.fnOf x qual (defArgs st) (defBody st) (defScope st) .none kV doc pm an c ct ∧ K.lookup f = some ⟨oc, od, .func fd, osl⟩ ∧ PySem.W.codeIn K c qual = true
section
variable {P : Program} {w : World} {K : PySem.W.Frag} {mg : Str → Option Value} {base : Heap} {σ : L2.St} {H : Hp}
theorem FunC.ok {x qual : Str} {st : Stmt} {f : Addr} {fd : FuncData} {c : Value} {N ps : List Str} {k : Nat} {sp : Sp} (F : FunC K x qual st f fd c) (S : FnScope N ps (defScope st)) (len : ∀ vs H Q E, sp vs H Q E → vs.length = ps.length)
    (hbody : ∀ (A : Around) (outer : List Env) (s : Shared) (H : Hp) (vs : List V) (Q : VK) (E : XK), Room k (A.deeper (envOfC qual (defScope st) s.heap.objs.size f c)) → sp vs H Q E →
      ∃ t, PSs (cxOf CX0 P w K mg base N qual (defScope st) f c A outer s H E).nox (defBody st) t ∧ t { nx := fun _ H' => Q .non H', rt := Q } (start N vs) H) : FnOk P w K mg base CX0 (k + 1) f fd ps sp := by
  obtain ⟨oc, od, kV, doc, pm, an, ct, osl, rfl, lk, hcd⟩ := F.ex
  refine fn_of lk hcd S len fun A outer s H vs Q E hr hsp => ?_
  obtain ⟨t, h, q⟩ := hbody A outer s H vs Q E hr hsp
  exact ⟨t, h.nox, q⟩
theorem ev_chain {r r' : R2} {ta tb tc : TE} {x y z : V} {a b : Bool} (ha : Evl.Ev ta σ H x) (hb : Evl.Ev tb σ H y) (hr : Evl.RV r x y H (.bl a)) (hc : a = true → Evl.Ev tc σ H z) (hr' : a = true → Evl.RV r' y z H (.bl b)) : Evl.Ev (tChain r r' ta tb tc) σ H (.bl (a && b)) := fun H1 e Q q =>
  ha H1 e _ fun H2 e2 => hb H2 (e.trans e2) _ fun H3 e3 => hr H3 ((e.trans e2).trans e3) _ fun H4 e4 => ⟨a, rfl, by
    cases a with
    | true =>
      rw [if_pos rfl]
      exact hc rfl H4 (((e.trans e2).trans e3).trans e4) _ fun H5 e5 => hr' rfl H5 ((((e.trans e2).trans e3).trans e4).trans e5) _ fun H6 e6 => q H6 ((((e2.trans e3).trans e4).trans e5).trans e6)
    | false =>
      rw [if_neg Bool.false_ne_true]
      exact q H4 ((e2.trans e3).trans e4)⟩
theorem el_sortI {t : TE} {l : Addr} {ns : List Int} (h : Evl.Ev t σ H (.ref l)) (hl : H l = some (.lst (ns.map V.int))) : ∀ H1, Evl.Ex H H1 → ∀ Q : VK, (∀ (p : Addr) (ms : List Int) (H2 : Hp), H1 p = none → Evl.Ex H1 H2 → ms.Perm ns → ms.Pairwise (· ≤ ·) → H2 p = some (.lst (ms.map V.int)) → Q (.ref p) H2) → tCB (rSortedI K) (tCons t tNil) σ H1 Q := fun H1 e Q q =>
  h H1 e _ fun H2 e2 => ⟨l, ns, rfl, SqL.of ((e.trans e2) _ _ hl), fun ms p pm pw np => q p ms _ (Evl.fresh_back e2 np) (e2.trans (Evl.Ex.new np)) pm pw upd_same⟩
theorem row_iff {ms row : List Int} (pm : ms.Perm row) (pw : ms.Pairwise (· ≤ ·)) : decide (ms = (List.range row.length).map fun i : Nat => (i : Int)) = (List.range row.length).all fun i => decide ((i : Int) ∈ row) := by
  rw [Bool.eq_iff_iff, decide_eq_true_eq, List.all_eq_true]
  constructor
  · intro e i hi
    rw [decide_eq_true_eq, ← pm.mem_iff, e]
    exact List.mem_map_of_mem hi
  · intro h
    have nd : ((List.range row.length).map fun i : Nat => (i : Int)).Nodup := by
      rw [List.Nodup, List.pairwise_map]
      exact List.nodup_range.imp fun h e => h (Int.ofNat.inj e)
    have sub : ∀ x ∈ (List.range row.length).map fun i : Nat => (i : Int), x ∈ row := fun x hx => by
      obtain ⟨i, hi, rfl⟩ := List.mem_map.mp hx
      exact of_decide_eq_true (h i hi)
    have pm2 : ((List.range row.length).map fun i : Nat => (i : Int)).Perm row := perm_of_sub nd sub (by simp)
    refine List.Perm.eq_of_pairwise (le := (· ≤ ·)) (fun a b _ _ h1 h2 => Int.le_antisymm h1 h2) pw ?_ (pm.trans pm2.symm)
    rw [List.pairwise_map]
    exact List.pairwise_lt_range.imp fun h => Int.ofNat_le.mpr (Nat.le_of_lt h)
/-- a row of the numbers 0 to n - 1 -/
def rowB (row : List Int) : Bool := (decide (1 ≤ row.length) && decide (row.length ≤ 60)) && (List.range row.length).all fun i => decide ((i : Int) ∈ row)
theorem genS {env : Env} {scope : Scope} (h1 : scope.kind = .function := by rfl) (h2 : scope.isCoroutine = false := by rfl) (h3 : (scope.names.all fun y => !decide (y.2 = .cell) && !decide (y.2 = .free)) = true := by decide +kernel) (h4 : scope.names.lookup (".0" : Str) = some NameKind.local := by rfl) (h5 : scope.names.lookup ("item" : Str) = some .local := by rfl) : GenS env scope "item" := by
  have key : ∀ y ∈ scope.names, y.2 ≠ .cell ∧ y.2 ≠ .free := fun y hy => by
    have := List.all_eq_true.mp h3 y hy
    simpa using this
  exact ⟨h1, h2, fun y hy => (key y hy).1, h4, h5, fun y hy e => absurd e (key y hy).2⟩
def spIsRow (tb : Addr) : Sp := fun vs H Q _ => ∃ (l : Addr) (row : List Int), vs = [.ref l] ∧ H l = some (.lst (row.map V.int)) ∧ row.length ≤ 1000 ∧ H tb = some (GnR.TabO tb) ∧ ∀ H', Evl.Ex H H' → Q (.bl (rowB row)) H'
end
end GL
set_option Elab.async false
set_option linter.all false
set_option maxRecDepth 100000
set_option maxHeartbeats 4000000
/-! # f(k = v, ..): calls by keywords alone -/
namespace GL
open PySem PySem.Spec PyProof.Rows L2
structure KB0 (fd : FuncData) (ps ks : List Str) (g : List Value → List Value) (gV : List V → List V) : Prop where
  to : ∀ (s : Shared) (ws : List Value), ws.length = ks.length → BindsTo s fd ⟨[], ks.zip ws⟩ (ps.zip (g ws))
  rel : ∀ {zs : List V} {ws : List Value}, Vals zs ws → Vals (gV zs) (g ws)
def tCallK0 (sp : Sp) (gV : List V → List V) (n : Nat) (E : XK) (tk : TA) : TE := fun σ H Q => tk σ H fun zs H2 => zs.length = n ∧ sp (gV zs) H2 Q E
section
variable {X : Cx} {CX : CXT} {k : Nat} {f : Addr} {fd : FuncData} {ps ks : List Str} {sp : Sp} {E : XK} {x : Str} {p pos : Pos} {kws : List Keyword} {tk : TA} {g : List Value → List Value} {gV : List V → List V}
theorem pe_callK0 (F : FnOk X.prog X.w X.K X.mg X.base CX k f fd ps sp) (hr : Room k X.A) (hg : Gl X x) (hm : X.mg x = some (.ref f)) (hk : PySem.W.keepIn X.K (.ref f) = true) (hb : KB0 fd ps ks g gV) (hx : Passes CX X E)
    (hkw : PK X kws tk) (hall : (backToKw pos (keywordEach kws X.env)).all (·.1.isSome) = true := by rfl) (hks : (backToKw pos (keywordEach kws X.env)).filterMap (·.1) = ks := by rfl)
    (hdb : (x == ("__debug__" : Str)) = false := by decide)
    (hpl : ((backTo pos (starEach [] X.env)).any (·.1) || (backToKw pos (keywordEach kws X.env)).any (·.1.isNone)) = false := by rfl) :
    PE X (.Call (.Name x p) [] kws pos) (tCallK0 sp gV ks.length E tk) := by
  refine ⟨fun pins s σ H Q I h => ?_⟩
  refine wpAny_Call_Name_kw (ld_glob I hg hm ?_ hdb)
  refine PySem.W.callWith_KW0 (h₀ := X.base) I.ok.mod.kin hk hall ?_ hpl
  refine thn (hkw.run pos pins s σ H _ I h) fun ws s2 ⟨zs, H2, I2, rz, l2, q2⟩ => ⟨I2.kIn, ?_⟩
  rw [hks]
  refine wpAny_call (codeAny_mono (F.run X.A X.stack s2 H2 ⟨[], ks.zip ws⟩ (g ws) (gV zs) Q E hr I2.env0 (hb.to s2 ws (rz.length.symm.trans l2)) (hb.rel rz) q2) fun r s' hq => ?_)
  cases r with
  | error e => exact hx pins σ H2 s2 e s' I2 hq
  | ok fl =>
    cases fl with
    | ret u => exact I2.after hq
    | next => exact False.elim hq
    | brk => exact False.elim hq
    | cont => exact False.elim hq
end
section
variable {σ : L2.St} {H : Hp}
theorem ev_callK0 {sp : Sp} {gV : List V → List V} {n : Nat} {E : XK} {tk : TA} {vs : List V} {z : V} (h : Evl.EvA tk σ H vs) (hl : vs.length = n) (hs : Evl.SpV sp (gV vs) H z) : Evl.Ev (tCallK0 sp gV n E tk) σ H z := fun H1 e Q q =>
  h H1 e _ fun H2 e2 => ⟨hl, hs H2 (e.trans e2) Q (fun H3 e3 => q H3 (e2.trans e3)) E⟩
theorem el_callK0 {sp : Sp} {gV : List V → List V} {n : Nat} {E : XK} {tk : TA} {vs : List V} {xs : List V} (h : Evl.EvA tk σ H vs) (hl : vs.length = n) (hs : Evl.SpL sp (gV vs) H xs) : Evl.EvL (tCallK0 sp gV n E tk) σ H xs := fun H1 e Q q =>
  h H1 e _ fun H2 e2 => ⟨hl, hs H2 (e.trans e2) Q (fun p H3 np e3 hp => q p H3 (Evl.fresh_back e2 np) (e2.trans e3) hp) E⟩
end
end GL
set_option Elab.async false
set_option linter.all false
set_option maxRecDepth 100000
set_option maxHeartbeats 4000000
/-! # defs as the head tells them -/
namespace GL
open PySem PySem.Spec PyProof.Rows L2
section
variable {K : PySem.W.Frag} {x qual : Str} {st : Stmt} {f : Addr} {fd : FuncData}
theorem fun_of (F : FunD K x qual (defArgs st) (defBody st) (defScope st) [] [] f fd) : Fun K x qual st f fd := by
  obtain ⟨oc, od, dV, kV, doc, pm, an, cdv, ct, osl, e, lk, hc, hd, _⟩ := F.ex
  rcases hd with ⟨_, rfl⟩ | ⟨h, _⟩
  · exact ⟨⟨oc, od, kV, doc, pm, an, cdv, ct, osl, e, lk, hc⟩, F.kp⟩
  · exact absurd rfl h
theorem func_of {p : Str × Option Str} (F : FunD K x qual (defArgs st) (defBody st) (defScope st) [] [] (He.fAd K p) fd) : FunC K x qual st (He.fAd K p) fd (.ref (He.cT K p).1) := by
  obtain ⟨oc, od, dV, kV, doc, pm, an, cdv, ct, osl, e, lk, hc, hd, _⟩ := F.ex
  rcases hd with ⟨_, rfl⟩ | ⟨h, _⟩
  · obtain ⟨c, rfl⟩ := He.codeIn_ref hc
    subst e
    have z : (He.cT K p).1 = c := He.codeOf_eq lk rfl
    rw [z]
    exact ⟨oc, od, kV, doc, pm, an, ct, osl, rfl, lk, hc⟩
  · exact absurd rfl h
theorem kb0 {ps ks : List Str} {g : List Value → List Value} {gV : List V → List V} (F : Fun K x qual st f fd)
    (h : ∀ (kV doc pm : Value) (an : Option Addr) (cdv ct : Value) (ws : List Value), ws.length = ks.length → bindArgs (PySem.W.fnOf x qual (defArgs st) (defBody st) (defScope st) .none kV doc pm an cdv ct) ⟨[], ks.zip ws⟩ = pure (ps.zip (g ws)))
    (r : ∀ {zs : List V} {ws : List Value}, Vals zs ws → Vals (gV zs) (g ws)) : KB0 fd ps ks g gV := by
  obtain ⟨oc, od, kV, doc, pm, an, cdv, ct, osl, rfl, lk, hc⟩ := F.ex
  exact ⟨fun s ws hl => .of_eq (h kV doc pm an cdv ct ws hl), r⟩
theorem vals_rev : ∀ {vs : List V} {us : List Value}, Vals vs us → Vals vs.reverse us.reverse
  | _, _, .nil => .nil
  | _, _, .cons r t => by
    rw [List.reverse_cons, List.reverse_cons]
    exact (vals_rev t).append (.cons r .nil)
end
end GL
set_option Elab.async false
set_option linter.all false
set_option maxRecDepth 100000
set_option maxHeartbeats 2000000
/-! # defs that call repr: they promise only where no repr runs around them -/
namespace Gd
open PySem PySem.Spec PyProof.Rows L2
/-- no repr runs around -/
abbrev Calm (A : Around) : Prop := A.guards = some []
/-- as FnOk, where no repr runs around the call -/
structure FnG (P : Program) (w : World) (K : PySem.W.Frag) (mg : Str → Option Value) (base : Heap) (CX : CXT) (k : Nat) (f : Addr) (fd : FuncData) (ps : List Str) (sp : Sp) : Prop where
  len : ∀ vs H Q E, sp vs H Q E → vs.length = ps.length
  run : ∀ (A : Around) (outer : List Env) (s : Shared) (H : Hp) (args : Args) (us : List Value) (vs : List V) (Q : VK) (E : XK), Calm A → Room k A → Env0 P w K mg base A outer s H → BindsTo s fd args (ps.zip us) → Vals vs us → sp vs H Q E →
    codeAny (model P w) A (.call (.ref f) args) (CR CX outer P w H s Q E) s
section
variable {P : Program} {w : World} {K : PySem.W.Frag} {mg : Str → Option Value} {base : Heap} {CX : CXT} {k : Nat} {f : Addr} {fd : FuncData} {ps : List Str} {sp : Sp}
theorem FnG.of (F : FnOk P w K mg base CX k f fd ps sp) : FnG P w K mg base CX k f fd ps sp := ⟨F.len, fun A outer s H args us vs Q E _ => F.run A outer s H args us vs Q E⟩
theorem FnG.mono {j : Nat} (F : FnG P w K mg base CX j f fd ps sp) (h : j ≤ k) : FnG P w K mg base CX k f fd ps sp := ⟨F.len, fun A outer s H args us vs Q E hg hr => F.run A outer s H args us vs Q E hg (hr.mono h)⟩
/-- a def's body, read where no repr runs around -/
theorem fun_g {N : List Str} {x qual : Str} {st : Stmt} (F : Fun K x qual st f fd) (S : FnScope N ps (defScope st)) (len : ∀ vs H Q E, sp vs H Q E → vs.length = ps.length)
    (hbody : ∀ (cdv : Value) (A : Around) (outer : List Env) (s : Shared) (H : Hp) (vs : List V) (Q : VK) (E : XK), Calm (A.deeper (envOfC qual (defScope st) s.heap.objs.size f cdv)) → Room k (A.deeper (envOfC qual (defScope st) s.heap.objs.size f cdv)) → sp vs H Q E →
      ∃ t, PSs (cxOf CX0 P w K mg base N qual (defScope st) f cdv A outer s H E).nox (defBody st) t ∧ t { nx := fun _ H' => Q .non H', rt := Q } (start N vs) H) : FnG P w K mg base CX0 (k + 1) f fd ps sp := by
  obtain ⟨oc, od, kV, doc, pm, an, cdv, ct, osl, rfl, lk, hcd⟩ := F.ex
  refine ⟨len, fun A outer s H args us vs Q E hgd hr e0 hb r hsp => ?_⟩
  have hl := len _ _ _ _ hsp
  have KX : K.In s.heap := e0.mod.kin.keeps fun b o e => (e0.bs b o e).1
  have lim : s.heap.NoLimit := e0.mod.nolimit.keeps fun b o e => (e0.bs b o e).1
  have kinds : ∀ y ∈ ps.zip us, (defScope st).names.lookup y.1 = some .local ∨ ((defScope st).names.lookup y.1 = some .cell ∧ ((cellsFrom (s.heap.objs.size + 1) (defScope st).names []).lookup y.1).isSome = true) := fun ⟨n, v⟩ hy => by
    rcases S.par n (List.of_mem_zip hy).1 with q | q
    · exact .inl q
    · exact .inr ⟨q, PySem.W.cellsFrom_some _ _ _ (.inl q)⟩
  refine codeAny_call_function hr.depth (KX _ _ lk) rfl S.co S.gen rfl (PySem.W.codeRec_of KX hcd) (hb _ _ _ _ ?_)
  refine wpAny_newFunctionEnv_cells S.kind kinds fun env he s1 x => ?_
  subst he
  refine ⟨lim.keeps x.toInCall.keep, codeAny_func ?_⟩
  obtain ⟨t, ht, hq⟩ := hbody cdv A outer s H vs Q E hgd (hr.deeper _) hsp
  have I : Inv (cxOf CX0 P w K mg base N qual (defScope st) f cdv A outer s H E) [] (start N vs) H s1 := inv_start S hr.hd e0 hl r x
  refine wpAny_mono (ht.nox.run [] s1 (start N vs) H _ I hq) (fun fl s' hs => ?_) fun e s' hs => hs
  cases fl with
  | ret u =>
    obtain ⟨v, σ', H', J, rv, q⟩ := hs
    exact ⟨v, H', J.os, J.bare, J.base, J.hok, rv, q⟩
  | next =>
    obtain ⟨σ', H', J, q⟩ := hs
    exact ⟨V.non, H', J.os, J.bare, J.base, J.hok, (show RelV V.non Value.none from rfl), q⟩
  | brk =>
    obtain ⟨_, _, _, q⟩ := hs
    exact False.elim q
  | cont =>
    obtain ⟨_, _, _, q⟩ := hs
    exact False.elim q
end
section
variable {X : Cx} {CX : CXT} {k : Nat} {f : Addr} {fd : FuncData} {ps : List Str} {sp : Sp} {dvs : List V} {ds : List Value} {E : XK} {x : Str} {p pos : Pos} {e : Expr} {es : List Expr} {t : TA}
/-- a call of such a def -/
theorem pe_callG (F : FnG X.prog X.w X.K X.mg X.base CX k f fd ps sp) (hc : Calm X.A) (hr : Room k X.A) (hg : Gl X x) (hm : X.mg x = some (.ref f)) (hk : PySem.W.keepIn X.K (.ref f) = true) (hb : Binds X.K fd ps ds) (hd : Vals dvs ds) (hx : Passes CX X E)
    (ha : PA X (e :: es) t) (hdb : (x == ("__debug__" : Str)) = false := by decide) (he : starEach (e :: es) X.env = (false, eval e X.env) :: starEach es X.env := by rfl) (hpl : (backTo pos (starEach es X.env)).any (·.1) = false := by rfl) :
    PE X (.Call (.Name x p) (e :: es) [] pos) (tCall sp dvs E t) := by
  refine ⟨fun pins s σ H Q I h => ?_⟩
  refine wpAny_Call_Name_kw (ld_glob I hg hm ?_ hdb)
  refine PySem.W.callWith_K (h₀ := X.base) I.ok.mod.kin hk (thn (ha.run pos pins s σ H _ I h) fun us s1 ⟨vs, H1, I1, r, q⟩ => ⟨I1.kIn, ?_⟩) he hpl
  have r2 : Vals (vs ++ dvs) (us ++ ds) := r.append hd
  have hl : (us ++ ds).length = ps.length := by rw [← r2.length]; exact F.len _ _ _ _ q
  refine wpAny_call (codeAny_mono (F.run X.A X.stack s1 H1 ⟨us, []⟩ (us ++ ds) (vs ++ dvs) Q E hc hr I1.env0 (hb s1 us I1.kIn hl) r2 q) fun r s' hq => ?_)
  cases r with
  | error e => exact hx pins σ H1 s1 e s' I1 hq
  | ok fl =>
    cases fl with
    | ret u => exact I1.after hq
    | next => exact False.elim hq
    | brk => exact False.elim hq
    | cont => exact False.elim hq
end
/-! ### repr of data -/
def rRepr (K : PySem.W.Frag) : List V → Hp → VK → Prop := fun vs H Q => ∃ (x : V) (d : PyData), vs = [x] ∧ Dp K H x d ∧ (x = x → SeqAt.shaped d = true) ∧ d.showable = true ∧ d.shown.length ≤ sizeLine ∧ Q (.str d.shown) H
section
variable {X : Cx} {k : Nat}
theorem cr_repr (hc : Calm X.A) (hr : Room k X.A) : CallR X (.builtin "repr") (rRepr X.K) := by
  intro pins s σ H vs us Q I r h
  obtain ⟨x, d, rfl, hd, sh, sw, sz, q⟩ := h
  obtain ⟨u, rfl, rx⟩ := vals1 r
  have sh := sh rfl
  obtain ⟨as, rd⟩ := Dp.reads I d x u hd rx
  have go : ∀ a, u = .ref a → wpAny (model X.prog X.w) X.A (call (.builtin "repr") [u]) (EP X pins σ Q) X.xe s := fun a e => by
    subst e
    refine repr_of_reads' (h₀ := s.heap) rd sw (PyData.noDict_hsm (PyData.hasDict_of_canLay d (SeqAt.canLay_of_shaped sh))) hc ?_ (fun _ _ h => h) (fun h' u tk hk => ?_) sz
    · have h1 := hr.un
      have h2 := SeqAt.depth_of_shaped sh
      omega
    · exact ⟨.str _, H, I.kept (t' := tk) hk, ⟨u, rfl⟩, q⟩
  cases hd with
  | lst _ _ => exact go _ rx
  | tup _ _ => exact go _ rx
  | int i =>
    obtain ⟨t, rfl⟩ := rx
    exact PySem.P.repr_of_int (by simpa [PyData.showable] using sw) ⟨.str _, H, I.tok _, ⟨_, rfl⟩, q⟩
  | non =>
    obtain rfl : u = Value.none := rx
    exact PySem.P.repr_of_none ⟨.str _, H, I.tok _, ⟨_, rfl⟩, q⟩
  | bl b =>
    obtain rfl : u = Value.bool b := rx
    exact PySem.P.repr_of_bool ⟨.str _, H, I.tok _, ⟨_, rfl⟩, q⟩
  | str y =>
    obtain ⟨t, rfl⟩ := rx
    exact PySem.P.repr_of_str ⟨.str _, H, I.tok _, ⟨_, rfl⟩, q⟩ sz
end
/-! ### the end of a law whose def calls repr -/
theorem law_callG {P : Program} {w : World} {K : PySem.W.Frag} {mg mb : Str → Option Value} {CX : CXT} {k : Nat} {fa a : Addr} {fd : FuncData} {x : Str} {sp : Sp} {s₁ : Shared} {vs : List Value} {ns : List Int}
    (KX : K.In s₁.heap) (hns : s₁.heap.Ns mainGlobals mg) (hb : s₁.heap.Ns builtinsNs mb) (hbb : ∀ x : Str, x ≠ "__name__" → mb x = bootBuiltins x) (hlim : s₁.heap.NoLimit) (hg : s₁.gens = #[])
    (ha : s₁.heap.get? a = some { cls := .type "list", data := .seq vs.toArray }) (hi : IntsAre vs ns) (hl : ns.length ≤ sizeLine) (hr : Room k callerA)
    (F : ∀ base : Heap, K.In base → base.Ns mainGlobals mg → FnG P w K mg base CX k fa fd [x] sp) (hbind : ∀ (s : Shared) (u : Value), BindsTo s fd ⟨[u], []⟩ [(x, u)])
    (hsp : ∀ H : Hp, Only H → SqL K H a (ns.map V.int) → sp [.ref a] H (fun v _ => v = .bl true) fun _ _ _ => False)
    (hCX : ∀ H e s', CX [] H s₁ (fun _ _ _ => False) e s' → False) :
    codeAny (model P w) callerA (.call (.ref fa) ⟨[.ref a], []⟩) (fun r s' => r = .ok (.ret (.bool true)) ∧ OldK s₁.heap s'.heap ∧ s'.os = s₁.os ∧ AllBare s'.gens) s₁ := by
  have rv := vals_ints hi
  have lenV := hi.length
  have core : ∀ H : Hp, Only H → SqL K H a (ns.map V.int) → HOk P w H s₁.heap → (∀ b, H b ≠ none → b = a) → (H a ≠ none → K.lookup a = none) →
      codeAny (model P w) callerA (.call (.ref fa) ⟨[.ref a], []⟩) (fun r s' => r = .ok (.ret (.bool true)) ∧ OldK s₁.heap s'.heap ∧ s'.os = s₁.os ∧ AllBare s'.gens) s₁ := by
    intro H hO hS hok hA hK
    have there : ∀ {b : Addr}, (b ≠ a) → H b = none := fun {b} n => by
      cases q : H b with
      | none => rfl
      | some u => exact absurd (hA b (by rw [q]; simp)) n
    have nsK : ∀ {b : Addr} {m : Str → Option Value}, s₁.heap.Ns b m → (hidT s₁.heap H).Ns b m := fun {b m} ⟨o, es, ep, e, d, r⟩ => ⟨o, es, ep, hidT_get e (there fun z => by
      subst z
      rw [ha] at e
      cases e
      cases d), d, r⟩
    have hKb : K.In (hidT s₁.heap H) := fun b o e => hidT_get (KX b o e) (by
      cases q : H b with
      | none => rfl
      | some u =>
        obtain rfl : b = a := hA b (by rw [q]; simp)
        rw [hK (by rw [q]; simp)] at e
        cases e)
    have hM : Mod K mg (hidT s₁.heap H) := ⟨hKb, nsK hns, ⟨mb, nsK hb, hbb⟩, let ⟨mc, h1, h2⟩ := hlim; ⟨mc, nsK h1, h2⟩⟩
    have e0 : Env0 P w K mg (hidT s₁.heap H) callerA [] s₁ H := ⟨rfl, hM, fun b o e => of_hidT e, Nat.le_of_eq (hidT_size _ _), trivial, fun b hb => absurd (show b ∈ ([] : List Addr) from hb) (by simp), hok, .of_eq hg⟩
    refine codeAny_mono ((F _ hKb (nsK hns)).run callerA [] s₁ H ⟨[.ref a], []⟩ [.ref a] [.ref a] _ _ rfl hr e0 (hbind s₁ (.ref a)) (.cons rfl .nil) (hsp H hO hS)) fun r s' h => ?_
    cases r with
    | error e => exact (hCX H e s' h).elim
    | ok fl =>
      cases fl with
      | next => exact False.elim h
      | brk => exact False.elim h
      | cont => exact False.elim h
      | ret u =>
        obtain ⟨v, H', os, bare, un, hok', r', q⟩ := h
        obtain rfl : v = .bl true := q
        obtain rfl : u = Value.bool true := r'
        refine ⟨rfl, OldK.of_keep fun b o e => ?_, os, bare⟩
        cases q : H b with
        | none => exact un.keep b o e q (by intro z; exact absurd (show b ∈ ([] : List Addr) from z) (by simp)) (by simp)
        | some u =>
          rcases hO b with z | ⟨ob, xs, z⟩
          · rw [q] at z; cases z
          · have z2 := un.frzs b ob _ z
            obtain ⟨e1, _⟩ := hok b _ z
            obtain ⟨e2, _⟩ := hok' b _ z2
            rw [e] at e1; cases e1
            exact e2
  cases hk : K.lookup a with
  | some o =>
    have e := KX a o hk
    rw [ha] at e
    cases e
    refine core (fun _ => none) (fun _ => .inl rfl) (.inr ⟨_, vs.toArray, _, hk, rfl, rfl, rfl, by rw [List.size_toArray, lenV]; exact hl, by simpa using rv⟩) (fun b u z => by have z' : (none : Option HO) = some u := z; cases z') (fun b z => absurd rfl z) fun z => absurd rfl z
  | none =>
    refine core (fun b => if b = a then some (.frz { cls := .type "list", data := .seq vs.toArray } (.lst (ns.map V.int))) else none) (fun b => ?_) (.inl (.inr ⟨{ cls := .type "list", data := .seq vs.toArray }, if_pos rfl⟩)) (fun b u z => ?_) (fun b z => ?_) fun _ => hk
    · by_cases hb : b = a
      · exact .inr ⟨_, _, if_pos hb⟩
      · exact .inl (if_neg hb)
    · by_cases hb : b = a
      · cases (if_pos hb).symm.trans z
        subst hb
        exact ⟨ha, by rw [List.length_map]; exact hl, vs, _, rv, ha⟩
      · cases (if_neg hb).symm.trans z
    · by_cases hb : b = a
      · exact hb
      · exact absurd (if_neg hb) z
theorem walk_ofG {l : PySem.W.OpenLaw} {n k : Nat} {q : Program} {loose : List Str} {XP : (Str → Option Value) → Heap → Prop} {YP : World → Heap → Prop} {d : DefRec} {K : Params → PySem.W.Frag} {CX : World → CXT} {sp : World → Sp} {x : Str}
    (hn : l.most = some n) (hn2 : n ≤ sizeLine) (hdf : d.params.defaults = []) (hr : Room k callerA)
    (hY : ∀ (w : World) (h : Heap), YP w h → (K w.params).In h)
    (F : ∀ (w : World) (mg : Str → Option Value) (fa : Addr) (h : Heap), (K w.params).In h → h.Ns mainGlobals mg → mg d.name = some (.ref fa) →
      ∃ fd : FuncData, (∀ (s : Shared) (u : Value), BindsTo s fd ⟨[u], []⟩ [(x, u)]) ∧
        ∀ base : Heap, (K w.params).In base → base.Ns mainGlobals mg → FnG l.prog w (K w.params) mg base (CX w) k fa fd [x] (sp w))
    (hsp : ∀ (w : World) (H : Hp) (a : Addr) (ns : List Int), ns.length ≤ n → Only H → SqL (K w.params) H a (ns.map V.int) → sp w [.ref a] H (fun v _ => v = .bl true) fun _ _ _ => False)
    (hCX : ∀ (w : World) (H : Hp) (s : Shared) (e : Value) (s' : Shared), CX w [] H s (fun _ _ _ => False) e s' → False) :
    PySem.W.WalkO q loose XP YP l.row.toRowW d [] (fun f vs => PySem.call f vs) := by
  refine Att.attach_call hn hdf fun w s₀ s₁ mg mb fa o pm cd doc a vs ns G Y ho hd hcd hmg hobj hints hlen hg => ?_
  have KX := hY w _ Y
  obtain ⟨fd, hb, hF⟩ := F w mg fa _ KX G.T.g hmg
  exact law_callG KX G.T.g G.T.b G.T.builtins G.T.nolimit hg hobj hints (Nat.le_trans hlen hn2) hr hF hb (fun H hO hS => hsp w H a ns hlen hO hS) fun H e s' => hCX w H s₁ e s'
end Gd
set_option Elab.async false
set_option linter.all false
set_option maxRecDepth 100000
set_option maxHeartbeats 2000000
/-! # the end of a law whose defs call repr and hold generator expressions -/
namespace Gd
open PySem PySem.Spec PyProof.Rows L2 GnR LamX
/-- the tracked heap of the call: the tables Ts, and the script at a where it is not of the written part -/
def startH (Ts : List Addr) (a : Addr) (o : Option HO) : Hp := fun b => if b ∈ Ts then some (TabO b) else if b = a then o else none
section
variable {Ts : List Addr} {a b : Addr} {o : Option HO}
theorem startH_t (h : b ∈ Ts) : startH Ts a o b = some (TabO b) := if_pos h
theorem startH_a (h : a ∉ Ts) : startH Ts a o a = o := (if_neg h).trans (if_pos rfl)
theorem startH_n (h : b ∉ Ts) (n : b ≠ a) : startH Ts a o b = none := (if_neg h).trans (if_neg n)
end
/-- where a law stands: what the head has left, as the end below wants it -/
structure Left (w : World) (K : PySem.W.Frag) (mg mb : Str → Option Value) (s : Shared) (cs : List (Addr × Addr)) (a : Addr) (vs : List Value) (ns : List Int) : Prop where
  KX : K.In s.heap
  gl : s.heap.Ns mainGlobals mg
  bl : s.heap.Ns builtinsNs mb
  boot : ∀ x : Str, x ≠ "__name__" → mb x = bootBuiltins x
  lim : s.heap.NoLimit
  gens : s.gens = #[]
  tab : ∀ p ∈ cs, s.heap.get? p.2 = some { cls := .none, data := .fields #[] }
  tabK : ∀ p ∈ cs, K.lookup p.2 = none
  code : ∀ p ∈ cs, PySem.W.CodeHd s.heap p.1 p.2
  bm : ∃ (bm : Addr) (ob : Obj), mg "__builtins__" = some (.ref bm) ∧ bm ≠ builtinsNs ∧ s.heap.get? bm = some ob ∧ ob.cls = .type "module" ∧ ob.dict = some builtinsNs ∧ ob.data = .plain
  arg : s.heap.get? a = some { cls := .type "list", data := .seq vs.toArray }
  itg : IntsAre vs ns
  small : ns.length ≤ sizeLine
section
variable {P : Program} {w : World} {K : PySem.W.Frag} {mg mb : Str → Option Value} {s : Shared} {cs : List (Addr × Addr)} {a : Addr} {vs : List Value} {ns : List Int}
theorem Left.tabAt (L : Left w K mg mb s cs a vs ns) {b : Addr} (h : b ∈ cs.map (·.2)) : s.heap.get? b = some { cls := .none, data := .fields #[] } := by
  obtain ⟨p, hp, rfl⟩ := List.mem_map.mp h
  exact L.tab p hp
theorem Left.argTab (L : Left w K mg mb s cs a vs ns) : a ∉ cs.map (·.2) := fun h => by
  have e := (L.tabAt h).symm.trans L.arg
  cases e
theorem Left.argSize (L : Left w K mg mb s cs a vs ns) : ((ns.map V.int).length ≤ sizeLine) := by
  rw [List.length_map]
  exact L.small
/-- what is not a list and no table is not tracked -/
theorem Left.free (L : Left w K mg mb s cs a vs ns) {o : Option HO} {b : Addr} {u : Obj} (e : s.heap.get? b = some u) (h1 : ∀ xs n, u.data ≠ .seq xs n) (h2 : u.data ≠ .fields #[]) : startH (cs.map (·.2)) a o b = none := by
  refine startH_n (fun h => ?_) fun h => ?_
  · rw [L.tabAt h] at e
    cases e
    exact h2 rfl
  · rw [h, L.arg] at e
    cases e
    exact h1 _ _ rfl
theorem Left.hid (L : Left w K mg mb s cs a vs ns) {o : Option HO} {b : Addr} {u : Obj} (e : s.heap.get? b = some u) (h1 : ∀ xs n, u.data ≠ .seq xs n) (h2 : u.data ≠ .fields #[]) : (hidT s.heap (startH (cs.map (·.2)) a o)).get? b = some u := hidT_get e (L.free e h1 h2)
theorem Left.nsA (L : Left w K mg mb s cs a vs ns) {o : Option HO} {b : Addr} {m : Str → Option Value} : s.heap.Ns b m → (hidT s.heap (startH (cs.map (·.2)) a o)).Ns b m := fun ⟨u, es, ep, e, d, r⟩ =>
  ⟨u, es, ep, L.hid e (fun xs n z => by rw [d] at z; cases z) (fun z => by rw [d] at z; cases z), d, r⟩
theorem Left.kin (L : Left w K mg mb s cs a vs ns) {o : Option HO} (ho : o ≠ none → K.lookup a = none) : K.In (hidT s.heap (startH (cs.map (·.2)) a o)) := fun b u e => hidT_get (L.KX b u e) (by
  by_cases h : b ∈ cs.map (·.2)
  · obtain ⟨p, hp, rfl⟩ := List.mem_map.mp h
    rw [L.tabK p hp] at e
    cases e
  · by_cases n : b = a
    · subst n
      rw [startH_a h]
      cases o with
      | none => rfl
      | some x =>
        rw [ho (by simp)] at e
        cases e
    · exact startH_n h n)
theorem Left.tb (L : Left w K mg mb s cs a vs ns) {o : Option HO} : ∀ p ∈ cs, GxR.TabB (hidT s.heap (startH (cs.map (·.2)) a o)) mg p.1 p.2 := fun p hp => by
  have t := L.tab p hp
  refine ⟨?_, ?_, fun z => ?_⟩
  · obtain ⟨u, us, file, tf, flags, tg, inF, text, tt, e1, r1, r2, r3, r⟩ := L.code p hp
    exact ⟨u, us, file, tf, flags, tg, inF, text, tt, L.hid e1 (fun xs n z => by rw [r2] at z; cases z) (fun z => by
      rw [r2] at z
      cases z
      simp at r3), r1, r2, r3, r⟩
  · obtain ⟨bm, ob, b1, b2, b3, b4, b5, b6⟩ := L.bm
    refine ⟨bm, ob, b1, b2, fun q => ?_, fun q => ?_, L.hid b3 (fun xs n z => by rw [b6] at z; cases z) (fun z => by rw [b6] at z; cases z), b4, b5, b6⟩
    · obtain ⟨u, es, ep, e, d, _⟩ := L.gl
      rw [q, e] at b3
      cases b3
      rw [d] at b6
      cases b6
    · rw [q, t] at b3
      cases b3
      cases b6
  · obtain ⟨u, es, ep, e, d, _⟩ := L.gl
    rw [z, t] at e
    cases e
    cases d
/-- the call itself -/
theorem law_at {CX : CXT} {k : Nat} {fa : Addr} {fd : FuncData} {x : Str} {sp : Sp} (L : Left w K mg mb s cs a vs ns) (hr : Room k callerA)
    (F : ∀ base : Heap, K.In base → base.Ns mainGlobals mg → (∀ p ∈ cs, GxR.TabB base mg p.1 p.2) → FnG P w K mg base CX k fa fd [x] sp) (hbind : ∀ (s : Shared) (u : Value), BindsTo s fd ⟨[u], []⟩ [(x, u)])
    (hsp : ∀ H : Hp, (∀ p ∈ cs, H p.2 = some (TabO p.2)) → SqL K H a (ns.map V.int) → sp [.ref a] H (fun v H' => v = .bl true ∧ ∀ p ∈ cs, H' p.2 = some (TabO p.2)) fun _ _ _ => False)
    (hCX : ∀ H e s', CX [] H s (fun _ _ _ => False) e s' → False) :
    codeAny (model P w) callerA (.call (.ref fa) ⟨[.ref a], []⟩) (fun r s' => r = .ok (.ret (.bool true)) ∧ OldK s.heap s'.heap ∧ s'.os = s.os ∧ AllBare s'.gens) s := by
  have rv := vals_ints L.itg
  have go : ∀ o : Option HO, (o ≠ none → K.lookup a = none) → (∀ u, o = some u → ∃ ob xs, u = .frz ob (.lst xs) ∧ ObjOk P w (startH (cs.map (·.2)) a o) s.heap a u) → SqL K (startH (cs.map (·.2)) a o) a (ns.map V.int) →
      codeAny (model P w) callerA (.call (.ref fa) ⟨[.ref a], []⟩) (fun r s' => r = .ok (.ret (.bool true)) ∧ OldK s.heap s'.heap ∧ s'.os = s.os ∧ AllBare s'.gens) s := by
    intro o hK hO hS
    generalize hH : startH (cs.map (·.2)) a o = H at hO hS
    have at_t : ∀ p ∈ cs, H p.2 = some (TabO p.2) := fun p hp => hH ▸ startH_t (List.mem_map.mpr ⟨p, hp, rfl⟩)
    have hM : L2.Mod K mg (hidT s.heap H) := hH ▸ ⟨L.kin hK, L.nsA L.gl, ⟨mb, L.nsA L.bl, L.boot⟩, let ⟨mc, h1, h2⟩ := L.lim; ⟨mc, L.nsA h1, h2⟩⟩
    have hTB : ∀ p ∈ cs, GxR.TabB (hidT s.heap H) mg p.1 p.2 := hH ▸ L.tb
    have ok : HOk P w H s.heap := fun b u e => by
      rw [← hH] at e
      by_cases h : b ∈ cs.map (·.2)
      · rw [startH_t h] at e
        cases e
        exact ⟨⟨#[], L.tabAt h, trivial⟩, ⟨_, L.tabAt h⟩, fun _ _ ⟨ps, e, t⟩ k => ⟨ps, k _ e, t⟩⟩
      · by_cases n : b = a
        · subst n
          rw [startH_a h] at e
          obtain ⟨_, _, _, q⟩ := hO u e
          exact q
        · rw [startH_n h n] at e
          cases e
    have e0 : Env0 P w K mg (hidT s.heap H) callerA [] s H := ⟨rfl, hM, fun b u e => of_hidT e, Nat.le_of_eq (hidT_size _ _), trivial, (fun b hb => by cases hb), ok, .of_eq L.gens⟩
    refine codeAny_mono ((F _ hM.kin hM.glob hTB).run callerA [] s H ⟨[.ref a], []⟩ [.ref a] [.ref a] _ _ rfl hr e0 (hbind s (.ref a)) (.cons rfl .nil) (hsp H at_t hS)) fun r s' h => ?_
    cases r with
    | error e => exact (hCX H e s' h).elim
    | ok fl =>
      cases fl with
      | next => exact False.elim h
      | brk => exact False.elim h
      | cont => exact False.elim h
      | ret u =>
        obtain ⟨v, H', os, bare, un, ok', r', q, qt⟩ := h
        subst q
        obtain rfl : u = Value.bool true := r'
        have same : ∀ b ob, b ∉ cs.map (·.2) → s.heap.get? b = some ob → s'.heap.get? b = some ob := fun b ob nb e => by
          by_cases n : b = a
          · subst n
            cases hq : H b with
            | none => exact un.keep b ob e hq (by intro z; cases z) (by simp)
            | some x =>
              rw [← hH, startH_a nb] at hq
              obtain ⟨ob2, xs, hx, q1⟩ := hO x hq
              subst hx
              have q2 := ok' b _ (un.frzs b ob2 _ (by rw [← hH, startH_a nb]; exact hq))
              rw [q1.1] at e
              cases e
              exact q2.1
          · exact un.keep b ob e (hH ▸ startH_n nb n) (by intro z; cases z) (by simp)
        have grown : ∀ p ∈ cs, ∃ more : Array Value, s'.heap.get? p.2 = some { cls := .none, data := .fields more } := fun p hp => let ⟨⟨ps, h1, _⟩, _⟩ := ok' p.2 _ (qt p hp); ⟨ps, h1⟩
        refine ⟨rfl, ⟨fun b ob e => ?_, fun b ob e => ?_⟩, os, bare⟩
        · by_cases hb : b ∈ cs.map (·.2)
          · obtain ⟨p, hp, rfl⟩ := List.mem_map.mp hb
            obtain ⟨more, hm⟩ := grown p hp
            have t := L.tab p hp
            obtain rfl := Option.some.inj (t.symm.trans e)
            exact .inr (.inl ⟨((L.code p hp).tab t).isCodeTable, rfl, #[], more, rfl, by rw [hm, Array.empty_append]⟩)
          · exact .inl (same b ob hb e)
        · by_cases hb : b ∈ cs.map (·.2)
          · obtain ⟨p, hp, rfl⟩ := List.mem_map.mp hb
            exact (grown p hp).imp' _ fun more hm => hm
          · exact ⟨ob, same b ob hb e⟩
  cases hk : K.lookup a with
  | some ob =>
    have e := (L.KX a ob hk).symm.trans L.arg
    cases e
    refine go none (fun z => absurd rfl z) (fun u z => by cases z) (.inr ⟨_, vs.toArray, _, hk, rfl, rfl, rfl, ?_, by simpa using rv⟩)
    have := L.itg.length
    have := L.small
    rw [List.size_toArray]
    omega
  | none =>
    refine go (some (.frz { cls := .type "list", data := .seq vs.toArray } (.lst (ns.map V.int)))) (fun _ => hk) (fun u z => ?_) (.inl (.inr ⟨_, startH_a L.argTab⟩))
    obtain rfl := Option.some.inj z
    exact ⟨_, _, rfl, L.arg, L.argSize, vs, _, rv, L.arg⟩
end
/-- what is known of the law's promise at the head's heap -/
def LawAtG (l : PySem.W.OpenLaw) (w : World) (K : PySem.W.Frag) (CX : CXT) (k n : Nat) (x : Str) (mg : Str → Option Value) (fa : Addr) (h : Heap) : Prop :=
  ∃ (fd : FuncData) (cs : List (Addr × Addr)) (sp : Sp), (∀ p ∈ cs, h.get? p.2 = some { cls := .none, data := .fields #[] }) ∧ (∀ p ∈ cs, K.lookup p.2 = none) ∧ (∀ p ∈ cs, PySem.W.CodeHd h p.1 p.2) ∧ (∀ (s : Shared) (u : Value), BindsTo s fd ⟨[u], []⟩ [(x, u)]) ∧
    (∀ (H : Hp) (a : Addr) (ns : List Int), ns.length ≤ n → (∀ p ∈ cs, H p.2 = some (TabO p.2)) → SqL K H a (ns.map V.int) → sp [.ref a] H (fun v H' => v = .bl true ∧ ∀ p ∈ cs, H' p.2 = some (TabO p.2)) fun _ _ _ => False) ∧
    ∀ base : Heap, K.In base → base.Ns mainGlobals mg → (∀ p ∈ cs, GxR.TabB base mg p.1 p.2) → FnG l.prog w K mg base CX k fa fd [x] sp
theorem walk_ofGT {l : PySem.W.OpenLaw} {n k : Nat} {q : Program} {loose : List Str} {XP : (Str → Option Value) → Heap → Prop} {YP : World → Heap → Prop} {d : DefRec} {K : Params → PySem.W.Frag} {CX : World → CXT} {x : Str}
    (hn : l.most = some n) (hn2 : n ≤ sizeLine) (hdf : d.params.defaults = []) (hr : Room k callerA) (hY : ∀ (w : World) (h : Heap), YP w h → (K w.params).In h)
    (F : ∀ (w : World) (mg : Str → Option Value) (fa : Addr) (h : Heap), YP w h → (K w.params).In h → h.Ns mainGlobals mg → mg d.name = some (.ref fa) → LawAtG l w (K w.params) (CX w) k n x mg fa h)
    (hCX : ∀ (w : World) (H : Hp) (s : Shared) (e : Value) (s' : Shared), CX w [] H s (fun _ _ _ => False) e s' → False) :
    PySem.W.WalkO q loose XP YP l.row.toRowW d [] (fun f vs => PySem.call f vs) := by
  refine Att.attach_callB hn hdf fun w s₀ s₁ mg mb fa o pm cd doc a vs ns G Y _ _ _ hmg hobj hints hlen _ hg => ?_
  have KX := hY w _ Y
  obtain ⟨fd, cs, sp, hT, nT, C, hb, hsp, hF⟩ := F w mg fa _ Y KX G.T.g hmg
  exact law_at (⟨KX, G.T.g, G.T.b, G.T.builtins, G.T.nolimit, hg, hT, nT, C, G.T.bmain, hobj, hints, Nat.le_trans hlen hn2⟩ : Left w (K w.params) mg mb s₁ cs a vs ns) hr hF hb (fun H hH hS => hsp H a ns hlen hH hS) fun H e s' => hCX w H s₁ e s'
end Gd
namespace Gd
open PySem PySem.Spec PyProof.Rows L2 GnR LamX
theorem walk_ofGE {l : PySem.W.OpenLaw} {n k : Nat} {q : Program} {loose : List Str} {XP : (Str → Option Value) → Heap → Prop} {YP : World → Heap → Prop} {d : DefRec} {CX : CXT} {x : Str}
    (hn : l.most = some n) (hn2 : n ≤ sizeLine) (hdf : d.params.defaults = []) (hr : Room k callerA)
    (F : ∀ (w : World) (mg : Str → Option Value) (fa : Addr) (h : Heap), YP w h → h.Ns mainGlobals mg → mg d.name = some (.ref fa) → ∃ K : PySem.W.Frag, K.In h ∧ LawAtG l w K CX k n x mg fa h)
    (hCX : ∀ (H : Hp) (s : Shared) (e : Value) (s' : Shared), CX [] H s (fun _ _ _ => False) e s' → False) :
    PySem.W.WalkO q loose XP YP l.row.toRowW d [] (fun f vs => PySem.call f vs) := by
  refine Att.attach_callB hn hdf fun w s₀ s₁ mg mb fa o pm cd doc a vs ns G Y _ _ _ hmg hobj hints hlen _ hg => ?_
  obtain ⟨K, KX, fd, cs, sp, hT, nT, C, hb, hsp, hF⟩ := F w mg fa _ Y G.T.g hmg
  exact law_at (⟨KX, G.T.g, G.T.b, G.T.builtins, G.T.nolimit, hg, hT, nT, C, G.T.bmain, hobj, hints, Nat.le_trans hlen hn2⟩ : Left w K mg mb s₁ cs a vs ns) hr hF hb (fun H hH hS => hsp H a ns hlen hH hS) fun H e s' => hCX H s₁ e s'
end Gd
set_option Elab.async false
set_option linter.all false
set_option maxRecDepth 100000
set_option maxHeartbeats 4000000
/-! # sets of up to 200 tuples of ints: the table of 512 slots too -/
namespace StB
open PySem PySem.Spec PyProof.Rows L2
/-! ## 511: each slot is met -/
def met (m : Nat) : Nat → Nat
  | 0 => 0
  | n + 1 => met m n ||| (1 <<< lcgN m n)
theorem met_bit {m j : Nat} : ∀ n, (met m n).testBit j = true → ∃ b, b < n ∧ lcgN m b = j
  | 0, h => by simp [met] at h
  | n + 1, h => by
    unfold met at h
    rw [Nat.testBit_or, Bool.or_eq_true] at h
    rcases h with h | h
    · obtain ⟨b, h1, h2⟩ := met_bit n h
      exact ⟨b, by omega, h2⟩
    · refine ⟨n, by omega, ?_⟩
      rw [Nat.one_shiftLeft, Nat.testBit_two_pow] at h
      simpa using h
theorem met_511 : met 511 512 = 2 ^ 512 - 1 := by decide +kernel
theorem back_511 : lcgN 511 512 = 0 := by decide +kernel
/-- a mask by which each slot begins a run early enough -/
structure Full (m : Nat) : Prop where
  odd : m % 2 = 1
  small : m ≤ 511
  runs : ∀ (g : Int) (j : Nat), j ≤ m → ∃ n, n ≤ m + 12 ∧ runI m (SetTable.bits g) n = j
theorem full_old {m : Nat} (h : MaskOk m) : Full m where
  odd := mask_odd h
  small := by rcases h with e | e | e <;> omega
  runs := fun g j hj => run_meets h g hj
theorem round_511 : ∀ k, lcgN 511 (512 + k) = lcgN 511 k
  | 0 => back_511
  | k + 1 => by
    show (lcgN 511 (512 + k) * 5 + 1) % 512 = (lcgN 511 k * 5 + 1) % 512
    rw [round_511 k]
theorem hit_511 {j : Nat} (hj : j ≤ 511) : ∃ b, b < 512 ∧ lcgN 511 b = j := by
  refine met_bit 512 ?_
  rw [met_511, Nat.testBit_two_pow_sub_one]
  exact decide_eq_true (by omega)
theorem reach_511 {i j : Nat} (hi : i ≤ 511) (hj : j ≤ 511) : ∃ k, k ≤ 511 ∧ lcgI 511 i k = j := by
  obtain ⟨u, hu, rfl⟩ := hit_511 hi
  obtain ⟨v, hv, rfl⟩ := hit_511 hj
  by_cases c : v < u
  · refine ⟨v + 512 - u, by omega, ?_⟩
    rw [lcgN_add, show u + (v + 512 - u) = 512 + v by omega, round_511]
  · refine ⟨v - u, by omega, ?_⟩
    rw [lcgN_add, show u + (v - u) = v by omega]
theorem full_511 : Full 511 where
  odd := rfl
  small := Nat.le_refl _
  runs := fun g j hj => by
    obtain ⟨k, hk, e⟩ := reach_511 (runI_le 511 (SetTable.bits g) 12) hj
    exact ⟨12 + k, by omega, (runI_tail (bits_lt g) k).trans e⟩
theorem Full.steps {m : Nat} (F : Full m) (g : Int) {j : Nat} (hj : j ≤ m) : ∃ k, k < 10 * SetTable.turns m ∧ way m g k = j := by
  obtain ⟨n, hn, e⟩ := F.runs g j hj
  obtain ⟨k, hk, e2⟩ := run_nth m (SetTable.bits g) n
  refine ⟨k, ?_, ?_⟩
  · unfold SetTable.turns
    omega
  · show (nth m (runAt m (SetTable.bits g % (m + 1)) (SetTable.bits g)) k).j = j
    rw [e2]
    exact e
theorem way_in {m : Nat} (g : Int) (k : Nat) : way m g k ≤ m := by
  have hlt : SetTable.bits g % (m + 1) ≤ m := Nat.le_of_lt_succ (Nat.mod_lt _ (Nat.succ_pos _))
  have hr := runEnd_bd hlt
  have z := nth_in (m := m) k (runAt m (SetTable.bits g % (m + 1)) (SetTable.bits g)) (by
    show SetTable.bits g % (m + 1) + (SetTable.runEnd m _ - SetTable.bits g % (m + 1)) ≤ m
    omega)
  exact Nat.le_trans (Nat.le_add_right _ _) z
/-! ## tables -/
/-- the table of these hashes: each is found again on its way -/
structure Tab (t : SetTable) (gs : List Int) : Prop where
  up : Ris t.place.toList
  clean : t.dummies = #[]
  many : t.place.size = gs.length
  full : Full t.mask
  bound : ∀ x ∈ t.place.toList, x ≤ t.mask
  found : ∀ (i : Nat) (g : Int) (j : Nat), gs[i]? = some g → t.place.toList[i]? = some j → ∃ k, way t.mask g k = j ∧ ∀ k', k' < k → way t.mask g k' ∈ t.place.toList
theorem Tab.len {t : SetTable} {gs : List Int} (T : Tab t gs) : t.place.toList.length = gs.length := by
  rw [Array.length_toList, T.many]
/-- the first free slot on the way -/
theorem Tab.free {t : SetTable} {gs : List Int} (T : Tab t gs) (hl : gs.length ≤ t.mask) (g : Int) : ∃ K, K < 10 * SetTable.turns t.mask ∧ way t.mask g K ∉ t.place.toList ∧ ∀ k, k < K → way t.mask g k ∈ t.place.toList := by
  obtain ⟨j, hj, hout⟩ := st_missing t.place.toList (t.mask + 1) (by rw [T.len]; omega)
  obtain ⟨k, hk, e⟩ := T.full.steps g (j := j) (by omega)
  obtain ⟨K, hK, h2, h3⟩ := st_least (p := fun k => way t.mask g k ∉ t.place.toList) k (by rw [e]; exact hout)
  exact ⟨K, by omega, h2, fun k' hk' => Classical.byContradiction fun hc => h3 k' hk' hc⟩
theorem Tab.ahead {t : SetTable} {gs : List Int} (T : Tab t gs) {g : Int} {K i j : Nat} (hK : way t.mask g K ∉ t.place.toList) (hi : gs[i]? = some g) (hj : t.place.toList[i]? = some j) : ∃ k, k < K ∧ way t.mask g k = j := by
  obtain ⟨k, e, hb⟩ := T.found i g j hi hj
  refine ⟨k, ?_, e⟩
  rcases Nat.lt_trichotomy k K with c | c | c
  · exact c
  · subst c
    rw [e] at hK
    exact absurd (List.mem_of_getElem? hj) hK
  · exact absurd (hb K c) hK
/-- one more -/
theorem Tab.more {t : SetTable} {gs : List Int} (T : Tab t gs) {g : Int} {K : Nat} (hK : way t.mask g K ∉ t.place.toList) (hb : ∀ k, k < K → way t.mask g k ∈ t.place.toList) {p : Nat} (ep : SetTable.below t.place (way t.mask g K) = p) :
    (t.put (way t.mask g K)).2 = p ∧ p ≤ gs.length ∧ Tab (t.put (way t.mask g K)).1 (gs.take p ++ g :: gs.drop p) ∧ (t.put (way t.mask g K)).1.mask = t.mask ∧ (t.put (way t.mask g K)).1.led = t.led ∧ (t.put (way t.mask g K)).1.plain = t.plain ∧ (t.put (way t.mask g K)).1.fill = gs.length + 1 := by
  have hjm : way t.mask g K ≤ t.mask := way_in g K
  have hnew : t.place[SetTable.below t.place (way t.mask g K)]? ≠ some (way t.mask g K) := fun e => hK (List.mem_of_getElem? (by rw [Array.getElem?_toList]; exact e))
  have hup := ris_insert T.up hnew
  have hle := (below_cut T.up (way t.mask g K)).1
  have hpl := put_place t (way t.mask g K)
  have hdm := put_dm T.clean (way t.mask g K)
  rw [ep] at hpl hle
  have hl := T.len
  have hpg : p ≤ gs.length := by rw [← T.many]; exact hle
  have hsz : (t.put (way t.mask g K)).1.place.size = gs.length + 1 := by
    rw [← Array.length_toList, hpl, len_ins _ (by rw [hl]; exact hpg), hl]
  have stay : ∀ {x : Nat}, x ∈ t.place.toList → x ∈ (t.put (way t.mask g K)).1.place.toList := fun {x} hx => by
    rw [hpl]
    exact mem_ins.2 (.inr hx)
  have hfill : (t.put (way t.mask g K)).1.fill = gs.length + 1 := by
    unfold SetTable.fill
    rw [hsz, hdm]
    rfl
  refine ⟨ep, hpg, ⟨?_, hdm, ?_, T.full, fun x hx => ?_, fun i g' j' h1 h2 => ?_⟩, rfl, rfl, rfl, hfill⟩
  · exact hup
  · rw [len_ins _ hpg, hsz]
  · rw [hpl] at hx
    rcases mem_ins.1 hx with rfl | hx
    · exact hjm
    · exact T.bound x hx
  · rw [hpl] at h2
    rw [tins_get gs hpg] at h1
    rw [tins_get _ (by rw [hl]; exact hpg)] at h2
    have up : ∀ {k : Nat}, (∀ k', k' < k → way t.mask g' k' ∈ t.place.toList) → ∀ k', k' < k → way t.mask g' k' ∈ (t.put (way t.mask g K)).1.place.toList := fun hh k' hk' => stay (hh k' hk')
    by_cases c : i < p
    · rw [if_pos c] at h1 h2
      obtain ⟨k, e, z⟩ := T.found i g' j' h1 h2
      exact ⟨k, e, up z⟩
    · rw [if_neg c] at h1 h2
      by_cases d : i = p
      · rw [if_pos d] at h1 h2
        cases h1
        cases h2
        exact ⟨K, rfl, fun k' hk' => stay (hb k' hk')⟩
      · rw [if_neg d] at h1 h2
        obtain ⟨k, e, z⟩ := T.found (i - 1) g' j' h1 h2
        exact ⟨k, e, up z⟩
/-! ## all laid anew -/
theorem spot_free {m : Nat} (F : Full m) (owner : Array (Option Nat)) (g : Int) {j : Nat} (hj : j ≤ m) (hf : oAt owner j = none) :
    ∃ K, SetTable.layClean.free m owner (SetTable.turns m) (SetTable.bits g % (m + 1)) (SetTable.bits g) = some (way m g K) ∧ oAt owner (way m g K) = none ∧ ∀ k, k < K → oAt owner (way m g k) ≠ none := by
  obtain ⟨n, hn, e⟩ := F.runs g j hj
  have hw : way m g (off m (SetTable.bits g % (m + 1)) (SetTable.bits g) n) = j := by
    show (nth m (runAt m _ _) (off m _ _ n)).j = j
    rw [nth_off, itL_run]
    exact e
  obtain ⟨K, k1, k2, k3⟩ := st_least (p := fun k => oAt owner (way m g k) = none) (off m (SetTable.bits g % (m + 1)) (SetTable.bits g) n) (by rw [hw]; exact hf)
  have occ : ∀ k, k < K → (oAt owner (way m g k)).isNone = false := fun k hk => by
    have z := k3 k hk
    cases c : oAt owner (way m g k) with
    | none => exact absurd c z
    | some _ => rfl
  exact ⟨K, free_spec m owner (SetTable.turns m) n _ _ K (by unfold SetTable.turns; omega) k1 occ (by rw [k2]; rfl), k2, k3⟩
theorem own_next {m : Nat} (F : Full m) {done : List Int} {owner : Array (Option Nat)} (W : Own m done owner) (hl : done.length ≤ m) (g : Int) :
    ∃ j, SetTable.layClean.free m owner (SetTable.turns m) (SetTable.bits g % (m + 1)) (SetTable.bits g) = some j ∧ Own m (done ++ [g]) (owner.setIfInBounds j (some done.length)) := by
  obtain ⟨ps, hps, hin⟩ := W.ps
  obtain ⟨u, hu, hout⟩ := st_missing ps (m + 1) (by omega)
  have hfree : oAt owner u = none := Classical.byContradiction fun hc => hout (hin u (by omega) hc)
  obtain ⟨K, e1, e2, e3⟩ := spot_free F owner g (j := u) (by omega) hfree
  have hjm : way m g K ≤ m := way_in g K
  have hself := oAt_set_self (some done.length) (show way m g K < owner.size by rw [W.sz]; omega)
  have keep : ∀ {i : Nat}, oAt owner i ≠ none → oAt (owner.setIfInBounds (way m g K) (some done.length)) i ≠ none := fun {i} hi => by
    by_cases c : i = way m g K
    · rw [c, hself]
      simp
    · rw [oAt_set_ne _ c]
      exact hi
  refine ⟨way m g K, e1, ⟨by rw [Array.size_setIfInBounds]; exact W.sz, fun j k hj e => ?_, fun k hk => ?_, ⟨way m g K :: ps, by rw [List.length_cons, List.length_append, hps]; rfl, fun j hj e => ?_⟩⟩⟩
  · by_cases c : j = way m g K
    · rw [c, hself] at e
      obtain rfl := Option.some.inj e
      exact ⟨g, K, by rw [List.getElem?_append_right (Nat.le_refl _), Nat.sub_self]; rfl, c.symm, fun k' hk' => keep (e3 k' hk')⟩
    · rw [oAt_set_ne _ c] at e
      obtain ⟨g', K', a1, a2, a3⟩ := W.at_ j k hj e
      exact ⟨g', K', by rw [List.getElem?_append_left (List.getElem?_eq_some_iff.mp a1).1]; exact a1, a2, fun k' hk' => keep (a3 k' hk')⟩
  · rw [List.length_append, List.length_singleton] at hk
    by_cases c : k < done.length
    · obtain ⟨j, hj, e⟩ := W.all k c
      refine ⟨j, hj, ?_⟩
      rw [oAt_set_ne _ (fun z => by rw [z, e2] at e; cases e)]
      exact e
    · obtain rfl : k = done.length := by omega
      exact ⟨way m g K, hjm, hself⟩
  · by_cases c : j = way m g K
    · rw [c]
      exact List.mem_cons_self
    · rw [oAt_set_ne _ c] at e
      exact List.mem_cons_of_mem _ (hin j hj e)
theorem fold_all {m : Nat} (F : Full m) : ∀ (rest done : List Int) (owner : Array (Option Nat)), Own m done owner → done.length + rest.length ≤ m →
    ∃ owner', rest.foldl (stepF m) (some (owner, done.length)) = some (owner', (done ++ rest).length) ∧ Own m (done ++ rest) owner'
  | [], done, owner, W, _ => ⟨owner, by simp, by rw [List.append_nil]; exact W⟩
  | g :: rest, done, owner, W, hl => by
    rw [List.length_cons] at hl
    obtain ⟨j, e, W2⟩ := own_next F W (by omega) g
    have el : (done ++ [g]).length = done.length + 1 := by simp
    obtain ⟨owner', f, W3⟩ := fold_all F rest (done ++ [g]) _ W2 (by omega)
    rw [List.append_assoc] at f W3
    rw [el] at f
    exact ⟨owner', by rw [List.foldl_cons, stepF_some e]; exact f, W3⟩
theorem lay_all {m : Nat} (F : Full m) {gs : Array Int} (hn : gs.size ≤ m) : ∃ owner, SetTable.layClean m gs = some owner ∧ Own m gs.toList owner := by
  obtain ⟨owner, f, W⟩ := fold_all F gs.toList [] _ (Own.init m) (by simpa using hn)
  rw [List.nil_append] at f W
  refine ⟨owner, ?_, W⟩
  rw [layClean_eq]
  have f' : List.foldl (stepF m) (some (Array.replicate (m + 1) none, 0)) gs.toList = some (owner, gs.toList.length) := f
  rw [f']
  rfl
theorem anew {t : SetTable} {gs : Array Int} {wanted M : Nat} (hw : SetTable.sizeAbove wanted - 1 = M) (F : Full M) (hn : gs.size ≤ M) :
    ∃ t' order, t.relaid gs wanted = some (t', order) ∧ order.toList.Perm (List.range gs.size) ∧ Tab t' (order.toList.map fun i => gs.getD i 0) ∧ t'.mask = M ∧ t'.led = t.led ∧ t'.plain = t.plain := by
  obtain ⟨owner, e, W⟩ := lay_all F hn
  have r := ris_live (fun j => owner.getD j none) (List.range (M + 1)) (by
    unfold Ris
    exact List.pairwise_lt_range)
  have r1 : Ris ((liveOf M owner).map (·.1)) := r.1
  have r2 : ∀ x ∈ (liveOf M owner).map (·.1), x ∈ List.range (M + 1) := r.2
  have live : ∀ {j k : Nat}, (j, k) ∈ liveOf M owner ↔ j ≤ M ∧ oAt owner j = some k := mem_live W.sz
  have hlen : (liveOf M owner).length = gs.size := by
    obtain ⟨ps, p1, p2⟩ := W.ps
    have nd1 : ((liveOf M owner).map (·.1)).Nodup := List.Pairwise.imp (fun hh => Nat.ne_of_lt hh) r1
    have u1 := nat_nodup_len ((liveOf M owner).map (·.1)) ps nd1 fun x hx => by
      obtain ⟨⟨y, k⟩, hq, rfl⟩ := List.mem_map.mp hx
      obtain ⟨b1, b2⟩ := live.1 hq
      exact p2 y b1 (by rw [b2]; simp)
    have u2 := nat_nodup_len (List.range gs.size) ((liveOf M owner).map (·.2)) List.nodup_range fun k hk => by
      obtain ⟨j, b1, b2⟩ := W.all k (by simpa using hk)
      exact List.mem_map.mpr ⟨(j, k), live.2 ⟨b1, b2⟩, rfl⟩
    rw [List.length_map] at u1 u2
    rw [List.length_range] at u2
    have u3 : gs.toList.length = gs.size := Array.length_toList
    omega
  refine ⟨tabOf t M owner, ((liveOf M owner).map (·.2)).toArray, ?_, ?_, ⟨r1, rfl, ?_, F, fun x hx => ?_, fun i g j h1 h2 => ?_⟩, rfl, rfl, rfl⟩
  · rw [relaid_eq, hw, e]
    rfl
  · refine perm_range gs.size _ ?_ fun k hk => ?_
    · show ((liveOf M owner).map (·.2)).length = _
      rw [List.length_map, hlen]
    · obtain ⟨j, b1, b2⟩ := W.all k (by simpa using hk)
      exact List.mem_map.mpr ⟨(j, k), live.2 ⟨b1, b2⟩, rfl⟩
  · show ((liveOf M owner).map (·.1)).toArray.size = (((liveOf M owner).map (·.2)).map _).length
    simp
  · exact Nat.le_of_lt_succ (List.mem_range.mp (r2 x hx))
  · have h1' : (((liveOf M owner).map (·.2)).map fun i => gs.getD i 0)[i]? = some g := h1
    have h2' : ((liveOf M owner).map (·.1))[i]? = some j := h2
    rw [List.getElem?_map] at h2'
    rw [List.getElem?_map, List.getElem?_map] at h1'
    obtain ⟨⟨y, k⟩, hq, ey⟩ := Option.map_eq_some_iff.mp h2'
    obtain rfl : y = j := ey
    rw [hq] at h1'
    obtain rfl : gs.getD k 0 = g := Option.some.inj h1'
    obtain ⟨b1, b2⟩ := live.1 (List.mem_of_getElem? hq)
    obtain ⟨g0, K, a1, a2, a3⟩ := W.at_ y k b1 b2
    have e0 : gs.getD k 0 = g0 := by
      rw [Array.getD_eq_getD_getElem?, ← Array.getElem?_toList, a1]
      rfl
    rw [e0]
    refine ⟨K, a2, fun k' hk' => ?_⟩
    show way M g0 k' ∈ (liveOf M owner).map (·.1)
    obtain ⟨k2, z⟩ := Option.ne_none_iff_exists'.mp (a3 k' hk')
    exact List.mem_map.mpr ⟨(way M g0 k', k2), live.2 ⟨way_in g0 k', z⟩, rfl⟩
theorem size_308 : SetTable.sizeAbove (SetTable.grown 77) = 512 := by decide +kernel
end StB
set_option Elab.async false
set_option linter.all false
set_option maxRecDepth 100000
set_option maxHeartbeats 4000000
/-! # sets of up to 200 tuples of ints: searched and filled -/
namespace StB
open PySem PySem.Spec PyProof.Rows L2
abbrev Row := Addr × List Int
/-- the set at a holds the rows L -/
structure Sb (P : Program) (w : World) (h : Heap) (a : Addr) (L : List Row) (es : Array (Int × Value)) (ep : Nat) (t : SetTable) : Prop where
  obj : ∃ o, h.get? a = some o ∧ o.ExactSet ∧ o.data = .set es ep t
  ent : es.toList = rowsOf P w L
  tab : Tab t (L.map fun r => thash P w r.2)
  one : (L.map (·.2)).Nodup
  are : ∀ r ∈ L, IsT P w h r.2 r.1
  plain : t.plain = true
  led : w.params.followText "set-order" = true ∨ t.led = true
  room : L.length * 5 < t.mask * 3
  msk : t.mask = 7 ∨ t.mask = 31 ∨ t.mask = 127 ∨ t.mask = 511
section
variable {P : Program} {w : World} {A : Around} {E : Value → Shared → Prop} {s : Shared} {a : Addr} {L : List Row} {es : Array (Int × Value)} {ep : Nat} {t : SetTable}
theorem ent_size {L : List Row} {es : Array (Int × Value)} (h : es.toList = rowsOf P w L) : es.size = L.length := by
  have z := congrArg List.length h
  unfold rowsOf at z
  simpa using z
theorem ent_at {L : List Row} {es : Array (Int × Value)} (h : es.toList = rowsOf P w L) {i : Nat} {r : Row} (hr : L[i]? = some r) : es[i]? = some (thash P w r.2, Value.ref r.1) := by
  rw [← Array.getElem?_toList, h]
  unfold rowsOf
  rw [List.getElem?_map, hr]
  rfl
theorem Sb.fit (R : Sb P w s.heap a L es ep t) : t.fits es.size = true := by
  have z1 := R.tab.many
  have z2 := ent_size R.ent
  have z3 := R.room
  rw [List.length_map] at z1
  unfold SetTable.fits SetTable.fill
  rw [R.tab.clean, Bool.and_eq_true, beq_iff_eq, decide_eq_true_eq]
  constructor
  · omega
  · show t.place.size + 0 ≤ t.mask
    omega
theorem Sb.stays (R : Sb P w s.heap a L es ep t) : ¬t.gaveWay = true := by
  unfold SetTable.gaveWay
  rw [R.tab.full.odd]
  decide
theorem no_dummy (m : Nat) : ∀ (n : Nat) (p : SetTable.Probe), p.dummy = none → (nth m p n).dummy = none
  | 0, _, h => h
  | n + 1, p, h => no_dummy m n (adv m p) (by
    unfold adv
    split <;> exact h)
abbrev pr0 (m : Nat) (g : Int) : SetTable.Probe := runAt m (SetTable.bits g % (m + 1)) (SetTable.bits g)
/-- a search from the c-th step of its way on -/
theorem look (R : Sb P w s.heap a L es ep t) {x : Addr} {k : List Int} {adding : Bool} (hx : IsT P w s.heap k x) (hu : A.units < cLine) {K : Nat} (hKf : K < 10 * SetTable.turns t.mask)
    (hK : way t.mask (thash P w k) K ∉ t.place.toList) (hKb : ∀ c, c < K → way t.mask (thash P w k) c ∈ t.place.toList) {Q : SetFound → Shared → Prop}
    (yes : k ∈ L.map (·.2) → ∀ v, (adding = false → v ≠ none) → Q (.there v) s) (no : k ∉ L.map (·.2) → Q (.free (way t.mask (thash P w k) K) false) s) :
    ∀ (f c : Nat) (stand : Option SetTable.Probe), stand.getD (t.probeStart (thash P w k)) = nth t.mask (pr0 t.mask (thash P w k)) c → c ≤ K → K - c < f →
      (∀ (i : Nat) r, L[i]? = some r → r.2 = k → ∃ c', c ≤ c' ∧ c' < K ∧ t.place.toList[i]? = some (way t.mask (thash P w k) c')) →
      wpAny (model P w) A (setSearchFrom a (.ref x) (thash P w k) adding f stand) Q E s
  | 0, c, stand, _, _, hf, _ => absurd hf (Nat.not_lt_zero _)
  | f + 1, c, stand, hst, hc, hf, hre => by
    obtain ⟨o, hob, hex, hdat⟩ := R.obj
    have stt : ∀ {α : Type} {g : (Array (Int × Value) × Nat × SetTable) → Sem α} {Q' : α → Shared → Prop}, wpAny (model P w) A (g (es, ep, t)) Q' E s → wpAny (model P w) A (setState a >>= g) Q' E s := fun z => wpAny_bind (wpAny_setState_of hob hdat R.fit z)
    have shift : ∀ q, nth t.mask (nth t.mask (pr0 t.mask (thash P w k)) c) q = nth t.mask (pr0 t.mask (thash P w k)) (c + q) := fun q => (nth_add t.mask c _ q).symm
    have wayq : ∀ q, (nth t.mask (nth t.mask (pr0 t.mask (thash P w k)) c) q).j = way t.mask (thash P w k) (c + q) := fun q => congrArg SetTable.Probe.j (shift q)
    have eK : c + (K - c) = K := by omega
    have spec := go_spec t R.tab.up R.tab.clean (fun i => (es[i]?.map (·.1)).getD 0) (thash P w k) (10 * SetTable.turns t.mask) (K - c) _ (no_dummy t.mask c _ rfl) (by omega)
      (fun q hq => by rw [wayq]; exact hKb (c + q) (by omega)) (by rw [wayq, eK]; exact hK)
    have hashIs : ∀ (i : Nat) r, L[i]? = some r → (fun i => (es[i]?.map (·.1)).getD 0) i = thash P w r.2 := fun i r hr => by
      show (es[i]?.map (·.1)).getD 0 = _
      rw [ent_at R.ent hr]
      rfl
    rw [setSearchFrom_succ]
    refine stt ?_
    dsimp only
    refine wp_if_neg R.stays ?_
    try refine wpAny_bind (wpAny_pure ?_)
    rcases spec with ⟨q, i, hq, hi, hh, hno, hpr⟩ | ⟨hno, hpr⟩
    · have met : t.probe (fun i => (es[i]?.map (·.1)).getD 0) (thash P w k) (stand.getD (t.probeStart (thash P w k))) = some (.candidate (way t.mask (thash P w k) (c + q)) i (nth t.mask (pr0 t.mask (thash P w k)) (c + (q + 1)))) := by
        rw [hst, ← wayq, ← shift]
        exact hpr
      rw [met]
      dsimp only
      rw [wayq] at hi
      have hil : i < L.length := by
        have z1 := (List.getElem?_eq_some_iff.mp hi).1
        have z2 := R.tab.len
        rw [List.length_map] at z2
        omega
      obtain ⟨r, hr⟩ : ∃ r, L[i]? = some r := ⟨_, List.getElem?_eq_getElem hil⟩
      have hmem := List.mem_of_getElem? hr
      have hrt := R.are r hmem
      have hslot : t.slot (way t.mask (thash P w k) (c + q)) = .live i := slot_live R.tab.up hi
      have rest : wpAny (model P w) A (searchRest a (.ref x) (thash P w k) adding f es t (way t.mask (thash P w k) (c + q)) i (nth t.mask (pr0 t.mask (thash P w k)) (c + (q + 1)))) Q E s := by
        unfold searchRest
        rw [ent_at R.ent hr]
        dsimp only
        refine wpAny_bind (wpAny_holding (wpAny_eqBool_tuple hu hrt hx ?_))
        refine stt ?_
        dsimp only
        by_cases hkk : r.2 = k
        · have hin : k ∈ L.map (·.2) := List.mem_map.mpr ⟨r, hmem, hkk⟩
          cases adding with
          | true =>
            refine wp_if_pos (by simp [hkk]) ?_
            exact wpAny_pure (yes hin none fun e => by cases e)
          | false =>
            refine wp_if_neg (by simp) ?_
            try refine wpAny_bind (wpAny_pure ?_)
            rw [sameMem]
            dsimp only
            simp only [if_true, hslot, ent_at R.ent hr]
            refine wpAny_bind ?_
            refine wpAny_isSame_ref_self ?_
            refine wpAny_bind (wpAny_pure ?_)
            simp only [if_true]
            refine wp_if_pos (by simp [hkk]) ?_
            exact wpAny_pure (yes hin (some i) fun _ e => by cases e)
        · refine wp_if_neg (by simp [hkk]) ?_
          try refine wpAny_bind (wpAny_pure ?_)
          rw [sameMem]
          dsimp only
          simp only [if_true, hslot, ent_at R.ent hr]
          refine wpAny_bind ?_
          refine wpAny_isSame_ref_self ?_
          refine wpAny_bind (wpAny_pure ?_)
          simp only [if_true]
          refine wp_if_neg (by simp [hkk]) ?_
          refine look R hx hu hKf hK hKb yes no f (c + (q + 1)) _ rfl (by omega) (by omega) fun i0 r0 h0 hk0 => ?_
          obtain ⟨c', a1, a2, a3⟩ := hre i0 r0 h0 hk0
          refine ⟨c', ?_, a2, a3⟩
          rcases Nat.lt_trichotomy c' (c + q) with z | z | z
          · refine absurd ((hashIs i0 r0 h0).trans (congrArg (thash P w) hk0)) (hno (c' - c) i0 (by omega) ?_)
            rw [wayq, show c + (c' - c) = c' by omega]
            exact a3
          · rw [z] at a3
            have z2 := slot_live R.tab.up a3
            rw [hslot] at z2
            cases z2
            rw [hr] at h0
            cases h0
            exact absurd hk0 hkk
          · omega
      by_cases hled : t.led = true
      · refine wp_if_neg (by simp [hled]) ?_
        try refine wpAny_bind (wpAny_pure ?_)
        exact rest
      · refine wp_if_pos (by simp [hled]) ?_
        refine wpAny_bind (seen_tup hx (fun y hy => ?_) ?_)
        · obtain ⟨e, he, ee⟩ := List.mem_map.mp hy
          have he2 : e ∈ es.toList := by
            have z : e ∈ es ∧ e.1 = thash P w k := by simpa using he
            simpa using z.1
          rw [R.ent] at he2
          obtain ⟨r2, hr2, e2⟩ := List.mem_map.mp he2
          exact ⟨r2.2, r2.1, by rw [← ee, ← e2], R.are r2 hr2⟩
        · refine wp_if_neg (by decide) ?_
          try refine wpAny_bind (wpAny_pure ?_)
          exact rest
    · have met : t.probe (fun i => (es[i]?.map (·.1)).getD 0) (thash P w k) (stand.getD (t.probeStart (thash P w k))) = some (.empty (way t.mask (thash P w k) K) none) := by
        have e2 : way t.mask (thash P w k) K = (nth t.mask (nth t.mask (pr0 t.mask (thash P w k)) c) (K - c)).j := by rw [wayq, eK]
        rw [hst, e2]
        exact hpr
      rw [met]
      dsimp only
      refine wpAny_pure (no fun hm => ?_)
      obtain ⟨r0, h0, hk0⟩ := List.mem_map.mp hm
      obtain ⟨i0, hi0, e0⟩ := List.getElem_of_mem h0
      have h00 : L[i0]? = some r0 := by rw [List.getElem?_eq_getElem hi0, e0]
      obtain ⟨c', a1, a2, a3⟩ := hre i0 r0 h00 hk0
      refine absurd ((hashIs i0 r0 h00).trans (congrArg (thash P w) hk0)) (hno (c' - c) i0 (by omega) ?_)
      rw [wayq, show c + (c' - c) = c' by omega]
      exact a3
theorem search (R : Sb P w s.heap a L es ep t) {x : Addr} {k : List Int} {adding : Bool} (hx : IsT P w s.heap k x) (hu : A.units < cLine) {Q : SetFound → Shared → Prop}
    (yes : k ∈ L.map (·.2) → ∀ v, (adding = false → v ≠ none) → Q (.there v) s)
    (no : ∀ K, k ∉ L.map (·.2) → way t.mask (thash P w k) K ∉ t.place.toList → (∀ c, c < K → way t.mask (thash P w k) c ∈ t.place.toList) → Q (.free (way t.mask (thash P w k) K) false) s) :
    wpAny (model P w) A (setSearch a (.ref x) (thash P w k) adding) Q E s := by
  have hroom := R.room
  have hsm := R.tab.full.small
  obtain ⟨K, hKf, hK, hKb⟩ := R.tab.free (by rw [List.length_map]; omega) (thash P w k)
  have hbig : K < 100000 := by
    unfold SetTable.turns at hKf
    omega
  unfold setSearch
  refine look R hx hu hKf hK hKb yes (fun hn => no K hn hK hKb) 100000 0 none rfl (Nat.zero_le _) (by omega) fun i r hr hk => ?_
  have hi : (L.map fun r => thash P w r.2)[i]? = some (thash P w k) := by rw [List.getElem?_map, hr, ← hk]; rfl
  have hil : i < t.place.toList.length := by
    have z1 := (List.getElem?_eq_some_iff.mp hr).1
    have z2 := R.tab.len
    rw [List.length_map] at z2
    omega
  obtain ⟨c, hc, e⟩ := R.tab.ahead hK hi (List.getElem?_eq_getElem hil)
  exact ⟨c, Nat.zero_le _, hc, by rw [List.getElem?_eq_getElem hil, e]⟩
/-- is it there? -/
theorem find (R : Sb P w s.heap a L es ep t) {x : Addr} {k : List Int} (hx : IsT P w s.heap k x) (hu : A.units < cLine) {Q : Option Nat → Shared → Prop}
    (yes : k ∈ L.map (·.2) → ∀ i, Q (some i) s) (no : k ∉ L.map (·.2) → Q none s) : wpAny (model P w) A (setFind a (.ref x) (thash P w k)) Q E s := by
  obtain ⟨o, hob, hex, hdat⟩ := R.obj
  unfold setFind
  rw [show (100000 : Nat) = 99999 + 1 from rfl]
  unfold setFindIn
  refine wpAny_bind (wpAny_setState_of hob hdat R.fit ?_)
  dsimp only
  refine wp_if_neg (by simp [byScan, Value.scannable]) ?_
  try refine wpAny_bind (wpAny_pure ?_)
  refine wpAny_bind (search R hx hu (fun hm v hv => ?_) fun K hm _ _ => ?_)
  · dsimp only
    obtain ⟨i, rfl⟩ := Option.ne_none_iff_exists'.mp (hv rfl)
    exact wpAny_pure (yes hm i)
  · dsimp only
    exact wpAny_pure (no hm)
end
end StB
set_option Elab.async false
set_option linter.all false
set_option maxRecDepth 100000
set_option maxHeartbeats 8000000
/-! # sets of up to 200 tuples of ints: set(xs) -/
namespace StB
open PySem PySem.Spec PyProof.Rows L2
section
variable {P : Program} {w : World} {A : Around} {E : Value → Shared → Prop} {s : Shared} {a : Addr} {L : List Row} {es : Array (Int × Value)} {ep : Nat} {t : SetTable}
theorem relay {o : Obj} (hob : s.heap.get? a = some o) (hex : o.ExactSet) (hdat : o.data = .set es ep t) (hent : es.toList = rowsOf P w L) (T : Tab t (L.map fun r => thash P w r.2)) (hroom : es.size ≤ t.mask)
    (one : (L.map (·.2)).Nodup) (are : ∀ r ∈ L, IsT P w s.heap r.2 r.1) (pl : t.plain = true) (ld : w.params.followText "set-order" = true ∨ t.led = true) {wanted M : Nat}
    (hw : SetTable.sizeAbove wanted - 1 = M) (F : Full M) (hM : M = 7 ∨ M = 31 ∨ M = 127 ∨ M = 511) (hn : L.length * 5 < M * 3) {Q : Unit → Shared → Prop}
    (hQ : ∀ h' L' es' ep' t', Heap.SameBut a s.heap h' → Sb P w h' a L' es' ep' t' → L'.Perm L → Q () { s with heap := h' }) : wpAny (model P w) A (setRelay a wanted) Q E s := by
  have hsz := ent_size hent
  have hmany : t.place.size = L.length := by have z := T.many; rw [List.length_map] at z; exact z
  have hfits : t.fits es.size = true := by
    unfold SetTable.fits SetTable.fill
    rw [T.clean, Bool.and_eq_true, beq_iff_eq, decide_eq_true_eq]
    constructor
    · omega
    · show t.place.size + 0 ≤ t.mask
      omega
  obtain ⟨t', order, e, hp, T', em, el, epl⟩ := anew (t := t) (gs := es.map (·.1)) hw F (by rw [Array.size_map, hsz]; omega)
  rw [Array.size_map, hsz] at hp
  obtain ⟨L2, r1, r2, r3⟩ := order_rows L es order hent hp
  rw [← r3] at T'
  have hs2 := ent_size r1
  rw [r2.length_eq] at hs2
  have hsA : SetTable.sizeAbove wanted ≤ 512 := by omega
  rw [setRelay_eq]
  refine wpAny_bind (wpAny_setState_of hob hdat hfits ?_)
  dsimp only
  refine wp_if_neg (by rw [sizeLine_eq]; omega) ?_
  try refine wpAny_bind (wpAny_pure ?_)
  rw [e]
  dsimp only
  refine wpAny_bind ?_
  refine wp_if_neg (by rw [hs2, hsz]; simp) ?_
  try refine wpAny_bind (wpAny_pure ?_)
  try refine wpAny_bind (wpAny_pure ?_)
  refine wpAny_pure ?_
  dsimp only
  refine wpAny_storeSet_of hob hdat ?_ (by rw [hs2, sizeLine_eq]; omega)
  have sb : Heap.SameBut a s.heap (s.heap.update a (Obj.putSet (order.filterMap (es[·]?)) t')) := Heap.SameBut.update ..
  refine hQ _ L2 (order.filterMap (es[·]?)) (ep + 1) t' sb ⟨⟨_, store_at hob hdat, ⟨hex.1, hex.2.1, hex.2.2⟩, rfl⟩, r1, T', (r2.map (·.2)).nodup_iff.mpr one, fun r hr => isT_same (are r (r2.mem_iff.mp hr)) hob hdat sb, ?_, ?_, ?_, ?_⟩ r2
  · rw [epl]; exact pl
  · rw [el]; exact ld
  · rw [r2.length_eq, em]; exact hn
  · rw [em]; exact hM
/-- one added -/
theorem add (R : Sb P w s.heap a L es ep t) {x : Addr} {k : List Int} (hx : IsT P w s.heap k x) (hu : A.units < cLine) (hfew : L.length + 1 < 200) {Q : Bool → Shared → Prop}
    (hQ : ∀ b h' L' es' ep' t', Heap.SameBut a s.heap h' → Sb P w h' a L' es' ep' t' → (k ∈ L.map (·.2) → L' = L) → (k ∉ L.map (·.2) → L'.Perm ((x, k) :: L)) → Q b { s with heap := h' }) :
    wpAny (model P w) A (setAddHashed a (.ref x) (thash P w k)) Q E s := by
  obtain ⟨o, hob, hex, hdat⟩ := R.obj
  have hsz := ent_size R.ent
  have hroom := R.room
  unfold setAddHashed
  refine wpAny_holding ?_
  rw [show (100000 : Nat) = 99999 + 1 from rfl, setAddHashedIn_succ]
  refine wpAny_bind (wpAny_setState_of hob hdat R.fit ?_)
  dsimp only
  refine wp_if_neg (by simp [byScan, Value.scannable]) ?_
  try refine wpAny_bind (wpAny_pure ?_)
  refine wpAny_bind (search R hx hu (fun hm v _ => ?_) fun K hm hK hb => ?_)
  · dsimp only
    exact wpAny_pure (hQ false s.heap L es ep t (Heap.SameBut.refl a s.heap) R (fun _ => rfl) fun z => absurd hm z)
  · dsimp only
    refine wpAny_bind (wpAny_setState_of hob hdat R.fit ?_)
    dsimp only
    obtain ⟨p, hp⟩ : ∃ p, SetTable.below t.place (way t.mask (thash P w k) K) = p := ⟨_, rfl⟩
    obtain ⟨q1, q2, q3, q4, q5, q6, q7⟩ := R.tab.more hK hb hp
    obtain ⟨⟨t1, p1⟩, ept⟩ : ∃ pt, t.put (way t.mask (thash P w k) K) = pt := ⟨_, rfl⟩
    rw [ept] at q1 q3 q4 q5 q6 q7 ⊢
    dsimp only at q1 q3 q4 q5 q6 q7 ⊢
    subst q1
    have hpl1 : t1.plain = true := by rw [q6]; exact R.plain
    first
      | (refine wpAny_bind ?_; refine wp_if_pos hpl1 ?_; refine hashBy_tup hx ?_)
      | refine wp_if_pos hpl1 (wpAny_bind (hashBy_tup hx ?_))
    simp only [if_true]
    rw [List.length_map] at q2 q7
    have hent1 : (SetTable.insertAt es p1 (thash P w k, Value.ref x)).toList = rowsOf P w (L.take p1 ++ (x, k) :: L.drop p1) := by
      rw [SetTable.toList_insertAt, rows_put, R.ent]
    have pm := put_perm L p1 (x, k)
    have hmap : (L.take p1 ++ (x, k) :: L.drop p1).map (fun r => thash P w r.2) = (L.map fun r => thash P w r.2).take p1 ++ thash P w k :: (L.map fun r => thash P w r.2).drop p1 := by
      rw [List.map_append, List.map_cons, List.map_take, List.map_drop]
    rw [← hmap] at q3
    have one1 : ((L.take p1 ++ (x, k) :: L.drop p1).map (·.2)).Nodup := by
      refine (pm.map (·.2)).nodup_iff.mpr ?_
      rw [List.map_cons]
      exact List.nodup_cons.mpr ⟨hm, R.one⟩
    have hlen : (L.take p1 ++ (x, k) :: L.drop p1).length = L.length + 1 := pm.length_eq
    generalize SetTable.insertAt es p1 (thash P w k, Value.ref x) = es1 at hent1 ⊢
    generalize L.take p1 ++ (x, k) :: L.drop p1 = L1 at pm hlen q3 one1 hent1
    have hsz1 := ent_size hent1
    refine wpAny_bind (wpAny_storeSet_of hob hdat ?_ (by rw [hsz1, hlen, sizeLine_eq]; omega))
    have sb : Heap.SameBut a s.heap (s.heap.update a (Obj.putSet es1 t1)) := Heap.SameBut.update ..
    have hob1 := store_at (es' := es1) (t' := t1) hob hdat
    have are1 : ∀ r ∈ L1, IsT P w (s.heap.update a (Obj.putSet es1 t1)) r.2 r.1 := fun r hr => by
      rcases List.mem_cons.mp (pm.mem_iff.mp hr) with rfl | hr
      · exact isT_same hx hob hdat sb
      · exact isT_same (R.are r hr) hob hdat sb
    generalize s.heap.update a (Obj.putSet es1 t1) = h1 at sb hob1 are1 ⊢
    have ld1 : w.params.followText "set-order" = true ∨ t1.led = true := by rw [q5]; exact R.led
    by_cases hf : t1.tooFull = true
    · have hfull : (L.length + 1) * 5 ≥ t.mask * 3 := by
        unfold SetTable.tooFull at hf
        rw [decide_eq_true_eq, q7, q4] at hf
        exact hf
      first
        | (refine wpAny_bind ?_; refine wp_if_pos (by simp [hf]) ?_)
        | (refine wp_if_pos (by simp [hf]) ?_; refine wpAny_bind ?_)
      rw [hsz]
      have go : ∀ M, SetTable.sizeAbove (SetTable.grown (L.length + 1)) - 1 = M → Full M → (M = 7 ∨ M = 31 ∨ M = 127 ∨ M = 511) → (L.length + 1) * 5 < M * 3 →
          wpAny (model P w) A (setRelay a (SetTable.grown (L.length + 1))) (fun _ s' => wpAny (model P w) A (pure true) Q E s') E { s with heap := h1 } := fun M m1 m2 m3 m4 => by
        refine relay (s := { s with heap := h1 }) hob1 ⟨hex.1, hex.2.1, hex.2.2⟩ rfl hent1 q3 (by rw [hsz1, hlen, q4]; rcases R.msk with e | e | e | e <;> omega) one1 are1 hpl1 ld1 m1 m2 m3 (by rw [hlen]; exact m4) fun h2 L2 es2 ep2 t2 sb2 R2 pm2 => ?_
        exact wpAny_pure (hQ true h2 L2 es2 ep2 t2 (sb.trans sb2) R2 (fun z => absurd z hm) fun _ => pm2.trans pm)
      rcases R.msk with e | e | e | e
      · have e4 : L.length = 4 := by omega
        exact go 31 (by rw [e4, size_20]) (full_old (.inr (.inl rfl))) (by simp) (by omega)
      · have e4 : L.length = 18 := by omega
        exact go 127 (by rw [e4, size_76]) (full_old (.inr (.inr rfl))) (by simp) (by omega)
      · have e4 : L.length = 76 := by omega
        exact go 511 (by rw [e4, size_308]) full_511 (by simp) (by omega)
      · omega
    · first
        | refine wp_if_neg (by simp [hf]) ?_
        | (refine wpAny_bind ?_; refine wp_if_neg (by simp [hf]) ?_; refine wpAny_pure ?_)
      refine wpAny_pure (hQ true h1 L1 es1 (ep + 1) t1 sb ⟨⟨_, hob1, ⟨hex.1, hex.2.1, hex.2.2⟩, rfl⟩, hent1, q3, one1, are1, hpl1, ld1, ?_, by rw [q4]; exact R.msk⟩ (fun z => absurd z hm) fun _ => pm)
      unfold SetTable.tooFull at hf
      rw [decide_eq_true_eq, q7] at hf
      rw [hlen]
      omega
theorem Sb.still {h h' : Heap} {a : Addr} {L : List Row} {es : Array (Int × Value)} {ep : Nat} {t : SetTable} (R : Sb P w h a L es ep t) (ha : ∀ o, h.get? a = some o → h'.get? a = some o) (ht : ∀ r ∈ L, IsT P w h' r.2 r.1) : Sb P w h' a L es ep t := by
  obtain ⟨o, ho, r⟩ := R.obj
  exact ⟨⟨o, ha o ho, r⟩, R.ent, R.tab, R.one, ht, R.plain, R.led, R.room, R.msk⟩
abbrev emptySet (w : World) : Obj := { cls := .type "set", dict := none, data := .set #[] 0 (.fresh 0 0 (!w.params.followText "set-order")) }
theorem sb_new {h : Heap} {a : Addr} (ho : h.get? a = some (emptySet w)) : Sb P w h a [] #[] 0 (.fresh 0 0 (!w.params.followText "set-order")) where
  obj := ⟨_, ho, ⟨rfl, rfl, rfl⟩, rfl⟩
  ent := rfl
  tab := ⟨List.Pairwise.nil, rfl, rfl, full_old (.inl rfl), fun x hx => (by cases hx), fun i g j hi => (by simp at hi)⟩
  one := List.nodup_nil
  are := fun r hr => (by cases hr)
  plain := rfl
  led := by
    cases hc : w.params.followText "set-order"
    · right
      rfl
    · left
      rfl
  room := by
    show 0 * 5 < 7 * 3
    decide
  msk := .inl rfl
/-- the loop of set.update -/
theorem update_loop {I : Addr} {fp wr : List Addr} {G : Array GenState → Array GenState → Prop} {n : Nat} {Pv : Nat → Value → Prop} {St : Nat → Shared → Prop} {R : Result → Shared → Prop}
    (W : WalksS P w A.in1 I fp wr G n Pv St) (S : Addr) (hSf : S ∉ fp) (ks : List Row) (hn : n = ks.length) (hfew : ks.length < 200) (hval : ∀ i v, Pv i v → ∃ r, ks[i]? = some r ∧ v = .ref r.1)
    (h0 : Heap) (hk : ∀ r ∈ ks, IsT P w h0 r.2 r.1) (hS0 : h0.get? S = none) (hw0 : ∀ b ∈ wr, h0.get? b = none) (hu : A.in1.units < cLine) :
    ∀ (m i : Nat) (s : Shared), n - i = m → i ≤ n → St i s → (∀ b o, h0.get? b = some o → s.heap.get? b = some o) → (∃ L es ep t, Sb P w s.heap S L es ep t ∧ Got ks i L) →
      (∀ s' L es ep t, Moved (S :: wr) G s s' → Sb P w s'.heap S L es ep t → Got ks n L → (∀ b o, h0.get? b = some o → s'.heap.get? b = some o) → R (.ok (.ret .none)) s') →
      codeAny (model P w) A (.builtin "set.update.loop" ⟨[.ref S, .ref I], []⟩) R s := by
  have wide : ∀ b ∈ wr, b ∈ S :: wr := fun b hb => List.mem_cons_of_mem _ hb
  have hSw : S ∉ wr := fun z => hSf (W.sub _ z)
  have old : ∀ {u u' : Shared}, Moved wr G u u' → (∀ b o, h0.get? b = some o → u.heap.get? b = some o) → ∀ b o, h0.get? b = some o → u'.heap.get? b = some o := fun {u u'} mv hh b o e =>
    mv.heap b o (fun hb => by rw [hw0 b hb] at e; cases e) (hh b o e)
  have rows : ∀ {i : Nat} {L : List Row}, Got ks i L → ∀ r ∈ L, r ∈ ks := fun g r hr => List.mem_of_mem_take (g.sub r hr)
  intro m
  induction m with
  | zero =>
    rintro i s hm hi hst hh ⟨L, es, ep, t, hS, g⟩ hR
    obtain rfl : i = n := by omega
    refine codeAny_builtin F.entry_set_update_loop ?_
    rw [Around.under_plainId F.plain_set_update_loop _]
    show wpAny _ A.in1 (pyNext (.ref I) >>= _) _ _ s
    refine wpAny_bind (W.done s _ _ hst fun s' mv => ?_)
    show wpAny _ A.in1 (ret Value.none) _ _ s'
    have hh' := old mv hh
    exact wpAny_pure (hR s' L es ep t (mv.mono wide) (hS.still (fun o e => mv.heap S o hSw e) fun r hr => isT_keep (hk r (rows g r hr)) hh') g hh')
  | succ m ih =>
    rintro i s hm hi hst hh ⟨L, es, ep, t, hS, g⟩ hR
    have hlt : i < n := by omega
    refine codeAny_builtin F.entry_set_update_loop ?_
    rw [Around.under_plainId F.plain_set_update_loop _]
    show wpAny _ A.in1 (pyNext (.ref I) >>= _) _ _ s
    refine wpAny_bind (W.item i s _ _ hlt hst fun v s' hP hst' mv => ?_)
    obtain ⟨r, hr, rfl⟩ := hval i v hP
    have hh' := old mv hh
    have hS' : Sb P w s'.heap S L es ep t := hS.still (fun o e => mv.heap S o hSw e) fun q hq => isT_keep (hk q (rows g q hq)) hh'
    have hx : IsT P w s'.heap r.2 r.1 := isT_keep (hk r (List.mem_of_getElem? hr)) hh'
    show wpAny _ A.in1 (holding [Value.ref r.1] (setAdd S (.ref r.1)) >>= _) _ _ s'
    refine wpAny_bind (wpAny_holding ?_)
    unfold setAdd
    refine wpAny_holding (wpAny_bind (wpAny_pyHash_tuple hu hx ?_))
    refine add (s := { s' with toks := s'.toks + (r.2.length + 1) }) hS' hx hu (by have := g.len; omega) fun b h' L' es' ep' t' sb hS2 c1 c2 => ?_
    have g' : Got ks (i + 1) L' := by
      by_cases c : r.2 ∈ L.map (·.2)
      · rw [c1 c]; exact g.same hr c
      · exact g.more hr (c2 c)
    have hh2 : ∀ b o, h0.get? b = some o → h'.get? b = some o := fun b o e => (sb.2 b (fun z => by rw [z, hS0] at e; cases e)).trans (hh' b o e)
    refine wpAny_pure ⟨plainId_quiet F.plain_set_update_loop _, ih (i + 1) _ (by omega) hlt (W.frame _ s' _ _ hst' (Nat.le_add_right _ _) fun b hb o e => ?_) hh2 ⟨L', es', ep', t', hS2, g'⟩ fun s'' L2 es2 ep2 t2 mv2 hS'' g'' hh'' => ?_⟩
    · exact (sb.2 b (fun z : b = S => hSf (z ▸ hb))).trans e
    · refine hR s'' L2 es2 ep2 t2 (Moved.trans W.gtrans ((mv.mono wide).then_heap (Nat.le_add_right _ _) fun b o hb e => ?_) mv2) hS'' g'' hh''
      exact (sb.2 b (fun z : b = S => hb (z ▸ List.mem_cons_self))).trans e
end
end StB
set_option Elab.async false
set_option linter.all false
set_option maxRecDepth 100000
set_option maxHeartbeats 8000000
/-! # sets of up to 200 tuples of ints: one is in the other -/
namespace StB
open PySem PySem.Spec PyProof.Rows L2
theorem entry_eq : entryFor table "set.__eq__" = some Builtin.«frozenset.__eq__» :=
  entryFor_alias (id' := "frozenset.__eq__") (by kernel_rfl) rfl (by decide +kernel) (by kernel_rfl)
section
variable {P : Program} {w : World} {A : Around} {E : Value → Shared → Prop} {s : Shared} {a b : Addr} {L L2 : List Row} {es es2 : Array (Int × Value)} {ep ep2 : Nat} {t t2 : SetTable}
theorem Sb.entries (R : Sb P w s.heap a L es ep t) {Q : Array (Int × Value) → Shared → Prop} (h : Q es s) : wpAny (model P w) A (setEntries a) Q E s := by
  obtain ⟨o, hob, hex, hdat⟩ := R.obj
  exact wpAny_setEntries_of hob hdat R.fit h
theorem Sb.epoch (R : Sb P w s.heap a L es ep t) {Q : Nat → Shared → Prop} (h : Q ep s) : wpAny (model P w) A (setEpoch a) Q E s := by
  obtain ⟨o, hob, hex, hdat⟩ := R.obj
  exact wpAny_setEpoch_of hob hdat R.fit h
theorem Sb.is (R : Sb P w s.heap a L es ep t) : s.TypeIs (.ref a) "set" := by
  obtain ⟨o, hob, hex, hdat⟩ := R.obj
  exact ⟨o, hob, hex.1⟩
/-- a walk over the set: its entries in some order -/
theorem Sb.walk (R : Sb P w s.heap a L es ep t) {Q : List (Int × Value) → Shared → Prop} (h : ∀ l, l.Perm (rowsOf P w L) → Q l s) : wpAny (model P w) A (Builtin.Frozenset.walk a) Q E s := by
  obtain ⟨o, hob, hex, hdat⟩ := R.obj
  unfold Builtin.Frozenset.walk setWalk
  refine wpAny_bind ?_
  refine wpAny_bind (wpAny_setState_of hob hdat R.fit ?_)
  dsimp only
  refine wpAny_bind (wpAny_byText ?_)
  by_cases c : w.params.followText "set-order" = true
  · rw [if_pos c]
    refine wpAny_bind (wpAny_askSetting ?_)
    refine wpAny_pure (wpAny_pure (h _ ?_))
    rw [← R.ent]
    exact pick_perm _ _
  · have hl : t.led = true := R.led.resolve_left c
    rw [if_neg c]
    try refine wpAny_bind (wpAny_pure ?_)
    have hd : ∀ {α : Type} {x y : Sem α} {Q' : α → Shared → Prop}, wpAny (model P w) A y Q' E s → wpAny (model P w) A (if (!t.plain && decide (es.size > 1)) = true then x else y) Q' E s := fun z => by
      rw [R.plain]
      exact z
    refine hd ?_
    try refine wpAny_bind (wpAny_pure ?_)
    refine wpAny_bind ?_
    show wpAny _ _ (if (!t.led && decide (es.size > 1)) = true then unsupported "set:maker-not-led" else pure ()) _ _ s
    rw [hl]
    refine wpAny_pure (wpAny_pure (wpAny_pure (h _ ?_)))
    rw [← R.ent]
theorem loud {k : List Int} {x : Addr} (hx : IsT P w s.heap k x) {Q : Bool → Shared → Prop} (h : Q false s) : wpAny (model P w) A (Builtin.Frozenset.quietEq (.ref x)) Q E s := by
  unfold Builtin.Frozenset.quietEq
  refine wpAny_bind (wpAny_specialOf hx.typeIs F.slot_tuple_eq.lookup ?_)
  exact wpAny_pure h
/-- is a's each row in b? -/
theorem sub_of (R : Sb P w s.heap a L es ep t) (R2 : Sb P w s.heap b L2 es2 ep2 t2) (hu : A.units < cLine) (hne : L ≠ []) {id : String} {Q : Bool → Shared → Prop} (h : Q (decide (L.length ≤ L2.length) && decide (∀ k ∈ L.map (·.2), k ∈ L2.map (·.2))) s) :
    wpAny (model P w) A (Builtin.Frozenset.subsetOf id a b) Q E s := by
  unfold Builtin.Frozenset.subsetOf Builtin.Frozenset.sizeOf
  refine wpAny_bind (wpAny_bind (R.entries (wpAny_pure ?_)))
  refine wpAny_bind (wpAny_bind (R2.entries (wpAny_pure ?_)))
  rw [ent_size R.ent, ent_size R2.ent]
  by_cases hl : L.length > L2.length
  · rw [if_pos hl]
    rw [decide_eq_false (by omega)] at h
    exact wpAny_pure h
  rw [if_neg hl]
  rw [decide_eq_true (by omega), Bool.true_and] at h
  try refine wpAny_bind (wpAny_pure ?_)
  refine wpAny_bind (R.epoch ?_)
  have walked : ∀ {Q' : List (Int × Value) → Shared → Prop}, (∀ l, l.Perm (rowsOf P w L) → Q' l s) → wpAny (model P w) A (Builtin.Frozenset.walkUnseen a b) Q' E s := fun {Q'} z => by
    unfold Builtin.Frozenset.walkUnseen
    refine wpAny_bind (R.entries ?_)
    refine wpAny_bind (R2.entries ?_)
    rw [R.ent]
    cases L with
    | nil => exact absurd rfl hne
    | cons r L =>
      show wpAny _ _ (forIn ((thash P w r.2, Value.ref r.1) :: (rowsOf P w L ++ es2.toList)) _ _ >>= _) _ _ s
      rw [List.forIn_cons]
      refine wpAny_bind (wpAny_bind ?_)
      dsimp only
      refine wpAny_bind (loud (R.are r List.mem_cons_self) ?_)
      simp only [Bool.not_false, if_true]
      refine wpAny_bind (R.walk fun l hl => ?_)
      exact wpAny_pure (wpAny_pure (wpAny_pure (z l hl)))
  refine wpAny_bind (walked fun l hl => ?_)
  refine wpAny_bind (wpAny_mono (wpAny_forIn_list _ (fun rest r s' => r.1 = none ∧ s' = s ∧ (∀ e ∈ rest, ∃ q ∈ L, e = (thash P w q.2, Value.ref q.1)) ∧ ((∀ e ∈ rest, ∀ q ∈ L, e = (thash P w q.2, Value.ref q.1) → q.2 ∈ L2.map (·.2)) → ∀ k ∈ L.map (·.2), k ∈ L2.map (·.2)))
    (fun r s' => s' = s ∧ ((r.1 = none ∧ ∀ k ∈ L.map (·.2), k ∈ L2.map (·.2)) ∨ (r.1 = some false ∧ ¬∀ k ∈ L.map (·.2), k ∈ L2.map (·.2)))) ?turn ?fin _ _ ⟨rfl, rfl, ?i1, ?i2⟩) ?post fun _ _ hh => hh)
  case turn =>
    rintro e rest r s' ⟨hr, rfl, hin, hrest⟩
    obtain ⟨q, hq, rfl⟩ := hin e List.mem_cons_self
    dsimp only
    refine wpAny_bind (wpAny_holding (find R2 (R.are q hq) hu (fun hm i => ?_) fun hm => ?_))
    · simp only [Option.isNone_some, Bool.false_eq_true, if_false]
      try refine wpAny_bind (wpAny_pure ?_)
      unfold Builtin.Frozenset.unchanged
      refine wpAny_bind (wpAny_bind (R.epoch ?_))
      simp only [bne_self_eq_false, Bool.false_eq_true, if_false]
      refine wpAny_pure (wpAny_pure ⟨rfl, rfl, fun e he => hin e (List.mem_cons_of_mem _ he), fun hall => hrest fun e he q' hq' eq' => ?_⟩)
      rcases List.mem_cons.mp he with rfl | he
      · have e1 : q.1 = q'.1 := by
          have := congrArg Prod.snd eq'
          exact Value.ref.inj this
        have e2 : q.2 = q'.2 := by
          have z := R.are q' hq'
          rw [← e1] at z
          exact (R.are q hq).inj z
        rw [← e2]
        exact hm
      · exact hall e he q' hq' eq'
    · simp only [Option.isNone_none, if_true]
      exact wpAny_pure ⟨rfl, .inr ⟨rfl, fun hall => hm (hall _ (List.mem_map.mpr ⟨q, hq, rfl⟩))⟩⟩
  case fin =>
    rintro r s' ⟨hr, rfl, _, hrest⟩
    exact ⟨rfl, .inl ⟨hr, hrest fun e he => by cases he⟩⟩
  case i1 =>
    intro e he
    have := (hl.mem_iff (a := e)).mp he
    unfold rowsOf at this
    obtain ⟨q, hq, rfl⟩ := List.mem_map.mp this
    exact ⟨q, hq, rfl⟩
  case i2 =>
    intro hall k hk
    obtain ⟨q, hq, rfl⟩ := List.mem_map.mp hk
    refine hall (thash P w q.2, Value.ref q.1) (hl.mem_iff.mpr ?_) q hq rfl
    unfold rowsOf
    exact List.mem_map.mpr ⟨q, hq, rfl⟩
  case post =>
    rintro ⟨r1, r2⟩ s' ⟨rfl, ⟨h1, h2⟩ | ⟨h1, h2⟩⟩
    · rw [decide_eq_true h2] at h
      obtain rfl : r1 = none := h1
      exact wpAny_pure h
    · rw [decide_eq_false h2] at h
      obtain rfl : r1 = some false := h1
      exact wpAny_pure h
/-- a == b, the body -/
theorem same_body (R : Sb P w s.heap a L es ep t) (R2 : Sb P w s.heap b L2 es2 ep2 t2) (hu : A.units < cLine) (hne : L ≠ []) {Q : Fin → Shared → Prop} (h : Q (.done (.ret (.bool (decide (L.length = L2.length) && decide (∀ k ∈ L.map (·.2), k ∈ L2.map (·.2)))))) s) :
    wpAny (model P w) A (Builtin.«frozenset.__eq__» ⟨[.ref a, .ref b], []⟩) Q E s := by
  show wpAny _ _ (Builtin.Frozenset.slot1 "__eq__" ⟨[.ref a, .ref b], []⟩ >>= _) _ _ s
  refine wpAny_bind ?_
  unfold Builtin.Frozenset.slot1 slotArgs
  simp only [List.isEmpty_nil, Bool.not_true, Bool.false_eq_true, ↓reduceIte, bind_assoc, List.length_cons, List.length_nil, bne_self_eq_false]
  refine wpAny_bind (wpAny_pure ?_)
  dsimp only
  refine wpAny_pure ?_
  dsimp only
  have isS : ∀ {c : Addr}, s.TypeIs (.ref c) "set" → ∀ {Q' : Bool → Shared → Prop}, Q' true s → wpAny (model P w) A (Builtin.Frozenset.isAnySet (.ref c)) Q' E s := fun {c} hc {Q'} z => by
    unfold Builtin.Frozenset.isAnySet
    show wpAny _ _ (isInstance (.ref c) (.type "set") >>= _) _ _ s
    refine wpAny_bind (wpAny_isInstance hc F.sub_set_set ?_)
    exact wpAny_pure z
  refine wpAny_bind (isS R2.is ?_)
  simp only [Bool.not_true, Bool.false_eq_true, ↓reduceIte]
  try refine wpAny_bind (wpAny_pure ?_)
  unfold Builtin.Frozenset.addrOf
  refine wpAny_bind (wpAny_pure ?_)
  try dsimp only
  try refine wpAny_bind (wpAny_pure ?_)
  try dsimp only
  unfold Builtin.Frozenset.sizeOf
  refine wpAny_bind (wpAny_bind (R.entries (wpAny_pure ?_)))
  refine wpAny_bind (wpAny_bind (R2.entries (wpAny_pure ?_)))
  rw [ent_size R.ent, ent_size R2.ent]
  refine wpAny_bind ?_
  by_cases hl : L.length = L2.length
  · rw [hl]
    simp only [bne_self_eq_false, Bool.false_eq_true, ↓reduceIte]
    try refine wpAny_bind (wpAny_pure ?_)
    refine wpAny_bind ?_
    show wpAny _ _ (isInstance (.ref a) (.type "frozenset") >>= _) _ _ s
    refine wpAny_bind (wpAny_isInstance R.is F.sub_set_frozenset ?_)
    refine wpAny_pure ?_
    simp only [Bool.false_eq_true, ↓reduceIte]
    refine sub_of R R2 hu hne ?_
    rw [decide_eq_true hl] at h
    rw [decide_eq_true (by omega : L.length ≤ L2.length)]
    exact wpAny_pure h
  · have hb : (L.length != L2.length) = true := by simpa using hl
    rw [hb]
    simp only [↓reduceIte]
    rw [decide_eq_false hl] at h
    exact wpAny_pure (wpAny_pure h)
theorem same_of (R : Sb P w s.heap a L es ep t) (R2 : Sb P w s.heap b L2 es2 ep2 t2) (hu : A.units + 1 < cLine) (hne : L ≠ []) {Q : Value → Shared → Prop} (h : Q (.bool (decide (L.length = L2.length) && decide (∀ k ∈ L.map (·.2), k ∈ L2.map (·.2)))) s) :
    wpAny (model P w) A (compareOp .Eq (.ref a) (.ref b)) Q E s := by
  have e : compareOp .Eq (.ref a) (.ref b) = richCompare .Eq (.ref a) (.ref b) := rfl
  rw [e]
  refine wpAny_richCompare_same_room (op := .Eq) (T := "set") R.is R2.is F.slot_set_eq ?_ (Nat.lt_of_succ_lt hu)
  refine wpAny_call_entry F.slot_set_eq R.is entry_eq ?_ (F.args_set_eq_2 _ _)
  refine same_body R R2 (show A.units + 1 < cLine from hu) hne ⟨_, rfl, ?_, h⟩
  exact fun z => nomatch z
end
end StB
set_option Elab.async false
set_option linter.all false
set_option maxRecDepth 100000
set_option maxHeartbeats 16000000
/-! # rules: set(xs) of up to 199 tuples of ints, len and == of such sets -/
namespace StB
open PySem PySem.Spec PyProof.Rows L2
section
variable {P : Program} {w : World} {A : Around} {E : Value → Shared → Prop} {s : Shared}
/-- what set(xs) leaves -/
def Made (P : Program) (w : World) (s : Shared) (ks : List Row) (s' : Shared) : Prop :=
  ∃ h' tk L es ep t, s' = { s with heap := h', toks := tk } ∧ Sb P w h' s.heap.objs.size L es ep t ∧ Got ks ks.length L ∧ ∀ b o, s.heap.get? b = some o → h'.get? b = some o
theorem set_of_list {l : Addr} {items : Array Value} (ks : List Row) {Q : Value → Shared → Prop} (hh : A.handled = none) (hl : s.heap.IsList l items) (hit : items.toList = ks.map fun r => Value.ref r.1)
    (hk : ∀ r ∈ ks, IsT P w s.heap r.2 r.1) (hfew : ks.length < 200) (hu : A.units + 3 < cLine) (h : ∀ s', Made P w s ks s' → Q (.ref s.heap.objs.size) s') :
    wpAny (model P w) A (call (.type "set") [.ref l]) Q E s := by
  have hisz : items.size = ks.length := by
    have z := congrArg List.length hit
    simpa using z
  obtain ⟨cC, tC, mroC⟩ := F.called_set.mro
  have madeC := F.called_set.made
  have subC := F.called_set.sub
  have noType := F.called_set.notType
  have canMake := F.called_set.canCreate
  have typeC := F.typeCall_set_1 (.ref l)
  refine wpAny_call (codeAny_of_tree ?_)
  show wpAny _ _ (callAny (.type "set") _) _ _ _
  refine wpAny_pure ⟨Code.quiet_builtin _ (by decide +kernel), codeAny_builtin F.entry_type_call ?_⟩
  rw [Around.under_plain (weight_type_call_type "set" [.ref l] []) rfl]
  repeat (any_goals (first | assumption | wp_step))

  refine codeAny_mono (code_set_led1 (.ref l) (E := E) (Q₁ := fun v u => v = .ref s.heap.objs.size ∧ u = { s with heap := s.heap.push (emptySet w) }) ⟨rfl, rfl⟩) fun res u hres => ?_
  cases res with
  | error e => exact hres
  | ok fl =>
    cases fl with
    | ret v =>
      obtain ⟨rfl, rfl⟩ := hres
      have hS : (s.heap.push (emptySet w)).get? s.heap.objs.size = some (emptySet w) := Heap.get?_push_size _ rfl
      have hT : Shared.TypeIs { s with heap := s.heap.push (emptySet w) } (.ref s.heap.objs.size) "set" := ⟨_, hS, rfl⟩
      have initL := F.called_set.init.lookup
      have initB := F.called_set.init.bind (.ref s.heap.objs.size)
      repeat (any_goals (first | assumption | wp_step))

      refine codeAny_mono (codeAny_call_builtin (R := wants (fun r u => r = .none ∧ Made P w s ks u) E) F.called_set.init.plain F.entry_set_init (check_set_init_1 hT ?_)) fun res2 u2 hres2 => ?_
      · have hl1 : (s.heap.push (emptySet w)).IsList l items := hl.push _
        obtain ⟨ol, hol, hcl, nl, hdl⟩ := hl
        obtain ⟨ocls, odict, odata, oslots⟩ := ol
        simp only at hcl hdl
        subst hcl
        subst hdl
        have hol' : (s.heap.push (emptySet w)).get? l = some { cls := .type "list", dict := odict, data := .seq items nl, slots := oslots } := Heap.get?_push_of_some _ hol
        have subLS := F.sub_list_set
        have subLF := F.sub_list_frozenset
        have notDict : (Value.type "list" == Value.type "dict") = false := by decide
        unfold Builtin.«set.__init__» noKeywords Builtin.Frozenset.updateFrom
        generalize hIt : pyIter = It
        wp_walk
        subst hIt
        refine wpAny_pyIter_list hl1 ?_
        refine wpAny_bind (wpAny_runValue ?_)
        have hlS : l < s.heap.objs.size := Heap.lt_size hol
        have hz1 : (s.heap.push (emptySet w)).objs.size = s.heap.objs.size + 1 := Heap.size_push ..
        have lI : l ≠ (s.heap.push (emptySet w)).objs.size := by rw [hz1]; exact Nat.ne_of_lt (Nat.lt_succ_of_lt hlS)
        have hSf : s.heap.objs.size ∉ [(s.heap.push (emptySet w)).objs.size, l] := by
          rw [hz1]
          simp only [List.mem_cons, List.not_mem_nil, or_false, not_or]
          exact ⟨Nat.ne_of_lt (Nat.lt_succ_self _), Nat.ne_of_gt hlS⟩
        have hval : ∀ (i : Nat) (v : Value), items[i]? = some v → ∃ r, ks[i]? = some r ∧ v = .ref r.1 := fun i v hv => by
          have z : items.toList[i]? = some v := by rw [Array.getElem?_toList]; exact hv
          rw [hit, List.getElem?_map] at z
          obtain ⟨r, hr, e⟩ := Option.map_eq_some_iff.mp z
          exact ⟨r, hr, e.symm⟩
        have beyond : ∀ b, s.heap.objs.size ≤ b → s.heap.get? b = none := fun b hb => by
          cases z : s.heap.get? b with
          | none => rfl
          | some o =>
            exact absurd (Nat.lt_of_lt_of_le (Heap.lt_size z) hb) (Nat.lt_irrefl _)
        have hh3 : A.in1.in1.in1.handled = none := by simp [hh]
        refine update_loop ((Walks.list hh3 _ l lI items).toS) s.heap.objs.size hSf ks hisz hfew hval s.heap hk (beyond _ (Nat.le_refl _)) (fun b hb => beyond b (by rw [List.mem_singleton.mp hb, hz1]; exact Nat.le_succ _)) hu (items.size - 0) 0 _ (by omega) (Nat.zero_le _)
          ⟨⟨_, Heap.get?_push_size _ rfl, rfl, rfl⟩, (hl1.push _)⟩ (fun b o e => Heap.get?_push_of_some _ (Heap.get?_push_of_some _ e)) ?start ?done
        case start => exact ⟨[], #[], 0, _, sb_new (Heap.get?_push_of_some _ hS), Got.zero ks⟩
        case done =>
          intro s' L es ep t mv hS' g' keep
          obtain ⟨h', g2, d', tk', os'⟩ := s'
          obtain rfl : g2 = s.gens := mv.gens
          obtain rfl : d' = s.drawn := mv.drawn
          obtain rfl : os' = s.os := mv.os
          rw [hisz] at g'
          show wpAny _ _ _ _ _ _
          refine wpAny_pure ?_
          show wpAny _ _ (ret Value.none) _ _ _
          exact wpAny_pure ⟨rfl, h', tk', L, es, ep, t, rfl, hS', g', keep⟩
      · cases res2 with
        | error e => exact hres2
        | ok fl2 =>
          cases fl2 with
          | ret r =>
            obtain ⟨rfl, hm⟩ := hres2
            have hm' := hm
            obtain ⟨h', tk, L, es, ep, t, rfl, _⟩ := hm'
            repeat (any_goals (first | assumption | wp_step))
            exact h _ hm
          | _ => exact hres2.elim
    | _ => exact hres.elim
end
end StB
set_option Elab.async false
set_option linter.all false
set_option maxRecDepth 100000
set_option maxHeartbeats 8000000
/-! # the rules for sets of tuples of ints -/
namespace StB
open PySem PySem.Spec PyProof.Rows L2 Rel
/-- the set at a, without its tuples -/
def Sb0 (P : Program) (w : World) (h : Heap) (a : Addr) (L : List Row) : Prop :=
  ∃ es ep t, (∃ o, h.get? a = some o ∧ o.ExactSet ∧ o.data = .set es ep t) ∧ es.toList = rowsOf P w L ∧ Tab t (L.map fun r => thash P w r.2) ∧ (L.map (·.2)).Nodup ∧ t.plain = true ∧ (w.params.followText "set-order" = true ∨ t.led = true) ∧ L.length * 5 < t.mask * 3 ∧ (t.mask = 7 ∨ t.mask = 31 ∨ t.mask = 127 ∨ t.mask = 511)
def SetOb (P : Program) (w : World) (a : Addr) (L : List Row) : HO := .ext fun h => Sb0 P w h a L
theorem sb0_of {P : Program} {w : World} {h : Heap} {a : Addr} {L : List Row} {es : Array (Int × Value)} {ep : Nat} {t : SetTable} (R : Sb P w h a L es ep t) : Sb0 P w h a L :=
  ⟨es, ep, t, R.obj, R.ent, R.tab, R.one, R.plain, R.led, R.room, R.msk⟩
theorem sb0_full {P : Program} {w : World} {h : Heap} {a : Addr} {L : List Row} (R : Sb0 P w h a L) (ht : ∀ r ∈ L, IsT P w h r.2 r.1) : ∃ es ep t, Sb P w h a L es ep t := by
  obtain ⟨es, ep, t, h1, h2, h3, h4, h5, h6, h7, h8⟩ := R
  exact ⟨es, ep, t, h1, h2, h3, h4, ht, h5, h6, h7, h8⟩
theorem setOb_ok {P : Program} {w : World} {H : Hp} {h : Heap} {a : Addr} {L : List Row} (R : Sb0 P w h a L) : ObjOk P w H h a (SetOb P w a L) := by
  have ⟨es, ep, t, ⟨o, ho, r⟩, q⟩ := R
  refine ⟨R, ⟨o, ho⟩, fun g1 g2 p k => ?_⟩
  obtain ⟨es', ep', t', ⟨o', ho', r'⟩, q'⟩ := p
  exact ⟨es', ep', t', ⟨o', k o' ho', r'⟩, q'⟩
section
variable {X : Cx}
theorem inv_tup {pins : List (Addr × Obj)} {σ : L2.St} {H : Hp} {s : Shared} {p : Addr} {k : List Int} (I : Inv X pins σ H s) (h : tupI k (.ref p) H) : IsT X.prog X.w s.heap k p := by
  obtain ⟨q, e, hq⟩ := h
  cases e
  exact I.isT (SqT.of hq)
theorem rows_of {H : Hp} : ∀ {ys : List V} {zs : List (List Int)}, Paired (fun y z => tupI z y H) ys zs → ∃ ks : List Row, ys = ks.map (fun r => V.ref r.1) ∧ zs = ks.map (·.2) ∧ ∀ r ∈ ks, tupI r.2 (.ref r.1) H
  | _, _, .nil => ⟨[], rfl, rfl, fun r hr => by cases hr⟩
  | _, _, .cons (a := y) (b := z) h t => by
    obtain ⟨ks, e1, e2, e3⟩ := rows_of t
    obtain ⟨p, rfl, hp⟩ := h
    refine ⟨(p, z) :: ks, by rw [e1]; rfl, by rw [e2]; rfl, fun r hr => ?_⟩
    rcases List.mem_cons.mp hr with rfl | hr
    · exact ⟨p, rfl, hp⟩
    · exact e3 r hr
/-- set(xs), xs a list of tuples of ints -/
def rSetB (K : PySem.W.Frag) (P : Program) (w : World) : List V → Hp → VK → Prop := fun xs H Q => ∃ (l : Addr) (ys : List V) (zs : List (List Int)), xs = [V.ref l] ∧ SqL K H l ys ∧ Paired (fun y z => tupI z y H) ys zs ∧ zs.length < 200 ∧
  ∀ (a : Addr) (L : List Row), H a = none → (L.map (·.2)).Nodup → (∀ k, k ∈ L.map (·.2) ↔ k ∈ zs) → (∀ r ∈ L, tupI r.2 (.ref r.1) H) → Q (.ref a) (upd H a (SetOb P w a L))
theorem cr_setB (hc : X.calm = true) (hu : X.A.units + 64 < cLine) : CallR X (.type "set") (rSetB X.K X.prog X.w) := by
  intro pins s σ H xs us Q I r h
  obtain ⟨l, ys, zs, rfl, hl, hp, hf, q⟩ := h
  obtain ⟨ks, rfl, rfl, hks⟩ := rows_of hp
  rw [List.length_map] at hf
  rw [Vals.ref1 r]
  obtain ⟨its, rv, pl, hz⟩ := I.list hl
  refine set_of_list (P := X.prog) (w := X.w) ks (I.ok.hd hc) pl.isList (by simpa using refs_of_vals rv) (fun p hp => inv_tup I (hks p hp)) hf (by omega) fun s' hm => ?_
  obtain ⟨h', tk, L, es, ep, t, rfl, R, g, keep⟩ := hm
  refine ⟨.ref s.heap.objs.size, upd H s.heap.objs.size (SetOb X.prog X.w s.heap.objs.size L), I.laid (t' := tk) keep (Nat.le_refl _) (setOb_ok (sb0_of R)), rfl, q _ L (I.hok.fresh (Nat.le_refl _)) R.one (fun k => ⟨fun hk => ?_, fun hk => ?_⟩) fun r hr => ?_⟩
  · obtain ⟨r, hr, rfl⟩ := List.mem_map.mp hk
    exact List.mem_map.mpr ⟨r, List.mem_of_mem_take (g.sub r hr), rfl⟩
  · obtain ⟨r, hr, rfl⟩ := List.mem_map.mp hk
    exact g.all r (by rw [List.take_length]; exact hr)
  · exact hks r (List.mem_of_mem_take (g.sub r hr))
/-- len of such a set -/
def rLenB (P : Program) (w : World) : List V → Hp → VK → Prop := fun xs H Q => ∃ (a : Addr) (L : List Row), xs = [V.ref a] ∧ H a = some (SetOb P w a L) ∧ (∀ r ∈ L, tupI r.2 (.ref r.1) H) ∧ L.length < 100000 ∧ Q (.int (L.length : Int)) H
theorem cr_lenB : CallR X (.builtin "len") (rLenB X.prog X.w) := by
  intro pins s σ H xs us Q I r h
  obtain ⟨a, L, rfl, ha, ht, hl, q⟩ := h
  rw [Vals.ref1 r]
  have R0 : Sb0 X.prog X.w s.heap a L := (I.hok a _ ha).1
  obtain ⟨es, ep, t, R⟩ := sb0_full R0 fun r hr => inv_tup I (ht r hr)
  obtain ⟨o, hob, hex, hdat⟩ := R.obj
  have hsz := ent_size R.ent
  refine call_len_set hob hex hdat R.fit (by rw [hsz]; omega) ⟨.int (L.length : Int), H, I.tok _, ⟨_, by rw [hsz]⟩, q⟩
/-- == of two such sets -/
def rEqB (P : Program) (w : World) : R2 := fun x y H Q => ∃ (a b : Addr) (L L2 : List Row), x = .ref a ∧ y = .ref b ∧ H a = some (SetOb P w a L) ∧ H b = some (SetOb P w b L2) ∧ (∀ r ∈ L, tupI r.2 (.ref r.1) H) ∧ (∀ r ∈ L2, tupI r.2 (.ref r.1) H) ∧ L ≠ [] ∧
  Q (.bl (decide (L.length = L2.length) && decide (∀ k ∈ L.map (·.2), k ∈ L2.map (·.2)))) H
theorem op_eqB (hu : X.A.units + 64 < cLine) : OpR X (compareOp .Eq) (rEqB X.prog X.w) := by
  intro pins s σ H x y v u Q I rx ry h
  obtain ⟨a, b, L, L2, rfl, rfl, ha, hb, ht, ht2, hne, q⟩ := h
  obtain rfl : v = Value.ref a := rx
  obtain rfl : u = Value.ref b := ry
  have R0 : Sb0 X.prog X.w s.heap a L := (I.hok a _ ha).1
  have R02 : Sb0 X.prog X.w s.heap b L2 := (I.hok b _ hb).1
  obtain ⟨es, ep, t, R⟩ := sb0_full R0 fun r hr => inv_tup I (ht r hr)
  obtain ⟨es2, ep2, t2, R2⟩ := sb0_full R02 fun r hr => inv_tup I (ht2 r hr)
  exact same_of R R2 (by omega) hne ⟨.bl _, H, I, rfl, q⟩
end
end StB
set_option Elab.async false
set_option linter.all false
set_option maxRecDepth 100000
set_option maxHeartbeats 3200000
/-! # min(xs, default=d), xs whole numbers -/
namespace MnR
open PySem PySem.Spec PyProof.Rows L2
def minF (d : V) : List Int → V
  | [] => d
  | n :: r => .int (r.foldl min n)
theorem alikeI (ns : List Int) : PySem.W.AlikeAll (ns.map PyData.int) := by
  refine ⟨fun x hx y hy => ?_, fun x hx => ?_⟩
  · obtain ⟨a, _, rfl⟩ := List.mem_map.mp hx
    obtain ⟨b, _, rfl⟩ := List.mem_map.mp hy
    rfl
  · obtain ⟨a, _, rfl⟩ := List.mem_map.mp hx
    exact fun h => nomatch h
theorem depthI : ∀ ns : List Int, PyData.depthAll (ns.map PyData.int) = 0
  | [] => rfl
  | n :: r => by
    show max (PyData.depth (.int n)) (PyData.depthAll (r.map PyData.int)) = 0
    rw [depthI r]
    rfl
theorem readsI {h : Heap} : ∀ {ns : List Int} {us : List Value}, Vals (ns.map V.int) us → ∃ as, ReadsAll h us (ns.map PyData.int) as
  | [], _, .nil => ⟨_, .nil⟩
  | n :: r, _, .cons ⟨t, e⟩ k => by
    obtain ⟨as, ih⟩ := readsI (h := h) k
    subst e
    exact ⟨_, .cons (.int n t) ih⟩
def rMinD (K : PySem.W.Frag) : List V → List V → Hp → VK → Prop := fun xs zs H Q => ∃ (l : Addr) (ns : List Int) (d : V), xs = [V.ref l] ∧ zs = [d] ∧ SqL K H l (ns.map V.int) ∧ Q (minF d ns) H
section
variable {X : Cx}
theorem cr_minD (hc : X.calm = true) (hu : X.A.units + 64 < cLine) : CallRK X (.builtin "min") ["default"] (rMinD X.K) := by
  intro pins s σ H xs zs us ws Q I rx rz h
  obtain ⟨l, ns, d, rfl, rfl, hl, q⟩ := h
  cases rx with
  | cons r1 r2 =>
    cases r2
    cases r1
    cases rz with
    | @cons _ dv _ _ r3 r4 =>
      cases r4
      obtain ⟨its, rv, pl, hz⟩ := I.list hl
      obtain ⟨as, hr⟩ := readsI (h := s.heap) rv
      refine PySem.W.min_list_default (I.ok.hd hc) pl.isList (vs := its.toArray) (by simpa using hr) (alikeI ns) (by rw [depthI]; omega) (fun h0 h1 tk hk => ?_) fun y ys i v h1 tk bs hxs hv hrd hk => ?_
      · have : ns = [] := List.map_eq_nil_iff.mp h0
        subst this
        exact ⟨d, H, I.kept (t' := tk) hk, r3, q⟩
      · cases ns with
        | nil => cases hxs
        | cons n r =>
          rw [List.map_cons] at hxs
          injection hxs with e1 e2
          subst e1 e2
          rw [PySem.W.minD_ints] at hrd
          refine ⟨.int (r.foldl min n), H, I.kept (t' := tk) hk, ?_, q⟩
          cases hrd with
          | int i t => exact ⟨t, rfl⟩
end
section
open Evl
variable {K : PySem.W.Frag} {σ : L2.St} {H : Hp}
theorem ev_minD {t te : TE} {l : Addr} {ns : List Int} {d : V} (h : Ev t σ H (.ref l)) (hl : H l = some (.lst (ns.map V.int))) (hd : Ev te σ H d) : Ev (tCKw (rMinD K) (tCons t tNil) (tCons te tNil)) σ H (minF d ns) := fun H1 e Q q =>
  h H1 e _ fun H2 e2 => hd H2 (e.trans e2) _ fun H3 e3 => ⟨l, ns, d, rfl, rfl, SqL.of (((e.trans e2).trans e3) _ _ hl), q H3 (e2.trans e3)⟩
end
end MnR
set_option Elab.async false
set_option linter.all false
set_option maxRecDepth 100000
set_option maxHeartbeats 8000000
/-! # a place of a row where no pattern is -/
namespace GL
open PySem PySem.Spec PyProof.Rows L2 Geo Rel
theorem ps_never {X : Cx} {st : Stmt} : PS X st (fun _ _ _ => False) := ⟨fun _ _ _ _ _ _ h => h.elim⟩
def spotsF (row places : List Int) (mid : Nat) : List Int :=
  if row.getD (mid + 1) 0 < row.getD mid 0 then (List.range (row.getD mid 0 - row.getD (mid + 1) 0 - 1).toNat).map fun i : Nat => places.getD (row.getD (mid + 1) 0 + 1 + (i : Int)).toNat 0
  else (List.range (row.getD (mid + 1) 0 - row.getD mid 0 - 1).toNat).map fun i : Nat => places.getD (row.getD (mid + 1) 0 - 1 - (i : Int)).toNat 0
def trimF (m : Int) (L : List Int) : List Int := (L.reverse.dropWhile fun p => decide (p < m)).reverse
def firstF (d : Int) : List Int → Int
  | [] => d
  | n :: r => r.foldl min n
theorem min_first (d : Int) (ns : List Int) : MnR.minF (.int d) ns = .int (firstF d ns) := by cases ns <;> rfl
def noneAt (row places : List Int) (mid : Nat) : Bool := decide (firstF (mid : Int) (trimF (mid : Int) (spotsF row places mid)) ≥ (mid : Int))
theorem trim_snoc (m : Int) (L : List Int) (p : Int) : trimF m (L ++ [p]) = if p < m then trimF m L else L ++ [p] := by
  unfold trimF
  rw [List.reverse_append, List.reverse_singleton, List.singleton_append, List.dropWhile_cons]
  by_cases c : p < m
  · rw [if_pos (decide_eq_true c), if_pos c]
  · rw [if_neg (by simp at c ⊢; exact c), if_neg c]
    simp
section
variable {P : Program} {w : World} {K : PySem.W.Frag} {mg : Str → Option Value} {base : Heap} {σ : L2.St} {H : Hp}
theorem el_lcRgC {ta : TA} {te : TE} {i j c : Int} {n : Nat} {k : Nat} {vs : List Nat} {f : Nat → Int} (h : Evl.EvA ta σ H [.int i, .int j, .int c]) (hR : RgC i j c n) (hn : n ≤ 40000) (hw : ∀ x, wipe ((wipe σ vs).set k (some x)) vs = wipe σ vs)
    (he : ∀ u, u < n → ∀ H1, Evl.Ex H H1 → Evl.Ev te ((wipe σ vs).set k (some (.int (i + (u : Nat) * c)))) H1 (.int (f u))) : Evl.EvL (tLc (iRng3 ta) (gName k) tYes te vs) σ H (((List.range n).map f).map V.int) := by
  rw [List.map_map]
  refine el_ofRL (g := fun u => V.int (f u)) fun H1 e Q q => h H1 e _ fun H2 e1 => ⟨i, j, c, n, rfl, hR, fun Dl hD => ?_⟩
  have hf : (List.range n).filter (fun _ => true) = List.range n := List.filter_eq_self.mpr fun _ _ => rfl
  refine lc_rel (H := H2) (walk_rangeC (lo := i) (c := c) (n := n)) (zs := List.range n) List.length_range.symm (fun H3 e2 => trivial) (fun _ => true) (fun u v _ => v = V.int (f u)) (val_m fun u => V.int (f u)) (by rw [List.length_range]; exact hn) (fun a z x H3 H4 hzi hH hy => ?_) hD fun us H3 e2 h3 hq => q Dl H3 (Evl.fresh_back e1 hD) (e1.trans e2) ⟨us, h3, by rwa [hf] at hq⟩
  obtain ⟨rfl, rfl⟩ := hy
  obtain ⟨k1, k2⟩ := List.getElem?_eq_some_iff.mp hzi
  rw [List.getElem_range] at k2
  rw [List.length_range] at k1
  subst k2
  exact ⟨Evl.Ex.refl _, fun Q' k => k _ (hw _) et_yes fun _ => en_int (he a k1 H2 (e.trans e1))⟩
theorem q_parI {t1 t2 : TE} {v w : V} {i j : Nat} {D : Ends} {tz : TS} (h1 : Evl.Ev t1 σ H v) (h2 : ∀ H1, Evl.Ex H H1 → Evl.Ev t2 σ H1 w) (k : ∀ H1, Evl.Ex H H1 → tz D ((σ.set i (some v)).set j (some w)) H1) : tSeq (tPar i j (tCons t1 (tCons t2 tNil))) tz D σ H :=
  h1 H (Evl.Ex.refl H) _ fun H1 e1 => h2 H1 e1 H1 (Evl.Ex.refl H1) _ fun H2 e2 => ⟨_, _, rfl, k H2 (e1.trans e2)⟩
def spAtP : Sp := fun vs H Q _ => ∃ (l pl : Addr) (row places : List Int) (mid : Nat), vs = [.ref l, .ref pl, .int (mid : Int)] ∧ H l = some (.lst (row.map V.int)) ∧ H pl = some (.lst (places.map V.int)) ∧ row.length ≤ 1000 ∧ places.length = row.length ∧ mid + 1 < row.length ∧ (∀ r ∈ row, 0 ≤ r ∧ r < row.length) ∧ noneAt row places mid = true ∧
  ∀ H', Evl.Ex H H' → Q .non H'
end
end GL
set_option Elab.async false
set_option linter.all false
set_option maxRecDepth 100000
set_option maxHeartbeats 8000000
/-! # a plan, checked -/
namespace GL
open PySem PySem.Spec PyProof.Rows L2 Geo Rel
def patB (row : List Int) : Bool := (List.range (row.length - 3)).all fun i => noneAt row (placesF row) (i + 1)
section
variable {P : Program} {w : World} {K : PySem.W.Frag} {mg : Str → Option Value} {base : Heap} {σ : L2.St} {H : Hp}
theorem ev_minDN {t te : TE} {ns : List Int} {d : V} (h : Evl.EvL t σ H (ns.map V.int)) (hd : ∀ H1, Evl.Ex H H1 → Evl.Ev te σ H1 d) : Evl.Ev (tCKw (MnR.rMinD K) (tCons t tNil) (tCons te tNil)) σ H (MnR.minF d ns) := fun H1 e Q q =>
  h H1 e _ fun l H2 nl e2 hl => hd H2 (e.trans e2) H2 (Evl.Ex.refl _) _ fun H3 e3 => ⟨l, ns, d, rfl, rfl, SqL.of (e3 _ _ hl), q H3 (e2.trans e3)⟩
def spPat : Sp := fun vs H Q _ => ∃ (l : Addr) (row : List Int), vs = [.ref l] ∧ H l = some (.lst (row.map V.int)) ∧ row.length ≤ 1000 ∧ (∀ r ∈ row, 0 ≤ r ∧ r < row.length) ∧ patB row = true ∧ ∀ H', Evl.Ex H H' → Q .non H'
def spIsPlan (tb : Addr) : Sp := fun vs H Q _ => ∃ (l : Addr) (row : List Int), vs = [.ref l] ∧ H l = some (.lst (row.map V.int)) ∧ rowB row = true ∧ patB row = true ∧ H tb = some (GnR.TabO tb) ∧ ∀ H', Evl.Ex H H' → Q (.bl true) H'
theorem rowB_facts {row : List Int} (h : rowB row = true) : row.length ≤ 60 ∧ ∀ r ∈ row, 0 ≤ r ∧ r < row.length := by
  unfold rowB at h
  obtain ⟨h1, h2⟩ := Bool.and_eq_true_iff.mp h
  obtain ⟨h3, h4⟩ := Bool.and_eq_true_iff.mp h1
  refine ⟨of_decide_eq_true h4, fun r hr => ?_⟩
  have nd : ((List.range row.length).map fun i : Nat => (i : Int)).Nodup := by
    rw [List.Nodup, List.pairwise_map]
    exact List.nodup_range.imp fun h e => h (Int.ofNat.inj e)
  have pm : ((List.range row.length).map fun i : Nat => (i : Int)).Perm row := perm_of_sub nd (fun x hx => by
    obtain ⟨i, hi, rfl⟩ := List.mem_map.mp hx
    exact of_decide_eq_true (List.all_eq_true.mp h2 i hi)) (by simp)
  obtain ⟨i, hi, rfl⟩ := List.mem_map.mp (pm.mem_iff.mpr hr)
  have := List.mem_range.mp hi
  omega
def spCheckPlan (tb : Addr) : Sp := fun vs H Q _ => ∃ (l : Addr) (row : List Int), vs = [.ref l] ∧ H l = some (.lst (row.map V.int)) ∧ rowB row = true ∧ patB row = true ∧ H tb = some (GnR.TabO tb) ∧ ∀ H', Evl.Ex H H' → Q .non H'
theorem funD_ok {x qual : Str} {params : Arguments} {body : List Stmt} {scope : Scope} {dvs : List V} {kws : List (Str × V)} {f : Addr} {fd : FuncData} {N ps : List Str} {k : Nat} {sp : Sp} (F : FunD K x qual params body scope dvs kws f fd) (S : FnScope N ps scope) (len : ∀ vs H Q E, sp vs H Q E → vs.length = ps.length)
    (hbody : ∀ (cdv : Value) (A : Around) (outer : List Env) (s : Shared) (H : Hp) (vs : List V) (Q : VK) (E : XK), Room k (A.deeper (envOfC qual scope s.heap.objs.size f cdv)) → sp vs H Q E →
      ∃ t, PSs (cxOf CX0 P w K mg base N qual scope f cdv A outer s H E).nox body t ∧ t { nx := fun _ H' => Q .non H', rt := Q } (start N vs) H) : FnOk P w K mg base CX0 (k + 1) f fd ps sp :=
  F.ok S len fun cdv A outer s H vs Q E hr h => let ⟨t, ht, q⟩ := hbody cdv A outer s H vs Q E hr h; ⟨t, ht.nox, q⟩
def spCheckNum : Sp := fun vs H Q _ => ∃ n a b : Int, vs = [.int n, .int a, .int b] ∧ a ≤ n ∧ n ≤ b ∧ ∀ H', Evl.Ex H H' → Q .non H'
end
end GL
set_option Elab.async false
set_option linter.all false
set_option maxRecDepth 100000
set_option maxHeartbeats 3200000
/-! # for i, x in enumerate(xs, start=k) -/
namespace EnR
open PySem PySem.Spec PyProof.Rows L2
/-- the list at a, each item in a new pair, counted from k -/
def Itk (K : PySem.W.Frag) (a : Addr) (k : Int) : It :=
  ⟨fun i H => ∃ (xs : List V) (x : V), SqL K H a xs ∧ xs[i]? = some x, fun i H v H' => ∃ T x, v = .ref T ∧ H T = none ∧ H' = upd H T (.tup [.int (k + (i : Nat)), x]) ∧ ∀ xs, SqL K H a xs → xs[i]? = some x, fun i H => ∃ xs : List V, SqL K H a xs ∧ xs.length = i⟩
theorem turn_from {P : Program} {w : World} {K : PySem.W.Frag} {elts : List Expr} {kk : Nat} {tpos : Pos} (a e it : Addr) (k : Int) (hae : a ≠ e) (hai : a ≠ it) :
    Turn P w K (.Tuple elts kk tpos) (Itk K a k) [e, it] e (fun i h => (∃ old, IsEnum h e it (k + (i : Nat)) old) ∧ h.IsListIter it a i ∧ e ≠ it) where
  mem := by simp
  obj := fun i h st b hb => by
    obtain ⟨⟨old, he⟩, ⟨o, ho, hc, hd⟩, _⟩ := st
    rcases List.mem_cons.mp hb with z | hb
    · rw [z]
      exact ⟨_, he, fun v q => nomatch q⟩
    · rw [List.mem_singleton.mp hb]
      exact ⟨o, ho, fun v q => by rw [hd] at q; cases q⟩
  keep := fun i h h' st q => by
    obtain ⟨⟨old, he⟩, hi, hne⟩ := st
    exact ⟨⟨old, q e (by simp) _ he⟩, hi.at fun o z => q it (by simp) o z, hne⟩
  item := by
    intro X hP hw hK hc i pins s σ H E I hf st hg
    subst hP hw hK
    obtain ⟨⟨old, he⟩, hit, hne⟩ := st
    obtain ⟨xs, x, hq, hx⟩ := hg
    obtain ⟨its, rv, p, hz⟩ := I.list hq
    obtain ⟨u, hu, ru⟩ := rv.get hx
    have eL : e < s.heap.objs.size := Heap.lt_size he
    have iL : it < s.heap.objs.size := by
      obtain ⟨_, q, _⟩ := hit
      exact Heap.lt_size q
    have hh : X.A.in1.handled = none := I.ok.hd hc
    have D := Draws.list (prog := X.prog) (w := X.w) (A := X.A.in1) hh it a hai its.toArray
    have hi : i < its.toArray.size := by
      have := (List.getElem?_eq_some_iff.mp hu).1
      simpa using this
    refine wpAny_pyNext_enum_itemC D he ⟨hit, p.isList⟩ hi hne (fun z => ?_) fun u' h1 tk hP1 ho hit1 hT hsz hk => ?_
    · rcases List.mem_cons.mp z with z | z
      · exact hne z
      · exact hae (List.mem_singleton.mp z).symm
    · have hu2 : its.toArray[i]? = some u := by simpa using hu
      obtain rfl : u = u' := Option.some.inj (hu2.symm.trans hP1)
      refine ⟨_, rfl, wpAny_letOwnedTupleGo_enum (s := { s with heap := h1, toks := tk + 1 }) ho fun h2 he2 sb => ?_⟩
      have hT2 : h2.get? s.heap.objs.size = some { cls := .type "tuple", data := .seq #[.int (k + (i : Nat)) tk, u] } := (sb.2 _ (Nat.ne_of_gt eL)).trans hT
      have new : ObjOk X.prog X.w (upd H s.heap.objs.size (.tup [.int (k + (i : Nat)), x])) h2 s.heap.objs.size (.tup [.int (k + (i : Nat)), x]) :=
        ⟨(show 2 ≤ sizeLine by decide), [.int (k + (i : Nat)) tk, u], .cons ⟨_, rfl⟩ (.cons ru .nil), ⟨_, hT2, rfl, _, rfl⟩⟩
      have I1 : Inv X pins σ (upd H s.heap.objs.size (.tup [.int (k + (i : Nat)), x])) { s with heap := h2, toks := tk + 1 } :=
        I.turnedNew (ch := [e, it]) (fun b ob hb q => (sb.2 b (fun z => hb (by simp [z]))).trans (hk b ob (fun z => hb (by simp [z])) (fun z => hb (by simp [z])) q)) hf (Nat.le_refl _) new
      refine ⟨.ref s.heap.objs.size, _, I1, rfl, ⟨_, x, rfl, I.hok.fresh (Nat.le_refl _), rfl, fun ys hy => by rw [I.list_inj hy hq]; exact hx⟩, ⟨⟨u, ?_⟩, hit1.1.at fun o q => (sb.2 it (Ne.symm hne)).trans q, hne⟩, fun b hb => ?_⟩
      · rw [show k + ((i + 1 : Nat) : Int) = k + (i : Nat) + 1 by omega]
        exact he2
      · have bl : b < s.heap.objs.size := by
          rcases List.mem_cons.mp hb with z | z
          · rw [z]; exact eL
          · rw [List.mem_singleton.mp z]; exact iL
        rw [upd_ne (Nat.ne_of_lt bl)]
        exact (hf b hb).1
  done := by
    intro X hP hw hK hc i pins s σ H E I hf st hg
    subst hP hw hK
    obtain ⟨⟨old, he⟩, hit, hne⟩ := st
    obtain ⟨xs, hq, hx⟩ := hg
    obtain ⟨its, rv, p, hz⟩ := I.list hq
    obtain ⟨f0, f1, f2, f3, f4, f5⟩ := hf it (by simp)
    have hl := rv.length
    have hh : X.A.in1.handled = none := I.ok.hd hc
    have D := Draws.list (prog := X.prog) (w := X.w) (A := X.A.in1) hh it a hai its.toArray
    have hn : its.toArray.size = i := by
      rw [List.size_toArray]
      omega
    refine wpAny_pyNext_enum_endD D he (by rw [hn]; exact ⟨hit, p.isList⟩) fun h1 eb => ⟨rfl, I.turned (t' := s.toks) (fun b o hb q => eb b o hb q) f0 f1 f3 f4 f5⟩
  self := fun A i s Q E st h => by
    obtain ⟨⟨_, he⟩, _⟩ := st
    exact wpAny_pyIter_enum he h
def iEnumK (K : PySem.W.Frag) (k : Int) (ta : TA) : TI := fun σ H R => ta σ H fun vs H1 => ∃ a xs, vs = [.ref a] ∧ SqL K H1 a xs ∧ R (Itk K a k) H1
section
variable {X : Cx} {e : Expr} {ta : TA} {p pos tpos kp cp : Pos} {elts : List Expr} {kk jj : Nat} {k : Int}
theorem cw_tyKw {M : Model} {A : Around} {E : Value → Shared → Prop} {s : Shared} {env : Env} {T : String} {rest : List Expr} {kws : List Keyword} {Q : Value → Shared → Prop}
    (h : wpAny M A (spliced (backTo pos (starEach (e :: rest) env))) (fun vs s1 => wpAny M A (evalAll ((backToKw pos (keywordEach kws env)).map (·.2))) (fun ws s2 => wpAny M A (call (.type T) vs (((backToKw pos (keywordEach kws env)).filterMap (·.1)).zip ws)) Q E s2) E s1) E s)
    (he : backTo pos (starEach (e :: rest) env) = (false, eval e env) :: backTo pos (starEach rest env)) (hpl : (backTo pos (starEach (e :: rest) env)).any (·.1) = false)
    (hall : (backToKw pos (keywordEach kws env)).all (·.1.isSome) = true) (hkw : (backToKw pos (keywordEach kws env)).any (·.1.isNone) = false) :
    wpAny M A (callWith pos (.type T) [] (backTo pos (starEach (e :: rest) env)) (backToKw pos (keywordEach kws env))) Q E s := by
  have g : wpAny M A (evalArgs (.type T) true (backTo pos (starEach (e :: rest) env)) (backToKw pos (keywordEach kws env))) (fun a s1 => wpAny M A (call (.type T) a.pos a.kw) Q E s1) E s := by
    rw [he] at h ⊢
    exact evalArgs_kwB (Q := fun a s1 => wpAny M A (call (.type T) a.pos a.kw) Q E s1) hall h
  unfold callWith
  refine wpAny_bind (wpAny_holding (wpAny_mono g (fun a s1 h1 => wpAny_bind (wpAny_standAt ?_)) fun _ _ z => z))
  simp only [hpl, hkw, Bool.or_false]
  refine wpAny_bind (wpAny_pure ?_)
  exact wpAny_bind (wpAny_mono h1 (fun r s2 hr => wpAny_bind (wpAny_holding (wpAny_point (wpAny_pure hr)))) fun _ _ z => z)
theorem pi_enumK (hg : Gl X "enumerate") (hm : X.mg "enumerate" = none) (ha : PA X [e] ta) (h0 : -(2 ^ 63) ≤ k) (h1 : k < 2 ^ 63) (hk : PK X [⟨some "start", .Constant (.int k) jj cp, kp⟩] (tCons (tC (.int k)) tNil))
    (he : backTo pos (starEach [e] X.env) = (false, eval e X.env) :: backTo pos (starEach [] X.env) := by rfl) (hpl : (backTo pos (starEach [e] X.env)).any (·.1) = false := by rfl)
    (hall : (backToKw pos (keywordEach [⟨some "start", .Constant (.int k) jj cp, kp⟩] X.env)).all (·.1.isSome) = true := by rfl) (hnone : (backToKw pos (keywordEach [⟨some "start", .Constant (.int k) jj cp, kp⟩] X.env)).any (·.1.isNone) = false := by rfl)
    (hks : (backToKw pos (keywordEach [⟨some "start", .Constant (.int k) jj cp, kp⟩] X.env)).filterMap (·.1) = [Str.ofString "start"] := by rfl) :
    PI X (.Tuple elts kk tpos) (.Call (.Name "enumerate" p) [e] [⟨some "start", .Constant (.int k) jj cp, kp⟩] pos) (iEnumK X.K k ta) := by
  refine ⟨fun pins s σ H R I h => ?_⟩
  refine wpAny_Call_Name_kw (ld_blt I hg hm boot_enumerate ?_)
  refine cw_tyKw (thn (ha.run pos pins s σ H _ I h) fun us s1 ⟨vs, H1, I1, r1, q1⟩ => ?_) he hpl hall hnone
  obtain ⟨a, xs, ex, hq, q⟩ := q1
  subst ex
  refine thn (hk.run pos pins s1 σ H1 (fun zs H2 => zs = [.int k] ∧ H2 = H1) I1 ⟨rfl, rfl⟩) fun ws s2 ⟨zs, H2, I2, r2, q2⟩ => ?_
  obtain ⟨rfl, rfl⟩ := q2
  rw [hks]
  cases r1 with
  | cons r rr =>
    cases rr
    cases r
    cases r2 with
    | cons r' rr' =>
      cases rr'
      obtain ⟨t, rfl⟩ := r'
      obtain ⟨its, rv, p', hz⟩ := I2.list hq
      have hal : a < s2.heap.objs.size := by
        obtain ⟨_, q1⟩ := p'.isList
        first
          | exact Heap.lt_size q1
          | exact Heap.lt_size q1.1
      refine enum_begins_start (begins_list a its.toArray) p'.isList h0 h1 fun h' he hit hsz hkp => wpAny_pyIter_enum he ?_
      have I3 : Inv X pins σ H2 { s2 with heap := h' } := I2.kept (t' := s2.toks) hkp
      refine ⟨s2.heap.objs.size + 1, [s2.heap.objs.size + 1, s2.heap.objs.size], _, _, H2, rfl, I3, turn_from a (s2.heap.objs.size + 1) s2.heap.objs.size k ?_ ?_, ⟨⟨.none, by simpa using he⟩, ⟨_, hit, rfl, rfl⟩, Nat.succ_ne_self _⟩, fun b hb => ?_, q⟩
      · exact Nat.ne_of_lt (Nat.lt_succ_of_lt hal)
      · exact Nat.ne_of_lt hal
      have e' : b = s2.heap.objs.size + 1 ∨ b = s2.heap.objs.size := by simpa using hb
      have hle : s2.heap.objs.size ≤ b := by
        rcases e' with z | z
        · rw [z]; exact Nat.le_add_right _ _
        · rw [z]; exact Nat.le_refl _
      exact I2.fpOk hle (I2.hok.fresh hle)
end
end EnR
namespace Rel
open PySem L2 Evl EnR
section
variable {α : Type} {K : PySem.W.Frag} {R : α → V → Hp → Prop} {p : Addr} {zs : List α} {c : Int}
theorem walk_fromRL : Walk (Itk K p c) zs.length (fun H => RL R H p zs) (fun i H x H' => ∃ T y z, x = .ref T ∧ H T = none ∧ H' = upd H T (.tup [.int (c + (i : Nat)), y]) ∧ zs[i]? = some z ∧ R z y H) := by
  refine ⟨fun i H hi h => ?_, fun H h => ?_, fun i H x H' hi h y => ?_⟩
  · obtain ⟨ys, h1, h2⟩ := h
    have hl := pr_len h2
    exact ⟨ys, ys[i], sq_of h1, List.getElem?_eq_getElem (show i < ys.length by omega)⟩
  · obtain ⟨ys, h1, h2⟩ := h
    exact ⟨ys, sq_of h1, pr_len h2⟩
  · obtain ⟨T, w, e1, e2, e3, e4⟩ := y
    obtain ⟨ys, h1, h2⟩ := h
    obtain ⟨z, q1, q2⟩ := pr_at' h2 (e4 ys (sq_of h1))
    exact ⟨T, w, z, e1, e2, e3, q1, q2⟩
variable {σ : L2.St} {H : Hp} {tl : TE} {g : TG} {tb : TS} {D : Ends}
/-- for i, y in enumerate(l, start=c) -/
theorem s_forKRL (h : Ev tl σ H (.ref p)) (Pv : Nat → L2.St → Hp → Prop) (h0 : ∀ H1, Ex H H1 → Pv 0 σ H1) (hk : ∀ i σ' H', i ≤ zs.length → Pv i σ' H' → RL R H' p zs)
    (hs : ∀ i z y T σ' H', zs[i]? = some z → R z y H' → Pv i σ' H' → H' T = none → g (.ref T) σ' (upd H' T (.tup [.int (c + (i : Nat)), y])) fun σ2 H2 => tb { D with nx := Pv (i + 1), ct := Pv (i + 1), bk := D.nx } σ2 H2) (hd : ∀ σ' H', Pv zs.length σ' H' → D.nx σ' H') :
    tFor (iEnumK K c (tCons tl tNil)) g tb D σ H := by
  refine h H (Ex.refl H) _ fun H1 e1 => ?_
  obtain ⟨ys, h1, h2⟩ := hk 0 _ _ (Nat.zero_le _) (h0 H1 e1)
  refine ⟨p, ys, rfl, sq_of h1, for_it (walk_fromRL (K := K) (R := R) (p := p) (zs := zs) (c := c)) Pv (h0 H1 e1) (fun i σ' H' hi q => hk i σ' H' hi q) (fun i x σ' H' H2 hi q y => ?_) hd⟩
  obtain ⟨T, w, z, rfl, nT, rfl, hz, hr⟩ := y
  exact hs i z w T σ' H' hz hr q nT
variable {tz : TS}
theorem q_forKRL (h : Ev tl σ H (.ref p)) (Pv : Nat → L2.St → Hp → Prop) (h0 : ∀ H1, Ex H H1 → Pv 0 σ H1) (hk : ∀ i σ' H', i ≤ zs.length → Pv i σ' H' → RL R H' p zs)
    (hs : ∀ i z y T σ' H', zs[i]? = some z → R z y H' → Pv i σ' H' → H' T = none → g (.ref T) σ' (upd H' T (.tup [.int (c + (i : Nat)), y])) fun σ2 H2 => tb { D with nx := Pv (i + 1), ct := Pv (i + 1), bk := tz D } σ2 H2) (hd : ∀ σ' H', Pv zs.length σ' H' → tz D σ' H') :
    tSeq (tFor (iEnumK K c (tCons tl tNil)) g tb) tz D σ H := s_forKRL (D := { D with nx := tz D }) h Pv h0 hk hs hd
end
end Rel
set_option Elab.async false
set_option linter.all false
set_option maxRecDepth 100000
set_option maxHeartbeats 3200000
/-! # del xs[i:] of a list -/
namespace DlR
open PySem PySem.Spec PyProof.Rows L2
/-- what is left where the places from a on go -/
theorem left_take {p : Nat → Bool} {a : Nat} (L : List Value) (h : ∀ k, k < L.length → p k = decide (a ≤ k)) : (L.zipIdx.filterMap fun x => if p x.2 = true then none else some x.1) = L.take a := by
  have key : ∀ (L : List Value) (j : Nat), (∀ k, k < L.length → p (j + k) = decide (a ≤ j + k)) → ((L.zipIdx j).filterMap fun x => if p x.2 = true then none else some x.1) = L.take (a - j) := by
    intro L
    induction L with
    | nil => intro j _; simp
    | cons x r ih =>
      intro j hj
      have h0 := hj 0 (by simp)
      rw [Nat.add_zero] at h0
      have hr := ih (j + 1) fun k hk => by
        have := hj (k + 1) (by simpa using hk)
        rwa [show j + 1 + k = j + (k + 1) by omega]
      rw [List.zipIdx_cons]
      by_cases c : a ≤ j
      · rw [List.filterMap_cons_none (by dsimp only; rw [h0, if_pos (decide_eq_true c)]), hr, show a - j = 0 by omega, show a - (j + 1) = 0 by omega]
        rfl
      · rw [List.filterMap_cons_some (b := x) (by dsimp only; rw [h0, if_neg (by simp; omega)]), hr, show a - j = (a - (j + 1)) + 1 by omega, List.take_succ_cons]
  have := key L 0 fun k hk => by
    rw [Nat.zero_add]
    exact h k hk
  simpa using this
/-- where a slice that is open behind begins -/
def from_ (n : Nat) (i : Int) : Nat := (max 0 (min (if i < 0 then i + n else i) n)).toNat
theorem bounds_from (i : Int) (n : Nat) : sliceBounds (some i) none none n = ((from_ n i : Int), (n : Int), 1) := by
  unfold from_
  simp only [sliceBounds, Option.getD_none, show (1 : Int) > 0 by decide, if_true]
  congr 1
  omega
section
variable {prog : Program} {w : World} {A : Around} {E : Value → Shared → Prop} {s : Shared}
theorem del_from {l sl : Addr} {items : Array Value} {n : Nat} {v : Value} {i : Int} {Q : Unit → Shared → Prop} (e : s.heap.get? l = some { cls := .type "list", data := .seq items n }) (hs : s.heap.IsSliceOf sl v .none .none) (pv : IsPart v (some i)) (hsz : items.size ≤ sizeLine)
    (h : ∀ f : Array Value → Array Value, f items = (items.toList.take (from_ items.size i)).toArray → Q () { s with heap := s.heap.update l (Obj.mapSeq f) }) : wpAny (model prog w) A (delItem (.ref l) (.ref sl)) Q E s := by
  have hl : s.heap.IsList l items := PySem.IsL.isList e
  obtain ⟨os, hos, hcs, hds⟩ := id hs
  have tS : s.TypeIs (.ref sl) "slice" := ⟨os, hos, hcs⟩
  refine wpAny_delItem_slot hl.typeIs (by decide) PySem.F.slot_list_delitem (wpAny_call_entry PySem.F.slot_list_delitem hl.typeIs PySem.F.entry_list_delitem ?_ (PySem.F.args_list_delitem_2 _ _))
  show wpAny _ _ (Builtin.List.listSubscript? (.ref sl) >>= _) _ _ s
  unfold Builtin.List.listSubscript?
  refine wpAny_bind (wpAny_bind (wpAny_specialOf tS slice_no_index ?_))
  simp only [Option.isNone_none, if_true]
  refine wpAny_pure ?_
  show wpAny _ _ (typeOf (.ref sl) >>= _) _ _ s
  refine wpAny_bind (wpAny_typeOf tS ?_)
  rw [if_neg (by decide), listSliceParts_eq]
  have step0 : ¬ ((rawPart none == rawInt 0) = true) := Bool.false_ne_true
  refine wpAny_bind (wpAny_bind (wpAny_field hos hds (x := .none) rfl (wpAny_bind (wpAny_listPart .none ?_))))
  rw [if_neg step0]
  refine wpAny_bind (wpAny_field hos hds (x := v) rfl (wpAny_bind (wpAny_listPart pv ?_)))
  refine wpAny_bind (wpAny_field hos hds (x := .none) rfl (wpAny_bind (wpAny_listPart .none (wpAny_pure ?_))))
  unfold Builtin.List.listItems
  refine wpAny_bind (wpAny_bind (wpAny_seqItems e rfl (wpAny_pure ?_)))
  have hb : sliceIndices (rawPart (some i)) (rawPart none) (rawPart none) items.size = pure ((from_ items.size i : Int), (items.size : Int), 1) :=
    (sliceIndices_raw (some i) none none items.size (by simp)).trans (congrArg (pure : Int × Int × Int → Sem (Int × Int × Int)) (bounds_from i items.size))
  refine wpAny_bind (wpAny_of_eq hb ?_)
  refine wpAny_bind (wpAny_rule ?_)
  have hfl : from_ items.size i ≤ items.size := by
    unfold from_
    omega
  refine wpAny_bind (m := updateSeq l _) ?_
  refine wpAny_updateSeq (hz := hsz) (_hz' := ?_) e rfl ?_
  · refine wpAny_bind (wpAny_letGo ?_)
    refine wpAny_pure ⟨.none, rfl, h _ ?_⟩
    refine congrArg List.toArray (left_take items.toList fun k hk => ?_)
    have hk2 : k < items.size := by simpa using hk
    show (if (1 : Int) > 0 then (decide ((from_ items.size i : Int) ≤ (k : Int)) && decide ((k : Int) < (items.size : Int)) && (((k : Int) - (from_ items.size i : Int)) % 1 == 0)) else _) = _
    rw [if_pos (by decide)]
    have h1 : decide ((k : Int) < (items.size : Int)) = true := decide_eq_true (by omega)
    have h2 : (((k : Int) - (from_ items.size i : Int)) % 1 == 0) = true := by
      rw [Int.emod_one]
      rfl
    rw [h1, h2, Bool.and_true, Bool.and_true]
    exact decide_eq_decide.mpr Int.ofNat_le
  · refine Nat.le_trans ?_ (Nat.le_succ_of_le hsz)
    rw [List.size_toArray]
    exact Nat.le_trans (List.length_filterMap_le _ _) (by simp)
end
section
variable {X : Cx} {pos : Pos}
def tDelF (to : TE) (th : TO) : TS := fun D σ H => to σ H fun x H1 => th σ H1 fun o H2 => ∃ (l : Addr) (xs : List V) (i : Int), x = .ref l ∧ o = some i ∧ H2 l = some (.lst xs) ∧ D.nx σ (upd H2 l (.lst (xs.take (from_ xs.length i))))
theorem ps_delFrom {o lo : Expr} {to : TE} {th : TO} {p2 tpos : Pos} (ho : PE X o to) (hl : PO X (some lo) th) : PS X (.Delete [.Subscript o (.Slice (some lo) none none p2) tpos] pos) (tDelF to th) := by
  refine ⟨fun pins s σ H D I h => ?_⟩
  refine wpAny_Delete (wpAny_deleteEach_cons (wpAny_delete_Subscript (thn (ho.run pins s σ H _ I h) fun u s1 hx => ?_)))
  obtain ⟨x, H1, I1, rx, q1⟩ := hx
  refine wpAny_Slice (thn (hl.run pins s1 σ H1 _ I1 q1) fun vl s2 hy => ?_)
  obtain ⟨o2, H2, I2, pl, l, xs, i, rfl, rfl, hH, q⟩ := hy
  rw [evalPart_none]
  refine wpAny_pure (wpAny_pure ?_)
  cases (show u = Value.ref l from rx)
  have I4 := I2.kept (t' := s2.toks) (h' := s2.heap.push { cls := .type "slice", data := .fields #[vl, .none, .none] }) fun b ob q => Heap.get?_push_of_some _ q
  obtain ⟨z, its, n, r, hlen, e⟩ := I4.lstM hH
  refine del_from (l := l) e (Heap.IsSliceOf.new ..) pl (by rw [List.size_toArray, ← hlen]; exact z) fun f hf => ?_
  refine wpAny_deleteEach_nil ⟨σ, _, ?_, q⟩
  refine I4.lset (its' := its.take (from_ xs.length i)) (t' := s2.toks) hH e ?_ (r.take _) ?_
  · rw [hf, List.size_toArray, ← hlen]
  · exact Nat.le_trans (List.length_take_le' _ _) z
end
end DlR
set_option Elab.async false
set_option linter.all false
set_option maxRecDepth 100000
set_option maxHeartbeats 8000000
/-! # the plan of a code -/
namespace GL
open PySem PySem.Spec PyProof.Rows L2 Geo Rel DlR
abbrev StC := List Int × List Int × List Int
def insF (p : List Int) (i : Nat) (x : Int) : List Int := p.take i ++ x :: p.drop i
def stepC (st : StC) (x n : Int) : Option StC :=
  if n > 0 then (atI st.2.1 (-n)).bind fun t => if t ∈ st.1 then some (insF st.1 (st.1.idxOf t) x, st.2.1.take (from_ st.2.1.length (-n)) ++ [x], st.2.2 ++ [x]) else none
  else (atI st.2.2 n).bind fun t => if t ∈ st.1 then some (insF st.1 (st.1.idxOf t + 1) x, st.2.1 ++ [x], st.2.2.take (from_ st.2.2.length n) ++ [x]) else none
def runC (st : StC) : Int → List Int → Option StC
  | _, [] => some st
  | x, n :: ns => (stepC st x n).bind fun st' => runC st' (x + 1) ns
/-- the plan of a code, where it has one -/
def codePlanF (ns : List Int) : Option (List Int) := (runC ([0], [0], [0]) 1 ns).map fun st => st.1
theorem insF_len (p : List Int) (i : Nat) (x : Int) : (insF p i x).length = p.length + 1 := by
  unfold insF
  rw [List.length_append, List.length_cons, List.length_take, List.length_drop]
  omega
theorem atI_map (f : Int → V) (ns : List Int) (i : Int) : atI (ns.map f) i = (atI ns i).map f := by
  unfold atI
  rw [List.length_map]
  cases ixN ns.length i with
  | none => rfl
  | some j => simp [List.getElem?_map]
def rIns : V → List V → Hp → VK → Prop := fun x vs H Q => ∃ (a : Addr) (ys : List V) (j : Nat) (z : V), x = .ref a ∧ vs = [.int (j : Int), z] ∧ ys.length < 50000 ∧ j < 100000 ∧ H a = some (.lst ys) ∧ Q .non (upd H a (.lst (ys.take j ++ z :: ys.drop j)))
theorem insK {X : Cx} : MtR X "list.insert" rIns := by
  intro pins s σ H x vs v us Q I rx rv h
  obtain ⟨a, ys, j, z, hx, hv, h1, h2, h3, q⟩ := h
  refine mt_insert pins s σ H x vs v us Q I rx rv ⟨a, ys, (j : Int), z, hx, hv, h3, Nat.lt_trans h1 (by unfold sizeLine; decide), by omega, by omega, ?_⟩
  rw [Int.toNat_natCast, List.append_assoc]
  exact q
section
variable {P : Program} {w : World} {K : PySem.W.Frag} {mg : Str → Option Value} {base : Heap} {σ : L2.St} {H : Hp}
theorem ev_idxOf {a : Addr} {p : List Int} {t : Int} {n : Nat} {te : TE} (hn : σ[n]? = some (some (.ref a))) (ha : H a = some (.lst (p.map V.int))) (he : Evl.Ev te σ H (.int t)) (ht : t ∈ p) :
    Evl.Ev (tBM K "list" (rIndex K) (tVar n) (tCons te tNil)) σ H (.int (p.idxOf t : Int)) := fun H1 e Q q => by
  have hix := List.idxOf_lt_length_of_mem ht
  refine ⟨.ref a, hn, .inl ⟨rfl, _, SqL.of (e _ _ ha)⟩, he H1 e _ fun H2 e2 => ⟨a, _, .int t, p.idxOf t, .int t, rfl, rfl, SqL.of ((e.trans e2) _ _ ha), rfl, ?_, ?_, ?_, ?_, q H2 e2⟩⟩
  · simp [flatV]
  · rw [List.getElem?_map, List.getElem?_eq_getElem hix, List.getElem_idxOf]
    rfl
  · simp [eqV]
  · intro m z' hm hz
    rw [List.getElem?_map] at hz
    cases hc2 : p[m]? with
    | none => rw [hc2] at hz; cases hz
    | some u =>
      rw [hc2] at hz
      obtain rfl := Option.some.inj hz
      have : u ≠ t := fun e => by
        subst e
        obtain ⟨h1, h2⟩ := List.getElem?_eq_some_iff.mp hc2
        have := List.not_of_lt_findIdx (p := fun x => x == u) hm
        simp [h2] at this
      simp [eqV, this]
theorem s_insI {D : Ends} {a : Addr} {p : List Int} {j : Nat} {x : Int} {n m : Nat} {te : TE} (hn : σ[n]? = some (some (.ref a))) (hm : σ[m]? = some (some (.int x))) (ha : H a = some (.lst (p.map V.int))) (he : Evl.Ev te σ H (.int (j : Int))) (h1 : p.length < 50000) (h2 : j < 100000)
    (k : ∀ H1, Evl.Ex H H1 → D.nx σ (upd H1 a (.lst ((insF p j x).map V.int)))) : tDrop (tBM K "list" rIns (tVar n) (tCons te (tCons (tVar m) tNil))) D σ H := by
  refine ⟨.ref a, hn, .inl ⟨rfl, _, SqL.of ha⟩, he H (Evl.Ex.refl H) _ fun H1 e1 => ⟨.int x, hm, a, _, j, .int x, rfl, rfl, by rw [List.length_map]; exact h1, h2, e1 _ _ ha, ?_⟩⟩
  have z := k H1 e1
  unfold insF at z
  rw [List.map_append, List.map_cons, List.map_take, List.map_drop] at z
  exact z
theorem s_delF {D : Ends} {to te : TE} {a : Addr} {p : List Int} {i : Int} (ha : H a = some (.lst (p.map V.int))) (ho : Evl.Ev to σ H (.ref a)) (hi : Evl.Ev te σ H (.int i)) (k : ∀ H1, Evl.Ex H H1 → D.nx σ (upd H1 a (.lst ((p.take (from_ p.length i)).map V.int)))) : tDelF to (tPart te) D σ H :=
  ho H (Evl.Ex.refl H) _ fun H1 e1 => hi H1 e1 _ fun H2 e2 => ⟨i, rfl, a, p.map V.int, i, rfl, rfl, (e1.trans e2) _ _ ha, by
    rw [List.length_map, ← List.map_take]
    exact k H2 (e1.trans e2)⟩
def spCodePlan : Sp := fun vs H Q _ => ∃ (l : Addr) (ns plan : List Int), vs = [.ref l] ∧ H l = some (.lst (ns.map V.int)) ∧ ns.length ≤ 1000 ∧ codePlanF ns = some plan ∧ ∀ H' p, Evl.Ex H H' → H p = none → H' p = some (.lst (plan.map V.int)) → Q (.ref p) H'
end
end GL
set_option Elab.async false
set_option linter.all false
set_option maxRecDepth 100000
set_option maxHeartbeats 2000000
/-! # math.comb -/
namespace CbR
open PySem PySem.Spec PyProof.Rows
theorem entry_comb : entryFor table "math.comb" = some Builtin.«math.comb» := entryFor_of_tree (by kernel_rfl)
theorem kind_comb : builtinKind "math.comb" = none := by kernel_rfl
theorem plain_comb : plainId "math.comb" = true := by decide +kernel
theorem args_comb (a b : Value) : argsOk "math.comb" ⟨[a, b], []⟩ := by unfold argsOk; kernel_rfl
/-- what comb gives for 0 <= b <= a -/
def cb (a b : Int) : Int := Builtin.Math.fallingProduct a (min b (a - b)).toNat / Builtin.Math.fallingProduct (min b (a - b)) (min b (a - b)).toNat
theorem mg_run_comb (a : Int) (t : Tok) (b : Int) (u : Tok) (h0 : ¬ a < 0) (h1 : ¬ b < 0) (h2 : ¬ b > a) (h3 : ¬ min b (a - b) > Builtin.Math.maxSsize) (h4 : ¬ min b (a - b) > Builtin.Math.manyFactors) (h5 : ¬ min b (a - b) > 9000)
    (hsz : (Builtin.Math.fallingProduct a (min b (a - b)).toNat / Builtin.Math.fallingProduct (min b (a - b)) (min b (a - b)).toNat).natAbs.log2 < bitsLine) : Gives (Builtin.«math.comb» ⟨[.int a t, .int b u], []⟩) (.int (cb a b)) :=
  .of_wp fun M A E s Q h => by
    obtain ⟨hp, g, d, tk, os⟩ := s
    wp_walk
    (try (refine wpAny_ite_false (decide_eq_false (Nat.not_le.mpr hsz)) ?_; wp_walk))
    exact ⟨_, rfl, h⟩
end CbR
namespace CbR
open PySem PySem.Spec PyProof.Rows L2
theorem fall_bound (a : Int) (h0 : 0 ≤ a) : ∀ n : Nat, (n : Int) ≤ a → (Builtin.Math.fallingProduct a n).natAbs ≤ a.natAbs ^ n := by
  intro n
  induction n with
  | zero => intro _; show (1 : Int).natAbs ≤ _; exact Nat.le_refl _
  | succ n ih =>
    intro hn
    have h := ih (by omega)
    have e : Builtin.Math.fallingProduct a (n + 1) = Builtin.Math.fallingProduct a n * (a - (n : Int)) := by
      unfold Builtin.Math.fallingProduct
      rw [List.range_succ, List.foldl_append]
      rfl
    rw [e, Int.natAbs_mul, Nat.pow_succ]
    exact Nat.mul_le_mul h (by omega)
theorem cb_bound {a b : Int} (h0 : 0 ≤ b) (h1 : b ≤ a) : (cb a b).natAbs ≤ a.natAbs ^ a.natAbs := by
  unfold cb
  have hm : (((min b (a - b)).toNat : Nat) : Int) ≤ a := by omega
  have h := fall_bound a (by omega) (min b (a - b)).toNat hm
  refine Nat.le_trans (Int.natAbs_ediv_le_natAbs _ _) (Nat.le_trans h ?_)
  by_cases z : a = 0
  · subst z
    have : (min b (0 - b)).toNat = 0 := by omega
    rw [this]
    exact Nat.le_refl _
  · exact Nat.pow_le_pow_right (by omega) (by omega)
theorem cb_log {a b : Int} (h0 : 0 ≤ b) (h1 : b ≤ a) (h2 : a ≤ 1000) : (cb a b).natAbs < 2 ^ 10000 := by
  refine Nat.lt_of_le_of_lt (cb_bound h0 h1) ?_
  have h3 : a.natAbs ≤ 1000 := by omega
  refine Nat.lt_of_le_of_lt (Nat.pow_le_pow_left h3 _) (Nat.lt_of_le_of_lt (Nat.pow_le_pow_right (by decide) h3) ?_)
  decide +kernel
def rComb : List V → Hp → VK → Prop := fun vs H Q => ∃ a b : Int, vs = [.int a, .int b] ∧ 0 ≤ b ∧ b ≤ a ∧ a ≤ 1000 ∧ Q (.int (cb a b)) H
theorem cr_comb {X : Cx} : CallR X (.builtin "math.comb") rComb := by
  intro pins s σ H vs us Q I r h
  obtain ⟨a, b, rfl, h0, h1, h2, q⟩ := h
  obtain ⟨t, u, rfl⟩ := Vals.int2 r
  have hl := cb_log h0 h1 h2
  have hlog : (cb a b).natAbs.log2 < bitsLine := by
    by_cases z : (cb a b).natAbs = 0
    · rw [z]
      decide
    · exact Nat.lt_of_lt_of_le ((Nat.log2_lt z).mpr hl) (by decide)
  have g := mg_run_comb a t b u (by omega) (by omega) (by omega) (by show ¬ min b (a - b) > 9223372036854775807; omega) (by unfold Builtin.Math.manyFactors; omega) (by omega) hlog
  exact call_function_meets kind_comb plain_comb entry_comb (args_comb _ _) g.meets ⟨.int _, H, I.tok _, ⟨_, rfl⟩, q⟩
end CbR
set_option Elab.async false
set_option linter.all false
set_option maxRecDepth 100000
set_option maxHeartbeats 8000000
/-! # how many plans -/
namespace GL
open PySem PySem.Spec PyProof.Rows L2 Geo Rel CbR
/-- as many plans of n panes -/
def countF (n : Int) : Int := (((List.range n.toNat).map fun u : Nat => cb (n + 1) (1 + (u : Int) - 1) * cb (n + 1) (1 + (u : Int)) * cb (n + 1) (1 + (u : Int) + 1)).sum) / (cb (n + 1) 1 * cb (n + 1) 2)
theorem cb_den : ∀ n : Fin 200, 0 < cb ((n.val : Int) + 2) 1 * cb ((n.val : Int) + 2) 2 ∧ (cb ((n.val : Int) + 2) 1 * cb ((n.val : Int) + 2) 2).natAbs < 2 ^ 64 := by decide +kernel
section
variable {P : Program} {w : World} {K : PySem.W.Frag} {mg : Str → Option Value} {base : Heap} {σ : L2.St} {H : Hp}
theorem el_lcRg2 {ta : TA} {te : TE} {i j : Int} {n : Nat} {k : Nat} {vs : List Nat} {f : Nat → Int} (h : Evl.EvA ta σ H [.int i, .int j]) (hR : RgOk i j) (hj : (j - i).toNat = n) (hn : n ≤ 40000) (hw : ∀ x, wipe ((wipe σ vs).set k (some x)) vs = wipe σ vs)
    (he : ∀ u, u < n → ∀ H1, Evl.Ex H H1 → Evl.Ev te ((wipe σ vs).set k (some (.int (i + (u : Nat))))) H1 (.int (f u))) : Evl.EvL (tLc (iRng2 ta) (gName k) tYes te vs) σ H (((List.range n).map f).map V.int) := by
  subst hj
  rw [List.map_map]
  refine el_ofRL (g := fun u => V.int (f u)) fun H1 e Q q => h H1 e _ fun H2 e1 => ⟨i, j, rfl, ⟨hR.1, hR.2.1, hR.2.2.1, hR.2.2.2.1⟩, fun Dl hD => ?_⟩
  have hf : (List.range (j - i).toNat).filter (fun _ => true) = List.range (j - i).toNat := List.filter_eq_self.mpr fun _ _ => rfl
  refine lc_rel (H := H2) (walk_range (lo := i) (n := (j - i).toNat)) (zs := List.range (j - i).toNat) List.length_range.symm (fun H3 e2 => trivial) (fun _ => true) (fun u v _ => v = V.int (f u)) (val_m fun u => V.int (f u)) (by rw [List.length_range]; exact hn) (fun a z x H3 H4 hzi hH hy => ?_) hD fun us H3 e2 h3 hq => q Dl H3 (Evl.fresh_back e1 hD) (e1.trans e2) ⟨us, h3, by rwa [hf] at hq⟩
  obtain ⟨rfl, rfl⟩ := hy
  obtain ⟨k1, k2⟩ := List.getElem?_eq_some_iff.mp hzi
  rw [List.getElem_range] at k2
  rw [List.length_range] at k1
  subst k2
  exact ⟨Evl.Ex.refl _, fun Q' k => k _ (hw _) et_yes fun _ => en_int (he a k1 H2 (e.trans e1))⟩
theorem ev_comb {ta tb : TE} {a b : Int} (ha : Evl.Ev ta σ H (.int a)) (hb : Evl.Ev tb σ H (.int b)) (h0 : 0 ≤ b) (h1 : b ≤ a) (h2 : a ≤ 1000) : Evl.Ev (tCB rComb (tCons ta (tCons tb tNil))) σ H (.int (cb a b)) :=
  Evl.ev_cb (vs := [.int a, .int b]) (Evl.ea_cons ha (Evl.ea_cons hb Evl.ea_nil)) fun H1 e1 Q q => ⟨a, b, rfl, h0, h1, h2, q H1 (Evl.Ex.refl _)⟩
theorem ev_mulW {ta tb : TE} {i j : Int} {a b : Nat} (hi : Evl.Ev ta σ H (.int i)) (hj : Evl.Ev tb σ H (.int j)) (ha : i.natAbs < 2 ^ a) (hb : j.natAbs < 2 ^ b) (h0 : 0 < a) (h1 : 0 < b) (h : a + b ≤ 1000000) : Evl.Ev (tOp (rI CMulW fun i j => .int (i * j)) ta tb) σ H (.int (i * j)) :=
  Evl.ev_op hi hj fun H1 e1 Q q => ⟨i, j, rfl, rfl, wide_mul ha hb h0 h1 h, q H1 (Evl.Ex.refl _)⟩
def spCount : Sp := fun vs H Q _ => ∃ n : Int, vs = [.int n] ∧ 1 ≤ n ∧ n ≤ 200 ∧ ∀ H', Evl.Ex H H' → Q (.int (countF n)) H'
end
end GL
set_option Elab.async false
set_option linter.all false
set_option maxRecDepth 100000
set_option maxHeartbeats 8000000
/-! # the numbers that can stand next, and how many codes go on so -/
namespace GL
open PySem PySem.Spec PyProof.Rows L2 Geo Rel
def numbersF (lo ri : Int) : List Int := ((List.range ri.toNat).map fun i : Nat => -ri + (i : Int)) ++ (List.range lo.toNat).map fun i : Nat => 1 + (i : Int)
def growB (lo ri n : Int) : Int × Int := if n > 0 then (lo - n + 1, ri + 1) else (lo + 1, ri + n + 1)
def atF (tab : List (List Int)) (i j : Int) : Int := (tab.getD (i - 1).toNat []).getD (j - 1).toNat 0
def branchesF (tab : List (List Int)) (lo ri : Int) : List (Int × Int) := (numbersF lo ri).map fun n => (n, atF tab (growB lo ri n).1 (growB lo ri n).2)
/-- the table has a place for what grows -/
def fitsF (tab : List (List Int)) (lo ri : Int) : Prop := ∀ n ∈ numbersF lo ri, 1 ≤ (growB lo ri n).1 ∧ (growB lo ri n).1 ≤ tab.length ∧ 1 ≤ (growB lo ri n).2 ∧ (growB lo ri n).2 ≤ (tab.getD ((growB lo ri n).1 - 1).toNat []).length
section
variable {P : Program} {w : World} {K : PySem.W.Frag} {mg : Str → Option Value} {base : Heap} {σ : L2.St} {H : Hp}
theorem el_lstRg {ta tb : TE} {i j : Int} (ha : Evl.Ev ta σ H (.int i)) (hb : Evl.Ev tb σ H (.int j)) (h : RgOk i j) : Evl.EvL (tLstRg (tRg2 ta tb)) σ H (rgV i j) := fun H1 e Q q =>
  ha H1 e _ fun H2 e2 => hb H2 (e.trans e2) _ fun H3 e3 => ⟨i, j, rfl, rfl, h, fun r nr => q r _ (Evl.fresh_back (e2.trans e3) nr) ((e2.trans e3).trans (Evl.Ex.new nr)) upd_same⟩
theorem g_asgU2 {te : TE} {i j : Nat} {a b : V} {D : Ends} {tz : TS} (h : Evl.EvU te σ H [a, b]) (k : ∀ H1, Evl.Ex H H1 → tz D ((σ.set i (some a)).set j (some b)) H1) : tSeq (tAsg te (gTup K 2 (gCons (gName i) (gCons (gName j) gNil)))) tz D σ H :=
  h H (Evl.Ex.refl H) _ fun p H1 np e1 hp => g_tup2v hp (k H1 e1)
theorem eu_callB {sp : Sp} {dvs vs xs : List V} {E : XK} {ta : TA} (h : Evl.EvA ta σ H vs) (hs : ∀ H1, Evl.Ex H H1 → ∀ Q : VK, (∀ p H2, H1 p = none → Evl.Ex H1 H2 → H2 p = some (.tup xs) → Q (.ref p) H2) → ∀ E : XK, sp (vs ++ dvs) H1 Q E) : Evl.EvU (tCall sp dvs E ta) σ H xs := fun H1 e Q q =>
  h H1 e _ fun H2 e2 => hs H2 (e.trans e2) _ (fun p H3 np e3 hp => q p H3 (Evl.fresh_back e2 np) (e2.trans e3) hp) E
def spNumbers : Sp := fun vs H Q _ => ∃ lo ri : Int, vs = [.int lo, .int ri] ∧ (0 ≤ lo ∧ lo ≤ 1000 ∧ 0 ≤ ri ∧ ri ≤ 1000) ∧ ∀ H' p, Evl.Ex H H' → H p = none → H' p = some (.lst ((numbersF lo ri).map V.int)) → Q (.ref p) H'
def spBranches : Sp := fun vs H Q _ => ∃ (t : Addr) (tab : List (List Int)) (lo ri : Int), vs = [.ref t, .int lo, .int ri] ∧ (0 ≤ lo ∧ lo ≤ 1000 ∧ 0 ≤ ri ∧ ri ≤ 1000) ∧ RL lstI H t tab ∧ fitsF tab lo ri ∧ ∀ H' p, Evl.Ex H H' → H p = none → RL (fun z : Int × Int => tupI [z.1, z.2]) H' p (branchesF tab lo ri) → Q (.ref p) H'
end
end GL
set_option Elab.async false
set_option linter.all false
set_option maxRecDepth 100000
set_option maxHeartbeats 2000000
/-! # list(itertools.accumulate(a list of whole numbers)) -/
namespace AcR
open PySem PySem.Spec PyProof.Rows MpR
abbrev T : String := "itertools.accumulate"
theorem owner_ac : Manifest.owners.lookup (String.ofList ['e', 't', 'a', 'l', 'u', 'm', 'u', 'c', 'c', 'a', '.', 's', 'l', 'o', 'o', 't', 'r', 'e', 't', 'i'].reverse) = some Manifest.sig_itertools_accumulate := by kernel_rfl
theorem sub_ac : isSubtype (.type "itertools.accumulate") (.type "itertools.accumulate") = pure true := by rw [isSubtype_type]; kernel_rfl
theorem mro_ac : mroOf (.type "itertools.accumulate") = pure [.type "itertools.accumulate", .type "object"] := by rw [mroOf_type]; kernel_rfl
theorem lookup_ac_new : typeLookup (.type "itertools.accumulate") "__new__" = pure (some (.builtin "itertools.accumulate.__new__")) := by rw [typeLookup_type, builtinLookup_eq_fast]; kernel_rfl
theorem slot_ac_init : Slot "itertools.accumulate" "__init__" "object.__init__" :=
  .of (owner := "object") (n := "__init__") (by rw [typeLookup_type, builtinLookup_eq_fast]; kernel_rfl) (by decide +kernel) (by decide +kernel) (by decide +kernel)
    (by first | exact .inl (by decide +kernel) | exact .inr (by decide +kernel)) (by rw [isSubtype_type]; kernel_rfl)
theorem called_ac : TypeCalled "itertools.accumulate" "itertools.accumulate.__new__" "object.__init__" :=
  ⟨by decide +kernel, by decide +kernel, ⟨_, _, mro_ac⟩, madeBy_type mro_ac lookup_ac_new (by decide +kernel), by decide +kernel, sub_ac, slot_ac_init⟩
theorem typeCall_ac (a : Value) : checkTypeCall "itertools.accumulate" ⟨[a], []⟩ = pure () := by kernel_rfl
theorem newCall_ac (a : Value) : checkBuiltinCall "itertools.accumulate.__new__" ⟨[.type "itertools.accumulate", a], []⟩ = pure () := by kernel_rfl
theorem entry_ac_new : entryFor table "itertools.accumulate.__new__" = some Builtin.«itertools.accumulate.__new__» := entryFor_of_tree (by kernel_rfl)
theorem slot_ac_iter : Slot "itertools.accumulate" "__iter__" "itertools.accumulate.__iter__" :=
  .of (owner := "itertools.accumulate") (n := "__iter__") (by rw [typeLookup_type, builtinLookup_eq_fast]; kernel_rfl) (by decide +kernel) (by decide +kernel) (by decide +kernel)
    (by first | exact .inl (by decide +kernel) | exact .inr (by decide +kernel)) sub_ac
theorem slot_ac_next : Slot "itertools.accumulate" "__next__" "itertools.accumulate.__next__" :=
  .of (owner := "itertools.accumulate") (n := "__next__") (by rw [typeLookup_type, builtinLookup_eq_fast]; kernel_rfl) (by decide +kernel) (by decide +kernel) (by decide +kernel)
    (by first | exact .inl (by decide +kernel) | exact .inr (by decide +kernel)) sub_ac
theorem entry_ac_iter : entryFor table "itertools.accumulate.__iter__" = some Builtin.«dict_keyiterator.__iter__» :=
  entryFor_alias (id' := "dict_keyiterator.__iter__") (by kernel_rfl) (by first | rfl | decide +kernel | (unfold String.splitOn; simp +decide [String.splitOnAux])) (by decide +kernel) (by kernel_rfl)
theorem entry_ac_next : entryFor table "itertools.accumulate.__next__" = some Builtin.«itertools.accumulate.__next__» := entryFor_of_tree (by kernel_rfl)
theorem args_ac_iter (a : Value) : argsOk "itertools.accumulate.__iter__" ⟨[a], []⟩ := by
  unfold argsOk; rw [signature?_of (id := "itertools.accumulate.__iter__") (n := ['_', '_', 'r', 'e', 't', 'i', '_', '_']) (o := ['e', 't', 'a', 'l', 'u', 'm', 'u', 'c', 'c', 'a', '.', 's', 'l', 'o', 'o', 't', 'r', 'e', 't', 'i']) (by kernel_rfl) owner_ac]; kernel_rfl
theorem args_ac_next (a : Value) : argsOk "itertools.accumulate.__next__" ⟨[a], []⟩ := by
  unfold argsOk; rw [signature?_of (id := "itertools.accumulate.__next__") (n := ['_', '_', 't', 'x', 'e', 'n', '_', '_']) (o := ['e', 't', 'a', 'l', 'u', 'm', 'u', 'c', 'c', 'a', '.', 's', 'l', 'o', 'o', 't', 'r', 'e', 't', 'i']) (by kernel_rfl) owner_ac]; kernel_rfl
theorem noDict_ac : typeHasDict (.type "itertools.accumulate") = false := by decide +kernel
theorem nolen_ac : typeLookup (.type "itertools.accumulate") "__len__" = pure none := by rw [typeLookup_type, builtinLookup_eq_fast]; kernel_rfl
theorem nohint_ac : typeLookup (.type "itertools.accumulate") "__length_hint__" = pure none := by rw [typeLookup_type, builtinLookup_eq_fast]; kernel_rfl
theorem class_ac (x : Value) : Builtin.Itertools.itClassAndRest "accumulate" ⟨[.type "itertools.accumulate", x], []⟩ = pure (.type "itertools.accumulate", [x]) := by
  unfold Builtin.Itertools.itClassAndRest
  have e : ("itertools." ++ "accumulate" : String) = "itertools.accumulate" := by decide +kernel
  simp only [e, isType, sub_ac, pure_bind, Bool.not_true, Bool.false_eq_true, if_false]
theorem named_ac (x : Value) : Builtin.Itertools.itBindNamed "accumulate" ["iterable", "func", "initial"] 1 2 [x] [] = pure [some x, none, none] := by kernel_rfl

/-- an accumulate object: the iterator it draws from, the sum so far -/
abbrev IsAc (h : Heap) (m it : Addr) (tot : Value) : Prop := h.get? m = some { cls := .type "itertools.accumulate", dict := none, data := .fields #[.ref it, .none, tot, .none], slots := #[] }
section
variable {prog : Program} {w : World} {A : Around} {E : Value → Shared → Prop} {s : Shared}
theorem new_ac (x : Value) : MeetsIn prog w (Builtin.«itertools.accumulate.__new__» ⟨[.type "itertools.accumulate", x], []⟩)
    (fun A R s => wpAny (model prog w) A.in1 (pyIter x) (fun itv s1 => R (.ok (.ret (.ref s1.heap.objs.size))) { s1 with heap := s1.heap.push { cls := .type "itertools.accumulate", data := .fields #[itv, .none, rawInt 0, .none] } }) (fun e s1 => R (.error e) s1) s) :=
  .of_wp fun A R s h => by
    unfold Builtin.«itertools.accumulate.__new__»
    refine wpAny_bind (wpAny_of_eq (class_ac x) ?_)
    try dsimp only
    refine wpAny_bind (wpAny_of_eq (named_ac x) ?_)
    try dsimp only
    refine wpAny_bind (wpAny_mono h (fun itv s1 hR => ?_) fun _ _ z => z)
    refine wpAny_bind ?_
    unfold Builtin.Itertools.itNewRecord
    rw [noDict_ac]
    show wpAny _ _ ((newObj (.type "itertools.accumulate") (.fields #[itv, .none, rawInt 0, .none]) >>= _)) _ _ _
    refine wpAny_bind (wpAny_newObj_type ?_)
    exact wpAny_pure (wpAny_pure ⟨_, rfl, hR⟩)

/-! ### __next__ of the list's iterator, as accumulate asks it -/
theorem raw_item {it l : Addr} {i : Nat} {items} {x : Value} {Q : Value → Shared → Prop} (hit : s.heap.IsListIter it l i)
    (hl : s.heap.IsList l items) (hx : items[i]? = some x)
    (hQ : ∀ h', h'.IsListIter it l (i + 1) → Heap.SameBut it s.heap h' → Q x { s with heap := h' }) :
    wpAny (model prog w) A (Builtin.Itertools.itRawNext (.ref it)) Q E s := by
  obtain ⟨o, ho, hc, hd⟩ := id hit
  obtain ⟨ol, hol, _, nl, hdl⟩ := hl
  unfold Builtin.Itertools.itRawNext
  refine wpAny_bind (wpAny_callSpecial?_slot (name := Str.ofString "__next__") hit.typeIs slot_listiter_next
    (wpAny_call_entry slot_listiter_next hit.typeIs entry_listiter_next ?_ (args_listiter_next _)))
  show wpAny _ _ (field (.ref it) 0 >>= _) _ _ s
  refine wpAny_bind (wpAny_field ho hd (x := .ref l) rfl ?_)
  show wpAny _ _ (if (Value.ref l == Value.none) = true then _ else _) _ _ s
  rw [if_neg (show ¬ ((Value.ref l == Value.none) = true) from Bool.false_ne_true)]
  show wpAny _ _ (field (.ref it) 1 >>= _) _ _ s
  refine wpAny_bind (wpAny_field ho hd (x := .int i 0) rfl ?_)
  show wpAny _ _ (seqItems? (.ref l) >>= _) _ _ s
  refine wpAny_bind (wpAny_seqItems hol hdl ?_)
  simp only [Int.toNat_natCast, hx]
  refine wpAny_bind (wpAny_setField ho hd (by simp) (wpAny_pure ⟨x, rfl, wpAny_pure (hQ _ ?_ (Heap.SameBut.update ..))⟩))
  exact ⟨_, Heap.get?_update_self _ ho (Obj.isFreed_of_fields (Obj.data_mapFields hd _)), (Obj.cls_mapFields ..).trans hc, by
    rw [Obj.data_mapFields hd]; simp [rawInt]⟩
theorem raw_end {it l : Addr} {i : Nat} {items} {Q : Value → Shared → Prop} (hh : A.handled = none)
    (hit : s.heap.IsListIter it l i) (hl : s.heap.IsList l items) (hx : items[i]? = none)
    (hE : ∀ h' e, Heap.ExtBut it s.heap h' → (∃ o, h'.get? e = some o ∧ o.cls = .type "StopIteration") → E (.ref e) { s with heap := h' }) :
    wpAny (model prog w) A (Builtin.Itertools.itRawNext (.ref it)) Q E s := by
  obtain ⟨o, ho, hc, hd⟩ := id hit
  obtain ⟨ol, hol, _, nl, hdl⟩ := hl
  unfold Builtin.Itertools.itRawNext
  refine wpAny_bind (wpAny_callSpecial?_slot (name := Str.ofString "__next__") hit.typeIs slot_listiter_next
    (wpAny_call_entry slot_listiter_next hit.typeIs entry_listiter_next ?_ (args_listiter_next _)))
  show wpAny _ _ (field (.ref it) 0 >>= _) _ _ s
  refine wpAny_bind (wpAny_field ho hd (x := .ref l) rfl ?_)
  show wpAny _ _ (if (Value.ref l == Value.none) = true then _ else _) _ _ s
  rw [if_neg (show ¬ ((Value.ref l == Value.none) = true) from Bool.false_ne_true)]
  show wpAny _ _ (field (.ref it) 1 >>= _) _ _ s
  refine wpAny_bind (wpAny_field ho hd (x := .int i 0) rfl ?_)
  show wpAny _ _ (seqItems? (.ref l) >>= _) _ _ s
  refine wpAny_bind (wpAny_seqItems hol hdl ?_)
  simp only [Int.toNat_natCast, hx]
  refine wpAny_bind (wpAny_rule (wpAny_bind (wpAny_setField ho hd (by simp) ?_)))
  show wpAny _ _ (newExc (.type "StopIteration") [] >>= _) _ _ _
  refine wpAny_bind ?_
  simp only [newExc, newTuple]
  refine wpAny_bind (wpAny_newObj_type ?_ (by size_fits))
  refine wpAny_bind (m := firstArgMember _ _) (wpAny_of_eq (a := Value.none) (by first | rfl | (simp only [firstArgMember]; rfl)) ?_)
  refine wpAny_newObj_type ?_ (by size_fits)
  simp only [raiseNew]
  refine wpAny_bind (wpAny_handled ?_)
  first | rw [show A.in1.handled = none from hh] | rw [hh]
  refine wpAny_bind (wpAny_pure (wpAny_throw ?_))
  exact hE _ _ (((Heap.SameBut.update ..).extBut.push _).push _) ⟨_, Heap.get?_push_size _ rfl, rfl⟩

/-! ### __next__, __iter__ of the accumulate object -/
theorem ac_next_item {m it l : Addr} {i : Nat} {items : Array Value} {a b : Int} {t u : Tok} {Q : Value → Shared → Prop} (hm : IsAc s.heap m it (.int a t)) (hit : s.heap.IsListIter it l i) (hl : s.heap.IsList l items) (hx : items[i]? = some (.int b u))
    (hmi : m ≠ it) (hml : m ≠ l) (hli : l ≠ it)
    (hQ : ∀ s' t', IsAc s'.heap m it (.int (a + b) t') → s'.heap.IsListIter it l (i + 1) → s'.heap.IsList l items → (∀ c o, c ≠ it → c ≠ m → s.heap.get? c = some o → s'.heap.get? c = some o) →
      s'.gens = s.gens → s'.drawn = s.drawn → s'.os = s.os → s.toks ≤ s'.toks → Q (.int (a + b) t') s') :
    wpAny (model prog w) A (Builtin.«itertools.accumulate.__next__» ⟨[.ref m], []⟩) (fun fin s' => ∃ v, fin = .done (.ret v) ∧ Q v s') E s := by
  show wpAny _ _ (field (.ref m) 3 >>= _) _ _ _
  refine wpAny_bind (wpAny_field hm rfl (x := .none) rfl ?_)
  show wpAny _ _ (field (.ref m) 0 >>= _) _ _ _
  refine wpAny_bind (wpAny_field hm rfl (x := .ref it) rfl ?_)
  show wpAny _ _ (Builtin.Itertools.itRawNext (.ref it) >>= _) _ _ _
  refine wpAny_bind (raw_item hit hl hx fun h1 hit1 hs1 => ?_)
  have hm1 : IsAc h1 m it (.int a t) := hs1.extBut _ _ hmi hm
  have hl1 : h1.IsList l items := hl.extBut hs1.extBut hli
  show wpAny _ _ (field (.ref m) 2 >>= _) _ _ _
  refine wpAny_bind (wpAny_field hm1 rfl (x := .int a t) rfl ?_)
  show wpAny _ _ (if ((Value.int a t == Builtin.Itertools.itNothing) = true) then _ else _) _ _ _
  have lay : ∀ (v : Value), IsAc (h1.update m (Obj.mapFields fun x => x.setIfInBounds 2 v)) m it v := fun v => Heap.get?_update_self _ hm1 rfl
  have keep : ∀ (v : Value) c o, c ≠ m → h1.get? c = some o → (h1.update m (Obj.mapFields fun x => x.setIfInBounds 2 v)).get? c = some o := fun v c o n e => (Heap.get?_update_other _ _ (Ne.symm n)).trans e
  by_cases z : (Value.int a t == Builtin.Itertools.itNothing) = true
  · rw [if_pos z]
    have ha : a = 0 := by
      have z2 : Value.int a t = Builtin.Itertools.itNothing := by first | exact eq_of_beq z | exact LawfulBEq.eq_of_beq z
      have z3 : Value.int a t = Value.int 0 0 := z2
      exact (Value.int.inj z3).1
    subst ha
    refine wpAny_bind (wpAny_rule ?_)
    refine wpAny_bind (wpAny_setField hm1 rfl (by simp) ?_)
    refine wpAny_pure ⟨_, rfl, ?_⟩
    have e0 : (0 : Int) + b = b := Int.zero_add b
    have hq := hQ { s with heap := h1.update m (Obj.mapFields fun x => x.setIfInBounds 2 (.int b u)) } u
    rw [e0] at hq
    refine hq (lay _) ?_ ?_ (fun c o n1 n2 e => keep _ c o n2 (hs1.extBut c o n1 e)) rfl rfl rfl (Nat.le_refl _)
    · exact hit1.at fun o e => keep _ it o (Ne.symm hmi) e
    · exact hl1.at fun o e => keep _ l o (Ne.symm hml) e
  · rw [if_neg z]
    show wpAny _ _ (field (.ref m) 1 >>= _) _ _ _
    refine wpAny_bind (wpAny_field hm1 rfl (x := .none) rfl ?_)
    show wpAny _ _ (holding _ (binaryOp .Add (.int a t) (.int b u)) >>= _) _ _ _
    refine wpAny_bind (wpAny_holding (wpAny_add_int ?_))
    refine wpAny_bind (wpAny_setField hm1 rfl (by simp) ?_)
    refine wpAny_bind (wpAny_letGo ?_)
    refine wpAny_pure ⟨_, rfl, hQ _ _ (lay _) ?_ ?_ (fun c o n1 n2 e => keep _ c o n2 (hs1.extBut c o n1 e)) rfl rfl rfl (Nat.le_succ _)⟩
    · exact hit1.at fun o e => keep _ it o (Ne.symm hmi) e
    · exact hl1.at fun o e => keep _ l o (Ne.symm hml) e
theorem ac_pyNext_item {m it l : Addr} {i : Nat} {items : Array Value} {a b : Int} {t u : Tok} {Q : Option Value → Shared → Prop} (hm : IsAc s.heap m it (.int a t)) (hit : s.heap.IsListIter it l i) (hl : s.heap.IsList l items) (hx : items[i]? = some (.int b u))
    (hmi : m ≠ it) (hml : m ≠ l) (hli : l ≠ it)
    (hQ : ∀ s' t', IsAc s'.heap m it (.int (a + b) t') → s'.heap.IsListIter it l (i + 1) → s'.heap.IsList l items → (∀ c o, c ≠ it → c ≠ m → s.heap.get? c = some o → s'.heap.get? c = some o) →
      s'.gens = s.gens → s'.drawn = s.drawn → s'.os = s.os → s.toks ≤ s'.toks → Q (some (.int (a + b) t')) s') :
    wpAny (model prog w) A (pyNext (.ref m)) Q E s := by
  have hT0 : s.TypeIs (.ref m) "itertools.accumulate" := ⟨_, hm, rfl⟩
  unfold pyNext
  exact wpAny_bind (wpAny_attempt (wpAny_callSpecial?_slot (name := Str.ofString "__next__") hT0 slot_ac_next
    (wpAny_call_entry slot_ac_next hT0 entry_ac_next
      (ac_next_item hm hit hl hx hmi hml hli fun s' t' a1 a2 a3 a4 g1 g2 g3 g4 => wpAny_pure (hQ s' t' a1 a2 a3 a4 g1 g2 g3 g4)) (args_ac_next _))))
theorem ac_pyNext_end {m it l : Addr} {i : Nat} {items : Array Value} {tot : Value} {Q : Option Value → Shared → Prop} (hh : A.handled = none) (hm : IsAc s.heap m it tot) (hit : s.heap.IsListIter it l i) (hl : s.heap.IsList l items) (hx : items[i]? = none)
    (hQ : ∀ h', Heap.ExtBut it s.heap h' → Q none { s with heap := h' }) : wpAny (model prog w) A (pyNext (.ref m)) Q E s := by
  have hT0 : s.TypeIs (.ref m) "itertools.accumulate" := ⟨_, hm, rfl⟩
  have hh1 : A.in1.handled = none := hh
  unfold pyNext
  refine wpAny_bind (wpAny_attempt (wpAny_callSpecial?_slot (name := Str.ofString "__next__") hT0 slot_ac_next
    (wpAny_call_entry slot_ac_next hT0 entry_ac_next ?_ (args_ac_next _))))
  show wpAny _ _ (field (.ref m) 3 >>= _) _ _ _
  refine wpAny_bind (wpAny_field hm rfl (x := .none) rfl ?_)
  show wpAny _ _ (field (.ref m) 0 >>= _) _ _ _
  refine wpAny_bind (wpAny_field hm rfl (x := .ref it) rfl ?_)
  show wpAny _ _ (Builtin.Itertools.itRawNext (.ref it) >>= _) _ _ _
  refine wpAny_bind (raw_end hh hit hl hx fun h' x he' hx' => ?_)
  obtain ⟨o, ho, hc⟩ := hx'
  refine wpAny_bind (wpAny_isInstance (T := "StopIteration") (b := true) ⟨o, ho, hc⟩ isSubtype_stop ?_)
  exact wpAny_pure (hQ _ he')
theorem ac_pyIter {m it : Addr} {tot : Value} {Q : Value → Shared → Prop} (hm : IsAc s.heap m it tot) (h : Q (.ref m) s) : wpAny (model prog w) A (pyIter (.ref m)) Q E s := by
  have hT : s.TypeIs (.ref m) "itertools.accumulate" := ⟨_, hm, rfl⟩
  refine wpAny_pyIter_slot hT slot_ac_iter (wpAny_call_entry slot_ac_iter hT entry_ac_iter ?_ (args_ac_iter _))
  show wpAny _ _ (ret (.ref m)) _ _ s
  exact wpAny_pure ⟨_, rfl, "itertools.accumulate", _, hT, slot_ac_next.lookup, h⟩
end
/-- an accumulate object over a list of whole numbers is walked -/
theorem walks_ac {prog : Program} {w : World} {A : Around} {m it l : Addr} {items : Array Value} {val : Nat → Int} (hh : A.handled = none) (hmi : m ≠ it) (hml : m ≠ l) (hli : l ≠ it) (hv : ∀ (i : Nat) (v : Value), items[i]? = some v → ∃ t, v = Value.int (val i) t) :
    WalksS prog w A m [m, it, l] [m, it] (fun a b => b = a) items.size (fun i v => ∃ t, v = Value.int (preSum val (i + 1)) t)
      (fun i s => (∃ t, IsAc s.heap m it (.int (preSum val i) t)) ∧ s.heap.IsListIter it l i ∧ s.heap.IsList l items) where
  sub := fun b hb => by
    rcases List.mem_cons.mp hb with rfl | hb
    · simp
    · rw [List.mem_singleton.mp hb]; simp
  grefl := fun _ => rfl
  gtrans := fun _ _ _ h1 h2 => h2.trans h1
  frame := fun i s h' tk st _ hk => by
    obtain ⟨⟨t, h1⟩, h2, h3⟩ := st
    exact ⟨⟨t, hk m (by simp) _ h1⟩, h2.at fun o e => hk it (by simp) o e, h3.at fun o e => hk l (by simp) o e⟩
  item := fun i s Q E hi st hQ => by
    obtain ⟨⟨t, h1⟩, h2, h3⟩ := st
    have hx : items[i]? = some items[i] := by simp [hi]
    obtain ⟨u, hu⟩ := hv i _ hx
    rw [hu] at hx
    refine ac_pyNext_item h1 h2 h3 hx hmi hml hli fun s' t' a1 a2 a3 a4 g1 g2 g3 g4 => ?_
    refine hQ _ s' ⟨t', rfl⟩ ⟨⟨t', a1⟩, a2, a3⟩ ⟨fun b o hb e => a4 b o (fun z => hb (by simp [z])) (fun z => hb (by simp [z])) e, g1, g2, g3, g4⟩
  done := fun s Q E st hQ => by
    obtain ⟨⟨t, h1⟩, h2, h3⟩ := st
    exact ac_pyNext_end hh h1 h2 h3 (by simp) fun h' hx => hQ _ ⟨fun b o hb e => hx b o (fun z => hb (by simp [z])) e, rfl, rfl, rfl, Nat.le_refl _⟩
  self := fun i s Q E st hQ => by
    obtain ⟨⟨t, h1⟩, h2, h3⟩ := st
    exact ac_pyIter h1 hQ
/-! ### list(it) of any iterator that gives no hint of its length -/
section
variable {prog : Program} {w : World} {A : Around} {s : Shared} {R : Result → Shared → Prop}
variable {I : Addr} {fp wr : List Addr} {G : Array GenState → Array GenState → Prop} {n : Nat} {P : Nat → Value → Prop} {St : Nat → Shared → Prop}

theorem ext_it {T : String} (hl : typeLookup (.type T) "__len__" = pure none) (hn0 : typeLookup (.type T) "__length_hint__" = pure none) (h2 : (Value.type T == Value.type "list") = false) (h3 : (Value.type T == Value.type "tuple") = false) (W : WalksS prog w A.in1 I fp wr G n P St) (hT : ∀ i s, St i s → s.TypeIs (.ref I) T) (S : Addr) (res : Value) (c₀ : Nat) (hst : St 0 s) (hSf : S ∉ fp) (hI : I ∈ fp)
    (hS : s.heap.get? S = some { cls := .type "list", data := .seq #[] c₀ })
    (hR : ∀ s' acc' c', Moved (S :: wr) G s s' → s'.heap.get? S = some { cls := .type "list", dict := none, data := .seq acc' c', slots := #[] } → ItemsOf P acc' n → R (.ok (.ret res)) s') (hn : n ≤ sizeLine := by size_fits) :
    wpAny (model prog w) A.in1 (Builtin.List.listExtendWith (.ref S) (.ref I) res)
      (fun fin s' => match fin with | .done f => R (.ok f) s' | .again c' => c'.quiet = true ∧ codeAny (model prog w) A c' R s') (fun e s' => R (.error e) s') s := by
  have hSI : S ≠ I := fun e => hSf (e ▸ hI)
  unfold Builtin.List.listExtendWith
  refine wpAny_bind (wpAny_typeOf (hT 0 _ hst) ?_)
  have h1 : Builtin.List.listSameRef (.ref S) (.ref I) = false := by simp [Builtin.List.listSameRef, hSI]
  simp only [h1, h2, h3, Bool.or_false, Bool.false_eq_true, if_false]
  refine wpAny_bind (W.self 0 _ _ _ hst ?_)
  refine wpAny_bind (wpAny_holding ?_)
  unfold Builtin.List.listLengthHint
  refine wpAny_bind (wpAny_specialOf (hT 0 _ hst) hl ?_)
  show wpAny _ A.in1 (specialOf (Value.ref I) (Str.ofString "__length_hint__") >>= _) _ _ _
  refine wpAny_bind (wpAny_specialOf (hT 0 _ hst) hn0 ?_)
  refine wpAny_pure ?_
  show wpAny _ A.in1 (rule "list.extend.makes-room" >>= fun _ => Builtin.List.listTouch (.ref S) >>= fun _ =>
    again (.builtin "list.extend.loop" ⟨[.ref S, .ref I, res], []⟩)) _ _ _
  refine wpAny_bind (wpAny_rule ?_)
  refine wpAny_bind ?_
  show wpAny _ A.in1 (updateSeq S (·.push .none) >>= fun _ => updateSeq S (·.pop)) _ _ _
  refine wpAny_bind (wpAny_updateSeq hS rfl ?_)
  have hS₂ := Heap.get?_update_self (Obj.mapSeq (·.push Value.none)) hS rfl
  refine wpAny_updateSeq (hz := by seq_fits) hS₂ rfl ?_
  have hS₃ := Heap.get?_update_self (Obj.mapSeq (·.pop)) hS₂ rfl
  have oth : ∀ b o, b ≠ S → s.heap.get? b = some o → ((s.heap.update S (Obj.mapSeq (·.push Value.none))).update S (Obj.mapSeq (·.pop))).get? b = some o :=
    fun b o hb e => (Heap.get?_update_other _ _ (Ne.symm hb)).trans ((Heap.get?_update_other _ _ (Ne.symm hb)).trans e)
  refine wpAny_pure ⟨plainId_quiet F.plain_extend_loop _, codeAny_extend_loopS W hn _ hSf _ n 0 _ _ _ rfl (Nat.zero_le _)
    (W.frame 0 s _ s.toks hst (Nat.le_refl _) fun b hb o e => oth b o (fun h => hSf (h ▸ hb)) e) hS₃ (ItemsOf.nil P) fun s' acc' c' hm hS' hacc => ?_⟩
  exact hR s' acc' c' (Moved.trans W.gtrans ((Moved.refl W.grefl).then_heap (Nat.le_refl _) fun b o hb e => oth b o (fun h => hb (h ▸ List.mem_cons_self)) e) hm) hS' hacc

theorem init_it {T : String} (hl : typeLookup (.type T) "__len__" = pure none) (hn0 : typeLookup (.type T) "__length_hint__" = pure none) (h2 : (Value.type T == Value.type "list") = false) (h3 : (Value.type T == Value.type "tuple") = false) (W : WalksS prog w A.in1 I fp wr G n P St) (hT : ∀ i s, St i s → s.TypeIs (.ref I) T) (S : Addr) (hst : St 0 s) (hSf : S ∉ fp) (hI : I ∈ fp)
    (hS : s.heap.get? S = some { cls := .type "list", data := .seq #[] })
    (hR : ∀ s' acc' c', Moved (S :: wr) G s s' → s'.heap.get? S = some { cls := .type "list", dict := none, data := .seq acc' c', slots := #[] } → ItemsOf P acc' n → R (.ok (.ret .none)) s') (hn : n ≤ sizeLine := by size_fits) :
    wpAny (model prog w) A.in1 (Builtin.«list.__init__» ⟨[.ref S, .ref I], []⟩)
      (fun fin s' => match fin with | .done f => R (.ok f) s' | .again c' => c'.quiet = true ∧ codeAny (model prog w) A c' R s') (fun e s' => R (.error e) s') s := by
  show wpAny _ A.in1 (do let old ← Builtin.List.listItems (.ref S); Builtin.List.listUpdate (.ref S) (fun _ => #[]); letGo old.toList.reverse; Builtin.List.listExtendWith (.ref S) (.ref I) .none) _ _ s
  refine wpAny_bind ?_
  unfold Builtin.List.listItems
  refine wpAny_bind (wpAny_seqItems hS rfl (wpAny_pure ?_))
  show wpAny _ A.in1 (updateSeq S (fun _ => #[]) >>= fun _ => letGo (#[] : Array Value).toList.reverse >>= fun _ => Builtin.List.listExtendWith (.ref S) (.ref I) .none) _ _ s
  refine wpAny_bind (wpAny_updateSeq hS rfl ?_)
  have hS₂ := Heap.get?_update_self (Obj.mapSeq (fun _ => (#[] : Array Value))) hS rfl
  have oth : ∀ b o, b ≠ S → s.heap.get? b = some o → (s.heap.update S (Obj.mapSeq (fun _ => (#[] : Array Value)))).get? b = some o :=
    fun b o hb e => (Heap.get?_update_other _ _ (Ne.symm hb)).trans e
  refine wpAny_bind (wpAny_letGo ?_)
  refine ext_it (hn := hn) hl hn0 h2 h3 W hT S .none _ (W.frame 0 s _ s.toks hst (Nat.le_refl _) fun b hb o e => oth b o (fun h => hSf (h ▸ hb)) e) hSf hI hS₂ fun s' acc' c' hm hS' hacc => ?_
  exact hR s' acc' c' (Moved.trans W.gtrans ((Moved.refl W.grefl).then_heap (Nat.le_refl _) fun b o hb e => oth b o (fun h => hb (h ▸ List.mem_cons_self)) e) hm) hS' hacc
end

section
variable {prog : Program} {w : World} {A : Around} {E : Value → Shared → Prop} {s : Shared}
variable {I : Addr} {fp wr : List Addr} {G : Array GenState → Array GenState → Prop} {n : Nat} {P : Nat → Value → Prop} {St : Nat → Shared → Prop}

theorem list_it {Q : Value → Shared → Prop} {T : String} (hl : typeLookup (.type T) "__len__" = pure none) (hn0 : typeLookup (.type T) "__length_hint__" = pure none) (h2 : (Value.type T == Value.type "list") = false) (h3 : (Value.type T == Value.type "tuple") = false) (W : WalksS prog w A.in1.in1 I fp wr G n P St) (hT : ∀ i s, St i s → s.TypeIs (.ref I) T) (hst : St 0 s) (hfp : ∀ b ∈ fp, b < s.heap.objs.size) (hI : I ∈ fp)
    (hQ : ∀ s' acc' c', Moved (s.heap.objs.size :: wr) G { s with heap := s.heap.push { cls := .type "list", data := .seq #[] } } s' →
      s'.heap.get? s.heap.objs.size = some { cls := .type "list", dict := none, data := .seq acc' c', slots := #[] } → ItemsOf P acc' n → Q (.ref s.heap.objs.size) s') (hn : n ≤ sizeLine := by size_fits) :
    wpAny (model prog w) A (call (.type "list") [.ref I]) Q E s := by
  have hSf : s.heap.objs.size ∉ fp := fun hm => Nat.lt_irrefl _ (hfp _ hm)
  refine callType_codes (Q₁ := fun obj s₁ => obj = .ref s.heap.objs.size ∧ s₁ = { s with heap := s.heap.push { cls := .type "list", data := .seq #[] } }) F.called_list (F.typeCall_list_1 _) F.entry_list_init
    (code_list_new _ ⟨rfl, rfl⟩) fun obj s₁ h₁ => ?_
  obtain ⟨rfl, rfl⟩ := h₁
  have hS : (s.heap.push { cls := .type "list", data := .seq #[] }).get? s.heap.objs.size = some { cls := .type "list", data := .seq #[] } := Heap.get?_push_size _ rfl
  refine ⟨⟨_, hS, rfl⟩, F.args_list_init_2 _ _, init_it (hn := hn) hl hn0 h2 h3 W hT _ (W.frame 0 s _ s.toks hst (Nat.le_refl _) fun b _ o e => Heap.get?_push_of_some _ e) hSf hI hS fun s' acc' c' hm hS' hacc => ?_⟩
  exact ⟨rfl, hQ s' acc' c' hm hS' hacc⟩
end


section
variable {prog : Program} {w : World} {A : Around} {E : Value → Shared → Prop} {s : Shared}
theorem call_ac {l : Addr} {items : Array Value} {Q : Value → Shared → Prop} (hl : s.heap.IsList l items)
    (hq : ∀ h', IsAc h' (s.heap.objs.size + 1) s.heap.objs.size (.int 0 0) → h'.IsListIter s.heap.objs.size l 0 → h'.IsList l items → h'.objs.size = s.heap.objs.size + 2 → (∀ b o, s.heap.get? b = some o → h'.get? b = some o) → Q (.ref (s.heap.objs.size + 1)) { s with heap := h' }) :
    wpAny (model prog w) A (call (.type "itertools.accumulate") [.ref l]) Q E s := by
  refine callType_newIn called_ac (by decide) (typeCall_ac _) (newCall_ac _) (fun obj => F.args_object_init_2 obj _) entry_ac_new (new_ac _) ?_
  show wpAny (model prog w) A.in1.in1 (pyIter (.ref l)) _ _ _
  refine wpAny_pyIter_list hl ?_
  have z : (s.heap.push { cls := .type "list_iterator", data := .fields #[.ref l, .int 0 0] }).objs.size = s.heap.objs.size + 1 := Heap.size_push ..
  have hit : (s.heap.push { cls := .type "list_iterator", data := .fields #[.ref l, .int 0 0] }).IsListIter s.heap.objs.size l 0 := ⟨_, Heap.get?_push_size _ rfl, rfl, rfl⟩
  have hL : (s.heap.push { cls := .type "list_iterator", data := .fields #[.ref l, .int 0 0] }).IsList l items := hl.push _
  show _ ∧ _
  refine ⟨⟨_, Heap.get?_push_size _ rfl, rfl⟩, ?_⟩
  rw [z]
  refine hq _ ?_ ?_ (hL.push _) (by rw [Heap.size_push, z]) (fun b o e => Heap.get?_push_of_some _ (Heap.get?_push_of_some _ e))
  · have h := Heap.get?_push_size (s.heap.push { cls := .type "list_iterator", data := .fields #[.ref l, .int 0 0] }) (o := { cls := .type "itertools.accumulate", data := .fields #[.ref s.heap.objs.size, .none, rawInt 0, .none] }) rfl
    rw [z] at h
    exact h
  · exact hit.at fun o e => Heap.get?_push_of_some _ e
end
end AcR
set_option Elab.async false
set_option linter.all false
set_option maxRecDepth 100000
set_option maxHeartbeats 2000000
namespace AcR
open PySem PySem.Spec PyProof.Rows L2
/-- the sums so far, begun at a -/
def accs : Int → List Int → List Int
  | _, [] => []
  | a, x :: xs => (a + x) :: accs (a + x) xs
theorem accs_len : ∀ (a : Int) (ns : List Int), (accs a ns).length = ns.length
  | _, [] => rfl
  | a, x :: xs => congrArg Nat.succ (accs_len (a + x) xs)
theorem accs_at : ∀ (ns : List Int) (a : Int) (j : Nat), j < ns.length → (accs a ns)[j]? = some (a + (ns.take (j + 1)).sum)
  | [], _, j, h => absurd h (Nat.not_lt_zero j)
  | x :: xs, a, 0, h => by simp [accs]
  | x :: xs, a, j + 1, h => by
    have ih := accs_at xs (a + x) j (Nat.lt_of_succ_lt_succ h)
    show (accs (a + x) xs)[j]? = _
    rw [ih, List.take_succ_cons, List.sum_cons, Int.add_assoc]
theorem vals_ints : ∀ (ns : List Int) (xs : List Value), xs.length = ns.length → (∀ (j : Nat) (n : Int) (v : Value), ns[j]? = some n → xs[j]? = some v → ∃ t, v = Value.int n t) → Vals (ns.map V.int) xs
  | [], [], _, _ => .nil
  | [], _ :: _, h, _ => by cases h
  | _ :: _, [], h, _ => by cases h
  | n :: ns, x :: xs, h, k => by
    obtain ⟨t, rfl⟩ := k 0 n x rfl rfl
    exact .cons ⟨t, rfl⟩ (vals_ints ns xs (Nat.succ.inj h) fun j m v h1 h2 => k (j + 1) m v h1 h2)
def tListAcc (K : PySem.W.Frag) (ta : TA) : TE := fun σ H Q => ta σ H fun vs H2 => ∃ (q : Addr) (ns : List Int), vs = [.ref q] ∧ SqL K H2 q (ns.map V.int) ∧ ns.length ≤ 100000 ∧ ∀ p, H2 p = none → Q (.ref p) (upd H2 p (.lst ((accs 0 ns).map V.int)))
section
variable {X : Cx} {e : Expr} {ta : TA} {p p2 pos pos2 : Pos}
theorem pe_listAcc (hc : X.calm = true) (hgl : Gl X "list") (hml : X.mg "list" = none) (hv : bootBuiltins "list" = some (.type "list")) (hg : Gl X "accumulate") (hm : X.mg "accumulate" = some (.type "itertools.accumulate")) (ha : PA X [e] ta)
    (hdb : (("accumulate" : Str) == ("__debug__" : Str)) = false := by decide)
    (hs1 : starEach [.Call (.Name "accumulate" p2) [e] [] pos2] X.env = (false, eval (.Call (.Name "accumulate" p2) [e] [] pos2) X.env) :: starEach [] X.env := by rfl)
    (hp1 : (backTo pos (starEach [] X.env)).any (·.1) = false := by rfl) (hs : starEach [e] X.env = (false, eval e X.env) :: starEach [] X.env := by rfl) (hpl : (backTo pos2 (starEach [] X.env)).any (·.1) = false := by rfl) :
    PE X (.Call (.Name "list" p) [.Call (.Name "accumulate" p2) [e] [] pos2] [] pos) (tListAcc X.K ta) := by
  refine ⟨fun pins s σ H Q I h => ?_⟩
  refine wpAny_Call_Name_kw (ld_blt I hgl hml hv ?_)
  refine PyProof.Rows.callWith_type1 ?_ hs1 hp1
  rw [hs1]
  show wpAny _ _ (spliced ((false, eval (.Call (.Name "accumulate" p2) [e] [] pos2) X.env) :: backTo pos (starEach [] X.env))) _ _ s
  refine Calls.spliced_cons ?_
  refine wpAny_Call_Name_kw (ld_glob I hg hm ?_ hdb)
  refine PyProof.Rows.callWith_type1 (thn (ha.run pos2 pins s σ H _ I h) fun us s3 ⟨vs, H2, I3, r3, q3⟩ => ?_) hs hpl
  obtain ⟨q, ns, rfl, hq, hlen, q3⟩ := q3
  cases r3 with
  | cons r rr =>
    cases rr
    cases r
    obtain ⟨its, rv, pl, hsz⟩ := I3.list hq
    have hl : its.length = ns.length := by rw [← rv.length, List.length_map]
    have hh := I3.ok.hd hc
    refine call_ac pl.isList fun h' hA hI hL hsz' hk => ?_
    refine Calls.spliced_nil ?_
    have lq : q < s3.heap.objs.size := by
      obtain ⟨o, ho, _⟩ := pl.isList
      exact Heap.lt_size ho
    have hval : ∀ (i : Nat) (v : Value), its.toArray[i]? = some v → ∃ t, v = Value.int (ns.getD i 0) t := fun i v hi => by
      have hi' : its[i]? = some v := by simpa using hi
      have hlt : i < ns.length := by
        have := (List.getElem?_eq_some_iff.mp hi').1
        omega
      have hx : (ns.map V.int)[i]? = some (.int ns[i]) := by rw [List.getElem?_map, List.getElem?_eq_getElem hlt]; rfl
      obtain ⟨u2, hu2, rx2⟩ := rv.get hx
      have eu : u2 = v := Option.some.inj (hu2.symm.trans hi')
      subst eu
      obtain ⟨t, rfl⟩ := rx2
      exact ⟨t, by rw [List.getD_eq_getElem?_getD, List.getElem?_eq_getElem hlt]; rfl⟩
    have W := walks_ac (prog := X.prog) (w := X.w) (A := X.A.in1.in1) (m := s3.heap.objs.size + 1) (it := s3.heap.objs.size) (l := q) (items := its.toArray) (val := fun i => ns.getD i 0) hh (Nat.succ_ne_self _) (Nat.ne_of_gt (Nat.lt_succ_of_lt lq)) (Nat.ne_of_lt lq) hval
    refine list_it (n := its.toArray.size) nolen_ac nohint_ac (by decide) (by decide) W (fun i s' st => ⟨_, st.1.choose_spec, rfl⟩) ⟨⟨0, hA⟩, hI, hL⟩ ?_ (by simp) ?_ (by simp only [List.size_toArray]; exact Nat.le_trans (by omega) (Evl.sz_of hlen))
    · intro b hb
      show b < h'.objs.size
      rw [hsz']
      rcases List.mem_cons.mp hb with rfl | hb
      · exact Nat.lt_succ_self _
      · rcases List.mem_cons.mp hb with rfl | hb
        · exact Nat.lt_succ_of_lt (Nat.lt_succ_self _)
        · rw [List.mem_singleton.mp hb]; exact Nat.lt_succ_of_lt (Nat.lt_succ_of_lt lq)
    · intro s' acc c hm hS hacc
      have eN : ({ s3 with heap := h' } : Shared).heap.objs.size = s3.heap.objs.size + 2 := hsz'
      have hacc2 : Vals ((accs 0 ns).map V.int) acc.toList := by
        refine vals_ints _ _ ?_ fun j n v h1 h2 => ?_
        · rw [accs_len, Array.length_toList, hacc.1]
          simp only [List.size_toArray]
          omega
        · obtain ⟨t, rfl⟩ := hacc.2 j v (by simpa using h2)
          have hj : j < ns.length := by
            have := (List.getElem?_eq_some_iff.mp h1).1
            rw [accs_len] at this
            exact this
          rw [accs_at ns 0 j hj] at h1
          refine ⟨t, ?_⟩
          rw [preSum_getD ns (j + 1), ← Option.some.inj h1, Int.zero_add]
      rw [Moved.eq_with hm]
      refine ⟨.ref _, _, I3.laid (a := ({ s3 with heap := h' } : Shared).heap.objs.size) (o := .lst ((accs 0 ns).map V.int)) (t' := s'.toks) (h' := s'.heap) (fun b u hb => ?_) (by rw [eN]; exact Nat.le_add_right _ 2) ⟨?_, acc.toList, c, hacc2, ?_⟩, rfl, q3 _ (I3.hok.fresh (by rw [eN]; exact Nat.le_add_right _ 2))⟩
      · have lb := Heap.lt_size hb
        refine hm.heap b u ?_ (Heap.get?_push_of_some _ (hk b u hb))
        rw [eN]
        intro hb2
        rcases List.mem_cons.mp hb2 with rfl | hb2
        · exact Nat.lt_irrefl _ (Nat.lt_trans (Nat.lt_succ_of_lt (Nat.lt_succ_self _)) lb)
        · rcases List.mem_cons.mp hb2 with rfl | hb2
          · exact Nat.lt_irrefl _ (Nat.lt_trans (Nat.lt_succ_self _) lb)
          · rw [List.mem_singleton.mp hb2] at lb
            exact Nat.lt_irrefl _ lb
      · rw [List.length_map, accs_len]
        exact Evl.sz_of hlen
      · rw [Array.toArray_toList]
        exact hS
end
end AcR
set_option Elab.async false
set_option linter.all false
set_option maxRecDepth 100000
set_option maxHeartbeats 8000000
/-! # the tables -/
namespace GL
open PySem PySem.Spec PyProof.Rows L2 Geo Rel AcR
section
variable {P : Program} {w : World} {K : PySem.W.Frag} {mg : Str → Option Value} {base : Heap} {σ : L2.St} {H : Hp}
theorem news_rl {te : TE} {rows : List (List Int)} (h : EvNews te σ H (rows.map fun r => .lst (r.map V.int))) : EvRL te σ H lstI rows := fun H1 e Q q =>
  h H1 e _ fun p as H2 np e2 hp _ _ hl hc => q p H2 np e2 ⟨_, hp, by
    rw [List.length_map] at hl
    have key : ∀ (as : List Addr) (rows : List (List Int)), as.length = rows.length → (∀ (i : Nat) (b : Addr) (r : List Int), as[i]? = some b → rows[i]? = some r → H2 b = some (.lst (r.map V.int))) → Paired (fun y z => lstI z y H2) (as.map V.ref) rows := by
      intro as
      induction as with
      | nil =>
        intro rows hl _
        cases rows with
        | nil => exact .nil
        | cons _ _ => cases hl
      | cons a as ih =>
        intro rows hl hc
        cases rows with
        | nil => cases hl
        | cons r rows => exact .cons ⟨a, rfl, hc 0 a r rfl rfl⟩ (ih rows (Nat.succ.inj hl) fun i b z h1 h2 => hc (i + 1) b z h1 h2)
    exact key as rows hl fun i b r h1 h2 => hc i b _ h1 (by rw [List.getElem?_map, h2]; rfl)⟩
abbrev scIn : Scope := { kind := .function, names := [(".0", .local), ("lower", .cell), ("range", .globalImplicit), ("many", .cell), ("sums", .cell)], isGenerator := false, isCoroutine := false }
theorem pe_listAccK {X : Cx} {e : Expr} {ta : TA} {p p2 pos pos2 : Pos} (hK : X.K = K) (hc : X.calm = true) (hgl : Gl X "list") (hml : X.mg "list" = none) (hg : Gl X "accumulate") (hm : X.mg "accumulate" = some (.type "itertools.accumulate")) (ha : PA X [e] ta)
    (hs1 : starEach [.Call (.Name "accumulate" p2) [e] [] pos2] X.env = (false, eval (.Call (.Name "accumulate" p2) [e] [] pos2) X.env) :: starEach [] X.env := by rfl)
    (hp1 : (backTo pos (starEach [] X.env)).any (·.1) = false := by rfl) (hs : starEach [e] X.env = (false, eval e X.env) :: starEach [] X.env := by rfl) (hpl : (backTo pos2 (starEach [] X.env)).any (·.1) = false := by rfl) :
    PE X (.Call (.Name "list" p) [.Call (.Name "accumulate" p2) [e] [] pos2] [] pos) (tListAcc K ta) := hK ▸ pe_listAcc hc hgl hml (by decide +kernel) hg hm ha (by decide) hs1 hp1 hs hpl
theorem en_of {te : TE} {xs : List V} (h : Evl.EvL te σ H xs) : EvNew te σ H (.lst xs) := h
def endRow (sums : List (List Int)) (many lower : Nat) : List Int := (List.range (many - lower)).map fun right => (sums.getD (right + 1) []).getD lower 0 + (sums.getD (lower + 1) []).getD right 0
def endStep (tab : List (List Int)) (many : Nat) : List (List Int) := (List.range many).map fun lower => endRow (tab.map (accs 0)) many lower
def lastE (n : Nat) : Nat → List (List Int)
  | 0 => (List.range n).map fun lower => List.replicate (n - lower) 1
  | k + 1 => endStep (lastE n k) (n - 1 - k)
/-- the tables for n, n - 1 .. panes -/
def endsF (n k : Nat) : List (List (List Int)) := (List.range (k + 1)).map (lastE n)
def ShapeE (m : Nat) (tab : List (List Int)) : Prop := tab.length = m ∧ ∀ i, i < m → (tab.getD i []).length = m - i
theorem ev_at2 {sums : List (List Int)} {t : Addr} {n i j : Nat} {t1 t2 : TE} (hn : σ[n]? = some (some (.ref t))) (h : RL lstI H t sums) (hi : i < sums.length) (hj : j < (sums.getD i []).length) (e1 : Evl.Ev t1 σ H (.int (i : Int))) (e2 : Evl.Ev t2 σ H (.int (j : Int))) :
    Evl.Ev (tOp (rIxL K) (tOp (rIxL K) (tVar n) t1) t2) σ H (.int ((sums.getD i []).getD j 0)) := by
  have r1 : sums[i]? = some (sums.getD i []) := by
    rw [List.getD_eq_getElem?_getD, List.getElem?_eq_getElem hi]
    rfl
  have r2 : (sums.getD i [])[j]? = some ((sums.getD i []).getD j 0) := by
    rw [List.getD_eq_getElem?_getD (i := j), List.getElem?_eq_getElem hj]
    rfl
  obtain ⟨y, hy, ey⟩ := ev_rlIx (K := K) (Evl.ev_var hn) h r1 e1
  obtain ⟨yp, rfl, hyp⟩ := hy
  exact Evl.ev_op ey e2 (Evl.rv_ixL (SqL.of hyp) (atI_nat (by rw [List.getElem?_map, r2]; rfl)))
theorem q_forRC {ta : TA} {i j c : Int} {n k : Nat} {tb tz : TS} {D : Ends} (h : Evl.EvA ta σ H [.int i, .int j, .int c]) (hR : RgC i j c n) (Pv : Nat → L2.St → Hp → Prop) (h0 : ∀ H1, Evl.Ex H H1 → Pv 0 σ H1)
    (hs : ∀ u σ' H', u < n → Pv u σ' H' → tb { D with nx := Pv (u + 1), ct := Pv (u + 1), bk := tz D } (σ'.set k (some (.int (i + (u : Nat) * c)))) H') (hd : ∀ σ' H', Pv n σ' H' → tz D σ' H') : tSeq (tFor (iRng3 ta) (gName k) tb) tz D σ H := by
  have z : tFor (iRng3 ta) (gName k) tb { D with nx := tz D } σ H := by
    refine h H (Evl.Ex.refl H) _ fun H1 e1 => ⟨i, j, c, n, rfl, hR, for_it (walk_rangeC (lo := i) (c := c) (n := n)) Pv (h0 H1 e1) (fun _ _ _ _ _ => trivial) (fun u x σ' H' H2 hi q y => ?_) hd⟩
    obtain ⟨rfl, rfl⟩ := y
    exact hs u σ' _ hi q
  exact z
theorem el_lcRg1 {ta : TA} {te : TE} {n : Nat} {k : Nat} {vs : List Nat} {f : Nat → Int} (h : Evl.EvA ta σ H [.int (n : Int)]) (hn : n ≤ 40000) (hw : ∀ x, wipe ((wipe σ vs).set k (some x)) vs = wipe σ vs)
    (he : ∀ u, u < n → ∀ H1, Evl.Ex H H1 → Evl.Ev te ((wipe σ vs).set k (some (.int (u : Nat)))) H1 (.int (f u))) : Evl.EvL (tLc (iRng1 ta) (gName k) tYes te vs) σ H (((List.range n).map f).map V.int) := by
  rw [List.map_map]
  refine el_ofRL (g := fun u => V.int (f u)) fun H1 e Q q => h H1 e _ fun H2 e1 => ⟨n, rfl, by omega, by omega, fun Dl hD => ?_⟩
  have hf : (List.range n).filter (fun _ => true) = List.range n := List.filter_eq_self.mpr fun _ _ => rfl
  refine lc_rel (H := H2) (walk_range (lo := 0) (n := (n : Int).toNat)) (zs := List.range n) (by simp) (fun H3 e2 => trivial) (fun _ => true) (fun u v _ => v = V.int (f u)) (val_m fun u => V.int (f u)) (by rw [List.length_range]; exact hn) (fun a z x H3 H4 hzi hH hy => ?_) hD fun us H3 e2 h3 hq => q Dl H3 (Evl.fresh_back e1 hD) (e1.trans e2) ⟨us, h3, by rwa [hf] at hq⟩
  obtain ⟨rfl, rfl⟩ := hy
  obtain ⟨k1, k2⟩ := List.getElem?_eq_some_iff.mp hzi
  rw [List.getElem_range] at k2
  rw [List.length_range] at k1
  subst k2
  refine ⟨Evl.Ex.refl _, fun Q' k => ?_⟩
  have z0 : (0 : Int) + ((a : Nat) : Int) = (a : Int) := Int.zero_add _
  show Q' ((wipe σ vs).set _ (some (.int (0 + (a : Int))))) _
  rw [z0]
  exact k _ (hw _) et_yes fun _ => en_int (he a k1 H2 (e.trans e1))
theorem el_endRow {sums : List (List Int)} {t a : Addr} {n0 : V} {many lower : Nat} {v5 v6 : Option V} (h : RL lstI H t sums) (hs : ShapeE (many + 1) sums) (hm : many ≤ 1000) (hl : lower < many) :
    Evl.EvL (tLc (iRng1 (tCons (tOp (rI0 fun i j => .int (i - j)) (tVar 2) (tVar 4)) tNil)) (gName 6) tYes (tOp (rI0 fun i j => .int (i + j)) (tOp (rIxL K) (tOp (rIxL K) (tVar 3) (tOp (rI0 fun i j => .int (i + j)) (tVar 6) (tC (.int 1)))) (tVar 4)) (tOp (rIxL K) (tOp (rIxL K) (tVar 3) (tOp (rI0 fun i j => .int (i + j)) (tVar 4) (tC (.int 1)))) (tVar 6))) [6])
      [some n0, some (.ref a), some (.int (many : Int)), some (.ref t), some (.int (lower : Int)), v5, v6] H ((endRow sums many lower).map V.int) := by
  obtain ⟨s1, s2⟩ := hs
  refine el_lcRg1 (n := many - lower) (Evl.ea_cons (Evl.ev_is (Evl.ev_op (Evl.ev_var rfl) (Evl.ev_var rfl) Evl.rv_I0) (by rw [Int.ofNat_sub (Nat.le_of_lt hl)])) Evl.ea_nil) (by omega) (fun _ => rfl) fun u hu H1 e1 => ?_
  have a1 := s2 (u + 1) (by omega)
  have a2 := s2 (lower + 1) (by omega)
  exact Evl.ev_op (ev_at2 rfl (h.ex lstI_e e1) (i := u + 1) (j := lower) (by omega) (by omega) (Evl.ev_is (Evl.ev_op (Evl.ev_var rfl) Evl.ev_c Evl.rv_I0) (by simp)) (Evl.ev_var rfl)) (ev_at2 rfl (h.ex lstI_e e1) (i := lower + 1) (j := u) (by omega) (by omega) (Evl.ev_is (Evl.ev_op (Evl.ev_var rfl) Evl.ev_c Evl.rv_I0) (by simp)) (Evl.ev_var rfl)) Evl.rv_I0
theorem shape_step (tab : List (List Int)) (m : Nat) : ShapeE m (endStep tab m) := by
  unfold ShapeE endStep
  refine ⟨by simp, fun i hi => ?_⟩
  rw [List.getD_eq_getElem?_getD, List.getElem?_map, List.getElem?_range hi]
  show (endRow _ m i).length = _
  unfold endRow
  simp
theorem shape_sums {tab : List (List Int)} {m : Nat} (h : ShapeE m tab) : ShapeE m (tab.map (accs 0)) := by
  obtain ⟨h1, h2⟩ := h
  refine ⟨by rw [List.length_map]; exact h1, fun i hi => ?_⟩
  rw [← h2 i hi, List.getD_eq_getElem?_getD, List.getD_eq_getElem?_getD, List.getElem?_map, List.getElem?_eq_getElem (by omega)]
  exact accs_len _ _
theorem shape_last (n : Nat) : ∀ k, k < n → ShapeE (n - k) (lastE n k)
  | 0, h => by
    unfold ShapeE lastE
    refine ⟨by simp, fun i hi => ?_⟩
    rw [List.getD_eq_getElem?_getD, List.getElem?_map, List.getElem?_range (by omega)]
    simp
  | k + 1, h => by
    have z := shape_step (lastE n k) (n - 1 - k)
    rw [show n - (k + 1) = n - 1 - k by omega]
    exact z
/-- a table -/
def tabR (tab : List (List Int)) (v : V) (H : Hp) : Prop := ∃ q, v = .ref q ∧ RL lstI H q tab
theorem tabR_e : MonoE tabR := fun _ _ _ _ e ⟨q, h1, h2⟩ => ⟨q, h1, h2.ex lstI_e e⟩
abbrev KE1 (D : Addr) (tab : List (List Int)) (v : V) (H : Hp) : Prop := tabR tab v (hide D H)
theorem ke_of {D q : Addr} {H : Hp} {ys : List V} {tab : List (List Int)} (hD : H D = some (.lst ys)) (hn : ys = [] ∨ ∃ b, V.ref b ∈ ys) (h0 : ys = [] → ∀ r ∈ tab, r ≠ []) (nq : q ≠ D) (h : RL lstI H q tab) : tabR tab (.ref q) (hide D H) := by
  obtain ⟨zs, h1, h2⟩ := h
  refine ⟨q, rfl, zs, hide_of nq h1, ?_⟩
  clear h1
  induction h2 with
  | nil => exact .nil
  | cons h t ih =>
    rename_i y r ys' tab'
    obtain ⟨p, e, hp⟩ := h
    refine .cons ⟨p, e, hide_of (fun z => ?_) hp⟩ (ih fun e r hr => h0 e r (List.mem_cons_of_mem _ hr))
    subst z
    have e2 : ys = r.map V.int := by
      have := hp.symm.trans hD
      injection this with this
      injection this with this
      exact this.symm
    rcases hn with hn | ⟨b, hb⟩
    · have hr := h0 hn r List.mem_cons_self
      rw [hn] at e2
      exact hr (List.map_eq_nil_iff.mp e2.symm)
    · rw [e2] at hb
      obtain ⟨_, _, z⟩ := List.mem_map.mp hb
      cases z
theorem pr_rev {α β : Type} {R : α → β → Prop} {xs : List α} {us : List β} (h : Paired R xs us) : Paired R xs.reverse us.reverse := by
  induction h with
  | nil => exact .nil
  | cons h t ih =>
    rw [List.reverse_cons, List.reverse_cons]
    exact pr_app ih (.cons h .nil)
theorem q_asgTab {te : TE} {rows : List (List Int)} {i : Nat} {D : Ends} {tz : TS} (h : EvRL te σ H lstI rows) (k : ∀ a q H1, H a = none → Evl.Ex H H1 → H1 a = some (.lst [.ref q]) → tabR rows (.ref q) (hide a H1) → tz D (σ.set i (some (.ref a))) H1) :
    tSeq (tAsg (tLst (tCons te tNil)) (gName i)) tz D σ H :=
  h H (Evl.Ex.refl H) (fun x H1 => [x].length ≤ sizeLine ∧ ∀ p, H1 p = none → tz D (σ.set i (some (.ref p))) (upd H1 p (.lst [x]))) fun q H1 nq e1 hq => ⟨by show 1 ≤ sizeLine; unfold sizeLine; decide, fun a na => k a q _ (Evl.fresh_back e1 na) (e1.trans (Evl.Ex.new na)) upd_same
    (tabR_e rows (.ref q) H1 _ (fun b o hb => hide_of (ne_no hb na) (Evl.Ex.new na _ _ hb)) ⟨q, rfl, hq⟩)⟩
theorem s_appRL {te : TE} {rows : List (List Int)} {a : Addr} {n : Nat} {ys : List V} {D : Ends} (hn : σ[n]? = some (some (.ref a))) (ha : H a = some (.lst ys)) (hlen : ys.length < sizeLine) (h : EvRL te σ H lstI rows)
    (k : ∀ q H1, H q = none → Evl.Ex H H1 → RL lstI H1 q rows → D.nx σ (upd H1 a (.lst (ys ++ [.ref q])))) : tDrop (tBM K "list" rAppend (tVar n) (tCons te tNil)) D σ H :=
  ⟨.ref a, hn, .inl ⟨rfl, _, SqL.of ha⟩, h H (Evl.Ex.refl H) (fun x H' => rAppend (.ref a) [x] H' fun _ H1 => D.nx σ H1) fun q H1 nq e1 hq => ⟨a, ys, .ref q, rfl, rfl, e1 _ _ ha, hlen, k q H1 nq e1 hq⟩⟩
theorem pr_imp {α β : Type} {R S : α → β → Prop} {xs : List α} {us : List β} (h : Paired R xs us) (k : ∀ x u, R x u → S x u) : Paired S xs us := by
  induction h with
  | nil => exact .nil
  | cons h t ih => exact .cons (k _ _ h) ih
theorem pr_last {α : Type} {R : V → α → Prop} {ys : List V} {us : List α} {u : α} (h : Paired R ys (us ++ [u])) : ∃ xs v, ys = xs ++ [v] ∧ R v u := by
  induction us generalizing ys with
  | nil =>
    cases h with
    | cons h t =>
      cases t
      exact ⟨[], _, rfl, h⟩
  | cons w us ih =>
    cases h with
    | cons h t =>
      obtain ⟨xs, v, e, hv⟩ := ih t
      exact ⟨_ :: xs, v, by rw [e]; rfl, hv⟩
def spEnds : Sp := fun vs H Q _ => ∃ n : Nat, vs = [.int (n : Int)] ∧ 1 ≤ n ∧ n ≤ 200 ∧ ∀ H' p, Evl.Ex H H' → H p = none → RL tabR H' p (endsF n (n - 1)).reverse → Q (.ref p) H'
end
end GL
set_option Elab.async false
set_option linter.all false
set_option maxRecDepth 100000
set_option maxHeartbeats 8000000
/-! # triples of paths -/
namespace GL
open PySem PySem.Spec PyProof.Rows L2 Geo Rel AcR CbR
def cpF (e n : Int) : Int := if 0 ≤ e ∧ 0 ≤ n then cb (e + n) e else 0
def startsT : List (Int × Int) := [(0, 2), (1, 1), (2, 0)]
def endsT (e n ri lo : Int) : List (Int × Int) := [(e - ri + 1, n + 1), (e + 1, n + 1), (e + 1, n - lo + 1)]
def pathsT (ends : List (Int × Int)) (s : Int × Int) : List Int := ends.map fun z => cpF (z.1 - s.1) (z.2 - s.2)
def detT (u0 u1 u2 m0 m1 m2 l0 l1 l2 : Int) : Int := u0 * (m1 * l2 - m2 * l1) - u1 * (m0 * l2 - m2 * l0) + u2 * (m0 * l1 - m1 * l0)
def cp2 (a b s : Int × Int) : Int := cpF (a.1 - s.1) (a.2 - s.2)
def tripF (e n ri lo : Int) : Int := if e = 0 ∨ n = 0 then (if ri - 1 = e ∧ lo - 1 = n then 1 else 0) else
  detT (cpF (e - ri + 1 - 0) (n + 1 - 2)) (cpF (e + 1 - 0) (n + 1 - 2)) (cpF (e + 1 - 0) (n - lo + 1 - 2)) (cpF (e - ri + 1 - 1) (n + 1 - 1)) (cpF (e + 1 - 1) (n + 1 - 1)) (cpF (e + 1 - 1) (n - lo + 1 - 1)) (cpF (e - ri + 1 - 2) (n + 1 - 0)) (cpF (e + 1 - 2) (n + 1 - 0)) (cpF (e + 1 - 2) (n - lo + 1 - 0))
theorem cpF_log {e n : Int} (h : e + n ≤ 1000) : (cpF e n).natAbs < 2 ^ 10000 := by
  unfold cpF
  by_cases c : 0 ≤ e ∧ 0 ≤ n
  · rw [if_pos c]
    exact cb_log c.1 (by omega) h
  · rw [if_neg c]
    exact Nat.two_pow_pos _
section
variable {P : Program} {w : World} {K : PySem.W.Frag} {mg : Str → Option Value} {base : Heap} {σ : L2.St} {H : Hp}
/-- an expression whose value stands in R -/
def EvR (te : TE) (σ : L2.St) (H : Hp) (R : V → Hp → Prop) : Prop := ∀ H1, Evl.Ex H H1 → ∀ Q : VK, (∀ v H2, Evl.Ex H1 H2 → R v H2 → Q v H2) → te σ H1 Q
def EvAR {α : Type} (ta : TA) (σ : L2.St) (H : Hp) (R : α → V → Hp → Prop) (zs : List α) : Prop := ∀ H1, Evl.Ex H H1 → ∀ Q : List V → Hp → Prop, (∀ vs H2, Evl.Ex H1 H2 → Paired (fun y z => R z y H2) vs zs → Q vs H2) → ta σ H1 Q
theorem ear_nil {α : Type} {R : α → V → Hp → Prop} : EvAR tNil σ H R [] := fun H1 _ Q q => q [] H1 (Evl.Ex.refl _) .nil
theorem ear_cons {α : Type} {R : α → V → Hp → Prop} (m : MonoE R) {te : TE} {ta : TA} {z : α} {zs : List α} (h : EvR te σ H (R z)) (t : EvAR ta σ H R zs) : EvAR (tCons te ta) σ H R (z :: zs) := fun H1 e Q q =>
  h H1 e _ fun v H2 e2 hv => t H2 (e.trans e2) _ fun vs H3 e3 hp => q (v :: vs) H3 (e2.trans e3) (.cons (m z v _ _ e3 hv) hp)
theorem er_lst {α : Type} {R : α → V → Hp → Prop} (m : MonoE R) {ta : TA} {zs : List α} (h : EvAR ta σ H R zs) (hz : zs.length ≤ 100000) : EvRL (tLst ta) σ H R zs := fun H1 e Q q =>
  h H1 e (fun xs H2 => xs.length ≤ sizeLine ∧ ∀ p, H2 p = none → Q (.ref p) (upd H2 p (.lst xs))) fun vs H2 e2 hp => ⟨by have := pr_len hp; unfold sizeLine; omega, fun p np => q p _ (Evl.fresh_back e2 np) (e2.trans (Evl.Ex.new np)) ⟨vs, upd_same, pr_e m (Evl.Ex.new np) hp⟩⟩
theorem evr_tupI {ta : TA} {ns : List Int} (h : Evl.EvA ta σ H (ns.map V.int)) (hl : ns.length ≤ 1000) : EvR (tTup ta) σ H (tupI ns) := fun H1 e Q q => (Evl.eu_tup h (by rw [List.length_map]; omega)) H1 e Q fun p H2 np e2 hp => q (.ref p) H2 e2 ⟨p, rfl, hp⟩
abbrev prI (z : Int × Int) : V → Hp → Prop := tupI [z.1, z.2]
theorem prI_e : MonoE prI := fun z v H H' e h => tupI_e [z.1, z.2] v H H' e h
theorem evr_pr {t1 t2 : TE} {a b : Int} (h1 : Evl.Ev t1 σ H (.int a)) (h2 : Evl.Ev t2 σ H (.int b)) : EvR (tTup (tCons t1 (tCons t2 tNil))) σ H (prI (a, b)) := evr_tupI (ns := [a, b]) (Evl.ea_cons h1 (Evl.ea_cons h2 Evl.ea_nil)) (by show 2 ≤ 1000; decide)
theorem ev_mulB {ta tb : TE} {i j : Int} (hi : Evl.Ev ta σ H (.int i)) (hj : Evl.Ev tb σ H (.int j)) (ha : i.natAbs < 2 ^ 10000) (hb : j.natAbs < 2 ^ 20001) : Evl.Ev (tOp (rI CMulW fun i j => .int (i * j)) ta tb) σ H (.int (i * j)) :=
  ev_mulW hi hj ha hb (by decide) (by decide) (by decide)
theorem mul_log {i j : Int} (ha : i.natAbs < 2 ^ 10000) (hb : j.natAbs < 2 ^ 10000) : (i * j).natAbs < 2 ^ 20000 := by
  rw [Int.natAbs_mul, show (2 : Nat) ^ 20000 = 2 ^ 10000 * 2 ^ 10000 by rw [← Nat.pow_add]]
  exact Nat.mul_lt_mul'' ha hb
theorem sub_log {i j : Int} (ha : i.natAbs < 2 ^ 20000) (hb : j.natAbs < 2 ^ 20000) : (i - j).natAbs < 2 ^ 20001 := by
  have e : (2 : Nat) ^ 20001 = 2 ^ 20000 + 2 ^ 20000 := by rw [Nat.pow_succ, Nat.mul_two]
  have := Int.natAbs_sub_le i j
  generalize (2 : Nat) ^ 20000 = n at *
  omega
theorem ev_minor {tm tl t1 t2 : TE} {m1 l2 m2 l1 : Int} (h1 : Evl.Ev tm σ H (.int m1)) (h2 : Evl.Ev tl σ H (.int l2)) (h3 : Evl.Ev t1 σ H (.int m2)) (h4 : Evl.Ev t2 σ H (.int l1)) (b1 : m1.natAbs < 2 ^ 10000) (b2 : l2.natAbs < 2 ^ 10000) (b3 : m2.natAbs < 2 ^ 10000) (b4 : l1.natAbs < 2 ^ 10000) :
    Evl.Ev (tOp (rI0 fun i j => .int (i - j)) (tOp (rI CMulW fun i j => .int (i * j)) tm tl) (tOp (rI CMulW fun i j => .int (i * j)) t1 t2)) σ H (.int (m1 * l2 - m2 * l1)) :=
  Evl.ev_op (ev_mulW h1 h2 b1 b2 (by decide) (by decide) (by decide)) (ev_mulW h3 h4 b3 b4 (by decide) (by decide) (by decide)) Evl.rv_I0
theorem ev_ix3 {n : Nat} {a : Addr} {ns : List Int} {i z : Int} (hn : σ[n]? = some (some (.ref a))) (ha : H a = some (.lst (ns.map V.int))) (hi : atI (ns.map V.int) i = some (.int z)) : Evl.Ev (tOp (rIxL K) (tVar n) (tC (.int i))) σ H (.int z) :=
  Evl.ev_op (Evl.ev_var hn) Evl.ev_c (Evl.rv_ixL (SqL.of ha) hi)
theorem pi_listK {X : Cx} {tg l : Expr} {tl : TE} (e : X.K = K) (hl : PE X l tl) : PI X tg l (iList K tl) := e ▸ pi_list hl
theorem pg_tupK {X : Cx} {es : List Expr} {k : Nat} {t : TGs} {n : Nat} {pos : Pos} (e : X.K = K) (hc : X.calm = true) (h : PGs X es t)
    (hn : (assignEach es X.env).length = n := by rfl) (hst : (assignEach es X.env).findIdx? (·.1) = none := by rfl) : PG X (.Tuple es k pos) (gTup K n t) := e ▸ pg_tup hc h hn hst
theorem q_unp3 {te : TE} {r1 r2 r3 : List Int} {i j l : Nat} {D : Ends} {tz : TS} (h : EvRL te σ H lstI [r1, r2, r3]) (k : ∀ a b c H1, Evl.Ex H H1 → H1 a = some (.lst (r1.map V.int)) → H1 b = some (.lst (r2.map V.int)) → H1 c = some (.lst (r3.map V.int)) → tz D (((σ.set i (some (.ref a))).set j (some (.ref b))).set l (some (.ref c))) H1) :
    tSeq (tAsg te (gLst K 3 (gCons (gName i) (gCons (gName j) (gCons (gName l) gNil))))) tz D σ H := by
  refine h H (Evl.Ex.refl _) _ fun p H4 np e4 hp => ?_
  obtain ⟨ys, hys, hpr⟩ := hp
  cases hpr with
  | cons x1 hpr =>
    cases hpr with
    | cons x2 hpr =>
      cases hpr with
      | cons x3 hpr =>
        cases hpr
        obtain ⟨pu, rfl, hu⟩ := x1
        obtain ⟨pm, rfl, hm⟩ := x2
        obtain ⟨pl, rfl, hl⟩ := x3
        exact ⟨p, _, rfl, SqL.of hys, rfl, _, _, rfl, _, _, rfl, _, _, rfl, rfl, k pu pm pl H4 e4 hu hm hl⟩
def spPaths : Sp := fun vs H Q _ => ∃ e n : Int, vs = [.int e, .int n] ∧ e + n ≤ 1000 ∧ ∀ H', Evl.Ex H H' → Q (.int (cpF e n)) H'
abbrev scTr : Scope := { kind := .function, names := [(".0", .local), ("x0", .cell), ("y0", .cell), ("ends", .cell)], isGenerator := false, isCoroutine := false }
def spTrip : Sp := fun vs H Q _ => ∃ e n ri lo : Int, vs = [.int e, .int n, .int ri, .int lo] ∧ (0 ≤ e ∧ 0 ≤ n ∧ e + n ≤ 200 ∧ 1 ≤ ri ∧ 1 ≤ lo) ∧ ∀ H', Evl.Ex H H' → Q (.int (tripF e n ri lo)) H'
end
end GL
set_option Elab.async false
set_option linter.all false
set_option maxRecDepth 100000
set_option maxHeartbeats 4000000
/-! # repr of numbers and of lists of them -/
namespace GL
open PySem PySem.Spec PyProof.Rows L2 Rel
theorem reprK {X : Cx} {K : PySem.W.Frag} {k : Nat} (e : X.K = K) (hc : Gd.Calm X.A) (hr : Room k X.A) : CallR X (.builtin "repr") (Gd.rRepr K) := e ▸ Gd.cr_repr hc hr
theorem textFrom_up : ∀ (ts : List Str) (k : Nat) (acc : Str) (b : Nat), (∀ t ∈ ts, t.length ≤ b) → (textFrom k acc ts).length ≤ acc.length + ts.length * (b + 2)
  | [], k, acc, b, _ => by
    show acc.length ≤ _
    omega
  | t :: r, k, acc, b, h => by
    show (textFrom (k + 1) (acc ++ (if k > 0 then ", " else "" : String) ++ t) r).length ≤ _
    have z := textFrom_up r (k + 1) (acc ++ (if k > 0 then ", " else "" : String) ++ t) b fun t ht => h t (List.mem_cons_of_mem _ ht)
    have h1 := h t List.mem_cons_self
    have e1 : (acc ++ (if k > 0 then ", " else "" : String) ++ t).length ≤ acc.length + 2 + t.length := by
      rw [strLen_append, strLen_append]
      by_cases c : k > 0
      · rw [if_pos c]
        have : (Str.ofString ", ").length = 2 := by decide +kernel
        omega
      · rw [if_neg c]
        have : (Str.ofString "").length = 0 := by decide +kernel
        omega
    rw [List.length_cons, Nat.add_mul, Nat.one_mul]
    omega
theorem shown_int {i : Int} (h : i.natAbs < 10 ^ 30) : (PyData.int i).showable = true ∧ (PyData.int i).shown.length ≤ 31 := by
  refine ⟨?_, ?_⟩
  · show decide (i.natAbs.log2 < 1920) = true
    refine decide_eq_true ?_
    by_cases c : i.natAbs = 0
    · rw [c]
      decide
    · exact (Nat.log2_lt c).mpr (Nat.lt_of_lt_of_le h (Nat.le_trans (by decide +kernel : 10 ^ 30 ≤ 2 ^ 100) (Nat.pow_le_pow_right (by decide) (by decide))))
  · show (Str.ofString (toString i)).length ≤ 31
    rw [PySem.ofString_length]
    exact int_text_length_le10 (by decide) h
theorem shownAll_ints : ∀ ns : List Int, PyData.shownAll (ns.map PyData.int) = ns.map fun i => (PyData.int i).shown
  | [] => rfl
  | n :: ns => by
    show (PyData.int n).shown :: PyData.shownAll (ns.map PyData.int) = _
    rw [shownAll_ints ns]
    rfl
theorem showAll_ints : ∀ ns : List Int, (∀ i ∈ ns, i.natAbs < 10 ^ 30) → PyData.showableAll (ns.map PyData.int) = true
  | [], _ => rfl
  | n :: ns, h => by
    show (PyData.showable (PyData.int n) && PyData.showableAll (ns.map PyData.int)) = true
    rw [showAll_ints ns fun i hi => h i (List.mem_cons_of_mem _ hi), (shown_int (h n List.mem_cons_self)).1]
    rfl
def lstD (ns : List Int) : PyData := .list (ns.map PyData.int)
theorem shown_lst {ns : List Int} (hl : ns.length ≤ 1000) (h : ∀ i ∈ ns, i.natAbs < 10 ^ 30) : (lstD ns).showable = true ∧ (lstD ns).shown.length ≤ sizeLine := by
  refine ⟨showAll_ints ns h, ?_⟩
  show (listText (PyData.shownAll (ns.map PyData.int))).length ≤ sizeLine
  rw [shownAll_ints]
  unfold listText
  have z := textFrom_up (ns.map fun i => (PyData.int i).shown) 0 "[" 31 fun t ht => by
    obtain ⟨i, hi, rfl⟩ := List.mem_map.mp ht
    exact (shown_int (h i hi)).2
  rw [List.length_map] at z
  have e1 : (Str.ofString "[").length = 1 := by decide +kernel
  have e2 : (Str.ofString "]").length = 1 := by decide +kernel
  rw [strLen_append]
  have : sizeLine = 16777216 := by decide
  omega
section
variable {K : PySem.W.Frag} {σ : L2.St} {H : Hp} {te : TE}
theorem ev_reprI {i : Int} (h : Evl.Ev te σ H (.int i)) (hi : i.natAbs < 10 ^ 30) : Evl.Ev (tCB (Gd.rRepr K) (tCons te tNil)) σ H (.str (PyData.int i).shown) := fun H1 e Q q =>
  h H1 e _ fun H2 e2 => ⟨.int i, .int i, rfl, .int i, fun _ => datI.shaped (by decide) i, (shown_int hi).1, Nat.le_trans (shown_int hi).2 (by decide), q H2 e2⟩
theorem lst_dp {l : Addr} {ns : List Int} (hl : H l = some (.lst (ns.map V.int))) : Dp K H (.ref l) (lstD ns) := datLst.dp K ns (.ref l) H ⟨l, rfl, hl⟩
theorem ev_reprL {l : Addr} {ns : List Int} (h : Evl.Ev te σ H (.ref l)) (hl : H l = some (.lst (ns.map V.int))) (hn : ns.length ≤ 1000) (hi : ∀ i ∈ ns, i.natAbs < 10 ^ 30) : Evl.Ev (tCB (Gd.rRepr K) (tCons te tNil)) σ H (.str (lstD ns).shown) := fun H1 e Q q =>
  h H1 e _ fun H2 e2 => ⟨.ref l, lstD ns, rfl, lst_dp ((e.trans e2) _ _ hl), fun _ => datLst.shaped (by decide) ns, (shown_lst hn hi).1, (shown_lst hn hi).2, q H2 e2⟩
end
end GL
set_option Elab.async false
set_option linter.all false
set_option maxRecDepth 100000
set_option maxHeartbeats 4000000
/-! # data of any form: what evaluates to it, lists and tuples of it, compared and shown -/
namespace GL
open PySem PySem.Spec PyProof.Rows L2 Geo Rel
section
variable {K : PySem.W.Frag} {H H' : Hp}
mutual
theorem Dp.ex (e : Evl.Ex H H') : ∀ (d : PyData) (v : V), Dp K H v d → Dp K H' v d
  | _, _, .non => .non
  | _, _, .bl b => .bl b
  | _, _, .int i => .int i
  | _, _, .str x => .str x
  | .list ds, _, .lst h k => .lst (Evl.ex_l e h) (DpAll.ex e ds _ k)
  | .tuple ds, _, .tup h k => .tup (Evl.ex_t e h) (DpAll.ex e ds _ k)
theorem DpAll.ex (e : Evl.Ex H H') : ∀ (ds : List PyData) (vs : List V), DpAll K H vs ds → DpAll K H' vs ds
  | [], _, .nil => .nil
  | d :: ds, _, .cons h k => .cons (Dp.ex e d _ h) (DpAll.ex e ds _ k)
end
end
/-- what evaluates to data -/
def EvD (K : PySem.W.Frag) (te : TE) (σ : L2.St) (H : Hp) (d : PyData) : Prop := EvR te σ H fun v H' => Dp K H' v d
def EvDA (K : PySem.W.Frag) (ta : TA) (σ : L2.St) (H : Hp) (ds : List PyData) : Prop := ∀ H1, Evl.Ex H H1 → ∀ Q : List V → Hp → Prop, (∀ vs H2, Evl.Ex H1 H2 → DpAll K H2 vs ds → Q vs H2) → ta σ H1 Q
def intsD (ns : List Int) : PyData := .list (ns.map PyData.int)
section
variable {K : PySem.W.Frag} {σ : L2.St} {H : Hp} {te ta tb : TE} {tr : TA}
theorem EvD.mono {H' : Hp} {d : PyData} (e : Evl.Ex H H') (h : EvD K te σ H d) : EvD K te σ H' d := fun H1 a Q q => h H1 (e.trans a) Q q
theorem evd_of {v : V} {d : PyData} (h : Evl.Ev te σ H v) (hd : Dp K H v d) : EvD K te σ H d := fun H1 e Q q => h H1 e _ fun H2 e2 => q v H2 e2 (Dp.ex (e.trans e2) _ _ hd)
theorem evd_ofV {v : V} {d : PyData} (h : Evl.Ev te σ H v) (hd : ∀ H', Evl.Ex H H' → Dp K H' v d) : EvD K te σ H d := fun H1 e Q q => h H1 e _ fun H2 e2 => q v H2 e2 (hd H2 (e.trans e2))
theorem evd_var {i : Nat} {v : V} {d : PyData} (h : σ[i]? = some (some v)) (hd : Dp K H v d) : EvD K (tVar i) σ H d := evd_of (Evl.ev_var h) hd
theorem evd_int {i : Int} : EvD K (tC (.int i)) σ H (.int i) := evd_of Evl.ev_c (.int i)
theorem evd_str {x : Str} : EvD K (tC (.str x)) σ H (.str x) := evd_of Evl.ev_c (.str x)
theorem evd_bl {b : Bool} : EvD K (tC (.bl b)) σ H (.bool b) := evd_of Evl.ev_c (.bl b)
theorem evd_non : EvD K (tC .non) σ H .none := evd_of Evl.ev_c .non
theorem evda_nil : EvDA K tNil σ H [] := fun H1 _ Q q => q [] H1 (Evl.Ex.refl _) .nil
theorem evda_cons {d : PyData} {ds : List PyData} (h : EvD K te σ H d) (t : EvDA K tr σ H ds) : EvDA K (tCons te tr) σ H (d :: ds) := fun H1 e Q q =>
  h H1 e _ fun v H2 e2 hv => t H2 (e.trans e2) _ fun vs H3 e3 hp => q (v :: vs) H3 (e2.trans e3) (.cons (Dp.ex e3 _ _ hv) hp)
theorem DpAll.len : ∀ {vs : List V} {ds : List PyData}, DpAll K H vs ds → vs.length = ds.length
  | _, _, .nil => rfl
  | _, _, .cons _ k => congrArg Nat.succ (GL.DpAll.len k)
theorem evd_lst {ds : List PyData} (h : EvDA K tr σ H ds) (hz : ds.length ≤ 1000) : EvD K (tLst tr) σ H (.list ds) := fun H1 e Q q =>
  h H1 e (fun xs H2 => xs.length ≤ sizeLine ∧ ∀ p, H2 p = none → Q (.ref p) (upd H2 p (.lst xs))) fun vs H2 e2 hp => ⟨by have := GL.DpAll.len hp; unfold sizeLine; omega, fun p np => q _ _ (e2.trans (Evl.Ex.new np)) (.lst (SqL.of upd_same) (DpAll.ex (Evl.Ex.new np) _ _ hp))⟩
theorem evd_tup {ds : List PyData} (h : EvDA K tr σ H ds) (hz : ds.length ≤ 1000) : EvD K (tTup tr) σ H (.tuple ds) := fun H1 e Q q =>
  h H1 e (fun xs H2 => xs.length ≤ sizeLine ∧ ∀ p, H2 p = none → Q (.ref p) (upd H2 p (.tup xs))) fun vs H2 e2 hp => ⟨by have := GL.DpAll.len hp; unfold sizeLine; omega, fun p np => q _ _ (e2.trans (Evl.Ex.new np)) (.tup (SqT.of upd_same) (DpAll.ex (Evl.Ex.new np) _ _ hp))⟩
theorem evd_eq {d e : PyData} {b : Bool} (h1 : EvD K ta σ H d) (h2 : EvD K tb σ H e) (s1 : SeqAt.shaped d = true) (s2 : SeqAt.shaped e = true) (hb : PyData.eqv d e = b) : Evl.Ev (tOp (rEqD K) ta tb) σ H (.bl b) := fun H1 e1 Q q =>
  h1 H1 e1 _ fun x H2 e2 hx => h2 H2 (e1.trans e2) _ fun y H3 e3 hy => ⟨d, e, Dp.ex e3 _ _ hx, hy, s1, s2, by rw [hb]; exact q H3 (e2.trans e3)⟩
theorem evd_ne {d e : PyData} {b : Bool} (h1 : EvD K ta σ H d) (h2 : EvD K tb σ H e) (s1 : SeqAt.shaped d = true) (s2 : SeqAt.shaped e = true) (hb : PyData.eqv d e = b) : Evl.Ev (tOp (rNeD K) ta tb) σ H (.bl (!b)) := fun H1 e1 Q q =>
  h1 H1 e1 _ fun x H2 e2 hx => h2 H2 (e1.trans e2) _ fun y H3 e3 hy => ⟨d, e, Dp.ex e3 _ _ hx, hy, s1, s2, by rw [hb]; exact q H3 (e2.trans e3)⟩
theorem evd_repr {d : PyData} (h : EvD K te σ H d) (hs : SeqAt.shaped d = true) (h1 : d.showable = true ∧ d.shown.length ≤ sizeLine) : Evl.Ev (tCB (Gd.rRepr K) (tCons te tNil)) σ H (.str d.shown) := fun H1 e Q q =>
  h H1 e _ fun v H2 e2 hv => ⟨v, d, rfl, hv, fun _ => hs, h1.1, h1.2, q H2 e2⟩
theorem q_asgD {i : Nat} {D : Ends} {tz : TS} {d : PyData} (h : EvD K te σ H d) (k : ∀ v H1, Evl.Ex H H1 → Dp K H1 v d → tz D (σ.set i (some v)) H1) : tSeq (tAsg te (gName i)) tz D σ H := h H (Evl.Ex.refl H) _ fun v H1 e1 hv => k v H1 e1 hv
/-- numbers -/
theorem dpa_ints : ∀ ns : List Int, DpAll K H (ns.map V.int) (ns.map PyData.int)
  | [] => .nil
  | n :: ns => .cons (.int n) (dpa_ints ns)
theorem dp_lstI {l : Addr} {ns : List Int} (h : H l = some (.lst (ns.map V.int))) : Dp K H (.ref l) (intsD ns) := .lst (SqL.of h) (dpa_ints ns)
theorem dp_tupI {l : Addr} {ns : List Int} (h : H l = some (.tup (ns.map V.int))) : Dp K H (.ref l) (.tuple (ns.map PyData.int)) := .tup (SqT.of h) (dpa_ints ns)
theorem evd_L {ns : List Int} (h : Evl.EvL te σ H (ns.map V.int)) : EvD K te σ H (intsD ns) := fun H1 e Q q => h H1 e _ fun p H2 _ e2 hp => q _ H2 e2 (dp_lstI hp)
theorem evd_U {ns : List Int} (h : Evl.EvU te σ H (ns.map V.int)) : EvD K te σ H (.tuple (ns.map PyData.int)) := fun H1 e Q q => h H1 e _ fun p H2 _ e2 hp => q _ H2 e2 (dp_tupI hp)
/-- a list whose items are known by a relation that has data -/
theorem dp_RL {α : Type} {R : α → V → Hp → Prop} {d : α → PyData} {n : Nat} [DecidableEq α] (D : Dat R d n) {l : Addr} {zs : List α} (h : RL R H l zs) : Dp K H (.ref l) (.list (zs.map d)) := D.list.dp K zs _ H ⟨l, rfl, h⟩
theorem evd_RL {α : Type} {R : α → V → Hp → Prop} {d : α → PyData} {n : Nat} [DecidableEq α] (D : Dat R d n) {zs : List α} (h : EvRL te σ H R zs) : EvD K te σ H (.list (zs.map d)) := fun H1 e Q q => h H1 e _ fun p H2 _ e2 hp => q _ H2 e2 (dp_RL D hp)
theorem evd_R {α : Type} {R : α → V → Hp → Prop} {d : α → PyData} {n : Nat} [DecidableEq α] (D : Dat R d n) {z : α} (h : EvR te σ H (R z)) : EvD K te σ H (d z) := fun H1 e Q q => h H1 e _ fun v H2 e2 hv => q v H2 e2 (D.dp K z v H2 hv)
/-- written numbers -/
theorem ea_ints1 {i : Int} {ns : List Int} (h : Evl.EvA tr σ H (ns.map V.int)) : Evl.EvA (tCons (tC (.int i)) tr) σ H ((i :: ns).map V.int) := Evl.ea_cons Evl.ev_c h
theorem ea_ints0 : Evl.EvA tNil σ H (([] : List Int).map V.int) := Evl.ea_nil
theorem el_lit {ns : List Int} (h : Evl.EvA tr σ H (ns.map V.int)) (hz : ns.length ≤ 1000) : Evl.EvL (tLst tr) σ H (ns.map V.int) := Evl.el_lst h (by rw [List.length_map]; omega)
end
end GL
set_option Elab.async false
set_option linter.all false
set_option maxRecDepth 100000
set_option maxHeartbeats 4000000
/-! # data that stand in the heap as they are (no written, no locked ones) -/
namespace GL
open PySem PySem.Spec PyProof.Rows L2 Geo Rel
mutual
inductive Dq (H : Hp) : V → PyData → Prop
  | non : Dq H .non .none
  | bl (b : Bool) : Dq H (.bl b) (.bool b)
  | int (i : Int) : Dq H (.int i) (.int i)
  | str (x : Str) : Dq H (.str x) (.str x)
  | lst {a : Addr} {xs : List V} {ds : List PyData} : H a = some (.lst xs) → DqA H xs ds → Dq H (.ref a) (.list ds)
  | tup {a : Addr} {xs : List V} {ds : List PyData} : H a = some (.tup xs) → DqA H xs ds → Dq H (.ref a) (.tuple ds)
inductive DqA (H : Hp) : List V → List PyData → Prop
  | nil : DqA H [] []
  | cons {v : V} {vs : List V} {d : PyData} {ds : List PyData} : Dq H v d → DqA H vs ds → DqA H (v :: vs) (d :: ds)
end
section
variable {K : PySem.W.Frag} {H H' : Hp}
mutual
theorem Dq.ex (e : Evl.Ex H H') : ∀ (d : PyData) (v : V), Dq H v d → Dq H' v d
  | _, _, .non => .non
  | _, _, .bl b => .bl b
  | _, _, .int i => .int i
  | _, _, .str x => .str x
  | .list ds, _, .lst h k => .lst (e _ _ h) (DqA.ex e ds _ k)
  | .tuple ds, _, .tup h k => .tup (e _ _ h) (DqA.ex e ds _ k)
theorem DqA.ex (e : Evl.Ex H H') : ∀ (ds : List PyData) (vs : List V), DqA H vs ds → DqA H' vs ds
  | [], _, .nil => .nil
  | d :: ds, _, .cons h k => .cons (Dq.ex e d _ h) (DqA.ex e ds _ k)
end
mutual
theorem Dq.dp : ∀ (d : PyData) (v : V), Dq H v d → Dp K H v d
  | _, _, .non => .non
  | _, _, .bl b => .bl b
  | _, _, .int i => .int i
  | _, _, .str x => .str x
  | .list ds, _, .lst h k => .lst (SqL.of h) (DqA.dp ds _ k)
  | .tuple ds, _, .tup h k => .tup (SqT.of h) (DqA.dp ds _ k)
theorem DqA.dp : ∀ (ds : List PyData) (vs : List V), DqA H vs ds → DpAll K H vs ds
  | [], _, .nil => .nil
  | d :: ds, _, .cons h k => .cons (Dq.dp d _ h) (DqA.dp ds _ k)
end
theorem DqA.len : ∀ {vs : List V} {ds : List PyData}, DqA H vs ds → vs.length = ds.length
  | _, _, .nil => rfl
  | _, _, .cons _ k => congrArg Nat.succ (GL.DqA.len k)
theorem DqA.at_ : ∀ {vs : List V} {ds : List PyData} {k : Nat} {d : PyData}, DqA H vs ds → ds[k]? = some d → ∃ v, vs[k]? = some v ∧ Dq H v d
  | _, _, 0, d, .cons h _, e => ⟨_, rfl, by cases e; exact h⟩
  | _, _, k + 1, d, .cons _ t, e => GL.DqA.at_ (k := k) t e
  | _, _, _, _, .nil, e => by simp at e
theorem DqA.app : ∀ {vs ws : List V} {ds es : List PyData}, DqA H vs ds → DqA H ws es → DqA H (vs ++ ws) (ds ++ es)
  | _, _, _, _, .nil, h => h
  | _, _, _, _, .cons h t, k => .cons h (GL.DqA.app t k)
theorem dqa_ints : ∀ ns : List Int, DqA H (ns.map V.int) (ns.map PyData.int)
  | [] => .nil
  | n :: ns => .cons (.int n) (dqa_ints ns)
theorem dq_lstI {l : Addr} {ns : List Int} (h : H l = some (.lst (ns.map V.int))) : Dq H (.ref l) (intsD ns) := .lst h (dqa_ints ns)
theorem dq_tupI {l : Addr} {ns : List Int} (h : H l = some (.tup (ns.map V.int))) : Dq H (.ref l) (.tuple (ns.map PyData.int)) := .tup h (dqa_ints ns)
/-- a list whose items are data by a relation -/
theorem dqa_pr {α : Type} {R : α → V → Hp → Prop} {d : α → PyData} (hR : ∀ z v, R z v H → Dq H v (d z)) {ys : List V} {zs : List α} (h : Paired (fun y z => R z y H) ys zs) : DqA H ys (zs.map d) := by
  induction h with
  | nil => exact .nil
  | cons h _ ih => exact .cons (hR _ _ h) ih
theorem dq_RL {α : Type} {R : α → V → Hp → Prop} {d : α → PyData} (hR : ∀ z v, R z v H → Dq H v (d z)) {l : Addr} {zs : List α} (h : RL R H l zs) : Dq H (.ref l) (.list (zs.map d)) := by
  obtain ⟨ys, h1, h2⟩ := h
  exact .lst h1 (dqa_pr hR h2)
end
/-- what evaluates to data -/
def EvQ (te : TE) (σ : L2.St) (H : Hp) (d : PyData) : Prop := EvR te σ H fun v H' => Dq H' v d
def EvQA (ta : TA) (σ : L2.St) (H : Hp) (ds : List PyData) : Prop := ∀ H1, Evl.Ex H H1 → ∀ Q : List V → Hp → Prop, (∀ vs H2, Evl.Ex H1 H2 → DqA H2 vs ds → Q vs H2) → ta σ H1 Q
section
variable {K : PySem.W.Frag} {σ : L2.St} {H : Hp} {te ta tb : TE} {tr : TA}
theorem EvQ.d {d : PyData} (h : EvQ te σ H d) : EvD K te σ H d := fun H1 e Q q => h H1 e _ fun v H2 e2 hv => q v H2 e2 (Dq.dp _ _ hv)
theorem EvQ.mono {H' : Hp} {d : PyData} (e : Evl.Ex H H') (h : EvQ te σ H d) : EvQ te σ H' d := fun H1 a Q q => h H1 (e.trans a) Q q
theorem evq_of {v : V} {d : PyData} (h : Evl.Ev te σ H v) (hd : Dq H v d) : EvQ te σ H d := fun H1 e Q q => h H1 e _ fun H2 e2 => q v H2 e2 (Dq.ex (e.trans e2) _ _ hd)
theorem evq_var {i : Nat} {v : V} {d : PyData} (h : σ[i]? = some (some v)) (hd : Dq H v d) : EvQ (tVar i) σ H d := evq_of (Evl.ev_var h) hd
theorem evq_ev {v : V} {d : PyData} (h : Evl.Ev te σ H v) (hd : ∀ H', Dq H' v d) : EvQ te σ H d := evq_of h (hd H)
theorem evq_int {i : Int} : EvQ (tC (.int i)) σ H (.int i) := evq_of Evl.ev_c (.int i)
theorem evq_str {x : Str} : EvQ (tC (.str x)) σ H (.str x) := evq_of Evl.ev_c (.str x)
theorem evq_bl {b : Bool} : EvQ (tC (.bl b)) σ H (.bool b) := evq_of Evl.ev_c (.bl b)
theorem evq_non : EvQ (tC .non) σ H .none := evq_of Evl.ev_c .non
theorem evqa_nil : EvQA tNil σ H [] := fun H1 _ Q q => q [] H1 (Evl.Ex.refl _) .nil
theorem evqa_cons {d : PyData} {ds : List PyData} (h : EvQ te σ H d) (t : EvQA tr σ H ds) : EvQA (tCons te tr) σ H (d :: ds) := fun H1 e Q q =>
  h H1 e _ fun v H2 e2 hv => t H2 (e.trans e2) _ fun vs H3 e3 hp => q (v :: vs) H3 (e2.trans e3) (.cons (Dq.ex e3 _ _ hv) hp)
theorem evq_lst {ds : List PyData} (h : EvQA tr σ H ds) (hz : ds.length ≤ 1000) : EvQ (tLst tr) σ H (.list ds) := fun H1 e Q q =>
  h H1 e (fun xs H2 => xs.length ≤ sizeLine ∧ ∀ p, H2 p = none → Q (.ref p) (upd H2 p (.lst xs))) fun vs H2 e2 hp => ⟨by have := GL.DqA.len hp; unfold sizeLine; omega, fun p np => q _ _ (e2.trans (Evl.Ex.new np)) (.lst upd_same (DqA.ex (Evl.Ex.new np) _ _ hp))⟩
theorem evq_tup {ds : List PyData} (h : EvQA tr σ H ds) (hz : ds.length ≤ 1000) : EvQ (tTup tr) σ H (.tuple ds) := fun H1 e Q q =>
  h H1 e (fun xs H2 => xs.length ≤ sizeLine ∧ ∀ p, H2 p = none → Q (.ref p) (upd H2 p (.tup xs))) fun vs H2 e2 hp => ⟨by have := GL.DqA.len hp; unfold sizeLine; omega, fun p np => q _ _ (e2.trans (Evl.Ex.new np)) (.tup upd_same (DqA.ex (Evl.Ex.new np) _ _ hp))⟩
theorem q_asgQ {i : Nat} {D : Ends} {tz : TS} {d : PyData} (h : EvQ te σ H d) (k : ∀ v H1, Evl.Ex H H1 → Dq H1 v d → tz D (σ.set i (some v)) H1) : tSeq (tAsg te (gName i)) tz D σ H := h H (Evl.Ex.refl H) _ fun v H1 e1 hv => k v H1 e1 hv
theorem evq_L {ns : List Int} (h : Evl.EvL te σ H (ns.map V.int)) : EvQ te σ H (intsD ns) := fun H1 e Q q => h H1 e _ fun p H2 _ e2 hp => q _ H2 e2 (dq_lstI hp)
theorem evq_U {ns : List Int} (h : Evl.EvU te σ H (ns.map V.int)) : EvQ te σ H (.tuple (ns.map PyData.int)) := fun H1 e Q q => h H1 e _ fun p H2 _ e2 hp => q _ H2 e2 (dq_tupI hp)
theorem evq_RL {α : Type} {R : α → V → Hp → Prop} {d : α → PyData} (hR : ∀ z v H', R z v H' → Dq H' v (d z)) {zs : List α} (h : EvRL te σ H R zs) : EvQ te σ H (.list (zs.map d)) := fun H1 e Q q => h H1 e _ fun p H2 _ e2 hp => q _ H2 e2 (dq_RL (fun z v => hR z v H2) hp)
theorem evq_R {α : Type} {R : α → V → Hp → Prop} {d : α → PyData} (hR : ∀ z v H', R z v H' → Dq H' v (d z)) {z : α} (h : EvR te σ H (R z)) : EvQ te σ H (d z) := fun H1 e Q q => h H1 e _ fun v H2 e2 hv => q v H2 e2 (hR z v H2 hv)
/-- xs + ys of data -/
theorem evq_cat {i : Nat} {v : V} {ds es : List PyData} (hi : σ[i]? = some (some v)) (hv : Dq H v (.list ds)) (h : EvQ te σ H (.list es)) (hz : ds.length + es.length ≤ 1000) : EvQ (tOp rCat (tVar i) te) σ H (.list (ds ++ es)) := fun H1 e Q q => by
  cases hv with
  | @lst a xs _ ha hp =>
    refine ⟨.ref a, hi, h H1 e _ fun v2 H2 e2 hv2 => ?_⟩
    cases hv2 with
    | @lst b ys _ hb hq =>
      have hl := GL.DqA.len hp
      have hl2 := GL.DqA.len hq
      exact ⟨a, b, xs, ys, rfl, rfl, (e.trans e2) _ _ ha, hb, by unfold sizeLine; omega, fun p np => q _ _ (e2.trans (Evl.Ex.new np)) (.lst upd_same (DqA.app (DqA.ex ((e.trans e2).trans (Evl.Ex.new np)) _ _ hp) (DqA.ex (Evl.Ex.new np) _ _ hq)))⟩
end
end GL
set_option Elab.async false
set_option linter.all false
set_option maxRecDepth 100000
set_option maxHeartbeats 4000000
/-! # isinstance of an exception object that stands as a value, with or without a dict of its own -/
namespace PX
open PySem PySem.W PySem.Spec PySem.Calls PyProof.Rows
section
variable {prog : Program} {w : World} {A : Around} {E : Value → Shared → Prop} {s : Shared}
variable {K : Frag} {x D : Addr} {ox : Obj} {od : Option Obj}

theorem found_cls {g a : Value} {nm : Str} (h1 : (clsIn K D).isSome = true) (h2 : findIn K (.ref D) nm = some (some a))
    (h3 : specialIn K a "__get__" = some (some g)) (h4 : takesIn K a = some true) :
    findObj K D od nm = some (.bind g a) := by
  obtain ⟨cd, hcd⟩ := Option.isSome_iff_exists.mp h1
  simp [findObj, hcd, h2, h3, h4]

theorem asks_class {Q : Option Value → Shared → Prop} (T : L2.ExcC K D) (X : K.In s.heap) (I : InstAt s.heap x ox D od)
    (q : Q (some (.ref D)) { s with toks := s.toks + 1 }) :
    wpAny (model prog w) A (getAttr? (.ref x) "__class__") Q E s := by
  have some1 : (clsIn K D).isSome = true := by
    obtain ⟨c, hc, _⟩ := any_some T.hd
    simp [hc]
  have F1 : findObj K D od "__class__" = some (.bind (.builtin "getset_descriptor.__get__") (.builtin "object.__class__")) :=
    found_cls some1 T.ha T.hn T.ht
  obtain ⟨hp, g, d, t, os⟩ := s
  have l0 := I.type (M := model prog w)
  have l1 := looks_findIn (M := model prog w) X T.hg
  have l2 := looks_findIn (M := model prog w) X T.hk
  have l3 := looks_find (M := model prog w) X I F1
  have lsub : Looks (model prog w) hp (isInstance (.ref x) (.type "BaseException")) true :=
    l0.andThen (looks_subIn X T.hs)
  have n0 : (Value.builtin "BaseException.__getattribute__" == Value.builtin "object.__getattribute__") = false := by
    decide +kernel
  have n1 : (onTheHeap (Value.ref D) &&
      Value.builtin "BaseException.__getattribute__" == Value.builtin "object.__getattribute__") = false := by
    simp [n0]
  have n2 : (false && onTheHeap (Value.builtin "BaseException.__getattribute__")) = false := rfl
  unfold getAttr? getAttrBy?
  unfold getAttrBy
  refine wpAny_bind ?_
  refine wpAny_mkText ?_
  refine wpAny_bind (wpAny_attempt ?_)
  refine wpAny_holding (wpAny_bind (l0.at ?_))
  refine wpAny_bind (l1.at ?_)
  show wpAny _ _ (if (onTheHeap (Value.ref D) &&
      Value.builtin "BaseException.__getattribute__" == Value.builtin "object.__getattribute__") = true then _ else _) _ _ _
  rw [n1]
  rw [if_neg (by decide)]
  unfold getAttrByItsOwn
  unfold hookBefore
  refine wpAny_bind ?_
  have on : onTheHeap (Value.ref D) = true := rfl
  rw [if_pos on]
  refine l2.at ?_
  refine wpAny_bind ?_
  refine wpAny_attempt (wpAny_holding ?_)
  unfold callGetattribute
  rw [n2]
  rw [if_neg (by decide)]
  unfold boundAndCalled
  rw [PySem.F.excAttr_ValueError.ga.bind (.ref x)]
  refine wpAny_bind ?_
  refine wpAny_pure ?_
  show wpAny _ _ (call (.builtin "BaseException.__getattribute__") [.ref x, .str "__class__" t]) _ _ _
  refine wpAny_call ?_
  refine codeAny_call_builtin PySem.F.excAttr_ValueError.ga.plain PySem.F.entry_bexc_ga ?_
  have as1 := PySem.F.args_bexc_ga (.ref x) (.str "__class__" t)
  refine @check_slot (model prog w) _ _ ⟨hp, g, d, t + 1, os⟩ "BaseException.__getattribute__"
    "BaseException" "__getattribute__" (.ref x) [.str "__class__" t] [] _
    (by decide +kernel) (by decide +kernel) lsub as1 ?_
  unfold Builtin.«object.__getattribute__»
  refine wpAny_bind ?_
  refine wpAny_of_eq (a := ((Value.ref x : Value), [Value.str "__class__" t])) ?_ ?_
  · first
      | rfl
      | (simp only [slotArgs]; rfl)
  refine wpAny_bind ?_
  refine wpAny_pure (wpAny_bind ?_)
  refine l0.at (wpAny_bind ?_)
  refine l3.at ?_
  show wpAny _ _ (holding [Value.builtin "object.__class__"]
    (call (.builtin "getset_descriptor.__get__") [.builtin "object.__class__", .ref x, .ref D]) >>= ret) _ _ _
  refine wpAny_bind ?_
  refine wpAny_holding ?_
  refine wpAny_call ?_
  refine class_get (s := ⟨hp, g, d, t + 1, os⟩) (ox := ox) (od := od) X I T.hm ?_
  refine wpAny_pure ?_
  show wpAny _ _ (handedOut (.ref D)) _ _ _
  rw [handedOut_of (v := .ref D) rfl]
  first
    | exact wpAny_pure (wpAny_pure q)
    | exact wpAny_pure q
    | exact wpAny_pure (wpAny_bind (wpAny_pure (wpAny_pure q)))

theorem kit_exc (T : L2.ExcC K D) : KitX K (.ref x) (.ref D) (fun h => InstAt h x ox D od) where
  ty := fun _ _ _ I => I.type
  it := fun _ _ X _ => by
    obtain ⟨c, hc, _⟩ := any_some T.hd
    unfold clsIn at hc
    split at hc
    · rename_i _ _ _ _ lk
      intro _ _ _ _ k q
      unfold isType loadHead
      exact wpAny_bind (wpAny_loadPart (k _ _ (X _ _ lk)) (wpAny_pure q))
    · cases hc
  ne := fun h tp dd its n sl X htp => by
    obtain ⟨c, hc, _⟩ := any_some T.hd
    refine Bool.eq_false_iff.mpr fun z => ?_
    have e : D = tp := Value.ref.inj (beq_iff_eq.mp z)
    subst e
    unfold clsIn at hc
    split at hc
    · rename_i _ _ _ _ lk
      have both := (X _ _ lk).symm.trans htp
      cases both
    · cases hc
  ca := fun X I k => asks_class T X I k
end
end PX
set_option Elab.async false
set_option linter.all false
set_option maxRecDepth 100000
set_option maxHeartbeats 4000000
/-! # an own exception class with its own __init__, called with values and keywords -/
namespace PX
open PySem PySem.W PySem.Spec PySem.Calls PyProof.Rows PySem.HandSPX
section
variable {prog : Program} {w : World} {A : Around} {E : Value → Shared → Prop} {R : Result → Shared → Prop}
variable {h : Heap} {g : Array GenState} {d : Drawn} {t : Nat} {os : OsState}
variable {nm q : Str} {C N : Addr} {bs bm bmB : List Value} {hdct : Bool} {sn : List Str} {sub : List Value} {ab : Bool}
variable {col : Option Bool} {dd : Option Addr} {k0 k1 k2 k3 k5 : Option Value} {B newId initId : String}

theorem newK_ok {M : Model} (F : ExcBaseFacts B newId initId bmB) (hT : ∀ X : String, bm.contains (.type X) = bmB.contains (.type X))
    {rest : List Value} {kw : List (Str × Value)} {Q : Unit → Shared → Prop}
    (hC : h.get? C = some (excClassObj nm q C N bs bm hdct sn sub ab col dd k0 k1 k2 k3 k5 newId)) (hq : Q () ⟨h, g, d, t, os⟩) :
    wpAny M A (checkBuiltinCall newId ⟨.ref C :: rest, kw⟩) Q E ⟨h, g, d, t, os⟩ := by
  have inB : (Value.ref C :: bm).contains (.type B) = true := by
    rw [List.contains_cons, hT, F.hasB]
    simp
  have ns := F.noStar
  simp only [checkBuiltinCall, F.newKind, F.newSplit, F.newRow]
  repeat (first
    | refine wpAny_loadPart_at hC ?_
    | (refine wpAny_isSubtype_exc hC ?_; rw [inB])
    | refine wpAny_staticBase_exc hC ?_
    | refine wpAny_madeBy_exc hC ?_
    | simp only [bne_self_eq_false, Bool.false_eq_true, if_false]
    | wp_step)
  exact hq

theorem madeK (F : ExcBaseFacts B newId initId bmB) (hT : ∀ X : String, bm.contains (.type X) = bmB.contains (.type X))
    {rest : List Value} {kw : List (Str × Value)}
    (hC : h.get? C = some (excClassObj nm q C N bs bm hdct sn sub ab col dd k0 k1 k2 k3 k5 newId)) (hl : rest.length ≤ sizeLine)
    (hq : R (.ok (.ret (.ref (h.objs.size + 1)))) ⟨(h.push (W.kdv_tup rest)).push (excO C h.objs.size), g, d, t, os⟩) :
    codeAny (model prog w) A (.builtin newId ⟨.ref C :: rest, kw⟩) R ⟨h, g, d, t, os⟩ := by
  have e1 := F.ends
  have inB : (Value.ref C :: bm).contains (.type B) = true := by
    rw [List.contains_cons, hT, F.hasB]
    simp
  have inA : (Value.ref C :: bm).contains (.type "AttributeError") = false := by
    rw [List.contains_cons, hT, F.noAttr]
    rfl
  have inN : (Value.ref C :: bm).contains (.type "NameError") = false := by
    rw [List.contains_cons, hT, F.noName]
    rfl
  refine codeAny_builtinAt F.entry ?_
  unfold Builtin.«BaseException.__new__»
  refine PySem.wpAt_bind ?_
  show PySem.wpAt _ _ _ (stack >>= _) _ _ _
  refine PySem.wpAt_bind ?_
  refine PySem.wpAt_stack fun _ _ => ?_
  refine PySem.wpAt_of_wpAny ?_
  wp_walk
  refine PySem.wpAt_of_wpAny ?_
  rw [F.owner]
  repeat (first
    | with_reducible refine wpAny_madeHere_exc F.canon hC ?_
    | with_reducible refine wpAny_loadPart_at hC ?_
    | (with_reducible refine wpAny_isSubtype_exc hC ?_; first | rw [inB] | rw [inA] | rw [inN])
    | wp_step)
  show R _ _
  rw [Heap.size_push]
  exact hq

theorem typeK (F : ExcBaseFacts B newId initId bmB) (hT : ∀ X : String, bm.contains (.type X) = bmB.contains (.type X))
    {rest : List Value} {kw : List (Str × Value)} {fI : Addr} {Q : Fin → Shared → Prop}
    (hC : h.get? C = some (excClassObj nm q C N bs bm hdct sn sub ab col dd k0 k1 k2 k3 k5 newId))
    (hi : W.Looks (model prog w) h (typeLookup (.ref C) "__init__") (some (.ref fI)))
    (hb : ∀ self, W.Looks (model prog w) h (bindSpecial (.ref fI) self) (.ref fI, [self])) (hl : rest.length ≤ sizeLine)
    (hq : codeAny (model prog w) A (.call (.ref fI) ⟨.ref (h.objs.size + 1) :: rest, kw⟩)
      (fun r s' => match r with
        | .ok (.ret v) => v = .none ∧ Q (.done (.ret (.ref (h.objs.size + 1)))) s'
        | .ok _ => False
        | .error e => E e s')
      ⟨(h.push (W.kdv_tup rest)).push (excO C h.objs.size), g, d, t, os⟩) :
    wpAny (model prog w) A (Builtin.«type.__call__» ⟨.ref C :: rest, kw⟩) Q E ⟨h, g, d, t, os⟩ := by
  repeat (first
    | with_reducible refine wpAny_loadPart_at hC ?_
    | with_reducible refine wpAny_madeBy_exc hC ?_
    | wp_step)
  refine codeAny_call_builtin_code (Code.quiet_builtin _ F.quiet) ?_
  refine newK_ok F hT hC ?_
  refine madeK F hT hC hl ?_
  show wpAny _ _ _ _ _ _
  have keep : ∀ b o, h.get? b = some o → ((h.push (W.kdv_tup rest)).push (excO C h.objs.size)).get? b = some o :=
    fun b o e => Heap.get?_push_of_some _ (Heap.get?_push_of_some _ e)
  have hC2 := keep _ _ hC
  have new : ((h.push (W.kdv_tup rest)).push (excO C h.objs.size)).get? (h.objs.size + 1) = some (excO C h.objs.size) := by
    heap_get
  have inC : (Value.ref C :: bm).contains (.ref C) = true := by simp
  have i1 := hi.keeps keep
  have b1 := (hb (.ref (h.objs.size + 1))).keeps keep
  unfold isInstance
  repeat (first
    | with_reducible refine wpAny_loadPart_at new ?_
    | (with_reducible refine wpAny_isSubtype_exc hC2 ?_; rw [inC])
    | wp_step)
  show wpAny _ _ (typeLookup (.ref C) _) _ _ _
  refine i1.at ?_
  refine wpAny_holding ?_
  refine wpAny_bind (b1.at ?_)
  refine wpAny_bind ?_
  refine wpAny_call (codeAny_mono hq fun r s' z => ?_)
  rcases r with e | (v | _ | _ | _) <;> first
    | exact z
    | exact z.elim
    | skip
  obtain ⟨rfl, z⟩ := z
  first
    | exact wpAny_pure (wpAny_pure z)
    | (wp_walk; exact z)

theorem callK (F : ExcBaseFacts B newId initId bmB) (hT : ∀ X : String, bm.contains (.type X) = bmB.contains (.type X))
    {rest : List Value} {kw : List (Str × Value)} {fI : Addr}
    (hC : h.get? C = some (excClassObj nm q C N bs bm hdct sn sub ab col dd k0 k1 k2 k3 k5 newId))
    (hi : W.Looks (model prog w) h (typeLookup (.ref C) "__init__") (some (.ref fI)))
    (hb : ∀ self, W.Looks (model prog w) h (bindSpecial (.ref fI) self) (.ref fI, [self])) (hl : rest.length ≤ sizeLine)
    (hq : codeAny (model prog w) (A.under (.builtin "type.__call__" ⟨.ref C :: rest, kw⟩)) (.call (.ref fI) ⟨.ref (h.objs.size + 1) :: rest, kw⟩)
      (W.InitBack (h.objs.size + 1) R) ⟨(h.push (W.kdv_tup rest)).push (excO C h.objs.size), g, d, t, os⟩) :
    codeAny (model prog w) A (.call (.ref C) ⟨rest, kw⟩) R ⟨h, g, d, t, os⟩ := by
  have f1 := tc_lookup
  have f2 := tc_bind (.ref C)
  have hTy : (⟨h, g, d, t, os⟩ : Shared).TypeIs (.ref C) "type" := ⟨_, hC, rfl⟩
  refine codeAny_of_tree ?_
  show wpAny _ _ (callAny (.ref C) _) _ _ _
  repeat (any_goals (first
    | assumption
    | with_reducible refine wpAny_loadPart_at hC ?_
    | wp_step))
  refine ⟨rfl, ?_⟩
  refine codeAny_call_builtin_at (Code.quiet_builtin _ (by decide +kernel)) entry_typeCall ?_
  refine wpAny_check_type_call_sub hC ?_
  refine typeK F hT hC hi hb hl ?_
  refine codeAny_mono hq fun r s' z => ?_
  rcases r with e | (v | _ | _ | _) <;> exact z
end
end PX
set_option Elab.async false
set_option linter.all false
set_option maxRecDepth 100000
set_option maxHeartbeats 4000000
/-! # exception objects as values: made, asked for their class, read -/
namespace PX
open PySem PySem.Spec PyProof.Rows L2

/-- an exception object of the class at D stands at a, its own dict (if it has one) tracked too -/
def Xv (H : Hp) (a D : Addr) : Prop :=
  H a = some (ExO (.ref D) a) ∨ ∃ (dx : Addr) (fs : List (Str × V)), H a = some (exo a D (some dx)) ∧ H dx = some (exd dx fs)
theorem Xv.same {H H' : Hp} {a D : Addr} (e : Same H H') (h : Xv H a D) : Xv H' a D := by
  rcases h with h | ⟨dx, fs, h1, h2⟩
  · exact .inl (e _ _ h)
  · exact .inr ⟨dx, fs, e _ _ h1, e _ _ h2⟩
section
variable {X : Cx} {pins : List (Addr × Obj)} {σ : L2.St} {H : Hp} {s : Shared} {a D : Addr}
theorem inst_of (I : Inv X pins σ H s) (h : Xv H a D) : ∃ ox od, PySem.W.InstAt s.heap a ox D od := by
  rcases h with h | ⟨dx, fs, h1, h2⟩
  · obtain ⟨⟨oe, vs, hg, hz, hd, _⟩, _, _⟩ := I.hok a _ h
    obtain ⟨oc, odi, oda, osl⟩ := oe
    obtain ⟨z1, z2⟩ := hz
    dsimp only at z1 z2 hd
    subst z1 z2 hd
    exact ⟨_, none, hg, rfl, rfl, trivial⟩
  · obtain ⟨t1, hg⟩ := exo_at I.hok h1
    obtain ⟨mA, hn, _⟩ := exd_at I.hok h2
    obtain ⟨od, hd, _⟩ := lookIn_ns hn
    exact ⟨_, some od, hg, rfl, rfl, hd⟩
end
/-- isinstance(e, c) -/
def rIsX (K : PySem.W.Frag) : List V → Hp → VK → Prop := fun xs H Q =>
  ∃ (a D : Addr) (c : V) (u : Value) (b : Bool), xs = [.ref a, c] ∧ Xv H a D ∧ ExcC K D ∧ ClsV c u ∧ PySem.W.kitOne K (.ref D) u = some b ∧ Q (.bl b) H
theorem call_isX {X : Cx} : CallR X (.builtin "isinstance") (rIsX X.K) := by
  intro pins s σ H xs us Q I r h
  obtain ⟨a, D, c, u, b, rfl, hx, T, hc, e, q⟩ := h
  obtain ⟨u1, u2, rfl, r1, r2⟩ := vals2 r
  cases (show u1 = Value.ref a from r1)
  have e2 := hc.eq r2
  subst e2
  obtain ⟨ox, od, J⟩ := inst_of I hx
  exact PySem.W.kia_one (kit_exc (od := od) T) I.kIn J e (fun z => nomatch z) fun tk => ⟨.bl b, H, I.tok tk, rfl, q⟩

/-- e.f -/
def tXat (K : PySem.W.Frag) (f : Str) (te : TE) : TE := fun σ H Q => te σ H fun x H1 =>
  ∃ (a C dx : Addr) (fs : List (Str × V)) (v : V), x = .ref a ∧ XfC K C ∧ PySem.W.findIn K (.ref C) f = some none ∧
    H1 a = some (exo a C (some dx)) ∧ H1 dx = some (exd dx fs) ∧ fs.lookup f = some v ∧ Q v H1
theorem pe_xat {X : Cx} {e : Expr} {te : TE} {pos : Pos} {f : Str} (he : PE X e te)
    (hb : attributeBase e f X.env (eval e X.env) = eval e X.env := by rfl) : PE X (.Attribute e f pos) (tXat X.K f te) := by
  refine ⟨fun pins s σ H Q I h => ?_⟩
  refine attr_of hb ?_
  refine thn (he.run pins s σ H _ I h) fun u s1 hh => ?_
  obtain ⟨x, H1, I1, rx, a, C, dx, fs, v, ex, T, hno, ea, ed, hl, q⟩ := hh
  subst ex
  obtain rfl : u = Value.ref a := rx
  obtain ⟨t1, hg⟩ := exo_at I1.hok ea
  obtain ⟨mA, hn, hr⟩ := exd_at I1.hok ed
  obtain ⟨od, hd, hlk⟩ := lookIn_ns hn
  obtain ⟨w, hw, rw'⟩ := RelO.some_of (v := v) (o := mA f) (by rw [← hl]; exact hr f)
  have J : PySem.W.InstAt s1.heap a _ C (some od) := ⟨hg, rfl, rfl, hd⟩
  exact HandSPX.exc_get I1.kIn J T.ga T.gg T.exC (PySem.W.findObj_own T.hdC hno rfl (by rw [hlk, hw])) (handed_of rw')
    ⟨v, H1, I1.tok _, rw', q⟩

/-- C(e, .., k = v, ..), C an own exception class over ValueError with its own __init__: a value -/
def tMkX (C : Addr) (sp : Sp) (gV : List V → List V → List V) (n m : Nat) (ta tk : TA) : TE := fun σ H Q =>
  ta σ H fun vs H1 => tk σ H1 fun zs H2 => vs.length = n ∧ n ≤ 1000 ∧ zs.length = m ∧
    ∀ a, H2 a = none → sp (gV (.ref a :: vs) zs) (upd H2 a (exo a C none)) (fun v H3 => v = .non ∧ Q (.ref a) H3) E0
section
variable {X : Cx} {x : Str} {C fI : Addr} {k n : Nat} {fd : FuncData} {ps ks : List Str} {sp : Sp} {p pos : Pos} {e : Expr} {es : List Expr} {kws : List Keyword} {ta tk : TA}
variable {g : List Value → List Value → List Value} {gV : List V → List V → List V}
theorem run_mkX {pins : List (Addr × Obj)} {σ : L2.St} {H : Hp} {s : Shared} {Q : VK} {us ws : List Value} {vs zs : List V}
    (T : OexC X.K C) (iC : PySem.W.findIn X.K (.ref C) "__init__" = some (some (.ref fI))) (tI : PySem.W.typeIn X.K (.ref fI) = some (.type "function"))
    (F1 : FnOk X.prog X.w X.K X.mg X.base CX0 k fI fd ps sp) (hr : Room (k + 1) X.A) (hb : KBn X.K fd ps (n + 1) ks g gV)
    (I : Inv X pins σ H s) (r : Vals vs us) (rz : Vals zs ws) (l1 : vs.length = n) (hn : n ≤ 1000) (l2 : zs.length = ks.length)
    (h : ∀ a, H a = none → sp (gV (.ref a :: vs) zs) (upd H a (exo a C none)) (fun v H3 => v = .non ∧ Q (.ref a) H3) E0) :
    wpAny (model X.prog X.w) X.A (call (.ref C) us (ks.zip ws)) (EP X pins σ Q) X.xe s := by
  obtain ⟨nm, q, N, bs, bm, sn, sub, ab, col, dd, k0, k1, k2, k3, k5, hC, hbm⟩ := T.cls
  obtain ⟨hp, gg, dr, tk, os⟩ := s
  have hsz : hp.objs.size ≤ hp.objs.size + 1 := Nat.le_succ _
  have hq := h (hp.objs.size + 1) (I.hok.fresh hsz)
  have kk : ∀ b o, hp.get? b = some o → ((hp.push (PySem.W.kdv_tup us)).push (PySem.HandSPX.excO C hp.objs.size)).get? b = some o :=
    fun b o z => Heap.get?_push_of_some _ (Heap.get?_push_of_some _ z)
  have hget : ((hp.push (PySem.W.kdv_tup us)).push (PySem.HandSPX.excO C hp.objs.size)).get? (hp.objs.size + 1) = some (PySem.HandSPX.excO C hp.objs.size) := by
    heap_get
  have I2 : Inv X pins σ (upd H (hp.objs.size + 1) (exo (hp.objs.size + 1) C none)) ⟨(hp.push (PySem.W.kdv_tup us)).push (PySem.HandSPX.excO C hp.objs.size), gg, dr, tk, os⟩ :=
    I.laid (t' := tk) (a := hp.objs.size + 1) (h' := (hp.push (PySem.W.kdv_tup us)).push (PySem.HandSPX.excO C hp.objs.size)) kk hsz (exo_ok hget)
  have r2 := hb.rel (.cons (show RelV (V.ref (hp.objs.size + 1)) (Value.ref (hp.objs.size + 1)) from rfl) r) rz
  have n1 : (Value.ref (hp.objs.size + 1) :: us).length = n + 1 := by
    rw [List.length_cons, ← r.length, l1]
  have hus : us.length ≤ sizeLine := by
    rw [← r.length, sizeLine_eq]
    omega
  refine wpAny_call (callK F.excBase_ValueError (fun Y => PySem.HandSPX.refsVE_contains Y bm hbm) (I.kIn _ _ hC) (PySem.W.looks_findIn I.kIn iC) (fun self => PySem.W.bind_fn I.kIn self tI) hus ?_)
  refine codeAny_mono (F1.run _ X.stack _ _ ⟨Value.ref (hp.objs.size + 1) :: us, ks.zip ws⟩ _ _ _ E0 (hr.make C us (ks.zip ws)) (I2.env0.make C us (ks.zip ws))
    (hb.to _ (Value.ref (hp.objs.size + 1) :: us) ws I2.kIn n1 (rz.length.symm.trans l2)) r2 hq) fun r s' hq' => ?_
  cases r with
  | error er => exact hq'.elim
  | ok fl =>
    cases fl with
    | ret u =>
      obtain ⟨v, H', I3, rv, ev, q3⟩ := I2.after hq'
      subst ev
      exact ⟨rv, ⟨V.ref (hp.objs.size + 1), H', I3, rfl, q3⟩⟩
    | next => exact False.elim hq'
    | brk => exact False.elim hq'
    | cont => exact False.elim hq'

theorem pe_mkX (T : OexC X.K C) (iC : PySem.W.findIn X.K (.ref C) "__init__" = some (some (.ref fI))) (tI : PySem.W.typeIn X.K (.ref fI) = some (.type "function"))
    (F1 : FnOk X.prog X.w X.K X.mg X.base CX0 k fI fd ps sp) (hr : Room (k + 1) X.A) (hb : KBn X.K fd ps (n + 1) [] g gV) (hg : Gl X x) (hm : X.mg x = some (.ref C)) (ha : PA X (e :: es) ta)
    (hdb : (x == ("__debug__" : Str)) = false := by decide) (he : starEach (e :: es) X.env = (false, eval e X.env) :: starEach es X.env := by rfl) (hpl : (backTo pos (starEach es X.env)).any (·.1) = false := by rfl) :
    PE X (.Call (.Name x p) (e :: es) [] pos) (tMkX C sp gV n 0 ta tNil) := by
  refine ⟨fun pins s σ H Q I h => ?_⟩
  refine wpAny_Call_Name_kw (ld_glob I hg hm ?_ hdb)
  refine PySem.W.callWith_K (h₀ := X.base) I.ok.mod.kin T.kC (thn (ha.run pos pins s σ H _ I h) fun us s1 hh => ?_) he hpl
  obtain ⟨vs, H1, I1, r1, l1, hn, l2, q1⟩ := hh
  refine ⟨I1.kIn, ?_⟩
  exact run_mkX (ws := []) (zs := []) T iC tI F1 hr hb I1 r1 .nil l1 hn rfl q1

theorem pe_mkXk (T : OexC X.K C) (iC : PySem.W.findIn X.K (.ref C) "__init__" = some (some (.ref fI))) (tI : PySem.W.typeIn X.K (.ref fI) = some (.type "function"))
    (F1 : FnOk X.prog X.w X.K X.mg X.base CX0 k fI fd ps sp) (hr : Room (k + 1) X.A) (hb : KBn X.K fd ps 1 ks g gV) (hg : Gl X x) (hm : X.mg x = some (.ref C)) (hkw : PK X kws tk)
    (hall : (backToKw pos (keywordEach kws X.env)).all (·.1.isSome) = true := by rfl) (hks : (backToKw pos (keywordEach kws X.env)).filterMap (·.1) = ks := by rfl)
    (hdb : (x == ("__debug__" : Str)) = false := by decide) (hpl : ((backTo pos (starEach [] X.env)).any (·.1) || (backToKw pos (keywordEach kws X.env)).any (·.1.isNone)) = false := by rfl) :
    PE X (.Call (.Name x p) [] kws pos) (tMkX C sp gV 0 ks.length tNil tk) := by
  refine ⟨fun pins s σ H Q I h => ?_⟩
  refine wpAny_Call_Name_kw (ld_glob I hg hm ?_ hdb)
  refine PySem.W.callWith_KW0 (h₀ := X.base) I.ok.mod.kin T.kC hall ?_ hpl
  refine thn (hkw.run pos pins s σ H _ I h) fun ws s2 hh => ?_
  obtain ⟨zs, H2, I2, rz, l1, hn, l2, q2⟩ := hh
  refine ⟨I2.kIn, ?_⟩
  rw [hks]
  exact run_mkX (us := []) (vs := []) T iC tI F1 hr hb I2 .nil rz rfl (Nat.zero_le _) l2 q2
end
/-- a ** b of whole numbers, as long as the answer stays below 2 ^ 27 bits -/
def CPowW (i j : Int) : Prop := 0 ≤ j ∧ (Builtin.Int.intBits i : Int) * j ≤ 2 ^ 27
theorem op_powW {X : Cx} : OpR X (binaryOp .Pow) (rI CPowW fun i j => .int (i ^ j.toNat)) := opI fun _ _ _ _ _ _ _ hc q => pow_int hc.1 hc.2 q
end PX
set_option Elab.async false
set_option linter.all false
set_option maxRecDepth 100000
set_option maxHeartbeats 4000000
/-! # _law_alike: equal data are alike -/
namespace GL
open PySem PySem.Spec PyProof.Rows L2 Geo Rel
/-- data of a depth, its lists not too long -/
def okD : Nat → PyData → Bool
  | _, .none => true
  | _, .bool _ => true
  | _, .int _ => true
  | _, .str _ => true
  | _, .dict _ => false
  | 0, .list _ => false
  | 0, .tuple _ => false
  | n + 1, .list ds => decide (ds.length ≤ 1000) && ds.all (okD n)
  | n + 1, .tuple ds => decide (ds.length ≤ 1000) && ds.all (okD n)
section
variable {K : PySem.W.Frag} {σ : L2.St} {H : Hp} {tb : TE}
theorem ev_isi {i : Nat} {x : V} {t : Value} {T : String} {b : Bool} (hs : σ[i]? = some (some x)) (ty : ∀ H1, Evl.Ex H H1 → TyX K H1 x t) (k : PySem.W.kitOne K t (.type T) = some b) :
    Evl.Ev (tCB (rIsi K) (tCons (tVar i) (tCons (tC (.ty T)) tNil))) σ H (.bl b) := fun H1 e Q q =>
  ⟨_, hs, x, .ty T, t, .type T, b, rfl, .ty T, ty H1 e, k, q H1 (Evl.Ex.refl H1)⟩
theorem ev_isiT {i : Nat} {x : V} {t : Value} {S T : String} {b : Bool} (hs : σ[i]? = some (some x)) (ty : ∀ H1, Evl.Ex H H1 → TyX K H1 x t) (k : PySem.W.kitAny K t [.type S, .type T] = some b) :
    Evl.Ev (tCB (rIsiT K) (tCons (tVar i) (tCons (tTup (tCons (tC (.ty S)) (tCons (tC (.ty T)) tNil))) tNil))) σ H (.bl b) := fun H1 e Q q =>
  ⟨_, hs, (by show 2 ≤ sizeLine; decide), fun p np => ⟨x, p, [.ty S, .ty T], t, [.type S, .type T], b, rfl, upd_same, .cons (.ty S) (.cons (.ty T) .nil), ty _ (e.trans (Evl.Ex.new np)), k, q _ (Evl.Ex.new np)⟩⟩
end
theorem dq_eq {H : Hp} {v v' : V} {d : PyData} (h : Dq H v d) (h' : Dq H v' d) (hs : okD 0 d = true) : v' = v ∧ ∃ T : String, (T = "NoneType" ∨ T = "bool" ∨ T = "int" ∨ T = "str") ∧ (∀ (K : PySem.W.Frag) (H1 : Hp), TyX K H1 v (.type T)) ∧ scal v v = true := by
  cases h with
  | non => cases h'; exact ⟨rfl, _, .inl rfl, fun _ _ => .base .non, rfl⟩
  | bl b => cases h'; exact ⟨rfl, _, .inr (.inl rfl), fun _ _ => .base (.bl b), rfl⟩
  | int i => cases h'; exact ⟨rfl, _, .inr (.inr (.inl rfl)), fun _ _ => .base (.int i), rfl⟩
  | str x => cases h'; exact ⟨rfl, _, .inr (.inr (.inr rfl)), fun _ _ => .base (.str x), rfl⟩
  | lst => cases hs
  | tup => cases hs
theorem okD_0 {n : Nat} {d : PyData} (h : okD n d = true) (hl : ∀ ds, d ≠ .list ds) (ht : ∀ ds, d ≠ .tuple ds) : okD 0 d = true := by
  cases d with
  | list ds => exact absurd rfl (hl ds)
  | tuple ds => exact absurd rfl (ht ds)
  | dict => cases n <;> cases h
  | none => rfl
  | bool => rfl
  | int => rfl
  | str => rfl
/-- the built-in names that the comparison reads -/
structure BA (mg : Str → Option Value) : Prop where
  isinstance_ : mg "isinstance" = none
  list_ : mg "list" = none
  tuple_ : mg "tuple" = none
  len_ : mg "len" = none
  all_ : mg "all" = none
  range_ : mg "range" = none
  bool_ : mg "bool" = none
  int_ : mg "int" = none
  str_ : mg "str" = none
def spAlike (n : Nat) : Sp := fun vs H Q _ => ∃ (x y : V) (d : PyData), vs = [x, y] ∧ Dq H x d ∧ Dq H y d ∧ okD n d = true ∧ ∀ H', Evl.Ex H H' → Q (.bl true) H'
section
variable {P : Program} {w : World} {K : PySem.W.Frag} {mg : Str → Option Value} {base : Heap}
theorem isiK2 {X : Cx} (e : X.K = K) : CallR X (.builtin "isinstance") (rIsi K) := e ▸ call_isi
theorem isiTK2 {X : Cx} (e : X.K = K) : CallR X (.builtin "isinstance") (rIsiT K) := e ▸ call_isiT
theorem lenSK2 {X : Cx} (e : X.K = K) : CallR X (.builtin "len") (Evl.rLenS K) := e ▸ call_len_seq
theorem given_tt (n : Nat) : Evl.given n (fun _ => true) (fun _ => V.bl true) = (List.replicate n true).map V.bl := by
  unfold Evl.given
  rw [List.filter_eq_self.mpr (fun _ _ => rfl)]
  induction n with
  | zero => rfl
  | succ n ih =>
    rw [List.range_succ, List.map_append, ih, List.replicate_succ', List.map_append]
    rfl
theorem ev_allN {te : TE} {σ : L2.St} {H : Hp} {bs : List Bool} (h : Evl.EvL te σ H (bs.map V.bl)) : Evl.Ev (tCB (rAll K) (tCons te tNil)) σ H (.bl (bs.all id)) := fun H1 e Q q => h H1 e _ fun D H2 nD e2 hD => ⟨D, bs, rfl, SqL.of hD, q H2 e2⟩
theorem all_tt (n : Nat) : (List.replicate n true).all id = true := List.all_eq_true.mpr fun z hz => (List.mem_replicate.mp hz).2
theorem ev_lenS {i : Nat} {σ : L2.St} {H : Hp} {a : Addr} {xs : List V} (hs : σ[i]? = some (some (.ref a))) (h : ∀ H1, Evl.Ex H H1 → SqL K H1 a xs ∨ SqT K H1 a xs) : Evl.Ev (tCB (Evl.rLenS K) (tCons (tVar i) tNil)) σ H (.int (xs.length : Int)) := fun H1 e Q q => ⟨.ref a, hs, a, xs, rfl, h H1 e, q H1 (Evl.Ex.refl H1)⟩
end
end GL
set_option linter.all false
set_option maxHeartbeats 1000000
/-! # a valid layout covers its desk, each place once; what its corners sum up to -/
namespace Geo
def ind1 (a b i : Int) : Int := if a ≤ i ∧ i < b then 1 else 0
def ind (p : Pn) (i j : Int) : Int := ind1 p.x0 p.x1 i * ind1 p.y0 p.y1 j
def sm (f : Nat → Int) : Nat → Int
  | 0 => 0
  | n + 1 => sm f n + f n
theorem sm_le {f g : Nat → Int} : ∀ {n : Nat}, (∀ i < n, f i ≤ g i) → sm f n ≤ sm g n
  | 0, _ => Int.le_refl _
  | n + 1, h => Int.add_le_add (sm_le fun i hi => h i (by omega)) (h n (by omega))
theorem sm_eq {f g : Nat → Int} : ∀ {n : Nat}, (∀ i < n, f i ≤ g i) → sm f n = sm g n → ∀ i < n, f i = g i
  | 0, _, _, i, hi => absurd hi (Nat.not_lt_zero _)
  | n + 1, h, e, i, hi => by
    have h1 : sm f n ≤ sm g n := sm_le fun i hi => h i (by omega)
    have h2 := h n (by omega)
    have e' : sm f n + f n = sm g n + g n := e
    by_cases c : i = n
    · subst c
      omega
    · exact sm_eq (n := n) (fun i hi => h i (by omega)) (by omega) i (by omega)
theorem sm_congr {f g : Nat → Int} : ∀ {n : Nat}, (∀ i < n, f i = g i) → sm f n = sm g n
  | 0, _ => rfl
  | n + 1, h => by
    show sm f n + f n = sm g n + g n
    rw [sm_congr fun i hi => h i (by omega), h n (by omega)]
theorem sm_add (f g : Nat → Int) : ∀ n : Nat, sm (fun i => f i + g i) n = sm f n + sm g n
  | 0 => rfl
  | n + 1 => by
    show sm (fun i => f i + g i) n + (f n + g n) = (sm f n + f n) + (sm g n + g n)
    rw [sm_add f g n]
    omega
theorem sm_mul (c : Int) (f : Nat → Int) : ∀ n : Nat, sm (fun i => c * f i) n = c * sm f n
  | 0 => (Int.mul_zero c).symm
  | n + 1 => by
    show sm (fun i => c * f i) n + c * f n = c * (sm f n + f n)
    rw [sm_mul c f n, Int.mul_add]
theorem sm_mulr (c : Int) (f : Nat → Int) (n : Nat) : sm (fun i => f i * c) n = sm f n * c := by
  rw [Int.mul_comm, ← sm_mul]
  exact sm_congr fun i _ => Int.mul_comm _ _
theorem sm_zero : ∀ n : Nat, sm (fun _ => 0) n = 0
  | 0 => rfl
  | n + 1 => by
    show sm (fun _ => 0) n + 0 = 0
    rw [sm_zero n]
    rfl
theorem sm_const (c : Int) : ∀ n : Nat, sm (fun _ => c) n = n * c
  | 0 => by simp [sm]
  | n + 1 => by
    show sm (fun _ => c) n + c = _
    rw [sm_const c n, Int.natCast_add, Int.add_mul]
    simp
theorem sm_ind1 {a b : Int} (h0 : 0 ≤ a) (h1 : a ≤ b) : ∀ n : Nat, sm (fun i => ind1 a b i) n = if (n : Int) ≤ a then 0 else if (n : Int) ≤ b then n - a else b - a
  | 0 => by
    rw [if_pos (by omega)]
    rfl
  | n + 1 => by
    show sm (fun i => ind1 a b i) n + ind1 a b n = _
    rw [sm_ind1 h0 h1 n]
    unfold ind1
    split <;> split <;> (try split) <;> (try split) <;> (try split) <;> omega
theorem sm_side {a b : Int} {n : Nat} (h0 : 0 ≤ a) (h1 : a ≤ b) (h2 : b ≤ n) : sm (fun i => ind1 a b i) n = b - a := by
  rw [sm_ind1 h0 h1]
  split
  · omega
  · split <;> omega
theorem sum_zero {α : Type} : ∀ l : List α, (l.map fun _ => (0 : Int)).sum = 0
  | [] => rfl
  | _ :: r => by
    rw [List.map_cons, List.sum_cons, sum_zero r]
    rfl
def cov (ps : List Pn) (i j : Int) : Int := (ps.map fun p => ind p i j).sum
theorem ind1_01 (a b i : Int) : ind1 a b i = 0 ∨ ind1 a b i = 1 := by
  unfold ind1
  split
  · exact .inr rfl
  · exact .inl rfl
theorem ind1_one {a b i : Int} : ind1 a b i = 1 ↔ a ≤ i ∧ i < b := by
  unfold ind1
  split
  · simp [*]
  · simp [*]
theorem ind_01 (p : Pn) (i j : Int) : ind p i j = 0 ∨ ind p i j = 1 := by
  unfold ind
  rcases ind1_01 p.x0 p.x1 i with e | e <;> rcases ind1_01 p.y0 p.y1 j with e2 | e2 <;> rw [e, e2] <;> simp
theorem ind_one {p : Pn} {i j : Int} : ind p i j = 1 ↔ (p.x0 ≤ i ∧ i < p.x1) ∧ (p.y0 ≤ j ∧ j < p.y1) := by
  rw [← ind1_one, ← ind1_one]
  unfold ind
  rcases ind1_01 p.x0 p.x1 i with e | e <;> rcases ind1_01 p.y0 p.y1 j with e2 | e2 <;> rw [e, e2] <;> simp
theorem areas_cov {W H : Nat} : ∀ {ps : List Pn}, (∀ p ∈ ps, 0 ≤ p.x0 ∧ p.x0 ≤ p.x1 ∧ p.x1 ≤ W ∧ 0 ≤ p.y0 ∧ p.y0 ≤ p.y1 ∧ p.y1 ≤ H) → sm (fun i => sm (fun j => cov ps i j) H) W = areas ps
  | [], _ => by
    have : (fun i : Nat => sm (fun j : Nat => cov [] i j) H) = fun _ => 0 := funext fun i => sm_zero H
    rw [this, sm_zero]
    rfl
  | p :: r, h => by
    have ih := areas_cov (W := W) (H := H) (ps := r) fun q hq => h q (List.mem_cons_of_mem _ hq)
    obtain ⟨h0, h1, h2, h3, h4, h5⟩ := h p List.mem_cons_self
    have e : ∀ i : Nat, sm (fun j : Nat => cov (p :: r) i j) H = ind1 p.x0 p.x1 i * (p.y1 - p.y0) + sm (fun j : Nat => cov r i j) H := fun i => by
      have : (fun j : Nat => cov (p :: r) i j) = fun j : Nat => ind p i j + cov r i j := funext fun j => by
        unfold cov
        rw [List.map_cons, List.sum_cons]
      rw [this, sm_add]
      congr 1
      show sm (fun j : Nat => ind1 p.x0 p.x1 i * ind1 p.y0 p.y1 j) H = _
      rw [sm_mul, sm_side h3 h4 h5]
    rw [areas_cons, ← ih, sm_congr (fun i _ => e i), sm_add, sm_mulr, sm_side h0 h1 h2]
    rfl
theorem cov_le {i j : Int} : ∀ {ps : List Pn}, (ps.Pairwise fun p q => ¬ Ov p q) → 0 ≤ cov ps i j ∧ cov ps i j ≤ 1
  | [], _ => by simp [cov]
  | p :: r, h => by
    obtain ⟨h1, h2⟩ := List.pairwise_cons.mp h
    have ih := cov_le (i := i) (j := j) h2
    have e : cov (p :: r) i j = ind p i j + cov r i j := by simp [cov]
    rcases ind_01 p i j with z | z
    · rw [e, z]
      omega
    · have : cov r i j = 0 := by
        unfold cov
        have : r.map (fun q => ind q i j) = r.map fun _ => 0 := List.map_congr_left fun q hq => by
          rcases ind_01 q i j with y | y
          · exact y
          · have a := ind_one.mp z
            have b := ind_one.mp y
            exact absurd (show Ov p q from ⟨by omega, by omega, by omega, by omega⟩) (h1 q hq)
        rw [this, sum_zero]
      rw [e, z, this]
      omega
/-- the desk of a valid layout -/
structure Desk (ps : List Pn) (W H : Int) : Prop where
  v : Valid ps
  le : ∀ p ∈ ps, p.x1 ≤ W ∧ p.y1 ≤ H
  w : ∃ p ∈ ps, p.x1 = W
  h : ∃ p ∈ ps, p.y1 = H
  ar : areas ps = W * H
theorem Valid.desk {ps : List Pn} (v : Valid ps) : ∃ W H, Desk ps W H := by
  obtain ⟨W, H, h1, h2, h3, h4⟩ := v.full
  exact ⟨W, H, v, h1, h2, h3, h4⟩
theorem Desk.pos {ps : List Pn} {W H : Int} (d : Desk ps W H) : 0 < W ∧ 0 < H := by
  obtain ⟨p, hp, e⟩ := d.w
  obtain ⟨q, hq, f⟩ := d.h
  have := d.v.pos p hp
  have := d.v.pos q hq
  omega
theorem Desk.cov {ps : List Pn} {W H : Int} (d : Desk ps W H) (i j : Int) : cov ps i j = ind ⟨0, 0, W, H⟩ i j := by
  obtain ⟨w0, h0⟩ := d.pos
  by_cases c : (0 ≤ i ∧ i < W) ∧ (0 ≤ j ∧ j < H)
  · have e1 : ((W.toNat : Nat) : Int) = W := Int.toNat_of_nonneg (by omega)
    have e2 : ((H.toNat : Nat) : Int) = H := Int.toNat_of_nonneg (by omega)
    have tot := areas_cov (W := W.toNat) (H := H.toNat) (ps := ps) fun p hp => by
      have := d.v.pos p hp
      have := d.le p hp
      omega
    have le1 : ∀ a : Nat, sm (fun b : Nat => Geo.cov ps a b) H.toNat ≤ H := fun a => by
      have := sm_le (f := fun b : Nat => Geo.cov ps a b) (g := fun _ => 1) (n := H.toNat) fun b _ => (cov_le d.v.sep).2
      rw [sm_const] at this
      omega
    have row := sm_eq (f := fun a : Nat => sm (fun b : Nat => Geo.cov ps a b) H.toNat) (g := fun _ => H) (n := W.toNat) (fun a _ => le1 a) (by rw [tot, sm_const, d.ar, e1]) i.toNat (by omega)
    have cell := sm_eq (f := fun b : Nat => Geo.cov ps i.toNat b) (g := fun _ => 1) (n := H.toNat) (fun b _ => (cov_le d.v.sep).2) (by rw [row, sm_const, e2]; omega) j.toNat (by omega)
    have e3 : ((i.toNat : Nat) : Int) = i := Int.toNat_of_nonneg (by omega)
    have e4 : ((j.toNat : Nat) : Int) = j := Int.toNat_of_nonneg (by omega)
    rw [e3, e4] at cell
    rw [cell]
    exact (ind_one.mpr c).symm
  · have z : ind ⟨0, 0, W, H⟩ i j = 0 := by
      rcases ind_01 ⟨0, 0, W, H⟩ i j with e | e
      · exact e
      · exact absurd (ind_one.mp e) c
    rw [z]
    unfold Geo.cov
    have : ps.map (fun q => ind q i j) = ps.map fun _ => 0 := List.map_congr_left fun q hq => by
      rcases ind_01 q i j with y | y
      · exact y
      · have b := ind_one.mp y
        have := d.v.pos q hq
        have := d.le q hq
        exact absurd ⟨⟨by omega, by omega⟩, by omega, by omega⟩ c
    rw [this, sum_zero]
/-- a place of the desk lies in one pane -/
theorem Desk.at_ {ps : List Pn} {W H : Int} (d : Desk ps W H) {i j : Int} (h : (0 ≤ i ∧ i < W) ∧ (0 ≤ j ∧ j < H)) : ∃ p ∈ ps, (p.x0 ≤ i ∧ i < p.x1) ∧ (p.y0 ≤ j ∧ j < p.y1) := by
  have e := d.cov i j
  rw [ind_one.mpr h] at e
  by_cases c : ∃ p ∈ ps, ind p i j = 1
  · obtain ⟨p, hp, e⟩ := c
    exact ⟨p, hp, ind_one.mp e⟩
  · exfalso
    have : ps.map (fun q => ind q i j) = ps.map fun _ => 0 := List.map_congr_left fun q hq => by
      rcases ind_01 q i j with y | y
      · exact y
      · exact absurd ⟨q, hq, y⟩ c
    unfold Geo.cov at e
    rw [this, sum_zero] at e
    cases e
end Geo
set_option linter.all false
set_option maxHeartbeats 1000000
/-! # the corners of a valid layout: falling and rising ones are the same points, each once -/
namespace Geo
abbrev Pt : Type := Int × Int
def Pn.tl (p : Pn) : Pt := (p.x0, p.y0)
def Pn.br (p : Pn) : Pt := (p.x1, p.y1)
def Pn.tr (p : Pn) : Pt := (p.x1, p.y0)
def Pn.bl (p : Pn) : Pt := (p.x0, p.y1)
def dl (a x : Int) : Int := if x = a then 1 else 0
theorem ind1_dl {a b x : Int} (h : a < b) : ind1 a b x - ind1 a b (x - 1) = dl a x - dl b x := by
  unfold ind1 dl
  split <;> split <;> split <;> split <;> omega
def mixF (f : Int → Int → Int) (x y : Int) : Int := f x y - f (x - 1) y - f x (y - 1) + f (x - 1) (y - 1)
def en (p : Pn) (x y : Int) : Int := (dl p.x0 x - dl p.x1 x) * (dl p.y0 y - dl p.y1 y)
theorem mix_ind {p : Pn} (h : p.x0 < p.x1 ∧ p.y0 < p.y1) (x y : Int) : mixF (ind p) x y = en p x y := by
  unfold en mixF ind
  rw [← ind1_dl h.1, ← ind1_dl h.2, Int.sub_mul, Int.mul_sub, Int.mul_sub]
  omega
theorem mix_cov (x y : Int) : ∀ {ps : List Pn}, (∀ p ∈ ps, p.x0 < p.x1 ∧ p.y0 < p.y1) → (ps.map fun p => en p x y).sum = mixF (cov ps) x y
  | [], _ => by simp [mixF, cov]
  | p :: r, h => by
    have ih := mix_cov x y fun q hq => h q (List.mem_cons_of_mem _ hq)
    rw [List.map_cons, List.sum_cons, ih, ← mix_ind (h p List.mem_cons_self)]
    have e : ∀ i j, cov (p :: r) i j = ind p i j + cov r i j := fun i j => by simp [cov]
    unfold mixF
    rw [e, e, e, e]
    omega
/-- 1 where p is z -/
def is (z p : Pt) : Int := if p = z then 1 else 0
theorem is_dl (a b x y : Int) : is (x, y) (a, b) = dl a x * dl b y := by
  unfold is dl
  by_cases c : x = a
  · by_cases d : y = b
    · rw [if_pos c, if_pos d, if_pos (by rw [c, d])]
      rfl
    · rw [if_neg d, if_neg (fun e => d (Prod.mk.inj e).2.symm), Int.mul_zero]
  · rw [if_neg c, if_neg (fun e => c (Prod.mk.inj e).1.symm), Int.zero_mul]
theorem en_is (p : Pn) (x y : Int) : en p x y = is (x, y) p.tl + is (x, y) p.br - is (x, y) p.tr - is (x, y) p.bl := by
  unfold en Pn.tl Pn.br Pn.tr Pn.bl
  rw [is_dl, is_dl, is_dl, is_dl, Int.sub_mul, Int.mul_sub, Int.mul_sub]
  omega
theorem count_is {α : Type} (z : Pt) (f : α → Pt) : ∀ ps : List α, ((ps.map f).count z : Int) = (ps.map fun p => is z (f p)).sum
  | [] => rfl
  | p :: r => by
    rw [List.map_cons, List.map_cons, List.sum_cons, ← count_is z f r, List.count_cons]
    unfold is
    by_cases c : f p = z
    · simp [c]
      omega
    · simp [c]
theorem sum_en (z : Pt) : ∀ ps : List Pn, (ps.map fun p => en p z.1 z.2).sum = (ps.map Pn.tl).count z + (ps.map Pn.br).count z - (ps.map Pn.tr).count z - (ps.map Pn.bl).count z
  | [] => rfl
  | p :: r => by
    have ih := sum_en z r
    obtain ⟨x, y⟩ := z
    rw [count_is, count_is, count_is, count_is] at ih ⊢
    rw [List.map_cons, List.sum_cons, ih, en_is, List.map_cons, List.map_cons, List.map_cons, List.map_cons, List.sum_cons, List.sum_cons, List.sum_cons, List.sum_cons]
    dsimp only
    omega
theorem sum_cor (z : Pt) : ∀ {ps : List Pn}, (∀ p ∈ ps, p.x0 < p.x1 ∧ p.y0 < p.y1) → ((ps.map Pn.tl).count z + (ps.map Pn.br).count z + (ps.map Pn.tr).count z + (ps.map Pn.bl).count z) = ps.countP (Cor z.1 z.2)
  | [], _ => rfl
  | p :: r, h => by
    have ih := sum_cor z fun q hq => h q (List.mem_cons_of_mem _ hq)
    have hp := h p List.mem_cons_self
    rw [List.map_cons, List.map_cons, List.map_cons, List.map_cons, List.count_cons, List.count_cons, List.count_cons, List.count_cons, List.countP_cons, ← ih]
    obtain ⟨x, y⟩ := z
    unfold Cor Pn.tl Pn.br Pn.tr Pn.bl
    by_cases a : x = p.x0
    · have a' : ¬ p.x1 = x := by omega
      by_cases b : y = p.y0
      · have b' : ¬ p.y1 = y := by omega
        simp [a, b, Ne.symm (Int.ne_of_lt hp.1), Ne.symm (Int.ne_of_lt hp.2), Int.ne_of_lt hp.1, Int.ne_of_lt hp.2]
        omega
      · by_cases c : y = p.y1
        · simp [a, c, Ne.symm (Int.ne_of_lt hp.1), Ne.symm (Int.ne_of_lt hp.2), Int.ne_of_lt hp.1, Int.ne_of_lt hp.2]
          omega
        · simp [a, b, c, Ne.symm b, Ne.symm c]
    · by_cases a2 : x = p.x1
      · by_cases b : y = p.y0
        · simp [a2, b, Ne.symm (Int.ne_of_lt hp.1), Ne.symm (Int.ne_of_lt hp.2), Int.ne_of_lt hp.1, Int.ne_of_lt hp.2]
          omega
        · by_cases c : y = p.y1
          · simp [a2, c, Ne.symm (Int.ne_of_lt hp.1), Ne.symm (Int.ne_of_lt hp.2), Int.ne_of_lt hp.1, Int.ne_of_lt hp.2]
            omega
          · simp [a2, b, c, Ne.symm b, Ne.symm c]
      · simp [a, a2, Ne.symm a, Ne.symm a2]
def fallC (ps : List Pn) (W H : Int) : List Pt := ps.map Pn.tl ++ ps.map Pn.br ++ [(W, 0), (0, H)]
def riseC (ps : List Pn) (W H : Int) : List Pt := ps.map Pn.tr ++ ps.map Pn.bl ++ [(0, 0), (W, H)]
theorem cnt2 (z a b : Pt) : (([a, b] : List Pt).count z : Int) = is z a + is z b := by
  have := count_is z id [a, b]
  simpa using this
theorem Desk.count {ps : List Pn} {W H : Int} (d : Desk ps W H) (z : Pt) : (fallC ps W H).count z = (riseC ps W H).count z := by
  obtain ⟨x, y⟩ := z
  have pos : ∀ p ∈ ps, p.x0 < p.x1 ∧ p.y0 < p.y1 := fun p hp => ⟨(d.v.pos p hp).2.1, (d.v.pos p hp).2.2.2⟩
  have h1 := sum_en (x, y) ps
  rw [mix_cov x y pos] at h1
  have h2 : mixF (Geo.cov ps) x y = en ⟨0, 0, W, H⟩ x y := by
    rw [← mix_ind d.pos]
    unfold mixF
    rw [d.cov, d.cov, d.cov, d.cov]
  rw [h2, en_is] at h1
  have h3 := cnt2 (x, y) (W, 0) (0, H)
  have h4 := cnt2 (x, y) (0, 0) (W, H)
  unfold fallC riseC
  rw [List.count_append, List.count_append, List.count_append, List.count_append]
  unfold Pn.tl Pn.br Pn.tr Pn.bl at h1
  unfold Pn.tl Pn.br Pn.tr Pn.bl
  dsimp only at h1
  omega
theorem Desk.once {ps : List Pn} {W H : Int} (d : Desk ps W H) (z : Pt) : (fallC ps W H).count z ≤ 1 := by
  have pos : ∀ p ∈ ps, p.x0 < p.x1 ∧ p.y0 < p.y1 := fun p hp => ⟨(d.v.pos p hp).2.1, (d.v.pos p hp).2.2.2⟩
  have hc := d.count z
  have hs := sum_cor z pos
  have h3 := d.v.cnt z.1 z.2
  obtain ⟨w0, h0⟩ := d.pos
  have nin : ∀ (f : Pn → Pt), (∀ p ∈ ps, f p ≠ z) → (ps.map f).count z = 0 := fun f hf => List.count_eq_zero.mpr fun hm => by
    obtain ⟨p, hp, e⟩ := List.mem_map.mp hm
    exact hf p hp e
  have h5 := cnt2 z (W, 0) (0, H)
  have h6 := cnt2 z (0, 0) (W, H)
  unfold fallC riseC at hc
  unfold fallC
  rw [List.count_append, List.count_append] at hc ⊢
  rw [List.count_append, List.count_append] at hc
  have fact : ∀ p ∈ ps, 0 ≤ p.x0 ∧ p.x0 < p.x1 ∧ p.x1 ≤ W ∧ 0 ≤ p.y0 ∧ p.y0 < p.y1 ∧ p.y1 ≤ H := fun p hp => by
    have := d.v.pos p hp
    have := d.le p hp
    omega
  by_cases c1 : z = (W, 0)
  · have a := nin Pn.tl fun p hp e => by
      have := fact p hp
      have := (Prod.mk.inj (e.trans c1)).1
      omega
    have b := nin Pn.br fun p hp e => by
      have := fact p hp
      have := (Prod.mk.inj (e.trans c1)).2
      omega
    have n : ¬ ((0 : Int), H) = z := fun e => by
      have := (Prod.mk.inj (e.trans c1)).1
      omega
    unfold is at h5
    rw [if_neg n] at h5
    split at h5 <;> omega
  · by_cases c2 : z = (0, H)
    · have a := nin Pn.tl fun p hp e => by
        have := fact p hp
        have := (Prod.mk.inj (e.trans c2)).2
        omega
      have b := nin Pn.br fun p hp e => by
        have := fact p hp
        have := (Prod.mk.inj (e.trans c2)).1
        omega
      have n : ¬ (W, (0 : Int)) = z := fun e => by
        have := (Prod.mk.inj (e.trans c2)).1
        omega
      unfold is at h5
      rw [if_neg n] at h5
      split at h5 <;> omega
    · have z5 : (([(W, 0), (0, H)] : List Pt).count z : Int) = 0 := by
        rw [h5]
        unfold is
        rw [if_neg (fun e => c1 e.symm), if_neg (fun e => c2 e.symm)]
        rfl
      by_cases c3 : z = (0, 0)
      · have a := nin Pn.tr fun p hp e => by
          have := fact p hp
          have := (Prod.mk.inj (e.trans c3)).1
          omega
        have b := nin Pn.bl fun p hp e => by
          have := fact p hp
          have := (Prod.mk.inj (e.trans c3)).2
          omega
        have n : ¬ (W, H) = z := fun e => by
          have := (Prod.mk.inj (e.trans c3)).1
          omega
        unfold is at h6
        rw [if_neg n] at h6
        split at h6 <;> omega
      · by_cases c4 : z = (W, H)
        · have a := nin Pn.tr fun p hp e => by
            have := fact p hp
            have := (Prod.mk.inj (e.trans c4)).2
            omega
          have b := nin Pn.bl fun p hp e => by
            have := fact p hp
            have := (Prod.mk.inj (e.trans c4)).1
            omega
          have n : ¬ ((0 : Int), (0 : Int)) = z := fun e => by
            have := (Prod.mk.inj (e.trans c4)).1
            omega
          unfold is at h6
          rw [if_neg n] at h6
          split at h6 <;> omega
        · have z6 : (([(0, 0), (W, H)] : List Pt).count z : Int) = 0 := by
            rw [h6]
            unfold is
            rw [if_neg (fun e => c3 e.symm), if_neg (fun e => c4 e.symm)]
            rfl
          omega
theorem Desk.nodup {ps : List Pn} {W H : Int} (d : Desk ps W H) : (fallC ps W H).Nodup := List.nodup_iff_count.mpr d.once
theorem Desk.nodup2 {ps : List Pn} {W H : Int} (d : Desk ps W H) : (riseC ps W H).Nodup := List.nodup_iff_count.mpr fun z => d.count z ▸ d.once z
theorem Desk.same {ps : List Pn} {W H : Int} (d : Desk ps W H) (z : Pt) : z ∈ fallC ps W H ↔ z ∈ riseC ps W H := by
  rw [← List.count_pos_iff, ← List.count_pos_iff, d.count]
end Geo
set_option Elab.async false
set_option linter.all false
set_option maxRecDepth 100000
set_option maxHeartbeats 8000000
/-! # rules for lists of panes -/
namespace GL
open PySem PySem.Spec PyProof.Rows L2 Geo Rel
def pnL (p : Pn) : List Int := [p.x0, p.y0, p.x1, p.y1]
/-- a pane, as a tuple -/
def pnR (p : Pn) (v : V) (H : Hp) : Prop := tupI (pnL p) v H
theorem pnR_e : MonoE pnR := fun p v H H' e h => tupI_e (pnL p) v H H' e h
theorem pnR_m : Mono pnR := fun p v H H' D hv k h => tupI_m (pnL p) v H H' D hv k h
section
variable {K : PySem.W.Frag} {σ : L2.St} {H : Hp} {tl te : TE} {t : TT}
def set4 (σ : L2.St) (i j k l : Nat) (p : Pn) : L2.St := (((σ.set i (some (.int p.x0))).set j (some (.int p.y0))).set k (some (.int p.x1))).set l (some (.int p.y1))
def g4 (K : PySem.W.Frag) (i j k l : Nat) : TG := gTup K 4 (gCons (gName i) (gCons (gName j) (gCons (gName k) (gCons (gName l) gNil))))
theorem g4_at {i j k l : Nat} {p : Pn} {y : V} {Q : L2.St → Hp → Prop} (h : pnR p y H) (q : Q (set4 σ i j k l p) H) : g4 K i j k l y σ H Q := by
  obtain ⟨T, rfl, hT⟩ := h
  exact ⟨T, _, rfl, SqT.of hT, rfl, _, _, rfl, _, _, rfl, _, _, rfl, _, _, rfl, rfl, q⟩
theorem wipe_com {j : Nat} {v : Option V} : ∀ {r : List Nat} {σ : L2.St}, List.set (wipe (List.set σ j v) r) j none = List.set (wipe σ r) j none
  | [], σ => by
    show List.set (List.set σ j v) j none = List.set σ j none
    rw [List.set_set]
  | b :: s, σ => by
    show List.set (List.set (wipe (List.set σ j v) s) b none) j none = List.set (List.set (wipe σ s) b none) j none
    have ih := wipe_com (j := j) (v := v) (r := s) (σ := σ)
    by_cases c : b = j
    · rw [c, List.set_set, List.set_set, ih]
    · rw [List.set_comm _ _ c, ih, List.set_comm _ _ c]
theorem wipe_set {j : Nat} {v : Option V} : ∀ {vs : List Nat} {σ : L2.St}, j ∈ vs → wipe (List.set σ j v) vs = wipe σ vs
  | a :: r, σ, h => by
    show List.set (wipe (List.set σ j v) r) a none = List.set (wipe σ r) a none
    by_cases c : j ∈ r
    · rw [wipe_set c]
    · rw [← (List.mem_cons.mp h).resolve_right c, wipe_com]
theorem wipe_sub : ∀ {us vs : List Nat} {σ : L2.St}, (∀ j ∈ us, j ∈ vs) → wipe (wipe σ us) vs = wipe σ vs
  | [], vs, σ, h => rfl
  | a :: us, vs, σ, h => by
    show wipe (List.set (wipe σ us) a none) vs = wipe σ vs
    rw [wipe_set (h a List.mem_cons_self), wipe_sub fun j hj => h j (List.mem_cons_of_mem _ hj)]
theorem wipe_set4 {i j k l : Nat} {vs : List Nat} {σ : L2.St} {p : Pn} (h : i ∈ vs ∧ j ∈ vs ∧ k ∈ vs ∧ l ∈ vs) : wipe (set4 (wipe σ vs) i j k l p) vs = wipe σ vs := by
  unfold set4
  rw [wipe_set h.2.2.2, wipe_set h.2.2.1, wipe_set h.2.1, wipe_set h.1, wipe_sub fun _ h => h]
theorem wipe_set5 {n i j k l : Nat} {vs : List Nat} {σ : L2.St} {p : Pn} {x : V} (h : n ∈ vs ∧ i ∈ vs ∧ j ∈ vs ∧ k ∈ vs ∧ l ∈ vs) : wipe (set4 ((wipe σ vs).set n (some x)) i j k l p) vs = wipe σ vs := by
  unfold set4
  rw [wipe_set h.2.2.2.2, wipe_set h.2.2.2.1, wipe_set h.2.2.1, wipe_set h.2.1, wipe_set h.1, wipe_sub fun _ h => h]
/-- a comprehension that unpacks panes -/
theorem er_lcP {S : Pn → V → Hp → Prop} (mS : Mono S) {ps : List Pn} {a : Addr} {i j k l : Nat} {vs : List Nat} (f : Pn → Bool) (h : Evl.Ev tl σ H (.ref a)) (hx : RL pnR H a ps) (hz : ps.length ≤ 40000)
    (hw : ∀ p, wipe (set4 (wipe σ vs) i j k l p) vs = wipe σ vs)
    (ht : ∀ p ∈ ps, ∀ H1, Evl.Ex H H1 → Evl.EvT t (set4 (wipe σ vs) i j k l p) H1 (f p))
    (he : ∀ p ∈ ps, ∀ H1, Evl.Ex H H1 → f p = true → EvN te (set4 (wipe σ vs) i j k l p) H1 (S p)) :
    EvRL (tLc (iList K tl) (g4 K i j k l) t te vs) σ H S (ps.filter f) := by
  obtain ⟨ys, hl, hp⟩ := hx
  intro H1 e Q q
  refine h H1 e _ fun H2 e1 => ⟨a, rfl, ⟨ys, Evl.sq_of ((e.trans e1) _ _ hl)⟩, fun Dl hD => ?_⟩
  refine lc_rel (H := H2) (walk_list (K := K) (a := a) (xs := ys)) (pr_len hp) (fun H3 e2 => Evl.sq_of (((e.trans e1).trans e2) _ _ hl)) f S mS hz (fun n z x H3 H4 hzi hH hy => ?_) hD fun us H3 e2 h3 hq => q Dl H3 (Evl.fresh_back e1 hD) (e1.trans e2) ⟨us, h3, hq⟩
  obtain ⟨rfl, hy⟩ := hy
  obtain ⟨y, hy2, hT⟩ := pr_at hp hzi
  obtain rfl : y = x := Option.some.inj (hy2.symm.trans hy)
  have hm := List.mem_of_getElem? hzi
  exact ⟨Evl.Ex.refl _, fun Q' k => g4_at (pnR_e _ _ _ _ ((e.trans e1).trans hH) hT) (k _ (hw _) (ht z hm H2 (e.trans e1)) fun hf => he z hm H2 (e.trans e1) hf)⟩
theorem er_lcP0 {S : Pn → V → Hp → Prop} (mS : Mono S) {ps : List Pn} {a : Addr} {i j k l : Nat} {vs : List Nat} (h : Evl.Ev tl σ H (.ref a)) (hx : RL pnR H a ps) (hz : ps.length ≤ 40000)
    (hw : ∀ p, wipe (set4 (wipe σ vs) i j k l p) vs = wipe σ vs)
    (he : ∀ p ∈ ps, ∀ H1, Evl.Ex H H1 → EvN te (set4 (wipe σ vs) i j k l p) H1 (S p)) :
    EvRL (tLc (iList K tl) (g4 K i j k l) tYes te vs) σ H S ps := by
  have z := er_lcP (K := K) (te := te) mS (fun _ => true) h hx hz hw (fun _ _ _ _ => et_yes) (fun z hz H1 e _ => he z hz H1 e)
  rw [fil_yes] at z
  exact z
/-- the same over enumerate(..): a name for the index, four for the pane -/
theorem er_lcPEf {S : Nat × Pn → V → Hp → Prop} (mS : Mono S) {ps : List Pn} {a : Addr} {n i j k l : Nat} {vs : List Nat} (f : Nat × Pn → Bool) (h : Evl.Ev tl σ H (.ref a)) (hx : RL pnR H a ps) (hz : ps.length ≤ 40000)
    (hw : ∀ x p, wipe (set4 ((wipe σ vs).set n (some x)) i j k l p) vs = wipe σ vs)
    (ht : ∀ m p, ps[m]? = some p → ∀ H1, Evl.Ex H H1 → Evl.EvT t (set4 ((wipe σ vs).set n (some (.int (m : Nat)))) i j k l p) H1 (f (m, p)))
    (he : ∀ m p, ps[m]? = some p → ∀ H1, Evl.Ex H H1 → f (m, p) = true → EvN te (set4 ((wipe σ vs).set n (some (.int (m : Nat)))) i j k l p) H1 (S (m, p))) :
    EvRL (tLc (iEnum K (tCons tl tNil)) (gTup K 2 (gCons (gName n) (gCons (g4 K i j k l) gNil))) t te vs) σ H S ((enumL ps).filter f) := by
  obtain ⟨ys, hl, hp⟩ := hx
  intro H1 e Q q
  refine h H1 e _ fun H2 e1 => ⟨a, ys, rfl, Evl.sq_of ((e.trans e1) _ _ hl), fun Dl hD => ?_⟩
  refine lc_rel (H := H2) (zs := enumL ps) (walk_enum (K := K) (a := a) (xs := ys)) (by rw [enumL_len]; exact pr_len hp) (fun H3 e2 => Evl.sq_of (((e.trans e1).trans e2) _ _ hl)) f S mS (by rw [enumL_len]; exact hz) (fun m u x H3 H4 hu hH hy => ?_) hD fun us H3 e2 h3 hq => q Dl H3 (Evl.fresh_back e1 hD) (e1.trans e2) ⟨us, h3, hq⟩
  obtain ⟨T, x1, x2, rfl, nT, rfl, h1, h2⟩ := hy
  obtain ⟨hi, hz2⟩ := enumL_at hu
  obtain ⟨u1, u2⟩ := u
  dsimp only at hi hz2
  subst hi
  obtain rfl : x1 = .int (u1 : Nat) := (Option.some.inj h1).symm
  obtain ⟨y, hy2, hr⟩ := pr_at hp hz2
  obtain rfl : y = x2 := Option.some.inj (hy2.symm.trans h2)
  have e4 : Evl.Ex H H2 := e.trans e1
  refine ⟨Evl.Ex.new nT, fun Q' k => ?_⟩
  refine ⟨T, [_, _], rfl, .inl (.inl upd_same), rfl, _, _, rfl, _, _, rfl, ?_⟩
  exact g4_at (pnR_e _ _ _ _ ((e4.trans hH).trans (Evl.Ex.new nT)) hr) ⟨rfl, k _ (hw _ _) (ht u1 u2 hz2 H2 e4) fun hf => he u1 u2 hz2 H2 e4 hf⟩
theorem er_lcPE {S : Nat × Pn → V → Hp → Prop} (mS : Mono S) {ps : List Pn} {a : Addr} {n i j k l : Nat} {vs : List Nat} (h : Evl.Ev tl σ H (.ref a)) (hx : RL pnR H a ps) (hz : ps.length ≤ 40000)
    (hw : ∀ x p, wipe (set4 ((wipe σ vs).set n (some x)) i j k l p) vs = wipe σ vs)
    (he : ∀ m p, ps[m]? = some p → ∀ H1, Evl.Ex H H1 → EvN te (set4 ((wipe σ vs).set n (some (.int (m : Nat)))) i j k l p) H1 (S (m, p))) :
    EvRL (tLc (iEnum K (tCons tl tNil)) (gTup K 2 (gCons (gName n) (gCons (g4 K i j k l) gNil))) tYes te vs) σ H S (enumL ps) := by
  have z := er_lcPEf (K := K) (te := te) mS (fun _ => true) h hx hz hw (fun _ _ _ _ _ => et_yes) (fun m p hz H1 e _ => he m p hz H1 e)
  rw [fil_yes] at z
  exact z
theorem er_catNN {α : Type} {R : α → V → Hp → Prop} (m : MonoE R) {ta tb : TE} {zs ws : List α} (ha : EvRL ta σ H R zs) (hb : EvRL tb σ H R ws) (hl : zs.length + ws.length ≤ 100000) : EvRL (tOp rCat ta tb) σ H R (zs ++ ws) := fun H1 e Q k =>
  ha H1 e _ fun p H2 np e2 hp => hb H2 (e.trans e2) _ fun q H3 nq e3 hq => by
    obtain ⟨ys, h1, h2⟩ := hp.ex m e3
    obtain ⟨us, k1, k2⟩ := hq
    exact ⟨p, q, ys, us, rfl, rfl, h1, k1, by have := pr_len h2; have := pr_len k2; unfold sizeLine; omega, fun d nd => k d _ (Evl.fresh_back (e2.trans e3) nd) ((e2.trans e3).trans (Evl.Ex.new nd)) ⟨ys ++ us, upd_same, pr_app (pr_e m (Evl.Ex.new nd) h2) (pr_e m (Evl.Ex.new nd) k2)⟩⟩
/-- a, b, c, d = a pane -/
theorem q_asgP {i j k l : Nat} {p : Pn} {y : V} {D : Ends} {tz : TS} (h : Evl.Ev te σ H y) (hy : pnR p y H) (q : ∀ H1, Evl.Ex H H1 → tz D (set4 σ i j k l p) H1) : tSeq (tAsg te (g4 K i j k l)) tz D σ H :=
  h H (Evl.Ex.refl H) _ fun H1 e1 => g4_at (pnR_e _ _ _ _ e1 hy) (q H1 e1)
theorem ev_tyInt {i : Nat} {n : Int} (hs : σ[i]? = some (some (.int n))) : Evl.Ev (tOp (fun x y H Q => ∃ m n, x = V.ty m ∧ y = V.ty n ∧ Q (V.bl (decide (m = n))) H) (tCB RZ.rTy4 (tCons (tVar i) tNil)) (tC (V.ty "int"))) σ H (.bl true) := fun H1 e Q q => ⟨.int n, hs, .int n, "int", rfl, .int n, _, _, rfl, rfl, q H1 (Evl.Ex.refl _)⟩
/-- l.extend(new list), rows of tuples -/
theorem q_ext {α : Type} {g : α → List Int} {zs ws : List α} {l : Addr} {t1 t2 : TE} {D : Ends} {tz : TS} (hl : RL (fun z => tupI (g z)) H l zs) (ha : Evl.Ev t1 σ H (.ref l)) (h : EvRL t2 σ H (fun z => tupI (g z)) ws) (hz : zs.length + ws.length < 50000)
    (k : ∀ H2, But1 l H H2 → RL (fun z => tupI (g z)) H2 l (zs ++ ws) → tz D σ H2) : tSeq (tDrop (tBM K "list" rExtend t1 (tCons t2 tNil))) tz D σ H := by
  obtain ⟨ys, h1, h2⟩ := hl
  refine ha H (Evl.Ex.refl H) _ fun H1 e1 => ⟨.inl ⟨rfl, _, SqL.of (e1 _ _ h1)⟩, h H1 e1 _ fun b H2 nb e2 hb => ?_⟩
  show rExtend (.ref l) [.ref b] H2 fun x H1 => tz D σ H1
  obtain ⟨us, k1, k2⟩ := hb
  have e02 := e1.trans e2
  have len1 := pr_len h2
  have len2 := pr_len k2
  refine ⟨l, b, ys, us, rfl, rfl, e02 _ _ h1, k1, by unfold sizeLine; omega, ?_⟩
  refine k _ ((But1.of e02).upd) ⟨ys ++ us, upd_same, ?_⟩
  have kp : But1 l H2 (upd H2 l (.lst (ys ++ us))) := (But1.of (Evl.Ex.refl H2)).upd
  exact pr_app (pr_but (pr_e (fun z => tupI_e (g z)) e02 h2) (e02 _ _ h1) kp) (pr_but k2 (e02 _ _ h1) kp)
theorem s_ext {α : Type} {g : α → List Int} {zs ws : List α} {l : Addr} {t1 t2 : TE} {D : Ends} (hl : RL (fun z => tupI (g z)) H l zs) (ha : Evl.Ev t1 σ H (.ref l)) (h : EvRL t2 σ H (fun z => tupI (g z)) ws) (hz : zs.length + ws.length < 50000)
    (k : ∀ H2, But1 l H H2 → RL (fun z => tupI (g z)) H2 l (zs ++ ws) → D.nx σ H2) : tDrop (tBM K "list" rExtend t1 (tCons t2 tNil)) D σ H := q_ext (tz := fun D => D.nx) hl ha h hz k
/-- a, b = f(..) -/
theorem q_asgU2L {te : TE} {i j : Nat} {a b : V} {D : Ends} {tz : TS} (h : Evl.EvU te σ H [a, b]) (k : ∀ H1, Evl.Ex H H1 → tz D ((σ.set i (some a)).set j (some b)) H1) : tSeq (tAsg te (gTup K 2 (gCons (gName i) (gCons (gName j) gNil)))) tz D σ H :=
  h H (Evl.Ex.refl H) _ fun p H1 np e1 hp => g_tup2v hp (k H1 e1)
theorem eu_callL {sp : Sp} {dvs vs xs : List V} {E : XK} {ta : TA} (h : Evl.EvA ta σ H vs) (hs : ∀ H1, Evl.Ex H H1 → ∀ Q : VK, (∀ p H2, H1 p = none → Evl.Ex H1 H2 → H2 p = some (.tup xs) → Q (.ref p) H2) → ∀ E : XK, sp (vs ++ dvs) H1 Q E) : Evl.EvU (tCall sp dvs E ta) σ H xs := fun H1 e Q q =>
  h H1 e _ fun H2 e2 => hs H2 (e.trans e2) _ (fun p H3 np e3 hp => q p H3 (Evl.fresh_back e2 np) (e2.trans e3) hp) E
/-- a list of two written pairs -/
theorem er_two {α : Type} {g : α → List Int} {ta tb : TA} {z w : α} (h1 : Evl.EvA ta σ H ((g z).map V.int)) (h2 : Evl.EvA tb σ H ((g w).map V.int)) (l1 : (g z).length ≤ 1000) (l2 : (g w).length ≤ 1000) : EvRL (tLst (tCons (tTup ta) (tCons (tTup tb) tNil))) σ H (fun z => tupI (g z)) [z, w] := fun H1 e Q q =>
  Evl.eu_tup h1 (by rw [List.length_map]; omega) H1 e (fun v H2 => tTup tb σ H2 fun v2 H3 => [v, v2].length ≤ sizeLine ∧ ∀ p, H3 p = none → Q (.ref p) (upd H3 p (.lst [v, v2]))) fun p H2 np e2 hp => Evl.eu_tup h2 (by rw [List.length_map]; omega) H2 (e.trans e2) _ fun r H3 nr e3 hr => ⟨(show 2 ≤ sizeLine by decide), fun d nd => q d _ (Evl.fresh_back (e2.trans e3) nd) ((e2.trans e3).trans (Evl.Ex.new nd)) ⟨_, upd_same, .cons ⟨p, rfl, Evl.Ex.new nd _ _ (e3 _ _ hp)⟩ (.cons ⟨r, rfl, Evl.Ex.new nd _ _ hr⟩ .nil)⟩⟩
theorem roomL {A : Around} {k : Nat} (hr : Room k A) : A.units + 65 < cLine := by have := hr.un; omega
theorem nodup_sub {α : Type} [DecidableEq α] : ∀ {l m : List α}, l.Nodup → (∀ x ∈ l, x ∈ m) → ∃ r, m.Perm (l ++ r)
  | [], m, _, _ => ⟨m, List.Perm.refl _⟩
  | x :: l, m, h, s => by
    obtain ⟨nx, nl⟩ := List.nodup_cons.mp h
    have hx := s x List.mem_cons_self
    obtain ⟨r, hr⟩ := nodup_sub (m := m.erase x) nl fun y hy => (List.mem_erase_of_ne (fun e : y = x => nx (by rw [← e]; exact hy))).mpr (s y (List.mem_cons_of_mem _ hy))
    exact ⟨r, (List.perm_cons_erase hx).trans (hr.cons x)⟩
theorem nodup_le {α : Type} [DecidableEq α] {l m : List α} (h : l.Nodup) (s : ∀ x ∈ l, x ∈ m) : l.length ≤ m.length := by
  obtain ⟨r, hr⟩ := nodup_sub h s
  rw [hr.length_eq, List.length_append]
  omega
theorem nodup_eq {α : Type} [DecidableEq α] {l m : List α} (h : l.Nodup) (s : ∀ x ∈ l, x ∈ m) (e : l.length = m.length) : m.Perm l := by
  obtain ⟨r, hr⟩ := nodup_sub h s
  have : r = [] := by
    have := hr.length_eq
    rw [List.length_append] at this
    exact List.eq_nil_of_length_eq_zero (by omega)
  rw [this, List.append_nil] at hr
  exact hr
/-- name = set(a list of tuples) -/
theorem q_asgSet {P : Program} {w : World} {te : TE} {i : Nat} {l : Addr} {zs : List (List Int)} {D : Ends} {tz : TS} (h : Evl.Ev te σ H (.ref l)) (hl : RL tupI H l zs) (hz : zs.length < 200)
    (k : ∀ a L H1, Evl.Ex H H1 → H1 a = some (StB.SetOb P w a L) → (L.map (·.2)).Nodup → (∀ k, k ∈ L.map (·.2) ↔ k ∈ zs) → (∀ r ∈ L, tupI r.2 (.ref r.1) H1) → tz D (σ.set i (some (.ref a))) H1) :
    tSeq (tAsg (tCB (StB.rSetB K P w) (tCons te tNil)) (gName i)) tz D σ H :=
  h H (Evl.Ex.refl H) _ fun H1 e1 => by
    obtain ⟨ys, h1, h2⟩ := hl.ex tupI_e e1
    exact ⟨l, ys, zs, rfl, SqL.of h1, h2, hz, fun a L na nd mem all => k a L _ (e1.trans (Evl.Ex.new na)) upd_same nd mem fun r hr => tupI_e _ _ _ _ (Evl.Ex.new na) (all r hr)⟩
end
end GL
set_option Elab.async false
set_option linter.all false
set_option maxRecDepth 100000
set_option maxHeartbeats 8000000
/-! # layouts checked: is_layout, check_layout of lists of panes -/
namespace GL
open PySem PySem.Spec PyProof.Rows L2 Geo Rel
/-- what tiles_desk asks -/
def wOf (ps : List Pn) : Int := (ps.map Pn.x1).foldl max 0
def hOf (ps : List Pn) : Int := (ps.map Pn.y1).foldl max 0
def tilesB (ps : List Pn) (W H : Int) : Bool := decide (fallC ps W H).Nodup && (decide (∀ z ∈ fallC ps W H, z ∈ riseC ps W H) && decide (∀ z ∈ riseC ps W H, z ∈ fallC ps W H))
section
variable {P : Program} {w : World} {K : PySem.W.Frag} {mg : Str → Option Value} {base : Heap} {σ : L2.St} {H : Hp}
theorem setBK {X : Cx} (e1 : X.K = K) (e2 : X.prog = P) (e3 : X.w = w) (hc : X.calm = true) (hu : X.A.units + 65 < cLine) : CallR X (.type "set") (StB.rSetB K P w) := by
  subst e1 e2 e3
  exact StB.cr_setB hc (by omega)
theorem lenBK {X : Cx} (e2 : X.prog = P) (e3 : X.w = w) : CallR X (.builtin "len") (StB.rLenB P w) := by
  subst e2 e3
  exact StB.cr_lenB
theorem eqBK {X : Cx} (e2 : X.prog = P) (e3 : X.w = w) (hu : X.A.units + 65 < cLine) : OpR X (compareOp .Eq) (StB.rEqB P w) := by
  subst e2 e3
  exact StB.op_eqB (by omega)
theorem ev_maxT {α : Type} {te : TE} {zs : List α} {f : α → Int} {m : Int} (h : Evl.EvL te σ H ((zs.map f).map V.int)) (hm : Top f zs m) : Evl.Ev (tCB (rMax K) (tCons te tNil)) σ H (.int m) := fun H1 e Q q =>
  ev_maxN h (by obtain ⟨⟨z, hz, _⟩, _⟩ := hm; rw [List.length_map]; exact List.length_pos_of_mem hz) H1 e Q fun n H2 e2 h1 h2 => by
    rw [top_one (top_of h1 h2) hm]
    exact q H2 e2
def spIsItems : Sp := fun vs H Q _ => ∃ (l : Addr) (xs : List V), vs = [.ref l] ∧ H l = some (.lst xs) ∧ ∀ H', Evl.Ex H H' → Q (.bl (decide (1 ≤ xs.length) && decide (xs.length ≤ 60))) H'
theorem ok_is_items {f : Addr} {fd : FuncData} (F : Fun K "is_list_of_items" "is_list_of_items" s_is_list_of_items f fd) (B : BP mg) (hM : ∃ t, mg "MOST_PANES" = some (.int 60 t)) : FnOk P w K mg base CX0 1 f fd ["thing"] spIsItems := by
  obtain ⟨tM, hM⟩ := hM
  refine F.ok sc_is_list_of_items (fun vs H Q E h => ?_) (fun cdv A outer s H vs Q E hr h => ?_)
  · obtain ⟨l, xs, rfl, _⟩ := h
    rfl
  · obtain ⟨l, xs, rfl, hl, q⟩ := h
    refine ⟨_, (pss_one (ps_ret (pe_and (pe_callB (isiK2 (K := K) rfl) (by rfl) B.isinstance_ (by decide +kernel) (pa_cons (pv 0) (pa_cons (pe_bltn (v := .ty "list") (by rfl) B.list_ (by decide +kernel) rfl) pa_nil))) (pe_one (pe_chain op_le op_le pe_int (pe_callB (lenSK2 (K := K) rfl) (by rfl) B.len_ (by decide +kernel) (pa_cons (pv 0) pa_nil)) (pe_glob (v := .int 60) rfl hM ⟨_, rfl⟩)))))), ?_⟩
    exact Evl.s_ret (v := .bl (decide (1 ≤ xs.length) && decide (xs.length ≤ 60))) (Evl.ev_is (Evl.ev_andV (a := true) (b := decide (1 ≤ (xs.length : Int)) && decide ((xs.length : Int) ≤ 60)) (ev_isi (b := true) (T := "list") rfl (fun H1 e => .base (.lst (e _ _ hl))) (kit_ty (by decide +kernel))) fun _ => ev_chain Evl.ev_c (ev_lenS rfl fun H1 e => .inl (SqL.of (e _ _ hl))) Evl.rv_I0 (fun _ => Evl.ev_c) (fun _ => Evl.rv_I0)) (by
      rw [Bool.true_and]
      congr 2
      · exact decide_eq_decide.mpr (by omega)
      · exact decide_eq_decide.mpr (by omega))) q
def paneB (p : Pn) : Bool := (decide (0 ≤ p.x0) && decide (p.x0 < p.x1)) && (decide (0 ≤ p.y0) && decide (p.y0 < p.y1))
def spIsPaneT : Sp := fun vs H Q _ => ∃ (x : V) (p : Pn), vs = [x] ∧ pnR p x H ∧ ∀ H', Evl.Ex H H' → Q (.bl (paneB p)) H'
theorem ok_is_pane {f : Addr} {fd : FuncData} (F : Fun K "is_pane" "is_pane" s_is_pane f fd) (B : BP mg) : FnOk P w K mg base CX0 1 f fd ["thing"] spIsPaneT := by
  refine F.ok sc_is_pane (fun vs H Q E h => ?_) (fun cdv A outer s H vs Q E hr h => ?_)
  · obtain ⟨x, p, rfl, _⟩ := h
    rfl
  · obtain ⟨x, p, rfl, ⟨a, rfl, ha⟩, q⟩ := h
    refine ⟨_, (pss_cons (ps_if (PW.pt (pw_or (pt_not (pt_val (pe_callB (isiK2 (K := K) rfl) (by rfl) B.isinstance_ (by decide +kernel) (pa_cons (pv 0) (pa_cons (pe_bltn (v := .ty "tuple") (by rfl) B.tuple_ (by decide +kernel) rfl) pa_nil))))) (pw_or1 (pt_cmpR op_ne (pe_callB (lenSK2 (K := K) rfl) (by rfl) B.len_ (by decide +kernel) (pa_cons (pv 0) pa_nil)) pe_int (nomark _))))) (pss_one (ps_ret pe_bl)) pss_nil)
      (pss_cons (ps_asg (pv 0) (pg_tup rfl (pgs_cons (pg_name (i := 1) sc_is_pane.nd rfl (Or.inl rfl)) (pgs_cons (pg_name (i := 2) sc_is_pane.nd rfl (Or.inl rfl)) (pgs_cons (pg_name (i := 3) sc_is_pane.nd rfl (Or.inl rfl)) (pgs_cons (pg_name (i := 4) sc_is_pane.nd rfl (Or.inl rfl)) pgs_nil))))))
      (pss_one (ps_ret (pe_and (pe_cmpR op_isTy (pe_callTy (T := "type") RZ.call_type4 (by rfl) B.type_ (by decide +kernel) (pa_cons (pv 1) pa_nil)) (pe_bltn (v := .ty "int") (by rfl) B.int_ (by decide +kernel) rfl) (nomark _)) (pe_and (pe_cmpR op_isTy (pe_callTy (T := "type") RZ.call_type4 (by rfl) B.type_ (by decide +kernel) (pa_cons (pv 2) pa_nil)) (pe_bltn (v := .ty "int") (by rfl) B.int_ (by decide +kernel) rfl) (nomark _)) (pe_and (pe_cmpR op_isTy (pe_callTy (T := "type") RZ.call_type4 (by rfl) B.type_ (by decide +kernel) (pa_cons (pv 3) pa_nil)) (pe_bltn (v := .ty "int") (by rfl) B.int_ (by decide +kernel) rfl) (nomark _)) (pe_and (pe_cmpR op_isTy (pe_callTy (T := "type") RZ.call_type4 (by rfl) B.type_ (by decide +kernel) (pa_cons (pv 4) pa_nil)) (pe_bltn (v := .ty "int") (by rfl) B.int_ (by decide +kernel) rfl) (nomark _)) (pe_and (pe_chain op_le op_lt pe_int (pv 1) (pv 3)) (pe_one (pe_chain op_le op_lt pe_int (pv 2) (pv 4)))))))))))), ?_⟩
    refine Evl.q_when (b := false) (Evl.et_is (Evl.et_or (a := false) (b := false) (Evl.et_is (Evl.et_not (Evl.et_B (ev_isi (b := true) (T := "tuple") rfl (fun H1 e => .base (.tup (e _ _ ha))) (kit_ty (by decide +kernel))))) rfl) fun _ => Evl.et_test (Evl.ev_is (Evl.ev_op (ev_lenS rfl fun H1 e => .inr (SqT.of (e _ _ ha))) Evl.ev_c (Evl.rv_ne rfl)) rfl)) rfl) (fun hb => by cases hb) fun _ H1 e1 => ?_
    refine q_asgP (p := p) (Evl.ev_var rfl) ⟨a, rfl, e1 _ _ ha⟩ fun H2 e2 => ?_
    refine Evl.s_ret (v := .bl (paneB p)) (Evl.ev_is (Evl.ev_andV (a := true) (ev_tyInt (n := p.x0) rfl) fun _ => Evl.ev_andV (a := true) (ev_tyInt (n := p.y0) rfl) fun _ => Evl.ev_andV (a := true) (ev_tyInt (n := p.x1) rfl) fun _ => Evl.ev_andV (a := true) (ev_tyInt (n := p.y1) rfl) fun _ => Evl.ev_andV (ev_chain Evl.ev_c (Evl.ev_var rfl) Evl.rv_I0 (fun _ => Evl.ev_var rfl) fun _ => Evl.rv_I0) fun _ => ev_chain Evl.ev_c (Evl.ev_var rfl) Evl.rv_I0 (fun _ => Evl.ev_var rfl) fun _ => Evl.rv_I0) rfl) fun H3 e3 => q H3 ((e1.trans e2).trans e3)
def spFDesk : Sp := fun vs H Q _ => ∃ (l : Addr) (ps : List Pn) (W Hh : Int), vs = [.ref l] ∧ RL pnR H l ps ∧ ps.length ≤ 1000 ∧ Top Pn.x1 ps W ∧ Top Pn.y1 ps Hh ∧ ∀ H' T, Evl.Ex H H' → H T = none → tupI [W, Hh] (.ref T) H' → Q (.ref T) H'
theorem ok_find_desk {f : Addr} {fd : FuncData} (F : Fun K "find_desk" "find_desk" s_find_desk f fd) (B : BP mg) : FnOk P w K mg base CX0 1 f fd ["panes"] spFDesk := by
  refine F.ok sc_find_desk (fun vs H Q E h => ?_) (fun cdv A outer s H vs Q E hr h => ?_)
  · obtain ⟨x, p, _, _, rfl, _⟩ := h
    rfl
  · obtain ⟨l, ps, W, Hh, rfl, hl, hlen, hW, hH, q⟩ := h
    refine ⟨_, (pss_one (ps_ret (pe_tup (pa_cons (pe_callB (maxK (K := K) rfl rfl) (by rfl) B.max_ (by decide +kernel) (pa_cons (pe_lc (own := [("corners", 1)]) (g := gName 1) (tt := tYes) rfl sc_find_desk.nd (pi_list (pv 0)) (blkOk_by (N := n_find_desk) (sc := (defScope s_find_desk)) (by decide +kernel)) (fun _ _ _ _ _ => (pg_name (i := 1) sc_find_desk.nd rfl (Or.inl rfl))) (fun _ _ _ _ _ => pts_nil) (fun _ _ _ _ _ => (pe_ix (ixTK (K := K) rfl) (pv 1) pe_int (fun _ _ => rfl)))) pa_nil)) (pa_cons (pe_callB (maxK (K := K) rfl rfl) (by rfl) B.max_ (by decide +kernel) (pa_cons (pe_lc (own := [("corners", 1)]) (g := gName 1) (tt := tYes) rfl sc_find_desk.nd (pi_list (pv 0)) (blkOk_by (N := n_find_desk) (sc := (defScope s_find_desk)) (by decide +kernel)) (fun _ _ _ _ _ => (pg_name (i := 1) sc_find_desk.nd rfl (Or.inl rfl))) (fun _ _ _ _ _ => pts_nil) (fun _ _ _ _ _ => (pe_ix (ixTK (K := K) rfl) (pv 1) pe_int (fun _ _ => rfl)))) pa_nil)) pa_nil))))), ?_⟩
    refine Evl.s_retU (xs := [.int W, .int Hh]) (Evl.eu_tup (Evl.ea_cons (ev_maxT (el_lcI pnR_e (Evl.ev_var rfl) hl (by omega) (fun _ => rfl) fun p hp y H1 e1 hy => ?_) hW) (Evl.ea_cons (ev_maxT (el_lcI pnR_e (Evl.ev_var rfl) hl (by omega) (fun _ => rfl) fun p hp y H1 e1 hy => ?_) hH) Evl.ea_nil)) (show 2 ≤ 100000 by decide)) fun T H1 nT e1 hT => q H1 T e1 nT ⟨T, rfl, hT⟩
    · obtain ⟨T, rfl, hT⟩ := hy
      exact Evl.ev_op (Evl.ev_var rfl) Evl.ev_c (Evl.rv_ixT (SqT.of hT) rfl)
    · obtain ⟨T, rfl, hT⟩ := hy
      exact Evl.ev_op (Evl.ev_var rfl) Evl.ev_c (Evl.rv_ixT (SqT.of hT) rfl)
def ptL (z : Pt) : List Int := [z.1, z.2]
theorem ptL_inj {a b : Pt} (h : ptL a = ptL b) : a = b := by
  unfold ptL at h
  injection h with h1 h2
  injection h2 with h2 _
  exact Prod.ext h1 h2
theorem mem_ptL {z : Pt} {zs : List Pt} : ptL z ∈ zs.map ptL ↔ z ∈ zs := ⟨fun h => by
  obtain ⟨w, hw, e⟩ := List.mem_map.mp h
  exact ptL_inj e ▸ hw, fun h => List.mem_map_of_mem h⟩
theorem nd_ptL {zs : List Pt} : (zs.map ptL).Nodup ↔ zs.Nodup := by
  constructor
  · intro h
    exact (List.pairwise_map.mp h).imp fun hne e => hne (congrArg ptL e)
  · intro h
    exact List.pairwise_map.mpr (h.imp fun hne e => hne (ptL_inj e))
theorem tiles_val {ps : List Pn} {W Hh : Int} {L L2 : List StB.Row} (n1 : (L.map (·.2)).Nodup) (m1 : ∀ k, k ∈ L.map (·.2) ↔ k ∈ (fallC ps W Hh).map ptL) (n2 : (L2.map (·.2)).Nodup) (m2 : ∀ k, k ∈ L2.map (·.2) ↔ k ∈ (riseC ps W Hh).map ptL) :
    (decide (((L.length : Nat) : Int) = (((fallC ps W Hh).length : Nat) : Int)) && (decide (L.length = L2.length) && decide (∀ k ∈ L.map (·.2), k ∈ L2.map (·.2)))) = tilesB ps W Hh := by
  unfold tilesB
  congr 1
  · refine decide_eq_decide.mpr ⟨fun h => ?_, fun h => ?_⟩
    · have p := nodup_eq n1 (fun x hx => (m1 x).mp hx) (by rw [List.length_map, List.length_map]; omega)
      exact nd_ptL.mp (p.nodup_iff.mpr n1)
    · have p := nodup_eq n1 (fun x hx => (m1 x).mp hx) (by
        have q := nodup_le n1 fun x hx => (m1 x).mp hx
        have r := nodup_le (nd_ptL.mpr h) fun x hx => (m1 x).mpr hx
        omega)
      have := p.length_eq
      rw [List.length_map, List.length_map] at this
      omega
  · rw [← Bool.decide_and, ← Bool.decide_and]
    refine decide_eq_decide.mpr ⟨fun ⟨h1, h2⟩ => ?_, fun ⟨h1, h2⟩ => ?_⟩
    · have p := nodup_eq n1 h2 (by rw [List.length_map, List.length_map]; exact h1)
      exact ⟨fun z hz => mem_ptL.mp ((m2 _).mp (h2 _ ((m1 _).mpr (mem_ptL.mpr hz)))), fun z hz => mem_ptL.mp ((m1 _).mp (p.mem_iff.mp ((m2 _).mpr (mem_ptL.mpr hz))))⟩
    · have s1 : ∀ k ∈ L.map (·.2), k ∈ L2.map (·.2) := fun k hk => by
        obtain ⟨z, hz, rfl⟩ := List.mem_map.mp ((m1 k).mp hk)
        exact (m2 _).mpr (mem_ptL.mpr (h1 z hz))
      have s2 : ∀ k ∈ L2.map (·.2), k ∈ L.map (·.2) := fun k hk => by
        obtain ⟨z, hz, rfl⟩ := List.mem_map.mp ((m2 k).mp hk)
        exact (m1 _).mpr (mem_ptL.mpr (h2 z hz))
      have a := nodup_le n1 s1
      have b := nodup_le n2 s2
      rw [List.length_map, List.length_map] at a b
      exact ⟨by omega, s1⟩
def spTiles : Sp := fun vs H Q _ => ∃ (l : Addr) (ps : List Pn) (W Hh : Int), vs = [.ref l] ∧ RL pnR H l ps ∧ ps.length ≤ 60 ∧ Top Pn.x1 ps W ∧ Top Pn.y1 ps Hh ∧ ∀ H', Evl.Ex H H' → Q (.bl (tilesB ps W Hh)) H'
theorem ok_tiles {f f1 : Addr} {fd fd1 : FuncData} (F : Fun K "tiles_desk" "tiles_desk" s_tiles_desk f fd) (B : BP mg) (hset : mg "set" = none) (C_find_desk : Cal P w K mg base "find_desk" 1 f1 fd1 ["panes"] spFDesk) : FnOk P w K mg base CX0 2 f fd ["panes"] spTiles := by
  refine F.ok sc_tiles_desk (fun vs H Q E h => ?_) (fun cdv A outer s H vs Q E hr h => ?_)
  · obtain ⟨x, p, _, _, rfl, _⟩ := h
    rfl
  · obtain ⟨l, ps, W, Hh, rfl, hl, hlen, hW, hH, q⟩ := h
    refine ⟨_, (pss_cons (ps_asg (pe_call C_find_desk.G (hr.mono (by decide)) (by rfl) C_find_desk.g C_find_desk.k C_find_desk.b .nil pass0 (by exact (pa_cons (pv 0) pa_nil))) (pg_tup rfl (pgs_cons (pg_name (i := 1) sc_tiles_desk.nd rfl (Or.inl rfl)) (pgs_cons (pg_name (i := 2) sc_tiles_desk.nd rfl (Or.inl rfl)) pgs_nil))))
      (pss_cons (ps_set (i := 3) sc_tiles_desk.nd rfl (.inl rfl) (pe_op op_cat (pe_lc (own := [("x0", 7), ("y0", 8), ("_", 9), ("_", 9)]) (g := gTup K 4 (gCons (gName 7) (gCons (gName 8) (gCons (gName 9) (gCons (gName 9) gNil))))) (tt := tYes) rfl sc_tiles_desk.nd (pi_list (pv 0)) (blkOk_by (N := n_tiles_desk) (sc := (defScope s_tiles_desk)) (by decide +kernel)) (fun _ _ _ _ _ => (pg_tup rfl (pgs_cons (pg_name (i := 7) sc_tiles_desk.nd rfl (Or.inl rfl)) (pgs_cons (pg_name (i := 8) sc_tiles_desk.nd rfl (Or.inl rfl)) (pgs_cons (pg_name (i := 9) sc_tiles_desk.nd rfl (Or.inl rfl)) (pgs_cons (pg_name (i := 9) sc_tiles_desk.nd rfl (Or.inl rfl)) pgs_nil)))))) (fun _ _ _ _ _ => pts_nil) (fun _ _ _ _ _ => (pe_tup (pa_cons (pv 7) (pa_cons (pv 8) pa_nil))))) (pe_lc (own := [("_", 9), ("_", 9), ("x1", 10), ("y1", 11)]) (g := gTup K 4 (gCons (gName 9) (gCons (gName 9) (gCons (gName 10) (gCons (gName 11) gNil))))) (tt := tYes) rfl sc_tiles_desk.nd (pi_list (pv 0)) (blkOk_by (N := n_tiles_desk) (sc := (defScope s_tiles_desk)) (by decide +kernel)) (fun _ _ _ _ _ => (pg_tup rfl (pgs_cons (pg_name (i := 9) sc_tiles_desk.nd rfl (Or.inl rfl)) (pgs_cons (pg_name (i := 9) sc_tiles_desk.nd rfl (Or.inl rfl)) (pgs_cons (pg_name (i := 10) sc_tiles_desk.nd rfl (Or.inl rfl)) (pgs_cons (pg_name (i := 11) sc_tiles_desk.nd rfl (Or.inl rfl)) pgs_nil)))))) (fun _ _ _ _ _ => pts_nil) (fun _ _ _ _ _ => (pe_tup (pa_cons (pv 10) (pa_cons (pv 11) pa_nil)))))))
      (pss_cons (ps_set (i := 4) sc_tiles_desk.nd rfl (.inl rfl) (pe_op op_cat (pe_lc (own := [("_", 9), ("y0", 8), ("x1", 10), ("_", 9)]) (g := gTup K 4 (gCons (gName 9) (gCons (gName 8) (gCons (gName 10) (gCons (gName 9) gNil))))) (tt := tYes) rfl sc_tiles_desk.nd (pi_list (pv 0)) (blkOk_by (N := n_tiles_desk) (sc := (defScope s_tiles_desk)) (by decide +kernel)) (fun _ _ _ _ _ => (pg_tup rfl (pgs_cons (pg_name (i := 9) sc_tiles_desk.nd rfl (Or.inl rfl)) (pgs_cons (pg_name (i := 8) sc_tiles_desk.nd rfl (Or.inl rfl)) (pgs_cons (pg_name (i := 10) sc_tiles_desk.nd rfl (Or.inl rfl)) (pgs_cons (pg_name (i := 9) sc_tiles_desk.nd rfl (Or.inl rfl)) pgs_nil)))))) (fun _ _ _ _ _ => pts_nil) (fun _ _ _ _ _ => (pe_tup (pa_cons (pv 10) (pa_cons (pv 8) pa_nil))))) (pe_lc (own := [("x0", 7), ("_", 9), ("_", 9), ("y1", 11)]) (g := gTup K 4 (gCons (gName 7) (gCons (gName 9) (gCons (gName 9) (gCons (gName 11) gNil))))) (tt := tYes) rfl sc_tiles_desk.nd (pi_list (pv 0)) (blkOk_by (N := n_tiles_desk) (sc := (defScope s_tiles_desk)) (by decide +kernel)) (fun _ _ _ _ _ => (pg_tup rfl (pgs_cons (pg_name (i := 7) sc_tiles_desk.nd rfl (Or.inl rfl)) (pgs_cons (pg_name (i := 9) sc_tiles_desk.nd rfl (Or.inl rfl)) (pgs_cons (pg_name (i := 9) sc_tiles_desk.nd rfl (Or.inl rfl)) (pgs_cons (pg_name (i := 11) sc_tiles_desk.nd rfl (Or.inl rfl)) pgs_nil)))))) (fun _ _ _ _ _ => pts_nil) (fun _ _ _ _ _ => (pe_tup (pa_cons (pv 7) (pa_cons (pv 11) pa_nil)))))))
      (pss_cons (ps_expr (pe_bm PySem.F.plainAttrs_list PySem.F.slot_list_extend PySem.F.type_list_extend mt_extend (pv 3) (pa_cons (pe_lst (pa_cons (pe_tup (pa_cons (pv 1) (pa_cons pe_int pa_nil))) (pa_cons (pe_tup (pa_cons pe_int (pa_cons (pv 2) pa_nil))) pa_nil))) pa_nil)))
      (pss_cons (ps_expr (pe_bm PySem.F.plainAttrs_list PySem.F.slot_list_extend PySem.F.type_list_extend mt_extend (pv 4) (pa_cons (pe_lst (pa_cons (pe_tup (pa_cons pe_int (pa_cons pe_int pa_nil))) (pa_cons (pe_tup (pa_cons (pv 1) (pa_cons (pv 2) pa_nil))) pa_nil))) pa_nil)))
      (pss_cons (ps_set (i := 5) sc_tiles_desk.nd rfl (.inl rfl) (pe_callTy (T := "set") (setBK (K := K) (P := P) (w := w) rfl rfl rfl rfl (roomL hr)) (by rfl) hset (by decide +kernel) (pa_cons (pv 3) pa_nil)))
      (pss_cons (ps_set (i := 6) sc_tiles_desk.nd rfl (.inl rfl) (pe_callTy (T := "set") (setBK (K := K) (P := P) (w := w) rfl rfl rfl rfl (roomL hr)) (by rfl) hset (by decide +kernel) (pa_cons (pv 4) pa_nil)))
      (pss_one (ps_ret (pe_and (pe_cmpR op_eq (pe_callB (lenBK (P := P) (w := w) rfl rfl) (by rfl) B.len_ (by decide +kernel) (pa_cons (pv 5) pa_nil)) (pe_callB (lenK (K := K) rfl) (by rfl) B.len_ (by decide +kernel) (pa_cons (pv 3) pa_nil)) (nomark _)) (pe_one (pe_cmpR (eqBK (P := P) (w := w) rfl rfl (roomL hr)) (pv 5) (pv 6) (nomark _))))))))))))), ?_⟩
    refine q_asgU2L (i := 1) (j := 2) (a := .int W) (b := .int Hh) (eu_callL (vs := [.ref l]) (Evl.ea_cons (Evl.ev_var rfl) Evl.ea_nil) fun H1 e1 Q q2 E => ⟨l, ps, W, Hh, rfl, hl.ex pnR_e e1, by omega, hW, hH, fun H2 T e2 nT hT => q2 T H2 nT e2 (by obtain ⟨p, h1, h2⟩ := hT; cases h1; exact h2)⟩) fun H1 e1 => ?_
    have hl1 := hl.ex pnR_e e1
    refine q_asgRL (R := fun z => tupI (ptL z)) (zs := ps.map Pn.tl ++ ps.map Pn.br) (er_catNN (fun z => tupI_e (ptL z)) (EvRL.to (R := fun p => tupI (ptL p.tl)) (fun z y H h => h) (er_lcP0 (S := fun p => tupI (ptL p.tl)) (fun z v H H' D hv k h => tupI_m _ v H H' D hv k h) (Evl.ev_var rfl) hl1 (by omega) (fun _ => rfl) fun p hp H3 e3 => en_tupI (ns := ptL p.tl) (Evl.ea_cons (Evl.ev_var rfl) (Evl.ea_cons (Evl.ev_var rfl) Evl.ea_nil)) (show 2 ≤ 1000 by decide))) (EvRL.to (R := fun p => tupI (ptL p.br)) (fun z y H h => h) (er_lcP0 (S := fun p => tupI (ptL p.br)) (fun z v H H' D hv k h => tupI_m _ v H H' D hv k h) (Evl.ev_var rfl) hl1 (by omega) (fun _ => rfl) fun p hp H3 e3 => en_tupI (ns := ptL p.br) (Evl.ea_cons (Evl.ev_var rfl) (Evl.ea_cons (Evl.ev_var rfl) Evl.ea_nil)) (show 2 ≤ 1000 by decide))) (by simp; omega)) fun lf H2 nf e2 hf => ?_
    have hl2 := hl1.ex pnR_e e2
    refine q_asgRL (R := fun z => tupI (ptL z)) (zs := ps.map Pn.tr ++ ps.map Pn.bl) (er_catNN (fun z => tupI_e (ptL z)) (EvRL.to (R := fun p => tupI (ptL p.tr)) (fun z y H h => h) (er_lcP0 (S := fun p => tupI (ptL p.tr)) (fun z v H H' D hv k h => tupI_m _ v H H' D hv k h) (Evl.ev_var rfl) hl2 (by omega) (fun _ => rfl) fun p hp H3 e3 => en_tupI (ns := ptL p.tr) (Evl.ea_cons (Evl.ev_var rfl) (Evl.ea_cons (Evl.ev_var rfl) Evl.ea_nil)) (show 2 ≤ 1000 by decide))) (EvRL.to (R := fun p => tupI (ptL p.bl)) (fun z y H h => h) (er_lcP0 (S := fun p => tupI (ptL p.bl)) (fun z v H H' D hv k h => tupI_m _ v H H' D hv k h) (Evl.ev_var rfl) hl2 (by omega) (fun _ => rfl) fun p hp H3 e3 => en_tupI (ns := ptL p.bl) (Evl.ea_cons (Evl.ev_var rfl) (Evl.ea_cons (Evl.ev_var rfl) Evl.ea_nil)) (show 2 ≤ 1000 by decide))) (by simp; omega)) fun lr H3 nr e3 hr3 => ?_
    have hf3 := hf.ex (fun z => tupI_e (ptL z)) e3
    obtain ⟨yf, hyf, _⟩ := hf3
    have hf3 := hf.ex (fun z => tupI_e (ptL z)) e3
    have nrf : lr ≠ lf := fun e => by
      obtain ⟨u, hu, _⟩ := hf
      rw [← e, nr] at hu
      cases hu
    refine q_ext (ws := [(W, 0), (0, Hh)]) hf3 (Evl.ev_var rfl) (er_two (g := ptL) (z := (W, 0)) (w := (0, Hh)) (Evl.ea_cons (Evl.ev_var rfl) (Evl.ea_cons Evl.ev_c Evl.ea_nil)) (Evl.ea_cons Evl.ev_c (Evl.ea_cons (Evl.ev_var rfl) Evl.ea_nil)) (show 2 ≤ 1000 by decide) (show 2 ≤ 1000 by decide)) (by simp; omega) fun H4 b4 hf4 => ?_
    have hr4 := rl_but hr3 hyf nrf b4
    obtain ⟨yr, hyr, _⟩ := hr4
    have hr4 := rl_but hr3 hyf nrf b4
    refine q_ext (ws := [(0, 0), (W, Hh)]) hr4 (Evl.ev_var rfl) (er_two (g := ptL) (z := (0, 0)) (w := (W, Hh)) (Evl.ea_cons Evl.ev_c (Evl.ea_cons Evl.ev_c Evl.ea_nil)) (Evl.ea_cons (Evl.ev_var rfl) (Evl.ea_cons (Evl.ev_var rfl) Evl.ea_nil)) (show 2 ≤ 1000 by decide) (show 2 ≤ 1000 by decide)) (by simp; omega) fun H5 b5 hr5 => ?_
    have hf5 := rl_but hf4 hyr (Ne.symm nrf) b5
    have eH4 : Evl.Ex H H4 := But1.ex (Evl.fresh_back e1 nf) ((e1.trans e2).trans e3) b4
    have eH5 : Evl.Ex H H5 := But1.ex (Evl.fresh_back (e1.trans e2) nr) eH4 b5
    have hf5' : RL tupI H5 lf ((fallC ps W Hh).map ptL) := hf5.map (g := ptL) fun z y h => h
    have hr5' : RL tupI H5 lr ((riseC ps W Hh).map ptL) := hr5.map (g := ptL) fun z y h => h
    have lenF : (fallC ps W Hh).length = 2 * ps.length + 2 := by unfold fallC; simp; omega
    have lenR : (riseC ps W Hh).length = 2 * ps.length + 2 := by unfold riseC; simp; omega
    refine q_asgSet (Evl.ev_var rfl) hf5' (by rw [List.length_map]; omega) fun a L H6 e6 ha nd mem all => ?_
    refine q_asgSet (Evl.ev_var rfl) (hr5'.ex tupI_e e6) (by rw [List.length_map]; omega) fun b L2 H7 e7 hb nd2 mem2 all2 => ?_
    have lenL : L.length ≤ 122 := by
      have := nodup_le nd fun x hx => (mem x).mp hx
      rw [List.length_map, List.length_map] at this
      omega
    have neL : L ≠ [] := fun e => by
      have := (mem (ptL (W, 0))).mpr (List.mem_map_of_mem (by unfold fallC; simp))
      rw [e] at this
      cases this
    have allx : ∀ H8, Evl.Ex H7 H8 → ∀ r ∈ L, tupI r.2 (.ref r.1) H8 := fun H8 e8 r hr => tupI_e _ _ _ _ (e7.trans e8) (all r hr)
    have allx2 : ∀ H8, Evl.Ex H7 H8 → ∀ r ∈ L2, tupI r.2 (.ref r.1) H8 := fun H8 e8 r hr => tupI_e _ _ _ _ e8 (all2 r hr)
    obtain ⟨yf7, hyf7, hpf7⟩ := hf5'.ex tupI_e (e6.trans e7)
    have lenY : yf7.length = (fallC ps W Hh).length := by rw [pr_len hpf7, List.length_map]
    refine Evl.s_ret (v := .bl (tilesB ps W Hh)) (Evl.ev_is (Evl.ev_andV (a := decide (V.int ((L.length : Nat) : Int) = V.int ((yf7.length : Nat) : Int))) (b := decide (L.length = L2.length) && decide (∀ k ∈ L.map (·.2), k ∈ L2.map (·.2)))
      (Evl.ev_op (x := .int ((L.length : Nat) : Int)) (y := .int ((yf7.length : Nat) : Int)) (Evl.ev_cb (vs := [.ref a]) (Evl.ea_cons (Evl.ev_var rfl) Evl.ea_nil) fun H8 e8 Q q2 => ⟨a, L, rfl, (e7.trans e8) _ _ ha, allx H8 e8, by omega, q2 H8 (Evl.Ex.refl _)⟩) (ev_lenS rfl fun H8 e8 => .inl (SqL.of (e8 _ _ hyf7))) (Evl.rv_eq rfl))
      fun _ => Evl.ev_op (Evl.ev_var rfl) (Evl.ev_var rfl) fun H8 e8 Q q2 => ⟨a, b, L, L2, rfl, rfl, (e7.trans e8) _ _ ha, e8 _ _ hb, allx H8 e8, allx2 H8 e8, neL, q2 H8 (Evl.Ex.refl _)⟩) ?_) fun H8 e8 => q H8 ((eH5.trans (e6.trans e7)).trans e8)
    rw [← tiles_val nd mem nd2 mem2, lenY]
    simp only [V.int.injEq]
theorem foldl_max (ns : List Int) : ∀ c : Int, c ≤ ns.foldl max c ∧ (∀ n ∈ ns, n ≤ ns.foldl max c) ∧ (ns.foldl max c = c ∨ ns.foldl max c ∈ ns) := by
  induction ns with
  | nil =>
    intro c
    refine ⟨Int.le_refl c, fun n hn => ?_, Or.inl rfl⟩
    cases hn
  | cons a r ih =>
    intro c
    rw [List.foldl_cons]
    obtain ⟨h1, h2, h3⟩ := ih (max c a)
    refine ⟨by omega, fun n hn => ?_, ?_⟩
    · rcases List.mem_cons.mp hn with rfl | hn
      · omega
      · exact h2 n hn
    · rcases h3 with h3 | h3
      · by_cases hc : a ≤ c
        · left
          rw [h3]
          omega
        · right
          rw [h3, show max c a = a by omega]
          exact List.mem_cons_self
      · exact .inr (List.mem_cons_of_mem _ h3)
theorem top_max {α : Type} {f : α → Int} {zs : List α} (hz : zs ≠ []) (h0 : ∀ z ∈ zs, 0 < f z) : Top f zs ((zs.map f).foldl max 0) := by
  obtain ⟨h1, h2, h3⟩ := foldl_max (zs.map f) 0
  refine ⟨?_, fun z hz => h2 _ (List.mem_map_of_mem hz)⟩
  rcases h3 with h3 | h3
  · obtain ⟨z, r, rfl⟩ := List.exists_cons_of_ne_nil hz
    have a := h2 (f z) (List.mem_map_of_mem List.mem_cons_self)
    have b := h0 z List.mem_cons_self
    omega
  · obtain ⟨z, hz, e⟩ := List.mem_map.mp h3
    exact ⟨z, hz, e⟩
def layB (ps : List Pn) : Bool := (decide (1 ≤ ps.length) && decide (ps.length ≤ 60)) && (ps.all paneB && tilesB ps (wOf ps) (hOf ps))
theorem paneB_iff {p : Pn} : paneB p = true ↔ 0 ≤ p.x0 ∧ p.x0 < p.x1 ∧ 0 ≤ p.y0 ∧ p.y0 < p.y1 := by
  unfold paneB
  simp only [Bool.and_eq_true, decide_eq_true_eq]
  exact ⟨fun ⟨⟨a, b⟩, c, d⟩ => ⟨a, b, c, d⟩, fun ⟨a, b, c, d⟩ => ⟨⟨a, b⟩, c, d⟩⟩
theorem Valid.layB {ps : List Pn} (v : Valid ps) : layB ps = true := by
  obtain ⟨W, H, d⟩ := v.desk
  have ne : ps ≠ [] := fun e => by
    obtain ⟨p, hp, _⟩ := d.w
    rw [e] at hp
    cases hp
  have t1 : Top Pn.x1 ps W := ⟨d.w, fun p hp => (d.le p hp).1⟩
  have t2 : Top Pn.y1 ps H := ⟨d.h, fun p hp => (d.le p hp).2⟩
  have w1 : wOf ps = W := top_one (top_max ne fun p hp => by have := v.pos p hp; omega) t1
  have h1 : hOf ps = H := top_one (top_max ne fun p hp => by have := v.pos p hp; omega) t2
  have l1 := List.length_pos_iff.mpr ne
  unfold GL.layB tilesB
  rw [w1, h1]
  simp only [Bool.and_eq_true, decide_eq_true_eq, List.all_eq_true]
  exact ⟨⟨l1, v.len⟩, fun p hp => paneB_iff.mpr (v.pos p hp), d.nodup, fun z hz => (d.same z).mp hz, fun z hz => (d.same z).mpr hz⟩
def spIsLay : Sp := fun vs H Q _ => ∃ (l : Addr) (ps : List Pn), vs = [.ref l] ∧ RL pnR H l ps ∧ ps.length ≤ 1000 ∧ ∀ H', Evl.Ex H H' → Q (.bl (layB ps)) H'
theorem ok_is_layout {f f1 f2 f3 : Addr} {fd fd1 fd2 fd3 : FuncData} (F : Fun K "is_layout" "is_layout" s_is_layout f fd) (B : BP mg) (C_is_list_of_items : Cal P w K mg base "is_list_of_items" 1 f1 fd1 ["thing"] spIsItems) (C_is_pane : Cal P w K mg base "is_pane" 1 f2 fd2 ["thing"] spIsPaneT) (C_tiles_desk : Cal P w K mg base "tiles_desk" 2 f3 fd3 ["panes"] spTiles) : FnOk P w K mg base CX0 3 f fd ["thing"] spIsLay := by
  refine F.ok sc_is_layout (fun vs H Q E h => ?_) (fun cdv A outer s H vs Q E hr h => ?_)
  · obtain ⟨x, p, rfl, _⟩ := h
    rfl
  · obtain ⟨l, ps, rfl, hl, hlen, q⟩ := h
    refine ⟨_, (pss_one (ps_ret (pe_and (pe_call C_is_list_of_items.G (hr.mono (by decide)) (by rfl) C_is_list_of_items.g C_is_list_of_items.k C_is_list_of_items.b .nil pass0 (by exact (pa_cons (pv 0) pa_nil))) (pe_and (pe_callB (cr_all rfl) (by rfl) B.all_ (by decide +kernel) (pa_cons (pe_lc (own := [("item", 1)]) (g := gName 1) (tt := tYes) rfl sc_is_layout.nd (pi_list (pv 0)) (blkOk_by (N := n_is_layout) (sc := (defScope s_is_layout)) (by decide +kernel)) (fun _ _ _ _ _ => (pg_name (i := 1) sc_is_layout.nd rfl (Or.inl rfl))) (fun _ _ _ _ _ => pts_nil) (fun _ _ _ _ _ => (pe_call C_is_pane.G (hr.mono (by decide)) (by rfl) C_is_pane.g C_is_pane.k C_is_pane.b .nil pass0 (by exact (pa_cons (pv 1) pa_nil))))) pa_nil)) (pe_one (pe_call C_tiles_desk.G (hr.mono (by decide)) (by rfl) C_tiles_desk.g C_tiles_desk.k C_tiles_desk.b .nil pass0 (by exact (pa_cons (pv 0) pa_nil)))))))), ?_⟩
    have e1 : Evl.Ev (tCall spIsItems [] E0 (tCons (tVar 0) tNil)) (L2.start n_is_layout [V.ref l]) H (.bl (decide (1 ≤ ps.length) && decide (ps.length ≤ 60))) := Evl.ev_call (vs := [.ref l]) (Evl.ea_cons (Evl.ev_var rfl) Evl.ea_nil) fun H1 e1 Q q E => by
      obtain ⟨ys, h1, h2⟩ := hl.ex pnR_e e1
      refine ⟨l, ys, rfl, h1, fun H2 e2 => ?_⟩
      rw [pr_len h2]
      exact q H2 e2
    refine Evl.s_ret (v := .bl (layB ps)) (Evl.ev_andV e1 fun hb => ?_) q
    simp only [Bool.and_eq_true, decide_eq_true_eq] at hb
    have ne : ps ≠ [] := List.length_pos_iff.mp (by omega)
    refine Evl.ev_andV (Evl.ev_is (ev_allN (bs := ps.map paneB) ?_) (by rw [List.all_map]; rfl)) fun hb2 => ?_
    · have z := el_ofRL (er_lc0 (K := K) (σ := L2.start n_is_layout [V.ref l]) (te := tCall spIsPaneT [] E0 (tCons (tVar 1) tNil)) (tl := tVar 0) (j := 1) (vs := [1]) (H := H) pnR_e (val_m fun z => V.bl (paneB z)) (Evl.ev_var rfl) hl (by omega) (fun _ => rfl) fun z hz y H1 e hr => en_val (v := .bl (paneB z)) (Evl.ev_call (vs := [y]) (Evl.ea_cons (Evl.ev_var rfl) Evl.ea_nil) fun H2 e2 Q q2 E => ⟨y, z, rfl, pnR_e _ _ _ _ e2 hr, q2⟩) (fun p hp => by cases hp) fun _ _ => rfl)
      rw [List.map_map]
      exact z
    · have pos : ∀ p ∈ ps, 0 ≤ p.x0 ∧ p.x0 < p.x1 ∧ 0 ≤ p.y0 ∧ p.y0 < p.y1 := fun p hp => paneB_iff.mp (List.all_eq_true.mp hb2 p hp)
      exact Evl.ev_call (vs := [.ref l]) (Evl.ea_cons (Evl.ev_var rfl) Evl.ea_nil) fun H1 e1 Q q2 E => ⟨l, ps, wOf ps, hOf ps, rfl, hl.ex pnR_e e1, hb.2, top_max ne fun p hp => by have := pos p hp; omega, top_max ne fun p hp => by have := pos p hp; omega, q2⟩
def spCkLay : Sp := fun vs H Q _ => ∃ (l : Addr) (ps : List Pn), vs = [.ref l] ∧ RL pnR H l ps ∧ layB ps = true ∧ ps.length ≤ 1000 ∧ ∀ H', Evl.Ex H H' → Q .non H'
theorem ok_check_layout {f f1 : Addr} {fd fd1 : FuncData} (F : Fun K "check_layout" "check_layout" s_check_layout f fd) (C_is_layout : Cal P w K mg base "is_layout" 3 f1 fd1 ["thing"] spIsLay) : FnOk P w K mg base CX0 4 f fd ["layout"] spCkLay := by
  refine F.ok sc_check_layout (fun vs H Q E h => ?_) (fun cdv A outer s H vs Q E hr h => ?_)
  · obtain ⟨x, p, rfl, _⟩ := h
    rfl
  · obtain ⟨l, ps, rfl, hl, hv, hlen, q⟩ := h
    refine ⟨_, (pss_cons (ps_if (pt_val (pe_call C_is_layout.G (hr.mono (by decide)) (by rfl) C_is_layout.g C_is_layout.k C_is_layout.b .nil pass0 (by exact (pa_cons (pv 0) pa_nil)))) (pss_one ps_retN) pss_nil)
      (pss_cons ps_never
      (pss_one ps_never))), ?_⟩
    show tSeq _ _ _ _ _
    refine Evl.q_when (b := true) (Evl.et_B (Evl.ev_call (vs := [.ref l]) (Evl.ea_cons (Evl.ev_var rfl) Evl.ea_nil) fun H1 e1 Q q2 E => ⟨l, ps, rfl, hl.ex pnR_e e1, hlen, by rw [hv]; exact q2⟩)) (fun _ H1 e1 => q H1 e1) fun hb => by cases hb
end
end GL
set_option Elab.async false
set_option linter.all false
set_option maxRecDepth 100000
/-! # n in d.values(), the values whole numbers -/
namespace VIn
open PySem PySem.Spec PyProof.Rows L2
theorem plain_ci : plainId "proto.contains_iter" = true := by decide +kernel
theorem entry_ci : entryFor table "proto.contains_iter" = some Builtin.«proto.contains_iter» := entryFor_of_fast (by kernel_rfl)
theorem no_contains : typeLookup (.type "dict_values") "__contains__" = pure none := by rw [typeLookup_type, builtinLookup_eq_fast]; kernel_rfl
section
variable {prog : Program} {w : World} {A : Around} {E : Value → Shared → Prop} {R : Result → Shared → Prop}
theorem loop {it d : Addr} {es : Array DictEntry} {ep : Nat} {n : Int} {t : Tok} {ns : List Int} (hh : A.handled = none) (hne : d ≠ it) (hl : es.size = ns.length) (hv : ∀ i (hi : i < es.size), ∃ u, es[i].val = Value.int (ns.getD i 0) u) :
    ∀ (k i : Nat) (s : Shared), es.size - i = k → i ≤ es.size → s.heap.IsValIter it d i es.size ep → s.heap.DictRaw d es ep →
    (∀ h', Heap.ExtBut it s.heap h' → R (.ok (.ret (.bool (decide (n ∈ ns.drop i))))) { s with heap := h' }) →
    codeAny (model prog w) A (.builtin "proto.contains_iter" ⟨[.ref it, .int n t], []⟩) R s := by
  intro k
  induction k with
  | zero =>
    intro i s hk hi hit hd hR
    refine codeAny_builtin entry_ci ?_
    rw [Around.under_plainId plain_ci _]
    show wpAny _ A.in1 (pyNext (.ref it) >>= _) _ _ s
    refine wpAny_bind (wpAny_pyNext_values_end_raw (show A.in1.handled = none from hh) hit hd (by omega) fun h' e => ?_)
    refine wpAny_bind (wpAny_rule (wpAny_pure ?_))
    have z := hR h' e
    have e2 : decide (n ∈ ns.drop i) = false := decide_eq_false (by rw [List.drop_eq_nil_of_le (by omega)]; exact List.not_mem_nil)
    rw [e2] at z
    exact z
  | succ k ih =>
    intro i s hk hi hit hd hR
    have hlt : i < es.size := by omega
    refine codeAny_builtin entry_ci ?_
    rw [Around.under_plainId plain_ci _]
    show wpAny _ A.in1 (pyNext (.ref it) >>= _) _ _ s
    refine wpAny_bind (wpAny_pyNext_values_item_raw hit hd hlt fun h' hit' hs => ?_)
    obtain ⟨u, hu⟩ := hv i hlt
    have ed : ns.drop i = ns.getD i 0 :: ns.drop (i + 1) := by
      rw [List.drop_eq_getElem_cons (by omega), List.getD_eq_getElem?_getD, List.getElem?_eq_getElem (by omega)]
      rfl
    rw [hu]
    refine wpAny_bind (wpAny_eqBool_int ?_)
    by_cases c : ns.getD i 0 = n
    · rw [show (ns.getD i 0 == n) = true from beq_iff_eq.mpr c]
      refine wpAny_bind (wpAny_rule (wpAny_pure ?_))
      have z := hR h' hs.extBut
      have e2 : decide (n ∈ ns.drop i) = true := decide_eq_true (by rw [ed, c]; exact List.mem_cons_self)
      rw [e2] at z
      exact z
    · rw [show (ns.getD i 0 == n) = false from beq_eq_false_iff_ne.mpr c]
      refine wpAny_pure ⟨plainId_quiet plain_ci _, ih (i + 1) { s with heap := h' } (by omega) hlt hit' (hd.at fun o ho => (hs.extBut d o hne ho)) fun h2 e2 => ?_⟩
      have z := hR h2 (hs.extBut.trans e2)
      have e3 : decide (n ∈ ns.drop i) = decide (n ∈ ns.drop (i + 1)) := by
        rw [ed]
        have c2 : ¬ n = ns.getD i 0 := fun z => c z.symm
        exact decide_eq_decide.mpr ⟨fun h => (List.mem_cons.mp h).resolve_left c2, List.mem_cons_of_mem _⟩
      rw [e3] at z
      exact z
theorem contains_vals {v d : Addr} {es : Array DictEntry} {ep : Nat} {n : Int} {t : Tok} {ns : List Int} {s : Shared} {Q : Bool → Shared → Prop} (hh : A.handled = none) (hT : s.heap.IsValuesView v d) (hd : s.heap.DictRaw d es ep) (hl : es.size = ns.length)
    (hv : ∀ i (hi : i < es.size), ∃ u, es[i].val = Value.int (ns.getD i 0) u) (h : ∀ h', (∀ b o, s.heap.get? b = some o → h'.get? b = some o) → Q (decide (n ∈ ns)) { s with heap := h' }) :
    wpAny (model prog w) A (contains (.ref v) (.int n t)) Q E s := by
  unfold contains
  refine wpAny_holding ?_
  rw [stdlibNamesSay?_of_typeIs hT.typeIs]
  refine wpAny_bind (wpAny_specialOf hT.typeIs no_contains ?_)
  show wpAny _ A (if ((none : Option Value) == some Value.none) = true then _ else _) Q E s
  rw [if_neg (by simp)]
  refine wpAny_bind (wpAny_callSpecialUnlessNone?_none hT.typeIs no_contains ?_)
  refine wpAny_bind (wpAny_rule ?_)
  refine wpAny_bind (wpAny_tryCatch (wpAny_pyIter_values_raw hT hd ?_))
  obtain ⟨o, ho, hx⟩ := id hd
  have hlt : d < s.heap.objs.size := Heap.lt_size ho
  refine wpAny_bind (wpAny_runValue (loop (it := s.heap.objs.size) (d := d) (ns := ns) hh (Nat.ne_of_lt hlt) hl hv es.size 0 _ (by omega) (Nat.zero_le _) ⟨_, Heap.get?_push_size _ rfl, rfl, rfl⟩ (hd.at fun o ho => Heap.get?_push_of_some _ ho) fun h' e => ?_))
  exact wpAny_pure (h h' fun b u hb => e b u (Nat.ne_of_lt (Heap.lt_size hb)) (Heap.get?_push_of_some _ hb))
end
section
variable {X : Cx}
def rVals : V → List V → Hp → VK → Prop := fun x vs H Q => ∃ a kvs, x = .ref a ∧ vs = [] ∧ H a = some (.dT kvs) ∧ ∀ p, H p = none → Q (.ref p) (upd H p (viewO "dict_values" p a))
theorem mt_vals : MtR X "dict.values" rVals := by
  intro pins s σ H x vs v us Q I rx rv h
  obtain ⟨a, kvs, rfl, rfl, ha, q⟩ := h
  cases rx
  have hus := rv.zero
  subst hus
  obtain ⟨z, low, xs, kt, dd⟩ := dt_of I.hok ha
  obtain ⟨es, ep, raw, _⟩ := dd.raw
  refine call_meetsIn F.slot_dict_values raw.typeIs F.entry_dict_values (F.args_dict_values_1 _) (meets_dict_values_raw a low) ⟨⟨es, ep, raw⟩, ?_⟩
  exact ⟨.ref s.heap.objs.size, _, I.laid (t' := s.toks) (fun b o q => Heap.get?_push_of_some _ q) (Nat.le_refl _) (viewO_ok (Heap.get?_push_size _ rfl)), rfl, q _ (I.hok.fresh (Nat.le_refl _))⟩
theorem kt_ints {H : Hp} : ∀ {kvs : List (List L2.Key × V)} {xs : List (List L2.Key × Addr × Value)} {ns : List Int}, KT H kvs xs → kvs.map (·.2) = ns.map V.int → xs.length = ns.length ∧ ∀ (i : Nat) (y : List L2.Key × Addr × Value), xs[i]? = some y → ∃ u, y.2.2 = Value.int (ns.getD i 0) u := by
  intro kvs xs ns r
  induction r generalizing ns with
  | nil =>
    intro h
    cases ns with
    | nil => exact ⟨rfl, fun i y hy => by simp at hy⟩
    | cons a r => cases h
  | @cons p q ps qs hq t ih =>
    intro h
    cases ns with
    | nil => cases h
    | cons a r =>
      rw [List.map_cons, List.map_cons] at h
      injection h with h1 h2
      obtain ⟨l, k⟩ := ih h2
      refine ⟨by rw [List.length_cons, List.length_cons, l], fun i y hy => ?_⟩
      cases i with
      | zero =>
        have e : q = y := Option.some.inj hy
        subst e
        have rr := hq.2.2
        rw [h1] at rr
        exact rr
      | succ i => exact k i y hy
def rVIn : V → V → Hp → VK → Prop := fun x y H Q => ∃ (n : Int) (p a : Addr) (kvs : List (List L2.Key × V)) (ns : List Int), x = .int n ∧ y = .ref p ∧ H p = some (viewO "dict_values" p a) ∧ H a = some (.dT kvs) ∧ kvs.map (·.2) = ns.map V.int ∧ Q (.bl (decide (n ∈ ns))) H
theorem op_vin (hc : X.calm = true) : OpR X (compareOp .In) rVIn := by
  intro pins s σ H x y v u Q I rx ry h
  obtain ⟨n, p, a, kvs, ns, rfl, rfl, hp, ha, hns, q⟩ := h
  obtain ⟨tk, rfl⟩ := rx
  cases ry
  have hv : s.heap.get? p = some (DSub.viewOb "dict_values" a) := (show ObjOk X.prog X.w H s.heap p (viewO "dict_values" p a) from I.hok p _ hp).1
  obtain ⟨z, low, xs, kt, dd⟩ := dt_of I.hok ha
  obtain ⟨es, ep, raw, hsz, hes⟩ := dd.raw
  obtain ⟨hl, hk⟩ := kt_ints kt hns
  show wpAny _ _ (contains (.ref p) (.int n tk) >>= fun b => pure (Value.bool b)) _ _ s
  refine wpAny_bind (contains_vals (I.ok.hd hc) ⟨_, hv, rfl, rfl⟩ raw (hsz.trans hl) (fun i hi => ?_) fun h' k => ?_)
  · obtain ⟨y, hy, _, e, _⟩ := hes i hi
    rw [e]
    exact hk i y hy
  · exact wpAny_pure ⟨.bl (decide (n ∈ ns)), H, I.kept (t' := s.toks) k, rfl, q⟩
end
end VIn
set_option Elab.async false
set_option linter.all false
set_option maxRecDepth 100000
/-! # for k, v in d.items(), the keys tuples -/
namespace ItT
open PySem PySem.Spec PyProof.Rows L2
def Itit (d : Addr) (o : Obj) (kvs : List (List L2.Key × V)) : It where
  go := fun i H => H d = some (.frz o (.dT kvs)) ∧ i < kvs.length
  yld := fun i H x H' => ∃ T q k v, kvs[i]? = some (k, v) ∧ H q = some (.tup (k.map kV)) ∧ x = .ref T ∧ H T = none ∧ H' = upd H T (.tup [.ref q, v])
  stop := fun i H => H d = some (.frz o (.dT kvs)) ∧ kvs.length ≤ i
def iItemsT (td : TE) : TI := fun σ H R => td σ H fun x H1 => ∃ d o kvs, x = .ref d ∧ H1 d = some (.frz o (.dT kvs)) ∧ R (Itit d o kvs) H1
theorem pair_at {α β : Type} {R : α → β → Prop} : ∀ {xs : List α} {ys : List β}, Paired R xs ys → ∀ {i : Nat} {x : α}, xs[i]? = some x → ∃ y, ys[i]? = some y ∧ R x y
  | _, _, .nil, i, x, h => by simp at h
  | _, _, .cons (a := a) (b := b) r t, i, x, h => by
    cases i with
    | zero => exact ⟨b, rfl, (Option.some.inj h) ▸ r⟩
    | succ i => exact pair_at t (i := i) h
theorem raw_frz {X : Cx} {pins : List (Addr × Obj)} {σ : L2.St} {H : Hp} {s : Shared} {d : Addr} {o : Obj} {kvs : List (List L2.Key × V)} (I : Inv X pins σ H s) (hd : H d = some (.frz o (.dT kvs))) :
    (d == sysModules) = false ∧ s.heap.get? d = some o ∧ o.ExactDict ∧ ∃ es ep, o.data = .dict es ep ∧ es.size = kvs.length ∧ ∀ i (hi : i < es.size) (k : List L2.Key) (v : V), kvs[i]? = some (k, v) → ∃ q, es[i].key = .ref q ∧ H q = some (.tup (k.map kV)) ∧ RelV v es[i].val := by
  obtain ⟨h1, h2, h3, es, ep, h4, h5, _⟩ := I.frzT hd
  obtain ⟨_, _, xs, kt, dd⟩ := dt_rd I.hok (Or.inr ⟨o, hd⟩)
  obtain ⟨es', ep', ⟨o', g1, g2, g3⟩, g4, g5⟩ := dd.raw
  obtain rfl : o' = o := Option.some.inj (g1.symm.trans h2)
  obtain ⟨rfl, rfl⟩ := dict_ep h4 g3
  refine ⟨h1, h2, h3, es', ep', h4, h5, fun i hi k v hkv => ?_⟩
  obtain ⟨y, hy, e1, e2, _⟩ := g5 i hi
  obtain ⟨y', hy', r1, r2, r3⟩ := pair_at kt hkv
  obtain rfl : y' = y := Option.some.inj (hy'.symm.trans hy)
  exact ⟨y'.2.1, e1, r2, e2 ▸ r3⟩
theorem turn_itemsT {P : Program} {w : World} {K : PySem.W.Frag} {d : Addr} {o : Obj} {es : Array DictEntry} {ep : Nat} {kvs : List (List L2.Key × V)} {elts : List Expr} {kk : Nat} {tpos : Pos} (it : Addr) (hod : o.data = .dict es ep) :
    Turn P w K (.Tuple elts kk tpos) (Itit d o kvs) [it] it (fun i h => ∃ ok ov, IsItemIter h it d i kvs.length ep ok ov) where
  mem := List.mem_singleton.mpr rfl
  obj := fun i h st b hb => by
    obtain rfl := List.mem_singleton.mp hb
    obtain ⟨ok, ov, e⟩ := st
    exact ⟨_, e, fun v z => nomatch z⟩
  keep := fun i h h' st k => by
    obtain ⟨ok, ov, e⟩ := st
    exact ⟨ok, ov, k it (List.mem_singleton.mpr rfl) _ e⟩
  item := fun X hP hw hK hc i pins s σ H E I hf st hg => by
    subst hP hw
    obtain ⟨hd, hi⟩ := hg
    obtain ⟨hs, hgd, hx, es', ep', hdt, hsz, ent⟩ := raw_frz I hd
    obtain ⟨rfl, rfl⟩ := dict_ep hod hdt
    obtain ⟨ok, ov, he⟩ := st
    rw [← hsz] at he
    have hlt := Heap.lt_size he
    have hkv : kvs[i]? = some (kvs[i].1, kvs[i].2) := List.getElem?_eq_getElem hi
    have hie : i < es'.size := by rw [hsz]; exact hi
    obtain ⟨q, hq1, hq2, hv⟩ := ent i hie _ _ hkv
    refine wpAny_pyNext_items_item_raw he ⟨o, hgd, hx, hdt⟩ hie fun h' ho hT hz hk => ?_
    refine ⟨.ref s.heap.objs.size, rfl, wpAny_letOwnedTupleGo_items ho fun h'' he' sb => ?_⟩
    have hT2 : h''.get? s.heap.objs.size = some { cls := .type "tuple", data := .seq #[es'[i].key, es'[i].val] } := (sb.2 _ (Nat.ne_of_gt hlt)).trans hT
    have new : ObjOk X.prog X.w (upd H s.heap.objs.size (.tup [.ref q, kvs[i].2])) h'' s.heap.objs.size (.tup [.ref q, kvs[i].2]) := ⟨(show 2 ≤ sizeLine by decide), [es'[i].key, es'[i].val], .cons hq1 (.cons hv .nil), _, hT2, rfl, 0, rfl⟩
    have I1 := I.turnedNew (t' := s.toks) (h' := h'') (ch := [it]) (fun b ob hb e => (sb.2 b (fun z => hb (List.mem_singleton.mpr z))).trans (hk b ob (fun z => hb (List.mem_singleton.mpr z)) e)) hf (Nat.le_refl _) new
    refine ⟨.ref s.heap.objs.size, _, I1, rfl, ⟨s.heap.objs.size, q, _, _, hkv, hq2, rfl, I.hok.fresh (Nat.le_refl _), rfl⟩, ⟨_, _, by rw [← hsz]; exact he'⟩, fun b hb => ?_⟩
    obtain rfl := List.mem_singleton.mp hb
    rw [upd_ne (Nat.ne_of_lt hlt)]
    exact (hf b hb).1
  done := fun X hP hw hK hc i pins s σ H E I hf st hg => by
    subst hP hw
    obtain ⟨hd, hi⟩ := hg
    obtain ⟨hs, hgd, hx, es', ep', hdt, hsz, ent⟩ := raw_frz I hd
    obtain ⟨rfl, rfl⟩ := dict_ep hod hdt
    obtain ⟨ok, ov, he⟩ := st
    rw [← hsz] at he
    obtain ⟨f0, f1, f2, f3, f4, f5⟩ := hf it (List.mem_singleton.mpr rfl)
    exact wpAny_pyNext_items_end_raw (I.ok.hd hc) he ⟨o, hgd, hx, hdt⟩ (by omega) fun h' eb => ⟨rfl, I.turned (fun b ob hb e => eb b ob hb e) f0 f1 f3 f4 f5⟩
  self := fun A i s Q E st h => by
    obtain ⟨ok, ov, e⟩ := st
    exact PySem.W.kcp_self e h
theorem pi_itemsT {X : Cx} {e : Expr} {td : TE} {apos cpos : Pos} {elts : List Expr} {kk : Nat} {tpos : Pos} (he : PE X e td) (hbase : attributeBase e "items" X.env (eval e X.env) = eval e X.env := by rfl) (hline : (apos.endLine == cpos.line) = true := by rfl) :
    PI X (.Tuple elts kk tpos) (.Call (.Attribute e "items" apos) [] [] cpos) (iItemsT td) where
  run := fun pins s σ H R I h => by
    refine wpAny_Call_method hbase rfl hline F.plainAttrs_dict F.slot_dict_items F.type_dict_items (thn (he.run pins s σ H _ I h) fun u s1 x => ?_)
    obtain ⟨x, H1, I1, rx, d, o, kvs, rfl, hd, q⟩ := x
    obtain rfl : u = Value.ref d := rx
    obtain ⟨hs, hgd, hx, es, ep, hdt, hsz, ent⟩ := raw_frz I1 hd
    have raw : s1.heap.DictRaw d es ep := ⟨o, hgd, hx, hdt⟩
    refine ⟨raw.typeIs, fun a ha => ?_, ?_⟩
    · cases ha
      exact ⟨o, hgd, hx.2.1⟩
    · refine method_meetsIn F.slot_dict_items F.entry_dict_items rfl (PySem.evalArgs_none ⟨rfl, raw.typeIs, F.args_dict_items_1 _, _, meets_dict_items_raw d hs, ⟨es, ep, raw⟩, ?_⟩)
      have I2 := I1.kept (h' := s1.heap.push { cls := .type "dict_items", data := .fields #[.ref d] }) (t' := s1.toks) fun b ob q => Heap.get?_push_of_some _ q
      exact wpAny_pyIter_items_raw ⟨_, Heap.get?_push_size _ rfl, rfl, rfl⟩ (raw.at fun o ho => Heap.get?_push_of_some _ ho) (pi_one I2 _ (turn_itemsT _ hdt) ⟨.none, .none, by rw [← hsz]; exact Heap.get?_push_size _ rfl⟩ q)
theorem walk_itemsT {d : Addr} {o : Obj} {kvs : List (List L2.Key × V)} : Walk (Itit d o kvs) kvs.length (fun H => H d = some (.frz o (.dT kvs))) (fun i H x H' => ∃ T q k v, kvs[i]? = some (k, v) ∧ H q = some (.tup (k.map kV)) ∧ x = .ref T ∧ H T = none ∧ H' = upd H T (.tup [.ref q, v])) :=
  ⟨fun i H h g => ⟨g, h⟩, fun H g => ⟨g, Nat.le_refl _⟩, fun i H x H' h g y => y⟩
/-- for k, v in d.items(), d locked meanwhile -/
theorem q_forItT {σ : L2.St} {H : Hp} {j : Nat} {g : TG} {tu tz : TS} {D : Ends} {d : Addr} {kvs : List (List L2.Key × V)} (hs : σ[j]? = some (some (.ref d))) (hd : H d = some (.dT kvs)) (Pv : Obj → Nat → L2.St → Hp → Prop)
    (h0 : ∀ od, Pv od 0 σ (upd H d (.frz od (.dT kvs)))) (hk : ∀ od i σ' H', i ≤ kvs.length → Pv od i σ' H' → H' d = some (.frz od (.dT kvs)))
    (st : ∀ od i k v q T σ' H', kvs[i]? = some (k, v) → H' q = some (.tup (k.map kV)) → Pv od i σ' H' → H' T = none → ∀ rt bk, g (.ref T) σ' (upd H' T (.tup [.ref q, v])) fun σ2 H2 => tu ⟨Pv od (i + 1), rt, bk, Pv od (i + 1)⟩ σ2 H2)
    (he : ∀ od σ' H', Pv od kvs.length σ' H' → tz D σ' (upd H' d (.dT kvs))) : tSeq (tLock (tFor (iItemsT (tVar j)) g tu)) tz D σ H := by
  refine ⟨d, _, hd, trivial, fun od => ⟨.ref d, hs, d, od, kvs, rfl, upd_same, ?_⟩⟩
  refine for_it walk_itemsT (Pv od) (h0 od) (hk od) (fun i x σ' H' H2 hi hp y => ?_) fun σ' H' hp => ⟨hk od _ _ _ (Nat.le_refl _) hp, he od σ' H' hp⟩
  obtain ⟨T, q, k, v, hkv, hq, rfl, nT, rfl⟩ := y
  exact st od i k v q T σ' H' hkv hq hp nT _ _
end ItT
set_option Elab.async false
set_option linter.all false
set_option maxRecDepth 100000
set_option maxHeartbeats 3200000
/-! # max(t), min(t), t a tuple of whole numbers -/
namespace MxT
open PySem PySem.Spec PyProof.Rows L2 MnR
def rMaxT (K : PySem.W.Frag) : List V → Hp → VK → Prop := fun xs H Q => ∃ (p : Addr) (n : Int) (r : List Int), xs = [V.ref p] ∧ SqT K H p ((n :: r).map V.int) ∧ Q (.int (r.foldl max n)) H
def rMinT (K : PySem.W.Frag) : List V → Hp → VK → Prop := fun xs H Q => ∃ (p : Addr) (n : Int) (r : List Int), xs = [V.ref p] ∧ SqT K H p ((n :: r).map V.int) ∧ Q (.int (r.foldl min n)) H
section
variable {X : Cx}
theorem cr_maxT (hc : X.calm = true) (hu : X.A.units + 64 < cLine) : CallR X (.builtin "max") (rMaxT X.K) := by
  intro pins s σ H xs us Q I rx h
  obtain ⟨p, n, r, rfl, hl, q⟩ := h
  rw [Vals.ref1 rx]
  obtain ⟨its, rv, pl, hz⟩ := I.tuple hl
  obtain ⟨as, hr⟩ := readsI (h := s.heap) rv
  refine PySem.W.max_tuple_data (x := .int n) (xs := r.map PyData.int) (I.ok.hd hc) pl (vs := its.toArray) (by simpa using hr) (alikeI (n :: r)) (by rw [show PyData.int n :: r.map PyData.int = (n :: r).map PyData.int from rfl, depthI]; omega) fun i v h1 tk bs hv hrd hk => ?_
  rw [PySem.W.maxD_ints] at hrd
  refine ⟨.int (r.foldl max n), H, I.kept (t' := tk) hk, ?_, q⟩
  cases hrd with
  | int i t => exact ⟨t, rfl⟩
theorem cr_minT (hc : X.calm = true) (hu : X.A.units + 64 < cLine) : CallR X (.builtin "min") (rMinT X.K) := by
  intro pins s σ H xs us Q I rx h
  obtain ⟨p, n, r, rfl, hl, q⟩ := h
  rw [Vals.ref1 rx]
  obtain ⟨its, rv, pl, hz⟩ := I.tuple hl
  obtain ⟨as, hr⟩ := readsI (h := s.heap) rv
  refine PySem.W.min_tuple_data (x := .int n) (xs := r.map PyData.int) (I.ok.hd hc) pl (vs := its.toArray) (by simpa using hr) (alikeI (n :: r)) (by rw [show PyData.int n :: r.map PyData.int = (n :: r).map PyData.int from rfl, depthI]; omega) fun i v h1 tk bs hv hrd hk => ?_
  rw [PySem.W.minD_ints] at hrd
  refine ⟨.int (r.foldl min n), H, I.kept (t' := tk) hk, ?_, q⟩
  cases hrd with
  | int i t => exact ⟨t, rfl⟩
end
end MxT
set_option linter.all false
set_option maxHeartbeats 1000000
/-! # stretches along lines, joined to runs -/
namespace Geo
structure Bar where
  x : Int
  a : Int
  b : Int
  id : Nat
deriving DecidableEq, Repr
/-- s lies ahead of t: at a lesser place, or ends where t begins or before -/
def Bar.Lt (s t : Bar) : Prop := s.x < t.x ∨ (s.x = t.x ∧ s.b ≤ t.a)
/-- bars in their sequence -/
structure Bars (L : List Bar) : Prop where
  pos : ∀ s ∈ L, s.a < s.b
  srt : L.Pairwise Bar.Lt
theorem Bars.tail {s : Bar} {r : List Bar} (h : Bars (s :: r)) : Bars r := ⟨fun t ht => h.pos t (List.mem_cons_of_mem _ ht), (List.pairwise_cons.mp h.srt).2⟩
theorem Bars.head {s : Bar} {r : List Bar} (h : Bars (s :: r)) : ∀ t ∈ r, s.Lt t := (List.pairwise_cons.mp h.srt).1
/-- joined: a run is a list of bars each of which begins where the one ahead ends -/
def runs : List Bar → List (List Bar)
  | [] => []
  | s :: r => match runs r with
    | [] => [[s]]
    | [] :: gs => [s] :: gs
    | (t :: g) :: gs => if (s.x, s.b) = (t.x, t.a) then (s :: t :: g) :: gs else [s] :: (t :: g) :: gs
theorem runs_ne : ∀ (L : List Bar), ∀ g ∈ runs L, g ≠ []
  | [], g, h => by cases h
  | s :: r, g, h => by
    have ih := runs_ne r
    unfold runs at h
    split at h
    · rw [List.mem_singleton.mp h]
      exact List.cons_ne_nil _ _
    · next gs e =>
      rw [e] at ih
      exact absurd rfl (ih [] List.mem_cons_self)
    · next t g' gs e =>
      rw [e] at ih
      split at h
      · rcases List.mem_cons.mp h with rfl | h
        · exact List.cons_ne_nil _ _
        · exact ih g (List.mem_cons_of_mem _ h)
      · rcases List.mem_cons.mp h with rfl | h
        · exact List.cons_ne_nil _ _
        · exact ih g h
theorem runs_cons (s : Bar) (r : List Bar) : (runs r = [] ∧ runs (s :: r) = [[s]]) ∨ ∃ t g gs, runs r = (t :: g) :: gs ∧ runs (s :: r) = if (s.x, s.b) = (t.x, t.a) then (s :: t :: g) :: gs else [s] :: (t :: g) :: gs := by
  have ih := runs_ne r
  show (runs r = [] ∧ (match runs r with
    | [] => [[s]]
    | [] :: gs => [s] :: gs
    | (t :: g) :: gs => if (s.x, s.b) = (t.x, t.a) then (s :: t :: g) :: gs else [s] :: (t :: g) :: gs) = [[s]]) ∨ ∃ t g gs, runs r = (t :: g) :: gs ∧ (match runs r with
    | [] => [[s]]
    | [] :: gs => [s] :: gs
    | (t :: g) :: gs => if (s.x, s.b) = (t.x, t.a) then (s :: t :: g) :: gs else [s] :: (t :: g) :: gs) = _
  cases e : runs r with
  | nil => exact .inl ⟨rfl, rfl⟩
  | cons g gs =>
    cases g with
    | nil =>
      rw [e] at ih
      exact absurd rfl (ih [] List.mem_cons_self)
    | cons t g => exact .inr ⟨t, g, gs, rfl, rfl⟩
theorem runs_flat : ∀ L : List Bar, (runs L).flatten = L
  | [] => rfl
  | s :: r => by
    have ih := runs_flat r
    rcases runs_cons s r with ⟨e, e2⟩ | ⟨t, g, gs, e, e2⟩
    · rw [e2]
      rw [e] at ih
      rw [← ih]
      rfl
    · rw [e] at ih
      rw [e2]
      split
      · rw [← ih]
        rfl
      · rw [← ih]
        rfl
/-- from a to b, each where the one ahead ends, all at the place x -/
inductive Ch (x : Int) : Int → List Bar → Int → Prop where
  | nil {a : Int} : Ch x a [] a
  | cons {s : Bar} {r : List Bar} {b : Int} : s.x = x → Ch x s.b r b → Ch x s.a (s :: r) b
theorem runs_ch : ∀ (L : List Bar), ∀ g ∈ runs L, ∃ x a b, Ch x a g b
  | [], g, h => by cases h
  | s :: r, g, h => by
    have ih := runs_ch r
    rcases runs_cons s r with ⟨e, e2⟩ | ⟨t, g', gs, e, e2⟩
    · rw [e2] at h
      rw [List.mem_singleton.mp h]
      exact ⟨s.x, s.a, s.b, .cons rfl .nil⟩
    · rw [e] at ih
      rw [e2] at h
      split at h
      · next c =>
        rcases List.mem_cons.mp h with rfl | h
        · obtain ⟨x, a, b, hc⟩ := ih _ List.mem_cons_self
          cases hc with
          | cons h1 h2 =>
            obtain ⟨c1, c2⟩ := Prod.mk.inj c
            refine ⟨x, s.a, b, .cons (c1.trans h1) ?_⟩
            rw [c2]
            exact .cons h1 h2
        · exact ih g (List.mem_cons_of_mem _ h)
      · rcases List.mem_cons.mp h with rfl | h
        · exact ⟨s.x, s.a, s.b, .cons rfl .nil⟩
        · exact ih g h
theorem runs_sub {L g : List Bar} (h : g ∈ runs L) : ∀ s ∈ g, s ∈ L := fun s hs => by
  rw [← runs_flat L]
  exact List.mem_flatten.mpr ⟨g, h, hs⟩
theorem runs_in {L : List Bar} {s : Bar} (h : s ∈ L) : ∃ g ∈ runs L, s ∈ g := by
  rw [← runs_flat L] at h
  exact List.mem_flatten.mp h
/-- where a run begins no other one ends; runs come one after another -/
structure Far (L : List Bar) (G : List (List Bar)) : Prop where
  st : ∀ h g, (h :: g) ∈ G → ∀ s ∈ L, s.x = h.x → s.b ≠ h.a
  pw : G.Pairwise fun g g' => ∀ s ∈ g, ∀ t ∈ g', s.Lt t
theorem runs_far : ∀ {L : List Bar}, Bars L → Far L (runs L)
  | [], _ => ⟨fun h g hg => (nomatch hg), .nil⟩
  | s :: r, hL => by
    have ih := runs_far hL.tail
    have hpos := hL.pos s List.mem_cons_self
    have hhd := hL.head
    have self : ∀ t ∈ s :: r, t.x = s.x → t.b ≠ s.a := fun t ht hx e => by
      rcases List.mem_cons.mp ht with rfl | ht
      · omega
      · have h1 := hhd t ht
        have h2 := hL.pos t (List.mem_cons_of_mem _ ht)
        rcases h1 with h1 | h1 <;> omega
    rcases runs_cons s r with ⟨e, e2⟩ | ⟨t, g, gs, e, e2⟩
    · rw [e2]
      refine ⟨fun h g hg => ?_, List.pairwise_singleton _ _⟩
      cases List.mem_singleton.mp hg
      exact self
    · have rf := runs_flat r
      rw [e] at ih rf
      rw [e2]
      have tr : t ∈ r := by rw [← rf]; simp
      have tpos := hL.pos t (List.mem_cons_of_mem _ tr)
      have st_lt := hhd t tr
      obtain ⟨pw1, pw2⟩ := List.pairwise_cons.mp ih.pw
      -- a later run does not begin where s ends
      have later : ∀ h g', (h :: g') ∈ gs → s.x = h.x → s.b ≠ h.a := fun h g' hg hx eb => by
        have h1 := pw1 _ hg t List.mem_cons_self h List.mem_cons_self
        rcases st_lt with a | a <;> rcases h1 with b | b <;> omega
      split
      · next c =>
        obtain ⟨c1, c2⟩ := Prod.mk.inj c
        refine ⟨fun h g' hg u hu hx => ?_, List.pairwise_cons.mpr ⟨fun g' hg' u hu v hv => ?_, pw2⟩⟩
        · rcases List.mem_cons.mp hg with e3 | hg1
          · cases e3
            exact self u hu hx
          · rcases List.mem_cons.mp hu with e4 | hu1
            · rw [e4] at hx ⊢
              exact later h g' hg1 hx
            · exact ih.st h g' (List.mem_cons_of_mem _ hg1) u hu1 hx
        · rcases List.mem_cons.mp hu with rfl | hu
          · exact hhd v (by rw [← rf]; exact List.mem_flatten.mpr ⟨g', List.mem_cons_of_mem _ hg', hv⟩)
          · exact pw1 g' hg' u hu v hv
      · next c =>
        refine ⟨fun h g' hg u hu hx => ?_, List.pairwise_cons.mpr ⟨fun g' hg' u hu v hv => ?_, ih.pw⟩⟩
        · rcases List.mem_cons.mp hg with e3 | hg1
          · cases e3
            exact self u hu hx
          · rcases List.mem_cons.mp hu with e4 | hu1
            · rw [e4] at hx ⊢
              rcases List.mem_cons.mp hg1 with e3 | hg2
              · cases e3
                exact fun eb => c (by rw [hx, eb])
              · exact later h g' hg2 hx
            · exact ih.st h g' hg1 u hu1 hx
        · rw [List.mem_singleton.mp hu]
          exact hhd v (by rw [← rf]; exact List.mem_flatten.mpr ⟨g', hg', hv⟩)
/-- the line at x is there from j to j + 1 -/
def Cell (L : List Bar) (x j : Int) : Prop := ∃ s ∈ L, s.x = x ∧ s.a ≤ j ∧ j < s.b
theorem Ch.le {x : Int} : ∀ {g : List Bar} {a b : Int}, Ch x a g b → (∀ s ∈ g, s.a < s.b) → a ≤ b ∧ ∀ s ∈ g, s.x = x ∧ a ≤ s.a ∧ s.b ≤ b
  | _, _, _, .nil, _ => ⟨Int.le_refl _, fun s h => (nomatch h)⟩
  | s :: r, _, b, .cons hx h, hp => by
    obtain ⟨h1, h2⟩ := h.le fun t ht => hp t (List.mem_cons_of_mem _ ht)
    have h3 := hp s List.mem_cons_self
    refine ⟨by omega, fun t ht => ?_⟩
    rcases List.mem_cons.mp ht with rfl | ht
    · exact ⟨hx, by omega, h1⟩
    · have := h2 t ht
      exact ⟨this.1, by omega, this.2.2⟩
theorem Ch.at_ {x : Int} : ∀ {g : List Bar} {a b : Int}, Ch x a g b → ∀ j, a ≤ j → j < b → ∃ s ∈ g, s.a ≤ j ∧ j < s.b
  | _, _, _, .nil, j, h1, h2 => by omega
  | s :: r, _, b, .cons hx h, j, h1, h2 => by
    by_cases c : j < s.b
    · exact ⟨s, List.mem_cons_self, h1, c⟩
    · obtain ⟨t, ht, k⟩ := h.at_ j (by omega) h2
      exact ⟨t, List.mem_cons_of_mem _ ht, k⟩
theorem Ch.inv {x a b : Int} {s : Bar} {r : List Bar} (h : Ch x a (s :: r) b) : s.x = x ∧ a = s.a ∧ Ch x s.b r b := by
  cases h with
  | cons hx h => exact ⟨hx, rfl, h⟩
theorem Ch.inv0 {x a b : Int} (h : Ch x a [] b) : a = b := by
  cases h
  rfl
theorem Ch.last {x : Int} : ∀ {g : List Bar} {a b : Int}, Ch x a g b → g ≠ [] → ∃ s ∈ g, s.b = b
  | [], _, _, _, n => absurd rfl n
  | [s], _, _, h, _ => ⟨s, List.mem_cons_self, h.inv.2.2.inv0⟩
  | s :: t :: r, _, b, h, _ => by
    obtain ⟨u, hu, e⟩ := h.inv.2.2.last (List.cons_ne_nil _ _)
    exact ⟨u, List.mem_cons_of_mem _ hu, e⟩
theorem Ch.next {x : Int} : ∀ {g : List Bar} {a b : Int}, Ch x a g b → ∀ s ∈ g, s.b ≠ b → ∃ t ∈ g, t.a = s.b ∧ t.x = x
  | [], _, _, _, s, hs, _ => (nomatch hs)
  | [s], _, b, h, u, hu, n => by
    rw [List.mem_singleton.mp hu] at n
    exact absurd h.inv.2.2.inv0 n
  | s :: t :: r, _, b, h, u, hu, n => by
    have h2 := h.inv.2.2
    rcases List.mem_cons.mp hu with e | hu
    · rw [e]
      exact ⟨t, List.mem_cons_of_mem _ List.mem_cons_self, h2.inv.2.1.symm, h2.inv.1⟩
    · obtain ⟨t, ht, k⟩ := h2.next u hu n
      exact ⟨t, List.mem_cons_of_mem _ ht, k⟩
theorem Ch.allx {x : Int} : ∀ {g : List Bar} {a b : Int}, Ch x a g b → ∀ s ∈ g, s.x = x
  | [], _, _, _, s, hs => (nomatch hs)
  | t :: r, _, _, h, s, hs => by
    rcases List.mem_cons.mp hs with e | hs
    · rw [e]
      exact h.inv.1
    · exact h.inv.2.2.allx s hs
theorem lt_or {L : List Bar} (hL : L.Pairwise Bar.Lt) {s t : Bar} (hs : s ∈ L) (ht : t ∈ L) : s = t ∨ s.Lt t ∨ t.Lt s := by
  induction L with
  | nil => cases hs
  | cons u r ih =>
    obtain ⟨h1, h2⟩ := List.pairwise_cons.mp hL
    rcases List.mem_cons.mp hs with e | hs1 <;> rcases List.mem_cons.mp ht with e2 | ht1
    · exact .inl (e.trans e2.symm)
    · rw [e]
      exact .inr (.inl (h1 _ ht1))
    · rw [e2]
      exact .inr (.inr (h1 _ hs1))
    · exact ih h2 hs1 ht1
theorem one_run {t : Bar} {g g2 : List Bar} : ∀ {G : List (List Bar)}, (G.Pairwise fun g g' => ∀ s ∈ g, ∀ t ∈ g', s.Lt t) → g ∈ G → g2 ∈ G → t ∈ g → t ∈ g2 → t.a < t.b → g = g2
  | [], _, h, _, _, _, _ => (nomatch h)
  | u :: us, pw, hg, hg2, h1, h2, lp => by
    obtain ⟨w1, w2⟩ := List.pairwise_cons.mp pw
    have irr : ¬ t.Lt t := fun k => by rcases k with k | k <;> omega
    rcases List.mem_cons.mp hg with e | hg1 <;> rcases List.mem_cons.mp hg2 with e2 | hg3
    · exact e.trans e2.symm
    · subst e
      exact absurd (w1 _ hg3 t h1 t h2) irr
    · subst e2
      exact absurd (w1 _ hg1 t h2 t h1) irr
    · exact one_run w2 hg1 hg3 h1 h2 lp
/-- a run, its place, begin and end: it is as long as it can be -/
structure Run (L : List Bar) (g : List Bar) (x a b : Int) : Prop where
  mem : g ∈ runs L
  ch : Ch x a g b
  lt : a < b
  lo : ¬ Cell L x (a - 1)
  hi : ¬ Cell L x b
theorem runs_run {L : List Bar} (hL : Bars L) {g : List Bar} (hg : g ∈ runs L) : ∃ x a b, Run L g x a b := by
  obtain ⟨x, a, b, hc⟩ := runs_ch L g hg
  have ne := runs_ne L g hg
  have far := runs_far hL
  have sub := runs_sub hg
  have gpos : ∀ s ∈ g, s.a < s.b := fun s hs => hL.pos s (sub s hs)
  obtain ⟨h1, h2⟩ := hc.le gpos
  refine ⟨x, a, b, hg, hc, ?_, ?_, ?_⟩
  · cases hc with
    | nil => exact absurd rfl ne
    | cons hx h =>
      have := gpos _ List.mem_cons_self
      have := (h.le fun t ht => gpos t (List.mem_cons_of_mem _ ht)).1
      omega
  · intro ⟨s, hs, sx, s1, s2⟩
    cases hc with
    | nil => exact ne rfl
    | @cons h g' _ hx hc =>
      have hh := sub h List.mem_cons_self
      have p1 := hL.pos h hh
      rcases lt_or hL.srt hs hh with rfl | k | k
      · omega
      · rcases k with k | k
        · omega
        · exact far.st h g' hg s hs (sx.trans hx.symm) (by omega)
      · rcases k with k | k <;> omega
  · intro ⟨s, hs, sx, s1, s2⟩
    obtain ⟨l, hl, el⟩ := hc.last ne
    have hlL := sub l hl
    have lp := gpos l hl
    have lx := (h2 l hl).1
    obtain ⟨g2, hg2, hs2⟩ := runs_in hs
    rcases lt_or hL.srt hlL hs with rfl | k | k
    · omega
    · -- s begins where l ends: its run begins there or it is joined to one there
      have sa : s.a = b := by rcases k with k | k <;> omega
      obtain ⟨x2, a2, b2, hc2⟩ := runs_ch L g2 hg2
      have g2pos : ∀ s ∈ g2, s.a < s.b := fun s hs => hL.pos s (runs_sub hg2 s hs)
      obtain ⟨q1, q2⟩ := hc2.le g2pos
      by_cases c : s.a = a2
      · cases hc2 with
        | nil => cases hs2
        | @cons h g' _ hx hc2 =>
          have hhL := runs_sub hg2 h List.mem_cons_self
          exact far.st h g' hg2 l hlL (by have := (q2 s hs2).1; omega) (by omega)
      · -- the bar of the run ahead of s ends at s.a, so it is l, and l's run is g2
        have : a2 ≤ s.a := (q2 s hs2).2.1
        obtain ⟨t, ht, t1, t2⟩ := hc2.at_ (s.a - 1) (by omega) (by have := (q2 s hs2).2.2; have := g2pos s hs2; omega)
        have htL := runs_sub hg2 t ht
        have tx := (q2 t ht).1
        have sx2 := (q2 s hs2).1
        have tl : t = l := by
          rcases lt_or hL.srt htL hlL with e | k2 | k2
          · exact e
          · exfalso
            rcases k2 with k2 | k2 <;> omega
          · exfalso
            rcases k2 with k2 | k2
            · omega
            · have := hL.pos t htL
              omega
        subst tl
        -- g and g2 both hold t: the same run
        have same : g = g2 := by
          exact one_run far.pw hg hg2 hl ht lp
        subst same
        have := (h2 s hs2).2.2
        have := g2pos s hs2
        omega
    · rcases k with k | k <;> omega
/-- two lists with the same line at x: runs that have a place in common begin and end alike -/
theorem Run.same {L M : List Bar} {g h : List Bar} {x a b a' b' j : Int} (r : Run L g x a b) (q : Run M h x a' b') (e : ∀ j, Cell L x j ↔ Cell M x j) (h1 : a ≤ j ∧ j < b) (h2 : a' ≤ j ∧ j < b') : a = a' ∧ b = b' := by
  have c1 : ∀ i, a ≤ i → i < b → Cell L x i := fun i k1 k2 => by
    obtain ⟨s, hs, k⟩ := r.ch.at_ i k1 k2
    exact ⟨s, runs_sub r.mem s hs, r.ch.allx s hs, k⟩
  have c2 : ∀ i, a' ≤ i → i < b' → Cell M x i := fun i k1 k2 => by
    obtain ⟨s, hs, k⟩ := q.ch.at_ i k1 k2
    exact ⟨s, runs_sub q.mem s hs, q.ch.allx s hs, k⟩
  constructor
  · by_cases c : a < a'
    · exact absurd ((e _).mp (c1 (a' - 1) (by omega) (by omega))) q.lo
    · by_cases c : a' < a
      · exact absurd ((e _).mpr (c2 (a - 1) (by omega) (by omega))) r.lo
      · omega
  · by_cases c : b < b'
    · exact absurd ((e _).mpr (c2 b (by omega) (by omega))) r.hi
    · by_cases c : b' < b
      · exact absurd ((e _).mp (c1 b' (by omega) (by omega))) q.hi
      · omega
end Geo
set_option linter.all false
set_option maxHeartbeats 1000000
/-! # two runs, side by side: who touches whom -/
namespace Geo
def mg : List Bar → List Bar → List (Bar × Bar)
  | a :: A, b :: B => (a, b) :: (if A = [] ∧ B = [] then [] else if a.b < b.b then mg A (b :: B) else mg (a :: A) B)
  | [], _ => []
  | _ :: _, [] => []
termination_by A B => A.length + B.length
theorem mg_cons (a b : Bar) (A B : List Bar) : mg (a :: A) (b :: B) = (a, b) :: (if A = [] ∧ B = [] then [] else if a.b < b.b then mg A (b :: B) else mg (a :: A) B) := by
  rw [mg]
theorem Ch.ge {x a b : Int} {g : List Bar} (h : Ch x a g b) (hp : ∀ s ∈ g, s.a < s.b) : ∀ s ∈ g, a ≤ s.a ∧ s.b ≤ b := fun s hs => ((h.le hp).2 s hs).2
theorem Ch.nil_of {x a : Int} {g : List Bar} (h : Ch x a g a) (hp : ∀ s ∈ g, s.a < s.b) : g = [] := by
  cases g with
  | nil => rfl
  | cons s r =>
    obtain ⟨_, e, h2⟩ := h.inv
    have := (h2.le fun t ht => hp t (List.mem_cons_of_mem _ ht)).1
    have := hp s List.mem_cons_self
    omega
theorem mg_spec (x y e : Int) : ∀ (n : Nat) (a b : Bar) (A B : List Bar), A.length + B.length = n → Ch x a.a (a :: A) e → Ch y b.a (b :: B) e → (∀ s ∈ a :: A, s.a < s.b) → (∀ s ∈ b :: B, s.a < s.b) → (∀ p ∈ a :: A, ∀ q ∈ b :: B, p.b = q.b → p.b = e) → a.a < b.b → b.a < a.b →
    (∀ p q, (p, q) ∈ mg (a :: A) (b :: B) ↔ p ∈ a :: A ∧ q ∈ b :: B ∧ p.a < q.b ∧ q.a < p.b) ∧ (mg (a :: A) (b :: B)).Nodup := by
  intro n
  induction n with
  | zero =>
    intro a b A B hn hA hB pA pB J o1 o2
    have eA : A = [] := List.length_eq_zero_iff.mp (by omega)
    have eB : B = [] := List.length_eq_zero_iff.mp (by omega)
    subst eA eB
    rw [mg_cons, if_pos ⟨rfl, rfl⟩]
    refine ⟨fun p q => ?_, by simp⟩
    simp only [List.mem_singleton, Prod.mk.injEq]
    constructor
    · rintro ⟨rfl, rfl⟩
      exact ⟨rfl, rfl, o1, o2⟩
    · rintro ⟨rfl, rfl, _⟩
      exact ⟨rfl, rfl⟩
  | succ n ih =>
    intro a b A B hn hA hB pA pB J o1 o2
    have nn : ¬ (A = [] ∧ B = []) := fun ⟨h1, h2⟩ => by
      subst h1 h2
      simp at hn
    rw [mg_cons, if_neg nn]
    have cA := hA.inv.2.2
    have cB := hB.inv.2.2
    have pA' : ∀ s ∈ A, s.a < s.b := fun s hs => pA s (List.mem_cons_of_mem _ hs)
    have pB' : ∀ s ∈ B, s.a < s.b := fun s hs => pB s (List.mem_cons_of_mem _ hs)
    have a1 := pA a List.mem_cons_self
    have b1 := pB b List.mem_cons_self
    have gA := cA.ge pA'
    have gB := cB.ge pB'
    have leA := (cA.le pA').1
    have leB := (cB.le pB').1
    split
    · next c =>
      cases A with
      | nil =>
        have := cA.inv0
        omega
      | cons a2 A2 =>
        have e2 := cA.inv.2.1
        have p2 := pA a2 (List.mem_cons_of_mem _ List.mem_cons_self)
        obtain ⟨i1, i2⟩ := ih a2 b A2 B (by simp at hn; omega) (by rw [← e2]; exact cA) hB pA' pB (fun p hp q hq => J p (List.mem_cons_of_mem _ hp) q hq) (by omega) (by omega)
        refine ⟨fun p q => ?_, List.nodup_cons.mpr ⟨fun hm => ?_, i2⟩⟩
        · rw [List.mem_cons, i1]
          constructor
          · rintro (h | ⟨h1, h2, h3⟩)
            · obtain ⟨rfl, rfl⟩ := Prod.mk.inj h
              exact ⟨List.mem_cons_self, List.mem_cons_self, o1, o2⟩
            · exact ⟨List.mem_cons_of_mem _ h1, h2, h3⟩
          · rintro ⟨h1, h2, h3, h4⟩
            rcases List.mem_cons.mp h1 with rfl | h1
            · rcases List.mem_cons.mp h2 with rfl | h2
              · exact .inl rfl
              · have := gB q h2
                omega
            · exact .inr ⟨h1, h2, h3, h4⟩
        · have hm1 := ((i1 a b).mp hm).1
          have := gA a hm1
          omega
    · next c =>
      have ne : a.b ≠ b.b := fun eq => by
        have z := J a List.mem_cons_self b List.mem_cons_self eq
        have z2 : b.b = e := eq ▸ z
        rw [z] at cA
        rw [z2] at cB
        exact nn ⟨cA.nil_of pA', cB.nil_of pB'⟩
      cases B with
      | nil =>
        have := cB.inv0
        omega
      | cons b2 B2 =>
        have e2 := cB.inv.2.1
        have p2 := pB b2 (List.mem_cons_of_mem _ List.mem_cons_self)
        obtain ⟨i1, i2⟩ := ih a b2 A B2 (by simp at hn; omega) hA (by rw [← e2]; exact cB) pA pB' (fun p hp q hq => J p hp q (List.mem_cons_of_mem _ hq)) (by omega) (by omega)
        refine ⟨fun p q => ?_, List.nodup_cons.mpr ⟨fun hm => ?_, i2⟩⟩
        · rw [List.mem_cons, i1]
          constructor
          · rintro (h | ⟨h1, h2, h3⟩)
            · obtain ⟨rfl, rfl⟩ := Prod.mk.inj h
              exact ⟨List.mem_cons_self, List.mem_cons_self, o1, o2⟩
            · exact ⟨h1, List.mem_cons_of_mem _ h2, h3⟩
          · rintro ⟨h1, h2, h3, h4⟩
            rcases List.mem_cons.mp h2 with rfl | h2
            · rcases List.mem_cons.mp h1 with rfl | h1
              · exact .inl rfl
              · have := gA p h1
                omega
            · exact .inr ⟨h1, h2, h3, h4⟩
        · have hm1 := ((i1 a b).mp hm).2.1
          have := gB b hm1
          omega
/-- where a run begins -/
def beg (g : List Bar) : Int × Int := match g with
  | [] => (0, 0)
  | s :: _ => (s.x, s.a)
/-- the pairs that touch along lines whose one side is L and whose other side is M -/
def pairsOf (L M : List Bar) : List (Bar × Bar) := (runs L).flatMap fun g => match (runs M).find? fun h => decide (beg h = beg g) with
  | some h => mg g h
  | none => []
/-- the two sides of all lines -/
structure Two (L M : List Bar) : Prop where
  l : Bars L
  m : Bars M
  cell : ∀ s ∈ L, ∀ t ∈ M, s.x = t.x → ∀ j, Cell L s.x j ↔ Cell M s.x j
  four : ∀ p ∈ L, ∀ p' ∈ L, ∀ q ∈ M, ∀ q' ∈ M, p.x = p'.x → p.x = q.x → p.x = q'.x → p.b = p'.a → q.b = q'.a → p.b ≠ q.b
theorem Run.beg {L g : List Bar} {x a b : Int} (r : Run L g x a b) : beg g = (x, a) := by
  have := r.ch
  cases g with
  | nil => exact absurd rfl (runs_ne L _ r.mem)
  | cons s t =>
    obtain ⟨h1, h2, _⟩ := this.inv
    show (s.x, s.a) = (x, a)
    rw [h1, h2]
theorem find_beg {G : List (List Bar)} {g h : List Bar} (c : G.find? (fun h => decide (beg h = beg g)) = some h) : beg h = beg g := by
  have := List.find?_some c
  simpa using this
theorem beg_one {L : List Bar} (hL : Bars L) {g g' : List Bar} (h1 : g ∈ runs L) (h2 : g' ∈ runs L) (e : beg g = beg g') : g = g' := by
  have far := runs_far hL
  cases g with
  | nil => exact absurd rfl (runs_ne L _ h1)
  | cons s t =>
    cases g' with
    | nil => exact absurd rfl (runs_ne L _ h2)
    | cons s' t' =>
      obtain ⟨e1, e2⟩ := Prod.mk.inj (show (s.x, s.a) = (s'.x, s'.a) from e)
      have hs := runs_sub h1 s List.mem_cons_self
      have hs' := runs_sub h2 s' List.mem_cons_self
      have p1 := hL.pos s hs
      have p2 := hL.pos s' hs'
      have : s = s' := by
        rcases lt_or hL.srt hs hs' with k | k | k
        · exact k
        · rcases k with k | k <;> omega
        · rcases k with k | k <;> omega
      subst this
      exact one_run far.pw h1 h2 List.mem_cons_self List.mem_cons_self p1
/-- runs that begin alike, whose places go on alike -/
theorem Two.along {L M : List Bar} (t : Two L M) {g h : List Bar} (hg : g ∈ runs L) (hh : h ∈ runs M) (e : beg h = beg g) :
    (∀ p q, (p, q) ∈ mg g h ↔ p ∈ g ∧ q ∈ h ∧ p.a < q.b ∧ q.a < p.b) ∧ (mg g h).Nodup := by
  obtain ⟨x, a, b, r⟩ := runs_run t.l hg
  obtain ⟨x', a', b', r'⟩ := runs_run t.m hh
  have e1 := r.beg
  have e2 := r'.beg
  obtain ⟨rfl, rfl⟩ := Prod.mk.inj (e2.symm.trans (e.trans e1))
  have gpos : ∀ s ∈ g, s.a < s.b := fun s hs => t.l.pos s (runs_sub hg s hs)
  have hpos : ∀ s ∈ h, s.a < s.b := fun s hs => t.m.pos s (runs_sub hh s hs)
  cases g with
  | nil => exact absurd rfl (runs_ne L _ hg)
  | cons s A =>
    cases h with
    | nil => exact absurd rfl (runs_ne M _ hh)
    | cons u B =>
      have i1 := r.ch.inv
      have i2 := r'.ch.inv
      have hs := runs_sub hg s List.mem_cons_self
      have hu := runs_sub hh u List.mem_cons_self
      have p1 := gpos s List.mem_cons_self
      have p2 := hpos u List.mem_cons_self
      have cells := t.cell s hs u hu (i1.1.trans i2.1.symm)
      rw [i1.1] at cells
      obtain ⟨_, eb⟩ := r.same r' cells (j := a') ⟨by omega, r.lt⟩ ⟨by omega, r'.lt⟩
      subst eb
      have chA := r.ch
      have chB := r'.ch
      rw [i1.2.1] at chA
      rw [i2.2.1] at chB
      refine mg_spec x' x' b _ s u A B rfl chA chB gpos hpos (fun p hp q hq epq => ?_) (by omega) (by omega)
      by_cases c : p.b = b
      · exact c
      · exfalso
        obtain ⟨p', hp', k1, k2⟩ := r.ch.next p hp c
        obtain ⟨q', hq', k3, k4⟩ := r'.ch.next q hq (by omega)
        have px := r.ch.allx p hp
        have qx := r'.ch.allx q hq
        exact t.four p (runs_sub hg p hp) p' (runs_sub hg p' hp') q (runs_sub hh q hq) q' (runs_sub hh q' hq') (by omega) (by omega) (by omega) k1.symm k3.symm epq
theorem Two.find {L M : List Bar} (t : Two L M) {g h : List Bar} (hh : h ∈ runs M) (e : beg h = beg g) : (runs M).find? (fun h => decide (beg h = beg g)) = some h := by
  cases c : (runs M).find? fun h => decide (beg h = beg g) with
  | none =>
    have := List.find?_eq_none.mp c h hh
    simp [e] at this
  | some h2 =>
    have m2 := List.mem_of_find?_eq_some c
    rw [beg_one t.m m2 hh ((find_beg c).trans e.symm)]
theorem Two.mem {L M : List Bar} (t : Two L M) (p q : Bar) : (p, q) ∈ pairsOf L M ↔ p ∈ L ∧ q ∈ M ∧ p.x = q.x ∧ p.a < q.b ∧ q.a < p.b := by
  unfold pairsOf
  rw [List.mem_flatMap]
  constructor
  · rintro ⟨g, hg, hm⟩
    split at hm
    · next h c =>
      have hh := List.mem_of_find?_eq_some c
      have eb := find_beg c
      have := ((t.along hg hh eb).1 p q).mp hm
      obtain ⟨x, a, b, r⟩ := runs_run t.l hg
      obtain ⟨x', a', b', r'⟩ := runs_run t.m hh
      obtain ⟨rfl, rfl⟩ := Prod.mk.inj (r'.beg.symm.trans (eb.trans r.beg))
      exact ⟨runs_sub hg p this.1, runs_sub hh q this.2.1, (r.ch.allx p this.1).trans (r'.ch.allx q this.2.1).symm, this.2.2⟩
    · cases hm
  · rintro ⟨hp, hq, hx, h1, h2⟩
    obtain ⟨g, hg, pg⟩ := runs_in hp
    obtain ⟨h, hh, qh⟩ := runs_in hq
    obtain ⟨x, a, b, r⟩ := runs_run t.l hg
    obtain ⟨x', a', b', r'⟩ := runs_run t.m hh
    have px := r.ch.allx p pg
    have qx := r'.ch.allx q qh
    have ex : x' = x := by omega
    subst ex
    have cells := t.cell p hp q hq hx
    rw [px] at cells
    have gp := r.ch.ge (fun s hs => t.l.pos s (runs_sub hg s hs)) p pg
    have gq := r'.ch.ge (fun s hs => t.m.pos s (runs_sub hh s hs)) q qh
    have pp := t.l.pos p hp
    have pq := t.m.pos q hq
    obtain ⟨ea, eb⟩ : a = a' ∧ b = b' := by
      by_cases c : p.a ≤ q.a
      · exact r.same r' cells (j := q.a) ⟨by omega, by omega⟩ ⟨by omega, by omega⟩
      · exact r.same r' cells (j := p.a) ⟨by omega, by omega⟩ ⟨by omega, by omega⟩
    have be : beg h = beg g := by rw [r.beg, r'.beg, ea]
    refine ⟨g, hg, ?_⟩
    rw [t.find hh be]
    exact ((t.along hg hh be).1 p q).mpr ⟨pg, qh, h1, h2⟩
theorem nodup_flat {α β : Type} {f : α → List β} : ∀ {l : List α}, (∀ a ∈ l, (f a).Nodup) → (l.Pairwise fun a b => ∀ x ∈ f a, ∀ y ∈ f b, x ≠ y) → (l.flatMap f).Nodup
  | [], _, _ => List.nodup_nil
  | a :: r, h, k => by
    obtain ⟨k1, k2⟩ := List.pairwise_cons.mp k
    rw [List.flatMap_cons]
    refine List.nodup_append.mpr ⟨h a List.mem_cons_self, nodup_flat (fun b hb => h b (List.mem_cons_of_mem _ hb)) k2, fun x hx y hy => ?_⟩
    obtain ⟨b, hb, hy2⟩ := List.mem_flatMap.mp hy
    exact k1 b hb x hx y hy2
theorem Two.nodup {L M : List Bar} (t : Two L M) : (pairsOf L M).Nodup := by
  have far := runs_far t.l
  refine nodup_flat (fun g hg => ?_) ?_
  · split
    · next h c => exact (t.along hg (List.mem_of_find?_eq_some c) (find_beg c)).2
    · exact List.nodup_nil
  · have : (runs L).Pairwise fun g g' => (∀ s ∈ g, ∀ t ∈ g', s.Lt t) ∧ g ∈ runs L ∧ g' ∈ runs L := by
      have : ∀ G : List (List Bar), (∀ g ∈ G, g ∈ runs L) → (G.Pairwise fun g g' => ∀ s ∈ g, ∀ t ∈ g', s.Lt t) → G.Pairwise fun g g' => (∀ s ∈ g, ∀ t ∈ g', s.Lt t) ∧ g ∈ runs L ∧ g' ∈ runs L := by
        intro G
        induction G with
        | nil => exact fun _ _ => .nil
        | cons u us ih =>
          intro hG hp
          obtain ⟨h1, h2⟩ := List.pairwise_cons.mp hp
          exact List.pairwise_cons.mpr ⟨fun v hv => ⟨h1 v hv, hG u List.mem_cons_self, hG v (List.mem_cons_of_mem _ hv)⟩, ih (fun g hg => hG g (List.mem_cons_of_mem _ hg)) h2⟩
      exact this _ (fun g hg => hg) far.pw
    refine this.imp fun {g g'} ⟨k, hg, hg'⟩ => ?_
    intro u hu v hv e
    subst e
    have first : ∀ g ∈ runs L, ∀ u, u ∈ (match (runs M).find? fun h => decide (beg h = beg g) with | some h => mg g h | none => []) → u.1 ∈ g := fun g hg u hu => by
      split at hu
      · next h c => exact (((t.along hg (List.mem_of_find?_eq_some c) (find_beg c)).1 u.1 u.2).mp hu).1
      · cases hu
    have a := first g hg u hu
    have b := first g' hg' u hv
    have := k u.1 a u.1 b
    have := t.l.pos u.1 (runs_sub hg _ a)
    rcases k u.1 a u.1 b with z | z <;> omega
end Geo
set_option linter.all false
set_option maxHeartbeats 1000000
/-! # the lines of a valid layout, and which panes touch along them -/
namespace Geo
def aheadB (ps : List Pn) : List Bar := ps.zipIdx.map fun u => ⟨u.1.x1, u.1.y0, u.1.y1, u.2⟩
def behindB (ps : List Pn) : List Bar := ps.zipIdx.map fun u => ⟨u.1.x0, u.1.y0, u.1.y1, u.2⟩
theorem mem_ahead {ps : List Pn} {s : Bar} : s ∈ aheadB ps ↔ ∃ p, ps[s.id]? = some p ∧ s.x = p.x1 ∧ s.a = p.y0 ∧ s.b = p.y1 := by
  unfold aheadB
  rw [List.mem_map]
  constructor
  · rintro ⟨u, hu, rfl⟩
    exact ⟨u.1, List.mem_zipIdx_iff_getElem?.mp hu, rfl, rfl, rfl⟩
  · rintro ⟨p, h, h1, h2, h3⟩
    refine ⟨(p, s.id), List.mem_zipIdx_iff_getElem?.mpr h, ?_⟩
    cases s
    simp_all
theorem mem_behind {ps : List Pn} {s : Bar} : s ∈ behindB ps ↔ ∃ p, ps[s.id]? = some p ∧ s.x = p.x0 ∧ s.a = p.y0 ∧ s.b = p.y1 := by
  unfold behindB
  rw [List.mem_map]
  constructor
  · rintro ⟨u, hu, rfl⟩
    exact ⟨u.1, List.mem_zipIdx_iff_getElem?.mp hu, rfl, rfl, rfl⟩
  · rintro ⟨p, h, h1, h2, h3⟩
    refine ⟨(p, s.id), List.mem_zipIdx_iff_getElem?.mpr h, ?_⟩
    cases s
    simp_all
theorem zip_nodup {α : Type} (ps : List α) : (ps.zipIdx.map (·.2)).Nodup := by
  rw [List.zipIdx_map_snd]
  exact List.nodup_range'
theorem ids_nodup {ps : List Pn} {f : Pn × Nat → Bar} (hf : ∀ u, (f u).id = u.2) : (ps.zipIdx.map f).Pairwise fun s t => s.id ≠ t.id := by
  have := zip_nodup ps
  rw [List.Nodup, List.pairwise_map] at this
  rw [List.pairwise_map]
  exact this.imp fun {u v} h => by
    rw [hf, hf]
    exact h
def Lex (s t : Bar) : Prop := s.x < t.x ∨ (s.x = t.x ∧ s.a ≤ t.a)
theorem pos_at {ps : List Pn} {W H : Int} (d : Desk ps W H) {i : Nat} {p : Pn} (h : ps[i]? = some p) : 0 ≤ p.x0 ∧ p.x0 < p.x1 ∧ p.x1 ≤ W ∧ 0 ≤ p.y0 ∧ p.y0 < p.y1 ∧ p.y1 ≤ H := by
  have hm := List.mem_of_getElem? h
  have := d.v.pos p hm
  have := d.le p hm
  omega
theorem sep_at {ps : List Pn} {W H : Int} (d : Desk ps W H) {i j : Nat} {p q : Pn} (h : ps[i]? = some p) (k : ps[j]? = some q) (n : i ≠ j) : ¬ Ov p q := by
  obtain ⟨h1, h2⟩ := List.getElem?_eq_some_iff.mp h
  obtain ⟨k1, k2⟩ := List.getElem?_eq_some_iff.mp k
  have pw := List.pairwise_iff_getElem.mp d.v.sep
  by_cases c : i < j
  · have := pw i j h1 k1 c
    rwa [h2, k2] at this
  · have := pw j i k1 h1 (by omega)
    rw [h2, k2] at this
    exact fun o => this o.symm
theorem srt_of {L B : List Bar} (hp : L.Perm B) (ids : B.Pairwise fun s t => s.id ≠ t.id) (hs : L.Pairwise Lex) (k : ∀ s ∈ B, ∀ t ∈ B, s.id ≠ t.id → Lex s t → s.Lt t) : L.Pairwise Bar.Lt := by
  have ids2 : L.Pairwise fun s t => s.id ≠ t.id := pw_perm (fun a b h => h.symm) hp.symm ids
  have mem : ∀ s ∈ L, s ∈ B := fun s hs => hp.mem_iff.mp hs
  clear hp ids
  induction L with
  | nil => exact .nil
  | cons u us ih =>
    obtain ⟨a1, a2⟩ := List.pairwise_cons.mp hs
    obtain ⟨b1, b2⟩ := List.pairwise_cons.mp ids2
    exact List.pairwise_cons.mpr ⟨fun v hv => k u (mem u List.mem_cons_self) v (mem v (List.mem_cons_of_mem _ hv)) (b1 v hv) (a1 v hv), ih a2 b2 fun s hs => mem s (List.mem_cons_of_mem _ hs)⟩
theorem Desk.ahead {ps : List Pn} {W H : Int} (d : Desk ps W H) {L : List Bar} (hp : L.Perm (aheadB ps)) (hs : L.Pairwise Lex) : Bars L := by
  refine ⟨fun s h => ?_, srt_of hp (ids_nodup fun _ => rfl) hs fun s h t k n l => ?_⟩
  · obtain ⟨p, h1, _, h2, h3⟩ := mem_ahead.mp (hp.mem_iff.mp h)
    have := pos_at d h1
    omega
  · obtain ⟨p, h1, h2, h3, h4⟩ := mem_ahead.mp h
    obtain ⟨q, k1, k2, k3, k4⟩ := mem_ahead.mp k
    have a := pos_at d h1
    have b := pos_at d k1
    have c := sep_at d h1 k1 n
    rcases l with l | ⟨l1, l2⟩
    · exact .inl l
    · refine .inr ⟨l1, ?_⟩
      by_cases z : s.b ≤ t.a
      · exact z
      · exact absurd ⟨by omega, by omega, by omega, by omega⟩ c
theorem Desk.behind {ps : List Pn} {W H : Int} (d : Desk ps W H) {L : List Bar} (hp : L.Perm (behindB ps)) (hs : L.Pairwise Lex) : Bars L := by
  refine ⟨fun s h => ?_, srt_of hp (ids_nodup fun _ => rfl) hs fun s h t k n l => ?_⟩
  · obtain ⟨p, h1, _, h2, h3⟩ := mem_behind.mp (hp.mem_iff.mp h)
    have := pos_at d h1
    omega
  · obtain ⟨p, h1, h2, h3, h4⟩ := mem_behind.mp h
    obtain ⟨q, k1, k2, k3, k4⟩ := mem_behind.mp k
    have a := pos_at d h1
    have b := pos_at d k1
    have c := sep_at d h1 k1 n
    rcases l with l | ⟨l1, l2⟩
    · exact .inl l
    · refine .inr ⟨l1, ?_⟩
      by_cases z : s.b ≤ t.a
      · exact z
      · exact absurd ⟨by omega, by omega, by omega, by omega⟩ c
theorem Desk.two {ps : List Pn} {W H : Int} (d : Desk ps W H) {L M : List Bar} (hL : L.Perm (aheadB ps)) (sL : L.Pairwise Lex) (hM : M.Perm (behindB ps)) (sM : M.Pairwise Lex) : Two L M where
  l := d.ahead hL sL
  m := d.behind hM sM
  cell := fun s hs t ht ex j => by
    obtain ⟨p, h1, h2, h3, h4⟩ := mem_ahead.mp (hL.mem_iff.mp hs)
    obtain ⟨q, k1, k2, k3, k4⟩ := mem_behind.mp (hM.mem_iff.mp ht)
    have a := pos_at d h1
    have b := pos_at d k1
    constructor
    · rintro ⟨u, hu, ux, u1, u2⟩
      obtain ⟨p', e1, e2, e3, e4⟩ := mem_ahead.mp (hL.mem_iff.mp hu)
      have a' := pos_at d e1
      obtain ⟨q', hq, ⟨c1, c2⟩, c3, c4⟩ := d.at_ (i := s.x) (j := j) ⟨⟨by omega, by omega⟩, by omega, by omega⟩
      obtain ⟨i, hi⟩ := List.getElem?_of_mem hq
      have ne : u.id ≠ i := fun e => by
        rw [e] at e1
        have := Option.some.inj (e1.symm.trans hi)
        subst this
        omega
      have sp := sep_at d e1 hi ne
      refine ⟨⟨q'.x0, q'.y0, q'.y1, i⟩, hM.mem_iff.mpr (mem_behind.mpr ⟨q', hi, rfl, rfl, rfl⟩), ?_, c3, c4⟩
      by_cases z : q'.x0 = s.x
      · exact z
      · exact absurd ⟨by omega, by omega, by omega, by omega⟩ sp
    · rintro ⟨u, hu, ux, u1, u2⟩
      obtain ⟨q', e1, e2, e3, e4⟩ := mem_behind.mp (hM.mem_iff.mp hu)
      have a' := pos_at d e1
      obtain ⟨p', hq, ⟨c1, c2⟩, c3, c4⟩ := d.at_ (i := s.x - 1) (j := j) ⟨⟨by omega, by omega⟩, by omega, by omega⟩
      obtain ⟨i, hi⟩ := List.getElem?_of_mem hq
      have ne : u.id ≠ i := fun e => by
        rw [e] at e1
        have := Option.some.inj (e1.symm.trans hi)
        subst this
        omega
      have sp := sep_at d e1 hi ne
      refine ⟨⟨p'.x1, p'.y0, p'.y1, i⟩, hL.mem_iff.mpr (mem_ahead.mpr ⟨p', hi, rfl, rfl, rfl⟩), ?_, c3, c4⟩
      by_cases z : p'.x1 = s.x
      · exact z
      · exact absurd ⟨by omega, by omega, by omega, by omega⟩ sp
  four := fun p hp p' hp' q hq q' hq' x1 x2 x3 e1 e2 e3 => by
    obtain ⟨P, a1, a2, a3, a4⟩ := mem_ahead.mp (hL.mem_iff.mp hp)
    obtain ⟨P', b1, b2, b3, b4⟩ := mem_ahead.mp (hL.mem_iff.mp hp')
    obtain ⟨Q, c1, c2, c3, c4⟩ := mem_behind.mp (hM.mem_iff.mp hq)
    obtain ⟨Q', d1, d2, d3, d4⟩ := mem_behind.mp (hM.mem_iff.mp hq')
    have h3 := d.v.cnt p.x p.b
    have hs := sum_cor (p.x, p.b) (ps := ps) fun p hp => ⟨(d.v.pos p hp).2.1, (d.v.pos p hp).2.2.2⟩
    have t1 : 1 ≤ (ps.map Pn.br).count (p.x, p.b) := List.one_le_count_iff.mpr (List.mem_map.mpr ⟨P, List.mem_of_getElem? a1, by unfold Pn.br; rw [a2, a4]⟩)
    have t2 : 1 ≤ (ps.map Pn.tr).count (p.x, p.b) := List.one_le_count_iff.mpr (List.mem_map.mpr ⟨P', List.mem_of_getElem? b1, by unfold Pn.tr; rw [x1, b2, e1, b3]⟩)
    have t3 : 1 ≤ (ps.map Pn.bl).count (p.x, p.b) := List.one_le_count_iff.mpr (List.mem_map.mpr ⟨Q, List.mem_of_getElem? c1, by unfold Pn.bl; rw [x2, c2, e3, c4]⟩)
    have t4 : 1 ≤ (ps.map Pn.tl).count (p.x, p.b) := List.one_le_count_iff.mpr (List.mem_map.mpr ⟨Q', List.mem_of_getElem? d1, by unfold Pn.tl; rw [x3, d2, e3, e2, d3]⟩)
    dsimp only at hs
    omega
/-- pane i ends at its right side where pane j begins, and they share a stretch -/
def TouchX (ps : List Pn) (i j : Nat) : Prop := ∃ P Q, ps[i]? = some P ∧ ps[j]? = some Q ∧ P.x1 = Q.x0 ∧ P.y0 < Q.y1 ∧ Q.y0 < P.y1
def idsOf (L M : List Bar) : List (Nat × Nat) := (pairsOf L M).map fun u => (u.1.id, u.2.id)
theorem Desk.ids {ps : List Pn} {W H : Int} (d : Desk ps W H) {L M : List Bar} (hL : L.Perm (aheadB ps)) (sL : L.Pairwise Lex) (hM : M.Perm (behindB ps)) (sM : M.Pairwise Lex) :
    (∀ i j, (i, j) ∈ idsOf L M ↔ TouchX ps i j) ∧ (idsOf L M).Nodup := by
  have t := d.two hL sL hM sM
  refine ⟨fun i j => ?_, ?_⟩
  · unfold idsOf
    rw [List.mem_map]
    constructor
    · rintro ⟨⟨p, q⟩, hm, e⟩
      obtain ⟨rfl, rfl⟩ := Prod.mk.inj e
      obtain ⟨h1, h2, h3, h4, h5⟩ := (t.mem p q).mp hm
      obtain ⟨P, a1, a2, a3, a4⟩ := mem_ahead.mp (hL.mem_iff.mp h1)
      obtain ⟨Q, b1, b2, b3, b4⟩ := mem_behind.mp (hM.mem_iff.mp h2)
      exact ⟨P, Q, a1, b1, by omega, by omega, by omega⟩
    · rintro ⟨P, Q, a1, b1, h1, h2, h3⟩
      exact ⟨(⟨P.x1, P.y0, P.y1, i⟩, ⟨Q.x0, Q.y0, Q.y1, j⟩), (t.mem _ _).mpr ⟨hL.mem_iff.mpr (mem_ahead.mpr ⟨P, a1, rfl, rfl, rfl⟩), hM.mem_iff.mpr (mem_behind.mpr ⟨Q, b1, rfl, rfl, rfl⟩), h1, h2, h3⟩, rfl⟩
  · have nd := t.nodup
    unfold idsOf
    rw [List.Nodup, List.pairwise_map]
    have : (pairsOf L M).Pairwise fun u v => u ≠ v ∧ u ∈ pairsOf L M ∧ v ∈ pairsOf L M := by
      have gen : ∀ G : List (Bar × Bar), (∀ g ∈ G, g ∈ pairsOf L M) → G.Nodup → G.Pairwise fun u v => u ≠ v ∧ u ∈ pairsOf L M ∧ v ∈ pairsOf L M := by
        intro G
        induction G with
        | nil => exact fun _ _ => .nil
        | cons u us ih =>
          intro hG hp
          obtain ⟨h1, h2⟩ := List.pairwise_cons.mp hp
          exact List.pairwise_cons.mpr ⟨fun v hv => ⟨h1 v hv, hG u List.mem_cons_self, hG v (List.mem_cons_of_mem _ hv)⟩, ih (fun g hg => hG g (List.mem_cons_of_mem _ hg)) h2⟩
      exact gen _ (fun g hg => hg) nd
    refine this.imp fun {u v} ⟨n, hu, hv⟩ e => n ?_
    obtain ⟨h1, h2, _⟩ := (t.mem u.1 u.2).mp hu
    obtain ⟨k1, k2, _⟩ := (t.mem v.1 v.2).mp hv
    obtain ⟨e1, e2⟩ := Prod.mk.inj e
    obtain ⟨P, a1, a2, a3, a4⟩ := mem_ahead.mp (hL.mem_iff.mp h1)
    obtain ⟨P', b1, b2, b3, b4⟩ := mem_ahead.mp (hL.mem_iff.mp k1)
    obtain ⟨Q, c1, c2, c3, c4⟩ := mem_behind.mp (hM.mem_iff.mp h2)
    obtain ⟨Q', d1, d2, d3, d4⟩ := mem_behind.mp (hM.mem_iff.mp k2)
    rw [e1] at a1
    rw [e2] at c1
    obtain rfl := Option.some.inj (a1.symm.trans b1)
    obtain rfl := Option.some.inj (c1.symm.trans d1)
    obtain ⟨⟨u1, u2, u3, u4⟩, v1, v2, v3, v4⟩ := u
    obtain ⟨⟨w1, w2, w3, w4⟩, z1, z2, z3, z4⟩ := v
    simp_all
theorem Desk.swap {ps : List Pn} {W H : Int} (d : Desk ps W H) : Desk (ps.map Pn.swap) H W where
  v := {
    len := by rw [List.length_map]; exact d.v.len
    pos := fun p hp => by
      obtain ⟨q, hq, rfl⟩ := List.mem_map.mp hp
      have := d.v.pos q hq
      exact ⟨this.2.2.1, this.2.2.2, this.1, this.2.1⟩
    sep := by
      rw [List.pairwise_map]
      exact d.v.sep.imp fun {p q} n o => n (ov_swap o)
    full := ⟨H, W, fun p hp => by
      obtain ⟨q, hq, rfl⟩ := List.mem_map.mp hp
      have := d.le q hq
      exact ⟨this.2, this.1⟩, by
      obtain ⟨q, hq, e⟩ := d.h
      exact ⟨_, List.mem_map_of_mem hq, e⟩, by
      obtain ⟨q, hq, e⟩ := d.w
      exact ⟨_, List.mem_map_of_mem hq, e⟩, by
      have e : areas (ps.map Pn.swap) = areas ps := by
        unfold areas
        rw [List.map_map]
        exact congrArg List.sum (List.map_congr_left fun p _ => area_swap p)
      rw [e, d.ar, Int.mul_comm]⟩
    cnt := fun x y => by
      rw [List.countP_map]
      have : (Cor x y ∘ Pn.swap) = Cor y x := funext fun p => cor_swap x y p
      rw [this]
      exact d.v.cnt y x }
  le := fun p hp => by
    obtain ⟨q, hq, rfl⟩ := List.mem_map.mp hp
    have := d.le q hq
    exact ⟨this.2, this.1⟩
  w := by
    obtain ⟨q, hq, e⟩ := d.h
    exact ⟨_, List.mem_map_of_mem hq, e⟩
  h := by
    obtain ⟨q, hq, e⟩ := d.w
    exact ⟨_, List.mem_map_of_mem hq, e⟩
  ar := by
    have e : areas (ps.map Pn.swap) = areas ps := by
      unfold areas
      rw [List.map_map]
      exact congrArg List.sum (List.map_congr_left fun p _ => area_swap p)
    rw [e, d.ar, Int.mul_comm]
end Geo
set_option linter.all false
set_option maxHeartbeats 1000000
/-! # all pairs that touch, ascending -/
namespace Geo
def mm (u : Nat × Nat) : Nat × Nat := if u.1 ≤ u.2 then u else (u.2, u.1)
/-- a stretch of a side in common -/
def touchB (P Q : Pn) : Bool :=
  (decide (P.x1 = Q.x0) && (decide (P.y0 < Q.y1) && decide (Q.y0 < P.y1))) || (decide (Q.x1 = P.x0) && (decide (P.y0 < Q.y1) && decide (Q.y0 < P.y1))) ||
    ((decide (P.y1 = Q.y0) && (decide (P.x0 < Q.x1) && decide (Q.x0 < P.x1))) || (decide (Q.y1 = P.y0) && (decide (P.x0 < Q.x1) && decide (Q.x0 < P.x1))))
def touchAt (ps : List Pn) (i j : Nat) : Bool := match ps[i]?, ps[j]? with
  | some P, some Q => touchB P Q
  | _, _ => false
def dueF (ps : List Pn) : List (Nat × Nat) := (List.range ps.length).flatMap fun i => ((List.range' (i + 1) (ps.length - (i + 1))).filter fun j => touchAt ps i j).map fun j => (i, j)
theorem swap_at {ps : List Pn} {i : Nat} {P : Pn} : (ps.map Pn.swap)[i]? = some P ↔ ∃ p, ps[i]? = some p ∧ P = p.swap := by
  rw [List.getElem?_map]
  cases ps[i]? with
  | none => simp
  | some p =>
    simp
    exact ⟨fun h => h.symm, fun h => h.symm⟩
theorem touch_iff {ps : List Pn} {i j : Nat} : touchAt ps i j = true ↔ (TouchX ps i j ∨ TouchX ps j i) ∨ (TouchX (ps.map Pn.swap) i j ∨ TouchX (ps.map Pn.swap) j i) := by
  unfold touchAt TouchX
  cases h : ps[i]? with
  | none =>
    simp [h]
  | some P =>
    cases k : ps[j]? with
    | none => simp [k]
    | some Q =>
      have hs : (ps.map Pn.swap)[i]? = some P.swap := swap_at.mpr ⟨P, h, rfl⟩
      have ks : (ps.map Pn.swap)[j]? = some Q.swap := swap_at.mpr ⟨Q, k, rfl⟩
      simp only [hs, ks]
      unfold touchB
      simp only [Bool.or_eq_true, Bool.and_eq_true, decide_eq_true_eq]
      constructor
      · rintro ((⟨a, b, c⟩ | ⟨a, b, c⟩) | (⟨a, b, c⟩ | ⟨a, b, c⟩))
        · exact .inl (.inl ⟨P, Q, rfl, rfl, a, b, c⟩)
        · exact .inl (.inr ⟨Q, P, rfl, rfl, a, c, b⟩)
        · exact .inr (.inl ⟨_, _, rfl, rfl, a, b, c⟩)
        · exact .inr (.inr ⟨_, _, rfl, rfl, a, c, b⟩)
      · rintro ((⟨A, B, e1, e2, a, b, c⟩ | ⟨A, B, e1, e2, a, b, c⟩) | (⟨A, B, e1, e2, a, b, c⟩ | ⟨A, B, e1, e2, a, b, c⟩)) <;> obtain rfl := Option.some.inj e1 <;> obtain rfl := Option.some.inj e2
        · exact .inl (.inl ⟨a, b, c⟩)
        · exact .inl (.inr ⟨a, c, b⟩)
        · exact .inr (.inl ⟨a, b, c⟩)
        · exact .inr (.inr ⟨a, c, b⟩)
theorem TouchX.ne {ps : List Pn} {W H : Int} (d : Desk ps W H) {i j : Nat} (h : TouchX ps i j) : i ≠ j ∧ ¬ TouchX ps j i ∧ ¬ TouchX (ps.map Pn.swap) i j ∧ ¬ TouchX (ps.map Pn.swap) j i := by
  obtain ⟨P, Q, h1, h2, h3, h4, h5⟩ := h
  have a := pos_at d h1
  have b := pos_at d h2
  refine ⟨fun e => ?_, fun ⟨A, B, k1, k2, k3, k4, k5⟩ => ?_, fun ⟨A, B, k1, k2, k3, k4, k5⟩ => ?_, fun ⟨A, B, k1, k2, k3, k4, k5⟩ => ?_⟩
  · rw [e] at h1
    obtain rfl := Option.some.inj (h1.symm.trans h2)
    omega
  · obtain rfl := Option.some.inj (k1.symm.trans h2)
    obtain rfl := Option.some.inj (k2.symm.trans h1)
    omega
  · obtain ⟨p, e1, rfl⟩ := swap_at.mp k1
    obtain ⟨q, e2, rfl⟩ := swap_at.mp k2
    obtain rfl := Option.some.inj (e1.symm.trans h1)
    obtain rfl := Option.some.inj (e2.symm.trans h2)
    simp only [Pn.swap] at k3 k4 k5
    omega
  · obtain ⟨p, e1, rfl⟩ := swap_at.mp k1
    obtain ⟨q, e2, rfl⟩ := swap_at.mp k2
    obtain rfl := Option.some.inj (e1.symm.trans h2)
    obtain rfl := Option.some.inj (e2.symm.trans h1)
    simp only [Pn.swap] at k3 k4 k5
    omega
theorem swap_swap_map (ps : List Pn) : (ps.map Pn.swap).map Pn.swap = ps := map_swap2 ps
theorem mm_mem {I : List (Nat × Nat)} (ne : ∀ u ∈ I, u.1 ≠ u.2) (a b : Nat) : (a, b) ∈ I.map mm ↔ a < b ∧ ((a, b) ∈ I ∨ (b, a) ∈ I) := by
  rw [List.mem_map]
  constructor
  · rintro ⟨⟨c, e⟩, h, k⟩
    have := ne _ h
    unfold mm at k
    dsimp only at k this
    split at k
    · obtain ⟨rfl, rfl⟩ := Prod.mk.inj k
      exact ⟨by omega, .inl h⟩
    · obtain ⟨rfl, rfl⟩ := Prod.mk.inj k
      exact ⟨by omega, .inr h⟩
  · rintro ⟨h, k | k⟩
    · exact ⟨_, k, by unfold mm; rw [if_pos (show a ≤ b by omega)]⟩
    · exact ⟨_, k, by unfold mm; rw [if_neg (show ¬ b ≤ a by omega)]⟩
theorem mm_nodup {I : List (Nat × Nat)} (nd : I.Nodup) (h : ∀ u ∈ I, (u.2, u.1) ∉ I) : (I.map mm).Nodup := by
  rw [List.Nodup, List.pairwise_map]
  have gen : ∀ G : List (Nat × Nat), (∀ g ∈ G, g ∈ I) → G.Nodup → G.Pairwise fun u v => mm u ≠ mm v := by
    intro G
    induction G with
    | nil => exact fun _ _ => .nil
    | cons u us ih =>
      intro hG hp
      obtain ⟨h1, h2⟩ := List.pairwise_cons.mp hp
      refine List.pairwise_cons.mpr ⟨fun v hv e => ?_, ih (fun g hg => hG g (List.mem_cons_of_mem _ hg)) h2⟩
      have n := h1 v hv
      have hu := hG u List.mem_cons_self
      have hv2 := hG v (List.mem_cons_of_mem _ hv)
      obtain ⟨a, b⟩ := u
      obtain ⟨c, e2⟩ := v
      have k1 := h _ hu
      unfold mm at e
      dsimp only at e k1
      split at e <;> split at e
      · exact n e
      · obtain ⟨rfl, rfl⟩ := Prod.mk.inj e
        exact k1 hv2
      · obtain ⟨rfl, rfl⟩ := Prod.mk.inj e
        exact k1 hv2
      · obtain ⟨rfl, rfl⟩ := Prod.mk.inj e
        exact n rfl
  exact gen I (fun g hg => hg) nd
def LtP (u v : Nat × Nat) : Prop := u.1 < v.1 ∨ (u.1 = v.1 ∧ u.2 < v.2)
theorem due_mem {ps : List Pn} (a b : Nat) : (a, b) ∈ dueF ps ↔ a < b ∧ b < ps.length ∧ touchAt ps a b = true := by
  unfold dueF
  rw [List.mem_flatMap]
  constructor
  · rintro ⟨i, hi, h⟩
    obtain ⟨j, hj, e⟩ := List.mem_map.mp h
    obtain ⟨rfl, rfl⟩ := Prod.mk.inj e
    obtain ⟨h1, h2⟩ := List.mem_filter.mp hj
    have := List.mem_range'_1.mp h1
    have := List.mem_range.mp hi
    exact ⟨by omega, by omega, h2⟩
  · rintro ⟨h1, h2, h3⟩
    exact ⟨a, List.mem_range.mpr (by omega), List.mem_map.mpr ⟨b, List.mem_filter.mpr ⟨List.mem_range'_1.mpr ⟨by omega, by omega⟩, h3⟩, rfl⟩⟩
theorem pw_flat {α β : Type} {R : β → β → Prop} {f : α → List β} : ∀ {l : List α}, (∀ a ∈ l, (f a).Pairwise R) → (l.Pairwise fun a b => ∀ x ∈ f a, ∀ y ∈ f b, R x y) → (l.flatMap f).Pairwise R
  | [], _, _ => .nil
  | a :: r, h, k => by
    obtain ⟨k1, k2⟩ := List.pairwise_cons.mp k
    rw [List.flatMap_cons]
    refine List.pairwise_append.mpr ⟨h a List.mem_cons_self, pw_flat (fun b hb => h b (List.mem_cons_of_mem _ hb)) k2, fun x hx y hy => ?_⟩
    obtain ⟨b, hb, hy2⟩ := List.mem_flatMap.mp hy
    exact k1 b hb x hx y hy2
theorem due_srt (ps : List Pn) : (dueF ps).Pairwise LtP := by
  unfold dueF
  refine pw_flat (fun i _ => ?_) ?_
  · rw [List.pairwise_map]
    refine ((List.pairwise_lt_range').filter _).imp fun {a b} h => .inr ⟨rfl, h⟩
  · refine (List.pairwise_lt_range).imp fun {a b} h x hx y hy => ?_
    obtain ⟨_, _, rfl⟩ := List.mem_map.mp hx
    obtain ⟨_, _, rfl⟩ := List.mem_map.mp hy
    exact .inl h
theorem perm_of {α : Type} [DecidableEq α] {l m : List α} (hl : l.Nodup) (hm : m.Nodup) (h : ∀ a, a ∈ l ↔ a ∈ m) : l.Perm m := by
  rw [List.perm_iff_count]
  intro a
  have h1 := List.nodup_iff_count.mp hl a
  have h2 := List.nodup_iff_count.mp hm a
  have h3 : 0 < l.count a ↔ 0 < m.count a := by rw [List.count_pos_iff, List.count_pos_iff, h]
  omega
/-- the pairs that are found along the lines, those of level lines first, are those that are due -/
theorem Desk.due {ps : List Pn} {W H : Int} (d : Desk ps W H) {L M L2 M2 : List Bar} (hL : L.Perm (aheadB ps)) (sL : L.Pairwise Lex) (hM : M.Perm (behindB ps)) (sM : M.Pairwise Lex)
    (hL2 : L2.Perm (aheadB (ps.map Pn.swap))) (sL2 : L2.Pairwise Lex) (hM2 : M2.Perm (behindB (ps.map Pn.swap))) (sM2 : M2.Pairwise Lex) : (dueF ps).Perm ((idsOf L2 M2 ++ idsOf L M).map mm) := by
  obtain ⟨m1, n1⟩ := d.ids hL sL hM sM
  obtain ⟨m2, n2⟩ := d.swap.ids hL2 sL2 hM2 sM2
  have inI : ∀ i j, (i, j) ∈ idsOf L2 M2 ++ idsOf L M ↔ TouchX (ps.map Pn.swap) i j ∨ TouchX ps i j := fun i j => by rw [List.mem_append, m1, m2]
  have two : ∀ {i j}, TouchX (ps.map Pn.swap) i j → i ≠ j ∧ ¬ TouchX (ps.map Pn.swap) j i ∧ ¬ TouchX ps i j ∧ ¬ TouchX ps j i := fun {i j} h => by
    have := h.ne d.swap
    rw [swap_swap_map] at this
    exact this
  have nd : (idsOf L2 M2 ++ idsOf L M).Nodup := List.nodup_append.mpr ⟨n2, n1, fun u hu v hv e => by
    subst e
    obtain ⟨i, j⟩ := u
    exact (two ((m2 i j).mp hu)).2.2.1 ((m1 i j).mp hv)⟩
  have ne : ∀ u ∈ idsOf L2 M2 ++ idsOf L M, u.1 ≠ u.2 := fun ⟨i, j⟩ hu => by
    rcases (inI i j).mp hu with h | h
    · exact (two h).1
    · exact (h.ne d).1
  refine perm_of ((due_srt ps).imp fun {u v} h e => ?_) (mm_nodup nd fun ⟨i, j⟩ hu hv => ?_) fun ⟨a, b⟩ => ?_
  · subst e
    rcases h with h | h <;> omega
  · rcases (inI i j).mp hu with h | h <;> rcases (inI j i).mp hv with k | k
    · exact (two h).2.1 k
    · exact (two h).2.2.2 k
    · exact (h.ne d).2.2.2 k
    · exact (h.ne d).2.1 k
  · rw [due_mem, mm_mem ne, inI, inI, touch_iff]
    constructor
    · rintro ⟨h1, h2, (h | h) | (h | h)⟩
      · exact ⟨h1, .inl (.inr h)⟩
      · exact ⟨h1, .inr (.inr h)⟩
      · exact ⟨h1, .inl (.inl h)⟩
      · exact ⟨h1, .inr (.inl h)⟩
    · rintro ⟨h1, h⟩
      have hl : ∀ {ps : List Pn} {i j}, TouchX ps i j → i < ps.length ∧ j < ps.length := fun {ps i j} ⟨P, Q, a, b, _⟩ => ⟨(List.getElem?_eq_some_iff.mp a).1, (List.getElem?_eq_some_iff.mp b).1⟩
      rcases h with (h | h) | (h | h)
      · have := hl h
        rw [List.length_map] at this
        exact ⟨h1, this.2, .inr (.inl h)⟩
      · exact ⟨h1, (hl h).2, .inl (.inl h)⟩
      · have := hl h
        rw [List.length_map] at this
        exact ⟨h1, this.1, .inr (.inr h)⟩
      · exact ⟨h1, (hl h).1, .inl (.inr h)⟩
end Geo
set_option linter.all false
set_option maxHeartbeats 1000000
/-! # runs, bar by bar from the front -/
namespace Geo
def endO (L : List Bar) : Option (Int × Int) := L.getLast?.map fun t => (t.x, t.b)
def appLast (s : Bar) : List (List Bar) → List (List Bar)
  | [] => [[s]]
  | [g] => [g ++ [s]]
  | g :: h :: r => g :: appLast s (h :: r)
theorem runs_nil {L : List Bar} (h : runs L = []) : L = [] := by
  have := runs_flat L
  rw [h] at this
  exact this.symm
theorem runs_step (s : Bar) : ∀ L : List Bar, runs (L ++ [s]) = if endO L = some (s.x, s.a) then appLast s (runs L) else runs L ++ [[s]]
  | [] => rfl
  | [t] => by
    show runs [t, s] = _
    simp only [runs, endO, List.getLast?_singleton, Option.map_some, Option.some.injEq]
    by_cases c : (t.x, t.b) = (s.x, s.a)
    · rw [if_pos c, if_pos c]
      rfl
    · rw [if_neg c, if_neg c]
      rfl
  | t :: u :: r => by
    have ih := runs_step s (u :: r)
    have e : endO (t :: u :: r) = endO (u :: r) := by
      unfold endO
      rw [List.getLast?_cons_cons]
    rw [e]
    rcases runs_cons t (u :: r) with ⟨h1, _⟩ | ⟨v, g, gs, h1, h2⟩
    · cases runs_nil h1
    · rcases runs_cons t (u :: r ++ [s]) with ⟨k1, _⟩ | ⟨v', g', gs', k1, k2⟩
      · cases runs_nil k1
      · show runs (t :: (u :: r ++ [s])) = _
        rw [k2, h2]
        rw [k1, h1] at ih
        by_cases c : endO (u :: r) = some (s.x, s.a)
        · rw [if_pos c] at ih ⊢
          cases gs with
          | nil =>
            injection ih with a b
            subst b
            injection a with a1 a2
            subst a1 a2
            split <;> rfl
          | cons g2 gs =>
            injection ih with a b
            injection a with a1 a2
            subst a1 a2 b
            split <;> rfl
        · rw [if_neg c] at ih ⊢
          injection ih with a b
          injection a with a1 a2
          subst a1 a2 b
          split <;> rfl
/-- the groups with the keys they stand at -/
def GsF (L : List Bar) : List ((Int × Int) × List Int) := (runs L).map fun g => (beg g, g.map fun s => (s.id : Int))
theorem gs_new {L : List Bar} {s : Bar} (h : endO L ≠ some (s.x, s.a)) : GsF (L ++ [s]) = GsF L ++ [((s.x, s.a), [(s.id : Int)])] := by
  unfold GsF
  rw [runs_step, if_neg h, List.map_append]
  rfl
theorem appLast_eq (s : Bar) : ∀ (G : List (List Bar)) (g : List Bar), appLast s (G ++ [g]) = G ++ [g ++ [s]]
  | [], g => rfl
  | h :: r, g => by
    have ih := appLast_eq s r g
    cases r with
    | nil => rfl
    | cons k r =>
      show h :: appLast s (k :: r ++ [g]) = _
      rw [ih]
      rfl
theorem beg_snoc {g : List Bar} {s : Bar} (h : g ≠ []) : beg (g ++ [s]) = beg g := by
  cases g with
  | nil => exact absurd rfl h
  | cons t g => rfl
theorem gs_app {L : List Bar} {s : Bar} (h : endO L = some (s.x, s.a)) {G : List ((Int × Int) × List Int)} {k : Int × Int} {ids : List Int} (e : GsF L = G ++ [(k, ids)]) : GsF (L ++ [s]) = G ++ [(k, ids ++ [(s.id : Int)])] := by
  unfold GsF at e ⊢
  rw [runs_step, if_pos h]
  obtain ⟨A, B, e1, e2, e3⟩ := List.map_eq_append_iff.mp e
  obtain ⟨b, r, rfl, e4, e5⟩ := List.map_eq_cons_iff.mp e3
  obtain rfl := List.map_eq_nil_iff.mp e5
  have ne : b ≠ [] := runs_ne L b (by rw [e1]; simp)
  rw [e1, appLast_eq, List.map_append, e2]
  injection e4 with e6 e7
  show G ++ [(beg (b ++ [s]), (b ++ [s]).map fun s => (s.id : Int))] = _
  rw [beg_snoc ne, List.map_append, e6, e7]
  rfl
theorem gs_ne {L : List Bar} (h : L ≠ []) : ∃ G k ids, GsF L = G ++ [(k, ids)] := by
  have ne : GsF L ≠ [] := fun e => h (runs_nil (List.map_eq_nil_iff.mp e))
  refine ⟨(GsF L).dropLast, ((GsF L).getLast ne).1, ((GsF L).getLast ne).2, ?_⟩
  exact (List.dropLast_concat_getLast ne).symm
theorem beg_mem {L : List Bar} {g : List Bar} (h : g ∈ runs L) : ∃ s ∈ g, beg g = (s.x, s.a) := by
  have := runs_ne L g h
  cases g with
  | nil => exact absurd rfl this
  | cons s g => exact ⟨s, List.mem_cons_self, rfl⟩
theorem gs_nd {L : List Bar} (h : Bars L) : ((GsF L).map (·.1)).Nodup := by
  unfold GsF
  rw [List.map_map, List.Nodup, List.pairwise_map]
  refine (runs_far h).pw.imp_of_mem fun {g g'} hg hg' lt e => ?_
  obtain ⟨s, hs, e1⟩ := beg_mem hg
  obtain ⟨t, ht, e2⟩ := beg_mem hg'
  change beg g = beg g' at e
  rw [e1, e2] at e
  injection e with e3 e4
  have p := h.pos s (runs_sub hg s hs)
  rcases lt s hs t ht with q | ⟨q1, q2⟩
  · omega
  · omega
theorem gs_fresh {L : List Bar} {s : Bar} (h : Bars (L ++ [s])) (c : endO L ≠ some (s.x, s.a)) : (s.x, s.a) ∉ (GsF L).map (·.1) := by
  have n := gs_nd h
  rw [gs_new c, List.map_append] at n
  have := (List.nodup_append.mp n).2.2
  exact fun hm => this _ hm _ (List.mem_singleton.mpr rfl) rfl
theorem Bars.pre {L M : List Bar} (h : Bars (L ++ M)) : Bars L := ⟨fun s hs => h.pos s (List.mem_append_left _ hs), (List.pairwise_append.mp h.srt).1⟩
theorem gs_len {L : List Bar} {k : Int × Int} {ids : List Int} (h : (k, ids) ∈ GsF L) : ids.length ≤ L.length := by
  unfold GsF at h
  obtain ⟨g, hg, e⟩ := List.mem_map.mp h
  injection e with e1 e2
  rw [← e2, List.length_map]
  have := (List.sublist_flatten_of_mem hg).length_le
  rw [runs_flat] at this
  exact this
theorem endO_snoc (L : List Bar) (s : Bar) : endO (L ++ [s]) = some (s.x, s.b) := by
  unfold endO
  rw [List.getLast?_concat]
  rfl
end Geo
set_option Elab.async false
set_option linter.all false
set_option maxRecDepth 100000
set_option maxHeartbeats 8000000
/-! # stretches joined to lines: join_stretches -/
namespace GL
open PySem PySem.Spec PyProof.Rows L2 Geo Rel
def barL (s : Bar) : List Int := [s.x, s.a, s.b, (s.id : Int)]

def kyJ (k : Int × Int) : List L2.Key := [.inl k.1, .inl k.2]
theorem kyJ_inj {a b : Int × Int} (h : kyJ a = kyJ b) : a = b := by
  unfold kyJ at h
  injection h with h1 h2
  injection h2 with h2 _
  injection h1 with h1
  injection h2 with h2
  exact Prod.ext h1 h2
theorem kyJ_map (k : Int × Int) : (kyJ k).map kV = [k.1, k.2].map V.int := rfl
abbrev GJ := (Int × Int) × List Int
def kvJ (Gs : List GJ) (as : List Addr) : List (List L2.Key × V) := (Gs.zip as).map fun u => (kyJ u.1.1, .ref u.2)
theorem kvJ_snoc {Gs : List GJ} {as : List Addr} (g : GJ) (a : Addr) (h : as.length = Gs.length) : kvJ (Gs ++ [g]) (as ++ [a]) = kvJ Gs as ++ [(kyJ g.1, .ref a)] := by
  unfold kvJ
  rw [List.zip_append h.symm, List.map_append]
  rfl
theorem kvJ_keys {Gs : List GJ} {as : List Addr} {kv : List L2.Key × V} (h : kv ∈ kvJ Gs as) : ∃ g ∈ Gs, kv.1 = kyJ g.1 := by
  unfold kvJ at h
  obtain ⟨u, hu, rfl⟩ := List.mem_map.mp h
  exact ⟨u.1, (List.of_mem_zip (a := u.1) (b := u.2) hu).1, rfl⟩
theorem kvJ_len {Gs : List GJ} {as : List Addr} (h : as.length = Gs.length) : (kvJ Gs as).length = Gs.length := by
  unfold kvJ
  rw [List.length_map, List.length_zip, h]
  omega
theorem kvJ_no {Gs : List GJ} {as : List Addr} {k : Int × Int} (h : k ∉ Gs.map (·.1)) : valV (kvJ Gs as) (kyJ k) = none := by
  unfold valV
  rw [List.find?_eq_none.mpr fun kv hk e => ?_]
  · rfl
  · obtain ⟨g, hg, e2⟩ := kvJ_keys hk
    rw [e2] at e
    exact h (kyJ_inj (of_decide_eq_true e) ▸ List.mem_map_of_mem hg)
theorem kvJ_put {Gs : List GJ} {as : List Addr} {k : Int × Int} {v : V} (h : k ∉ Gs.map (·.1)) : putK (kvJ Gs as) (kyJ k) v = kvJ Gs as ++ [(kyJ k, v)] := by
  unfold putK
  rw [if_neg fun e => ?_]
  obtain ⟨kv, hk, e2⟩ := List.any_eq_true.mp e
  obtain ⟨g, hg, e3⟩ := kvJ_keys hk
  rw [e3] at e2
  exact h (kyJ_inj (of_decide_eq_true e2) ▸ List.mem_map_of_mem hg)
theorem kvJ_last {Gs : List GJ} {as : List Addr} {g : GJ} {a : Addr} (hl : as.length = Gs.length) (h : g.1 ∉ Gs.map (·.1)) : valV (kvJ (Gs ++ [g]) (as ++ [a])) (kyJ g.1) = some (.ref a) := by
  have z := kvJ_no (as := as) h
  rw [kvJ_snoc g a hl]
  unfold valV at z ⊢
  rw [List.find?_append]
  cases e : List.find? (fun kv => decide (kv.1 = kyJ g.1)) (kvJ Gs as) with
  | some u => rw [e] at z; cases z
  | none => simp
theorem kvJ_at {i : Nat} {g : GJ} {a : Addr} : ∀ {Gs : List GJ} {as : List Addr}, Gs[i]? = some g → as[i]? = some a → (kvJ Gs as)[i]? = some (kyJ g.1, .ref a) := by
  intro Gs as h1 h2
  unfold kvJ
  rw [List.getElem?_map, (List.getElem?_zip_eq_some (z := (g, a))).mpr ⟨h1, h2⟩]
  rfl
/-- a dict of such groups at D, its lists at as, all new to H0 -/
structure JN (H0 H : Hp) (D : Addr) (as : List Addr) (Gs : List GJ) : Prop where
  d : H D = some (.dT (kvJ Gs as))
  len : as.length = Gs.length
  nd : as.Nodup
  fr : ∀ a ∈ as, H0 a = none ∧ a ≠ D
  at_ : ∀ (i : Nat) (a : Addr) (g : GJ), as[i]? = some a → Gs[i]? = some g → H a = some (.lst (g.2.map V.int))
theorem JN.ex {H0 H H' : Hp} {D : Addr} {as : List Addr} {Gs : List GJ} (h : JN H0 H D as Gs) (e : Evl.Ex H H') : JN H0 H' D as Gs := ⟨e _ _ h.d, h.len, h.nd, h.fr, fun i a g h1 h2 => e _ _ (h.at_ i a g h1 h2)⟩
theorem JN.old {H0 H00 H : Hp} {D : Addr} {as : List Addr} {Gs : List GJ} (h : JN H0 H D as Gs) (e : Evl.Ex H00 H0) : JN H00 H D as Gs := by
  refine ⟨h.d, h.len, h.nd, fun a ha => ⟨?_, (h.fr a ha).2⟩, h.at_⟩
  cases o : H00 a with
  | none => rfl
  | some u =>
    have := e _ _ o
    rw [(h.fr a ha).1] at this
    cases this
/-- a new group, empty, at a new list -/
theorem JN.new {H0 H H1 : Hp} {D a : Addr} {as : List Addr} {Gs : List GJ} {k : Int × Int} (h : JN H0 H D as Gs) (n0 : H0 a = none) (na : H a = none) (e : Evl.Ex H H1) (ha : H1 a = some (.lst [])) (hk : k ∉ Gs.map (·.1)) : JN H0 (upd H1 D (.dT (putK (kvJ Gs as) (kyJ k) (.ref a)))) D (as ++ [a]) (Gs ++ [(k, [])]) := by
  have nD : a ≠ D := fun z => by
    have := h.d
    rw [← z, na] at this
    cases this
  have nas : a ∉ as := fun hm => by
    obtain ⟨i, hi, e2⟩ := List.mem_iff_getElem.mp hm
    have hg : Gs[i]? = some (Gs[i]'(by rw [← h.len]; exact hi)) := List.getElem?_eq_getElem (by rw [← h.len]; exact hi)
    have := h.at_ i a _ (by rw [List.getElem?_eq_getElem hi, e2]) hg
    rw [na] at this
    cases this
  refine ⟨?_, ?_, ?_, ?_, ?_⟩
  · rw [upd_same, kvJ_put hk, kvJ_snoc _ _ h.len]
  · rw [List.length_append, List.length_append, h.len]
    rfl
  · refine List.nodup_append.mpr ⟨h.nd, List.nodup_cons.mpr ⟨List.not_mem_nil, .nil⟩, fun x hx y hy e2 => ?_⟩
    rw [List.mem_singleton.mp hy] at e2
    exact nas (e2 ▸ hx)
  · intro b hb
    rcases List.mem_append.mp hb with hb | hb
    · exact h.fr b hb
    · rw [List.mem_singleton.mp hb]
      exact ⟨n0, nD⟩
  · intro i b g h1 h2
    by_cases c : i < as.length
    · rw [List.getElem?_append_left c] at h1
      rw [List.getElem?_append_left (by rw [← h.len]; exact c)] at h2
      rw [upd_ne (h.fr b (List.mem_of_getElem? h1)).2]
      exact e _ _ (h.at_ i b g h1 h2)
    · rw [List.getElem?_append_right (by omega)] at h1
      rw [List.getElem?_append_right (by rw [← h.len]; omega)] at h2
      obtain ⟨h3, h4⟩ := List.getElem?_eq_some_iff.mp h1
      have hi : i - as.length = 0 := by simpa using h3
      rw [hi] at h1
      rw [← h.len, hi] at h2
      cases h1
      cases h2
      rw [upd_ne nD]
      exact ha
/-- a number more in the last group -/
theorem JN.app {H0 H H1 : Hp} {D a : Addr} {as : List Addr} {Gs : List GJ} {k : Int × Int} {ids : List Int} {n : Int} (h : JN H0 H D (as ++ [a]) (Gs ++ [(k, ids)])) (e : Evl.Ex H H1) : JN H0 (upd H1 a (.lst (ids.map V.int ++ [.int n]))) D (as ++ [a]) (Gs ++ [(k, ids ++ [n])]) := by
  have hl : as.length = Gs.length := by
    have := h.len
    rw [List.length_append, List.length_append] at this
    simpa using this
  refine ⟨?_, ?_, h.nd, h.fr, ?_⟩
  · rw [upd_ne (Ne.symm (h.fr a (by simp)).2), e _ _ h.d, kvJ_snoc _ _ hl, kvJ_snoc _ _ hl]
  · rw [List.length_append, List.length_append, hl]
    rfl
  · intro i b g h1 h2
    by_cases c : i < as.length
    · rw [List.getElem?_append_left c] at h1
      rw [List.getElem?_append_left (by rw [← hl]; exact c)] at h2
      have nb : b ≠ a := fun z => by
        have := (List.nodup_append.mp h.nd).2.2 b (List.mem_of_getElem? h1) a (by simp)
        exact this z
      rw [upd_ne nb]
      exact e _ _ (h.at_ i b g (by rw [List.getElem?_append_left c]; exact h1) (by rw [List.getElem?_append_left (by rw [← hl]; exact c)]; exact h2))
    · rw [List.getElem?_append_right (by omega)] at h1
      rw [List.getElem?_append_right (by rw [← hl]; omega)] at h2
      obtain ⟨h3, h4⟩ := List.getElem?_eq_some_iff.mp h1
      have hi : i - as.length = 0 := by simpa using h3
      rw [hi] at h1
      rw [← hl, hi] at h2
      cases h1
      cases h2
      rw [upd_same, List.map_append]
      rfl
/-- the point at which the line ended so far, None at first -/
def endR (o : Option (Int × Int)) (v : V) (H : Hp) : Prop := match o with
  | none => v = .non
  | some e => tupI [e.1, e.2] v H
theorem endR_e {o : Option (Int × Int)} {v : V} {H H' : Hp} (e : Evl.Ex H H') (h : endR o v H) : endR o v H' := by
  cases o with
  | none => exact h
  | some p => exact tupI_e _ _ _ _ e h
theorem tup_but {r : List Int} {v : V} {H H' : Hp} {D : Addr} {o : HO} (h : tupI r v H) (hD : H D = some o) (ho : ∀ xs, o ≠ .tup xs) (b : But1 D H H') : tupI r v H' := by
  obtain ⟨p, rfl, hp⟩ := h
  exact ⟨p, rfl, b _ _ (fun z => ho _ (by rw [z, hD] at hp; exact Option.some.inj hp)) hp⟩
theorem endR_but {o : Option (Int × Int)} {v : V} {H H' : Hp} {D : Addr} {ob : HO} (h : endR o v H) (hD : H D = some ob) (ho : ∀ xs, ob ≠ .tup xs) (b : But1 D H H') : endR o v H' := by
  cases o with
  | none => exact h
  | some p => exact tup_but h hD ho b
section
variable {P : Program} {w : World} {K : PySem.W.Frag} {mg : Str → Option Value} {base : Heap} {σ : L2.St} {H : Hp}
theorem room1L {A : Around} {k : Nat} (hr : Room k A) : A.units + 1 < cLine := by have := hr.un; omega
def endD (o : Option (Int × Int)) : PyData := match o with
  | none => .none
  | some e => .tuple [.int e.1, .int e.2]
theorem endR_dq {o : Option (Int × Int)} {v : V} (h : endR o v H) : Dq H v (endD o) := by
  cases o with
  | none =>
    change v = .non at h
    rw [h]
    exact .non
  | some e =>
    obtain ⟨p, rfl, hp⟩ := h
    exact dq_tupI (ns := [e.1, e.2]) hp
theorem end_eqv (x a : Int) (o : Option (Int × Int)) : PyData.eqv (.tuple [.int x, .int a]) (endD o) = decide (o = some (x, a)) := by
  cases o with
  | none => rfl
  | some e =>
    have := datTup.eq [x, a] [e.1, e.2]
    change PyData.eqv (.tuple [.int x, .int a]) (.tuple [.int e.1, .int e.2]) = _ at this
    show PyData.eqv (.tuple [.int x, .int a]) (.tuple [.int e.1, .int e.2]) = _
    rw [this]
    obtain ⟨e1, e2⟩ := e
    refine decide_eq_decide.mpr ⟨fun h => ?_, fun h => ?_⟩
    · injection h with h1 h2
      injection h2 with h2 _
      rw [h1, h2]
    · injection h with h
      injection h with h1 h2
      rw [h1, h2]
theorem sh_tup (x a : Int) : SeqAt.shaped (.tuple [.int x, .int a]) = true := datTup.shaped (by decide) [x, a]
theorem sh_end (o : Option (Int × Int)) : SeqAt.shaped (endD o) = true := by
  cases o with
  | none => rfl
  | some e => exact sh_tup e.1 e.2
theorem et_endNe {i j k : Nat} {x a : Int} {o : Option (Int × Int)} {v : V} (h1 : σ[i]? = some (some (.int x))) (h2 : σ[j]? = some (some (.int a))) (h3 : σ[k]? = some (some v)) (ho : endR o v H) :
    Evl.EvT (tTest (tOp (rNeD K) (tTup (tCons (tVar i) (tCons (tVar j) tNil))) (tVar k))) σ H (!decide (o = some (x, a))) := by
  refine Evl.et_test fun H1 e Q q => ?_
  refine Evl.eu_tup (vs := [.int x, .int a]) (Evl.ea_cons (Evl.ev_var h1) (Evl.ea_cons (Evl.ev_var h2) Evl.ea_nil)) (show 2 ≤ 100000 by decide) H1 e (fun y H2 => tVar k σ H2 fun z H3 => rNeD K y z H3 Q) fun p H2 np e2 hp => ⟨v, h3, .tuple [.int x, .int a], endD o, Dq.dp _ _ (dq_tupI (ns := [x, a]) hp), Dq.dp _ _ (endR_dq (endR_e (e.trans e2) ho)), sh_tup x a, sh_end o, ?_⟩
  rw [end_eqv]
  exact q H2 e2
def g4i (K : PySem.W.Frag) (i j k l : Nat) : TG := gTup K 4 (gCons (gName i) (gCons (gName j) (gCons (gName k) (gCons (gName l) gNil))))
theorem g4i_at {i j k l : Nat} {a b c d : Int} {y : V} {Q : L2.St → Hp → Prop} (h : tupI [a, b, c, d] y H) (q : Q ((((σ.set i (some (.int a))).set j (some (.int b))).set k (some (.int c))).set l (some (.int d))) H) : g4i K i j k l y σ H Q := by
  obtain ⟨T, rfl, hT⟩ := h
  exact ⟨T, _, rfl, SqT.of hT, rfl, _, _, rfl, _, _, rfl, _, _, rfl, _, _, rfl, rfl, q⟩
theorem q_dnewT {i : Nat} {D : Ends} {tz : TS} (k : ∀ p, H p = none → tz D (σ.set i (some (.ref p))) (upd H p (.dT []))) : tSeq (tAsg tDNewT (gName i)) tz D σ H := fun p np => k p np
theorem q_asg2 {v : V} {i j : Nat} {D : Ends} {tz : TS} (k : tz D ((σ.set i (some v)).set j (some v)) H) : tSeq (tAsg2 (tC v) (gName i) (gName j)) tz D σ H := k
theorem rl_butD {α : Type} {g : α → List Int} {zs : List α} {q D : Addr} {H' : Hp} {o : HO} (h : RL (fun z => tupI (g z)) H q zs) (hD : H D = some o) (n1 : ∀ xs, o ≠ .tup xs) (n2 : ∀ xs, o ≠ .lst xs) (b : But1 D H H') : RL (fun z => tupI (g z)) H' q zs := by
  obtain ⟨ys, h1, h2⟩ := h
  refine ⟨ys, b _ _ (fun z => n2 _ (by rw [z, hD] at h1; exact Option.some.inj h1)) h1, ?_⟩
  clear h1
  induction h2 with
  | nil => exact .nil
  | cons h t ih => exact .cons (tup_but h hD n1 b) ih
theorem gs_count (L : List Bar) : (GsF L).length ≤ L.length := by
  unfold GsF
  rw [List.length_map]
  have h := runs_flat L
  have ne := runs_ne L
  generalize runs L = G at h ne
  rw [← h]
  clear h
  induction G with
  | nil => exact Nat.zero_le _
  | cons g G ih =>
    have := ih fun x hx => ne x (List.mem_cons_of_mem _ hx)
    have := List.length_pos_iff.mpr (ne g List.mem_cons_self)
    rw [List.flatten_cons, List.length_append, List.length_cons]
    omega
def spJoin : Sp := fun vs H Q _ => ∃ (l : Addr) (zs : List Bar), vs = [.ref l] ∧ RL (fun s => tupI (barL s)) H l zs ∧ zs.length ≤ 1000 ∧ Bars (isort barL zs) ∧ ∀ H' D as, Evl.Ex H H' → H D = none → JN H H' D as (GsF (isort barL zs)) → Q (.ref D) H'
theorem ok_join {f : Addr} {fd : FuncData} (F : Fun K "join_stretches" "join_stretches" s_join_stretches f fd) (B : BP mg) : FnOk P w K mg base CX0 1 f fd ["stretches"] spJoin := by
  refine F.ok sc_join_stretches (fun vs H Q E h => ?_) (fun cdv A outer s H vs Q E hr h => ?_)
  · obtain ⟨x, p, rfl, _⟩ := h
    rfl
  · obtain ⟨l, zs, rfl, hl, hlen, hB, q⟩ := h
    refine ⟨_, (pss_cons (ps_set (i := 1) sc_join_stretches.nd rfl (.inl rfl) pe_dnewT)
      (pss_cons (ps_asg2 pe_non (pg_name (i := 2) sc_join_stretches.nd rfl (Or.inl rfl)) (pg_name (i := 3) sc_join_stretches.nd rfl (Or.inl rfl)))
      (pss_cons (ps_for PassesOwn.never rfl (pi_list (pe_callB (SoT.cr_sortedT (m := 3)) (by rfl) B.sorted_ (by decide +kernel) (pa_cons (pv 0) pa_nil))) (pg_tup rfl (pgs_cons (pg_name (i := 4) sc_join_stretches.nd rfl (Or.inl rfl)) (pgs_cons (pg_name (i := 5) sc_join_stretches.nd rfl (Or.inl rfl)) (pgs_cons (pg_name (i := 6) sc_join_stretches.nd rfl (Or.inl rfl)) (pgs_cons (pg_name (i := 7) sc_join_stretches.nd rfl (Or.inl rfl)) pgs_nil))))) (Evl.pss_cut (ps_if (pt_cmpR (op_neD hr.units) (pe_tup (pa_cons (pv 4) (pa_cons (pv 5) pa_nil))) (pv 3) (nomark _)) (pss_cons (ps_set (i := 2) sc_join_stretches.nd rfl (.inl rfl) (pe_tup (pa_cons (pv 4) (pa_cons (pv 5) pa_nil))))
      (pss_one (ps_asg (pe_lst pa_nil) (pg_sub (pv 1) (pv 2) (set_dict (room1L hr)))))) pss_nil)
      (pss_cons (ps_expr (pe_bm PySem.F.plainAttrs_list PySem.F.slot_list_append PySem.F.type_list_append mt_append (pe_dget (room1L hr) (pv 1) (pv 2) (fun _ _ => rfl)) (pa_cons (pv 7) pa_nil)))
      (pss_one (ps_set (i := 3) sc_join_stretches.nd rfl (.inl rfl) (pe_tup (pa_cons (pv 4) (pa_cons (pv 6) pa_nil))))))))
      (pss_one (ps_ret (pv 1)))))), ?_⟩
    refine q_dnewT fun D nD => ?_
    refine q_asg2 (v := .non) ?_
    have hDD : (upd H D (.dT [])) D = some (.dT []) := upd_same
    have eD : Evl.Ex H (upd H D (.dT [])) := Evl.Ex.new nD
    generalize upd H D (.dT []) = H1 at hDD eD
    refine q_forNRL (R := fun s => tupI (barL s)) (er_sortV (Evl.ev_var rfl) (fun z _ => rfl) (hl.ex (fun s => tupI_e (barL s)) eD))
      (fun q i σ' H' => ∃ Hs vs ve o4 o5 o6 o7 as, σ' = [some (.ref l), some (.ref D), some vs, some ve, o4, o5, o6, o7] ∧ Evl.Ex H1 Hs ∧ H1 q = none ∧ RL (fun s => tupI (barL s)) Hs q (isort barL zs) ∧ But1 D Hs H' ∧ JN Hs H' D as (GsF ((isort barL zs).take i)) ∧ endR (endO ((isort barL zs).take i)) ve H' ∧ ∀ G k ids, GsF ((isort barL zs).take i) = G ++ [(k, ids)] → tupI [k.1, k.2] vs H')
      ?_ ?_ ?_ ?_
    · exact fun q Hs nq e hq => ⟨Hs, .non, .non, none, none, none, none, [], rfl, e, nq, hq, But1.of (Evl.Ex.refl _), ⟨e _ _ hDD, rfl, .nil, (fun a ha => (nomatch ha)), fun i a g h1 => by simp at h1⟩, rfl, fun G k ids h => by
        have : GsF (List.take 0 (isort barL zs)) = [] := rfl
        rw [this] at h
        simp at h⟩
    · rintro q i σ' H' hi ⟨Hs, vs, ve, o4, o5, o6, o7, as, rfl, e, nq, hq, b, J, he, hst⟩
      exact rl_butD hq (e _ _ hDD) (fun xs h => (nomatch h)) (fun xs h => (nomatch h)) b
    · rintro q i s0 y σ' H' hs hy ⟨Hs, vs, ve, o4, o5, o6, o7, as, rfl, e, nq, hq, b, J, he, hst⟩
      have tk : (isort barL zs).take (i + 1) = (isort barL zs).take i ++ [s0] := by rw [List.take_add_one, hs]; rfl
      have hBi : Bars ((isort barL zs).take i ++ [s0]) := Bars.pre (M := (isort barL zs).drop (i + 1)) (by rw [← tk, List.take_append_drop]; exact hB)
      refine g4i_at hy ?_
      rw [tk]
      have hLl : ((isort barL zs).take i).length ≤ 1000 := by
        have := (isort_perm barL zs).length_eq
        rw [List.length_take]
        omega
      generalize (isort barL zs).take i = L at J he hst hBi hLl
      refine Evl.q_cut (M := fun σ2 H2 => ∃ vs2 as2 G k ids a, σ2 = [some (.ref l), some (.ref D), some vs2, some ve, some (.int s0.x), some (.int s0.a), some (.int s0.b), some (.int (s0.id : Int))] ∧ But1 D Hs H2 ∧ JN Hs H2 D (as2 ++ [a]) (G ++ [(k, ids)]) ∧ tupI [k.1, k.2] vs2 H2 ∧ GsF (L ++ [s0]) = G ++ [(k, ids ++ [(s0.id : Int)])]) ?_ ?_
      · refine Evl.s_when (et_endNe rfl rfl rfl he) (fun hb H2 e2 => ?_) fun hb H2 e2 => ?_
        · have hne : endO L ≠ some (s0.x, s0.a) := by simpa using hb
          refine Evl.q_asgU (xs := [.int s0.x, .int s0.a]) (Evl.eu_tup (Evl.ea_cons (Evl.ev_var rfl) (Evl.ea_cons (Evl.ev_var rfl) Evl.ea_nil)) (show 2 ≤ 100000 by decide)) fun p H3 np e3 hp => ?_
          refine ⟨by decide, fun a na => ⟨.ref D, rfl, .ref p, rfl, D, _, rfl, .inr ⟨kvJ (GsF L) as, kyJ (s0.x, s0.a), p, ?_, rfl, ?_, ?_, rfl⟩, ?_⟩⟩
          · exact Evl.Ex.new na _ _ (((J.ex e2).ex e3).d)
          · exact Evl.Ex.new na _ _ hp
          · rw [kvJ_len J.len]
            have := gs_count L
            unfold sizeLine
            omega
          · have nD : a ≠ D := fun z => by
              have := ((J.ex e2).ex e3).d
              rw [← z, na] at this
              cases this
            have n0 : Hs a = none := by
              cases o : Hs a with
              | none => rfl
              | some u =>
                have := (e2.trans e3) _ _ (b _ _ nD o)
                rw [na] at this
                cases this
            have J4 := ((J.ex e2).ex e3).new n0 na (Evl.Ex.new na (o := .lst [])) upd_same (gs_fresh hBi hne)
            refine ⟨.ref p, as, GsF L, (s0.x, s0.a), [], a, rfl, (b.tr (But1.of ((e2.trans e3).trans (Evl.Ex.new na)))).upd, J4, ⟨p, rfl, ?_⟩, gs_new hne⟩
            rw [upd_ne fun z => ?_]
            · exact Evl.Ex.new na _ _ hp
            · have := ((J.ex e2).ex e3).d
              rw [← z, hp] at this
              cases this
        · have heq : endO L = some (s0.x, s0.a) := by simpa using hb
          have hLne : L ≠ [] := fun z => by rw [z] at heq; cases heq
          obtain ⟨G, k, ids, hG⟩ := gs_ne hLne
          rw [hG] at J
          obtain ⟨as2, a, rfl⟩ : ∃ as2 a, as = as2 ++ [a] := by
            have ne : as ≠ [] := fun z => by
              have := J.len
              rw [z] at this
              simp at this
            exact ⟨as.dropLast, as.getLast ne, (List.dropLast_concat_getLast ne).symm⟩
          exact ⟨vs, as2, G, k, ids, a, rfl, b.tr (But1.of e2), J.ex e2, tupI_e _ _ _ _ e2 (hst G k ids hG), gs_app heq hG⟩
      · rintro σ2 H2 ⟨vs2, as2, G, k, ids, a, rfl, b2, J2, hk, hG⟩
        have hnd : k ∉ G.map (·.1) := by
          have n := gs_nd hBi
          rw [hG, List.map_append] at n
          exact fun hm => (List.nodup_append.mp n).2.2 _ hm k (List.mem_singleton.mpr rfl) rfl
        have hlen2 : ids.length ≤ 1000 := by
          have := gs_len (L := L ++ [s0]) (k := k) (ids := ids ++ [(s0.id : Int)]) (by rw [hG]; simp)
          rw [List.length_append, List.length_append] at this
          simp at this
          omega
        obtain ⟨p, rfl, hp⟩ := hk
        have hl2 : as2.length = G.length := by
          have := J2.len
          rw [List.length_append, List.length_append] at this
          simpa using this
        have hla : H2 a = some (.lst (ids.map V.int)) := J2.at_ G.length a (k, ids) (by rw [List.getElem?_append_right (by omega), hl2]; simp) (by simp)
        refine Evl.q_app (l := a) (v := .int (s0.id : Int)) hla (fun H3 e3 Q q2 => ⟨.ref D, rfl, .ref p, rfl, D, .ref a, rfl, .inr ⟨_, kyJ k, p, .inl ((J2.ex e3).d), rfl, e3 _ _ hp, (kvJ_last hl2 hnd).symm⟩, q2 H3 (Evl.Ex.refl _)⟩) (Evl.ev_var rfl) (by rw [List.length_map]; omega) fun H3 e3 => ?_
        have J3 := J2.app (n := (s0.id : Int)) e3
        have b3 : But1 D Hs (upd H3 a (.lst (ids.map V.int ++ [.int (s0.id : Int)]))) := fun c o nc hc => by
          have nca : c ≠ a := fun z => by
            have := (J2.fr a (by simp)).1
            rw [← z, hc] at this
            cases this
          rw [upd_ne nca]
          exact e3 _ _ (b2 _ _ nc hc)
        have hp3 : (upd H3 a (.lst (ids.map V.int ++ [.int (s0.id : Int)]))) p = some (.tup ([k.1, k.2].map V.int)) := by
          rw [upd_ne fun z => ?_]
          · exact e3 _ _ hp
          · rw [z, hla] at hp
            cases hp
        generalize upd H3 a (.lst (ids.map V.int ++ [.int (s0.id : Int)])) = H4 at J3 b3 hp3
        refine Evl.s_asgU (xs := [.int s0.x, .int s0.b]) (Evl.eu_tup (Evl.ea_cons (Evl.ev_var rfl) (Evl.ea_cons (Evl.ev_var rfl) Evl.ea_nil)) (show 2 ≤ 100000 by decide)) fun r H5 nr e5 hr5 => ?_
        refine ⟨Hs, .ref p, .ref r, _, _, _, _, as2 ++ [a], rfl, e, nq, hq, b3.tr (But1.of e5), hG ▸ J3.ex e5, ?_, fun G' k' ids' h => ?_⟩
        · rw [endO_snoc]
          exact ⟨r, rfl, hr5⟩
        · rw [hG] at h
          obtain ⟨_, h2⟩ := List.append_inj' h rfl
          injection h2 with h2 _
          injection h2 with h2 _
          exact ⟨p, rfl, h2 ▸ e5 _ _ hp3⟩
    · rintro q0 σ' H' ⟨Hs, vs, ve, o4, o5, o6, o7, as, rfl, e, nq, hq, b, J, he, hst⟩
      rw [List.take_of_length_le (Nat.le_refl _)] at J
      have eH : Evl.Ex H Hs := eD.trans e
      have eH' : Evl.Ex H H' := fun c o hc => b c o (fun z => by rw [z, nD] at hc; cases hc) (eH _ _ hc)
      exact Evl.s_ret (Evl.ev_var rfl) fun H5 e5 => q H5 D as (eH'.trans e5) nD ((J.ex e5).old eH)
end
end GL
set_option linter.all false
set_option maxHeartbeats 1000000
/-! # the two sides of a line fit: what find_pairs_at relies on -/
namespace Geo
def Good (g h : List Bar) : Prop := ∃ (a b : Bar) (A B : List Bar) (x y e : Int), g = a :: A ∧ h = b :: B ∧ Ch x a.a (a :: A) e ∧ Ch y b.a (b :: B) e ∧ (∀ s ∈ g, s.a < s.b) ∧ (∀ s ∈ h, s.a < s.b)
theorem Two.good {L M : List Bar} (t : Two L M) {g h : List Bar} (hg : g ∈ runs L) (hh : h ∈ runs M) (e : beg h = beg g) : Good g h := by
  obtain ⟨x, a, b, r⟩ := runs_run t.l hg
  obtain ⟨x', a', b', r'⟩ := runs_run t.m hh
  have e1 := r.beg
  have e2 := r'.beg
  obtain ⟨rfl, rfl⟩ := Prod.mk.inj (e2.symm.trans (e.trans e1))
  have gpos : ∀ s ∈ g, s.a < s.b := fun s hs => t.l.pos s (runs_sub hg s hs)
  have hpos : ∀ s ∈ h, s.a < s.b := fun s hs => t.m.pos s (runs_sub hh s hs)
  cases g with
  | nil => exact absurd rfl (runs_ne L _ hg)
  | cons s A =>
    cases h with
    | nil => exact absurd rfl (runs_ne M _ hh)
    | cons u B =>
      have i1 := r.ch.inv
      have i2 := r'.ch.inv
      have hs := runs_sub hg s List.mem_cons_self
      have hu := runs_sub hh u List.mem_cons_self
      have cells := t.cell s hs u hu (i1.1.trans i2.1.symm)
      rw [i1.1] at cells
      obtain ⟨_, eb⟩ := r.same r' cells (j := a') ⟨by omega, r.lt⟩ ⟨by omega, r'.lt⟩
      subst eb
      have chA := r.ch
      have chB := r'.ch
      rw [i1.2.1] at chA
      rw [i2.2.1] at chB
      exact ⟨s, u, A, B, _, _, _, rfl, rfl, chA, chB, gpos, hpos⟩
def sidesF (L M : List Bar) : List (List Bar × List Bar) := (runs L).filterMap fun g => ((runs M).find? fun h => decide (beg h = beg g)).map fun h => (g, h)
theorem sides_mem {L M : List Bar} {u : List Bar × List Bar} (h : u ∈ sidesF L M) : u.1 ∈ runs L ∧ u.2 ∈ runs M ∧ beg u.2 = beg u.1 := by
  unfold sidesF at h
  obtain ⟨g, hg, e⟩ := List.mem_filterMap.mp h
  obtain ⟨k, hk, rfl⟩ := Option.map_eq_some_iff.mp e
  exact ⟨hg, List.mem_of_find?_eq_some hk, find_beg hk⟩
theorem sides_pairs (L M : List Bar) : (sidesF L M).flatMap (fun u => mg u.1 u.2) = pairsOf L M := by
  unfold sidesF pairsOf
  generalize runs L = G
  induction G with
  | nil => rfl
  | cons g G ih =>
    rw [List.filterMap_cons, List.flatMap_cons]
    cases (runs M).find? fun h => decide (beg h = beg g) with
    | none => exact ih
    | some h =>
      show List.flatMap (fun u => mg u.1 u.2) ((g, h) :: _) = mg g h ++ _
      rw [List.flatMap_cons, ih]
/-- one step along the two sides -/
theorem Ch.step {x e : Int} {a : Bar} {A : List Bar} (h : Ch x a.a (a :: A) e) (ne : A ≠ []) : ∃ b r, A = b :: r ∧ Ch x b.a (b :: r) e := by
  cases A with
  | nil => exact absurd rfl ne
  | cons b r =>
    have c := h.inv.2.2
    have d := c.inv.2.1
    rw [d] at c
    exact ⟨b, r, rfl, c⟩
theorem good_step {x y e : Int} {a b : Bar} {A B : List Bar} (hA : Ch x a.a (a :: A) e) (hB : Ch y b.a (b :: B) e) (pA : ∀ s ∈ a :: A, s.a < s.b) (pB : ∀ s ∈ b :: B, s.a < s.b) (nn : ¬ (A = [] ∧ B = [])) : (a.b < b.b → A ≠ []) ∧ (¬ a.b < b.b → B ≠ []) := by
  have gA := hA.ge pA a List.mem_cons_self
  have gB := hB.ge pB b List.mem_cons_self
  have cA := hA.inv.2.2
  have cB := hB.inv.2.2
  refine ⟨fun h z => ?_, fun h z => ?_⟩
  · subst z
    have := cA.inv0
    omega
  · subst z
    have k := cB.inv0
    have : A ≠ [] := fun z => nn ⟨z, rfl⟩
    obtain ⟨c, r, rfl, d⟩ := hA.step this
    have g2 := d.ge (fun s hs => pA s (List.mem_cons_of_mem _ hs)) c List.mem_cons_self
    have p2 := pA c (List.mem_cons_of_mem _ List.mem_cons_self)
    have := cA.inv.2.1
    omega
end Geo
set_option Elab.async false
set_option linter.all false
set_option maxRecDepth 100000
set_option maxHeartbeats 1000000
/-! # the lines of a layout: find_sides, find_all_sides -/
namespace GL
open PySem PySem.Spec PyProof.Rows L2 Geo Rel ItT
section
variable {P : Program} {w : World} {K : PySem.W.Frag} {mg : Str → Option Value} {base : Heap} {σ : L2.St} {H : Hp}
theorem pr_hideL {α : Type} {R : α → V → Hp → Prop} (mR : MonoE R) {D : Addr} {H H' : Hp} (k : But1 D H H') {ys : List V} {zs : List α} (h : Paired (fun y z => R z y (hide D H)) ys zs) : Paired (fun y z => R z y (hide D H')) ys zs := by
  induction h with
  | nil => exact .nil
  | cons h _ ih => exact .cons (mR _ _ _ _ (hide_but k) h) ih
theorem pr_unhideL {α : Type} {R : α → V → Hp → Prop} (mR : MonoE R) {D : Addr} {H : Hp} {ys : List V} {zs : List α} (h : Paired (fun y z => R z y (hide D H)) ys zs) : Paired (fun y z => R z y H) ys zs := by
  induction h with
  | nil => exact .nil
  | cons h _ ih => exact .cons (mR _ _ _ _ hide_ex h) ih
/-- a list that grows: what its items hold, it isn't the list itself -/
def Grow {α : Type} (R : α → V → Hp → Prop) (H : Hp) (S : Addr) (zs : List α) : Prop := ∃ ys, H S = some (.lst ys) ∧ Paired (fun y z => R z y (hide S H)) ys zs
theorem Grow.rl {α : Type} {R : α → V → Hp → Prop} (mR : MonoE R) {S : Addr} {zs : List α} (h : Grow R H S zs) : RL R H S zs := by
  obtain ⟨ys, h1, h2⟩ := h
  exact ⟨ys, h1, pr_unhideL mR h2⟩
theorem Grow.ex {α : Type} {R : α → V → Hp → Prop} (mR : MonoE R) {S : Addr} {H' : Hp} {zs : List α} (h : Grow R H S zs) (e : Evl.Ex H H') : Grow R H' S zs := by
  obtain ⟨ys, h1, h2⟩ := h
  exact ⟨ys, e _ _ h1, pr_hideL mR (But1.of e) h2⟩
theorem grow_nil {α : Type} {R : α → V → Hp → Prop} {S : Addr} (h : H S = some (.lst [])) : Grow R H S ([] : List α) := ⟨[], h, .nil⟩
theorem s_appG {α : Type} {R : α → V → Hp → Prop} (mR : MonoE R) {zs : List α} {z : α} {S : Addr} {i : Nat} {te : TE} {D : Ends} (hS : Grow R H S zs) (hs : σ[i]? = some (some (.ref S))) (hz : zs.length < 50000)
    (h : ∀ H1, Evl.Ex H H1 → ∀ Q : VK, (∀ v H2, Evl.Ex H1 H2 → R z v (hide S H2) → Q v H2) → te σ H1 Q)
    (k : ∀ H2, But1 S H H2 → Grow R H2 S (zs ++ [z]) → D.nx σ H2) : tDrop (tBM K "list" rAppend (tVar i) (tCons te tNil)) D σ H := by
  obtain ⟨ys, h1, h2⟩ := hS
  have hl := pr_len h2
  refine ⟨.ref S, hs, .inl ⟨rfl, _, SqL.of h1⟩, ?_⟩
  refine h H (Evl.Ex.refl H) _ fun v H2 e2 hv => ?_
  refine ⟨S, ys, v, rfl, rfl, e2 _ _ h1, by unfold sizeLine; omega, k _ ((But1.of e2).upd) ⟨ys ++ [v], upd_same, ?_⟩⟩
  have b : But1 S H2 (upd H2 S (.lst (ys ++ [v]))) := (But1.of (Evl.Ex.refl H2)).upd
  exact pr_app (pr_hideL mR b (pr_hideL mR (But1.of e2) h2)) (.cons (mR _ _ _ _ (hide_but b) hv) .nil)
theorem lex_bar {s t : Bar} (h : HT.lexLt (barL t) (barL s) = false) : Lex s t := by
  unfold barL at h
  unfold Lex
  rw [HT.lexLt_cons] at h
  by_cases c : t.x = s.x
  · rw [if_pos c, HT.lexLt_cons] at h
    by_cases d : t.a = s.a
    · omega
    · rw [if_neg d] at h
      have := of_decide_eq_false h
      omega
  · rw [if_neg c] at h
    have := of_decide_eq_false h
    omega
theorem bar_lex (zs : List Bar) : (isort barL zs).Pairwise Lex := (isort_srt barL zs).imp fun h => lex_bar h
theorem desk_aheadS {ps : List Pn} {W Hh : Int} (d : Desk ps W Hh) : Bars (isort barL (aheadB ps)) := d.ahead (isort_perm _ _) (bar_lex _)
theorem desk_behindS {ps : List Pn} {W Hh : Int} (d : Desk ps W Hh) : Bars (isort barL (behindB ps)) := d.behind (isort_perm _ _) (bar_lex _)
/-- name = join_stretches(..) -/
theorem q_asgJoin {i : Nat} {te : TE} {zs : List Bar} {Dn : Ends} {tz : TS} (h : EvRL te σ H (fun s => tupI (barL s)) zs) (hz : zs.length ≤ 1000) (hB : Bars (isort barL zs)) (k : ∀ D as H1, Evl.Ex H H1 → H D = none → JN H H1 D as (GsF (isort barL zs)) → tz Dn (σ.set i (some (.ref D))) H1) : tSeq (tAsg (tCall spJoin [] E0 (tCons te tNil)) (gName i)) tz Dn σ H :=
  h H (Evl.Ex.refl H) _ fun l H1 nl e1 hl => ⟨l, zs, rfl, hl, hz, hB, fun H2 D as e2 nD J => k D as H2 (e1.trans e2) (Evl.fresh_back e1 nD) (J.old e1)⟩
theorem aheadB_eq (ps : List Pn) : (enumL ps).map (fun u => (⟨u.2.x1, u.2.y0, u.2.y1, u.1⟩ : Bar)) = aheadB ps := by
  unfold enumL aheadB
  rw [List.map_map]
  rfl
theorem behindB_eq (ps : List Pn) : (enumL ps).map (fun u => (⟨u.2.x0, u.2.y0, u.2.y1, u.1⟩ : Bar)) = behindB ps := by
  unfold enumL behindB
  rw [List.map_map]
  rfl
def kdS (up : Bool) : Str := if up then "upright" else "level"
def tipB (g : List Bar) : Int := (g.getLast?.map (·.b)).getD 0
def idsB (g : List Bar) : List Int := g.map fun s => (s.id : Int)
/-- a line: (segment, ahead, behind) -/
def sdR (up : Bool) (u : List Bar × List Bar) (v : V) (H : Hp) : Prop := ∃ T s a b, v = .ref T ∧ H T = some (.tup [.ref s, .ref a, .ref b]) ∧ H s = some (.tup [.str (kdS up), .int (beg u.1).1, .int (beg u.1).2, .int (tipB u.1)]) ∧ H a = some (.lst ((idsB u.1).map V.int)) ∧ H b = some (.lst ((idsB u.2).map V.int))
theorem sdR_e {up : Bool} : MonoE (sdR up) := fun u v H H' e ⟨T, s, a, b, h1, h2, h3, h4, h5⟩ => ⟨T, s, a, b, h1, e _ _ h2, e _ _ h3, e _ _ h4, e _ _ h5⟩
/-- the panes seen so that the lines lie upright -/
def turnP (up : Bool) (ps : List Pn) : List Pn := if up then ps else ps.map Pn.swap
def aheadS (up : Bool) (ps : List Pn) : List Bar := isort barL (aheadB (turnP up ps))
def behindS (up : Bool) (ps : List Pn) : List Bar := isort barL (behindB (turnP up ps))
theorem turnP_desk {up : Bool} {ps : List Pn} {W Hh : Int} (d : Desk ps W Hh) : ∃ W' H', Desk (turnP up ps) W' H' := by
  cases up with
  | true => exact ⟨W, Hh, d⟩
  | false => exact ⟨Hh, W, d.swap⟩
theorem q_corn {l : Addr} {ps : List Pn} {up : Bool} {te' : TA} {i j k m : Nat} {vs : List Nat} {D : Ends} {tz : TS} (h0 : σ[0]? = some (some (.ref l))) (h1 : σ[1]? = some (some (.str (kdS up)))) (hl : RL pnR H l ps) (hz : ps.length ≤ 1000)
    (hw : ∀ p, wipe (set4 (wipe σ vs) i j k m p) vs = wipe σ vs)
    (he : ∀ p H1, Evl.EvA te' (set4 (wipe σ vs) i j k m p) H1 [.int p.y0, .int p.x0, .int p.y1, .int p.x1])
    (q : ∀ C H1, Evl.Ex H H1 → RL pnR H1 C (turnP up ps) → tz D (σ.set 2 (some (.ref C))) H1) :
    tSeq (tAsg (tIf (tTest (tOp rEq (tVar 1) (tC (.str "upright")))) (tVar 0) (tLc (iList K (tVar 0)) (g4 K i j k m) tYes (tTup te') vs)) (gName 2)) tz D σ H := by
  cases up with
  | true => exact Evl.q_asg (v := .ref l) (Evl.ev_if (b := true) (Evl.et_test (Evl.ev_is (Evl.ev_op (Evl.ev_var h1) Evl.ev_c (Evl.rv_eq rfl)) (by decide +kernel))) (fun _ => Evl.ev_var h0) (fun h => by cases h)) fun H1 e1 => q l H1 e1 (hl.ex pnR_e e1)
  | false =>
    have t : Evl.EvT (tTest (tOp rEq (tVar 1) (tC (.str "upright")))) σ H false := Evl.et_test (Evl.ev_is (Evl.ev_op (Evl.ev_var h1) Evl.ev_c (Evl.rv_eq rfl)) (by decide +kernel))
    refine q_asgRL (R := pnR) (zs := turnP false ps) (fun H1 e Q q => ?_) fun C H1 nC e1 hC => q C H1 e1 hC
    refine t H1 e _ fun H2 e2 => ?_
    have z := EvRL.to (R := fun p : Pn => pnR p.swap) (S := pnR) (g := Pn.swap) (fun z y H h => h) (er_lcP0 (K := K) (te := tTup te') (σ := σ) (H := H) (S := fun p => pnR p.swap) (fun z v H H' D hv k h => tupI_m _ v H H' D hv k h) (Evl.ev_var h0) hl (by omega) hw fun p hp H3 e3 => en_tupI (ns := pnL p.swap) (he p H3) (show 4 ≤ 1000 by decide))
    exact z H2 (e.trans e2) Q fun p H3 np e3 hp => q p H3 (Evl.fresh_back e2 np) (e2.trans e3) hp
theorem kvJ_inv {i : Nat} {k : List L2.Key} {v : V} : ∀ {Gs : List GJ} {as : List Addr}, (kvJ Gs as)[i]? = some (k, v) → ∃ g a, Gs[i]? = some g ∧ as[i]? = some a ∧ k = kyJ g.1 ∧ v = .ref a := by
  intro Gs as h
  unfold kvJ at h
  rw [List.getElem?_map] at h
  obtain ⟨u, hu, e⟩ := Option.map_eq_some_iff.mp h
  obtain ⟨h1, h2⟩ := List.getElem?_zip_eq_some.mp hu
  injection e with e1 e2
  exact ⟨u.1, u.2, h1, h2, e1.symm, e2.symm⟩
theorem kv_find {b : Int × Int} : ∀ {Gs : List GJ} {as : List Addr}, as.length = Gs.length → (Gs.find? (fun g => decide (g.1 = b)) = none ∧ valV (kvJ Gs as) (kyJ b) = none) ∨ ∃ (j : Nat) (g : GJ) (a : Addr), Gs[j]? = some g ∧ as[j]? = some a ∧ Gs.find? (fun g => decide (g.1 = b)) = some g ∧ valV (kvJ Gs as) (kyJ b) = some (.ref a)
  | [], [], _ => .inl ⟨rfl, rfl⟩
  | g :: Gs, a :: as, h => by
    by_cases c : g.1 = b
    · refine .inr ⟨0, g, a, rfl, rfl, by simp [c], ?_⟩
      unfold valV kvJ
      simp [c]
    · have n : ¬ (decide (g.1 = b) = true) := by simpa using c
      have n2 : ¬ (decide (kyJ g.1 = kyJ b) = true) := by simpa using fun e => c (kyJ_inj e)
      have v2 : valV (kvJ (g :: Gs) (a :: as)) (kyJ b) = valV (kvJ Gs as) (kyJ b) := by
        unfold valV kvJ
        simp [n2]
      have f2 : (g :: Gs).find? (fun g => decide (g.1 = b)) = Gs.find? (fun g => decide (g.1 = b)) := by simp [c]
      rw [f2, v2]
      rcases kv_find (b := b) (Gs := Gs) (as := as) (by simpa using h) with h1 | ⟨j, g2, a2, h1, h2, h3, h4⟩
      · exact .inl h1
      · exact .inr ⟨j + 1, g2, a2, h1, h2, h3, h4⟩
theorem gs_at {L : List Bar} {i : Nat} {g : GJ} (h : (GsF L)[i]? = some g) : ∃ r, (runs L)[i]? = some r ∧ g = (beg r, idsB r) := by
  unfold GsF at h
  rw [List.getElem?_map] at h
  obtain ⟨r, h1, h2⟩ := Option.map_eq_some_iff.mp h
  exact ⟨r, h1, h2.symm⟩
theorem sdR_frz {up : Bool} {u : List Bar × List Bar} {v : V} {G : Hp} {D : Addr} {od : Obj} {x o : HO} (h : sdR up u v G) (hD : G D = some (.frz od x)) : sdR up u v (upd G D o) := by
  obtain ⟨T, s, a, b, h1, h2, h3, h4, h5⟩ := h
  have ne : ∀ {p : Addr} {y : HO}, G p = some y → (∀ od x, y ≠ .frz od x) → p ≠ D := fun hp hy e => by
    rw [e, hD] at hp
    exact hy _ _ (Option.some.inj hp).symm
  exact ⟨T, s, a, b, h1, (upd_ne (ne h2 (fun _ _ h => nomatch h))).trans h2, (upd_ne (ne h3 (fun _ _ h => nomatch h))).trans h3, (upd_ne (ne h4 (fun _ _ h => nomatch h))).trans h4, (upd_ne (ne h5 (fun _ _ h => nomatch h))).trans h5⟩
theorem sdR_un {up : Bool} {G : Hp} {D S : Addr} {od : Obj} {x o : HO} (hD : G D = some (.frz od x)) {ys : List V} {zs : List (List Bar × List Bar)} (h : Paired (fun y z => sdR up z y (hide S G)) ys zs) : Paired (fun y z => sdR up z y (upd G D o)) ys zs := by
  induction h with
  | nil => exact .nil
  | cons h _ ih => exact .cons (sdR_frz (sdR_e _ _ _ _ hide_ex h) hD) ih
def spSides2 : Sp := fun vs H Q _ => ∃ (l : Addr) (ps : List Pn) (W Hh : Int) (up : Bool), vs = [.ref l, .str (kdS up)] ∧ RL pnR H l ps ∧ Desk ps W Hh ∧ ∀ H' S, Evl.Ex H H' → H S = none → RL (sdR up) H' S (sidesF (aheadS up ps) (behindS up ps)) → Q (.ref S) H'
theorem ok_sides {f f1 : Addr} {fd fd1 : FuncData} (F : Fun K "find_sides" "find_sides" s_find_sides f fd) (B : BP mg) (C_join_stretches : Cal P w K mg base "join_stretches" 1 f1 fd1 ["stretches"] spJoin) : FnOk P w K mg base CX0 2 f fd ["layout", "kind"] spSides2 := by
  refine F.ok sc_find_sides (fun vs H Q E h => ?_) (fun cdv A outer s H vs Q E hr h => ?_)
  · obtain ⟨x, p, _, _, _, rfl, _⟩ := h
    rfl
  · obtain ⟨l, ps, W, Hh, up, rfl, hl, hD, q⟩ := h
    refine ⟨_, (pss_cons (ps_set (i := 2) sc_find_sides.nd rfl (.inl rfl) (pe_ifExp (pt_cmpR op_eq (pv 1) pe_str (nomark _)) (pv 0) (pe_lc (own := [("x0", 11), ("y0", 12), ("x1", 13), ("y1", 14)]) (g := gTup K 4 (gCons (gName 11) (gCons (gName 12) (gCons (gName 13) (gCons (gName 14) gNil))))) (tt := tYes) rfl sc_find_sides.nd (pi_list (pv 0)) (blkOk_by (N := n_find_sides) (sc := (defScope s_find_sides)) (by decide +kernel)) (fun _ _ _ _ _ => (pg_tup rfl (pgs_cons (pg_name (i := 11) sc_find_sides.nd rfl (Or.inl rfl)) (pgs_cons (pg_name (i := 12) sc_find_sides.nd rfl (Or.inl rfl)) (pgs_cons (pg_name (i := 13) sc_find_sides.nd rfl (Or.inl rfl)) (pgs_cons (pg_name (i := 14) sc_find_sides.nd rfl (Or.inl rfl)) pgs_nil)))))) (fun _ _ _ _ _ => pts_nil) (fun _ _ _ _ _ => (pe_tup (pa_cons (pv 12) (pa_cons (pv 11) (pa_cons (pv 14) (pa_cons (pv 13) pa_nil)))))))))
      (pss_cons (ps_set (i := 3) sc_find_sides.nd rfl (.inl rfl) (pe_call C_join_stretches.G (hr.mono (by decide)) (by rfl) C_join_stretches.g C_join_stretches.k C_join_stretches.b .nil pass0 (by exact (pa_cons (pe_lc (own := [("pane", 15), ("_", 16), ("y0", 12), ("x1", 13), ("y1", 14)]) (g := gTup K 2 (gCons (gName 15) (gCons (gTup K 4 (gCons (gName 16) (gCons (gName 12) (gCons (gName 13) (gCons (gName 14) gNil))))) gNil))) (tt := tYes) rfl sc_find_sides.nd (pi_enum (by rfl) B.enumerate_ (pa_cons (pv 2) pa_nil)) (blkOk_by (N := n_find_sides) (sc := (defScope s_find_sides)) (by decide +kernel)) (fun _ _ _ _ _ => (pg_tup rfl (pgs_cons (pg_name (i := 15) sc_find_sides.nd rfl (Or.inl rfl)) (pgs_cons (pg_tup rfl (pgs_cons (pg_name (i := 16) sc_find_sides.nd rfl (Or.inl rfl)) (pgs_cons (pg_name (i := 12) sc_find_sides.nd rfl (Or.inl rfl)) (pgs_cons (pg_name (i := 13) sc_find_sides.nd rfl (Or.inl rfl)) (pgs_cons (pg_name (i := 14) sc_find_sides.nd rfl (Or.inl rfl)) pgs_nil))))) pgs_nil)))) (fun _ _ _ _ _ => pts_nil) (fun _ _ _ _ _ => (pe_tup (pa_cons (pv 13) (pa_cons (pv 12) (pa_cons (pv 14) (pa_cons (pv 15) pa_nil))))))) pa_nil))))
      (pss_cons (ps_set (i := 4) sc_find_sides.nd rfl (.inl rfl) (pe_call C_join_stretches.G (hr.mono (by decide)) (by rfl) C_join_stretches.g C_join_stretches.k C_join_stretches.b .nil pass0 (by exact (pa_cons (pe_lc (own := [("pane", 15), ("x0", 11), ("y0", 12), ("_", 16), ("y1", 14)]) (g := gTup K 2 (gCons (gName 15) (gCons (gTup K 4 (gCons (gName 11) (gCons (gName 12) (gCons (gName 16) (gCons (gName 14) gNil))))) gNil))) (tt := tYes) rfl sc_find_sides.nd (pi_enum (by rfl) B.enumerate_ (pa_cons (pv 2) pa_nil)) (blkOk_by (N := n_find_sides) (sc := (defScope s_find_sides)) (by decide +kernel)) (fun _ _ _ _ _ => (pg_tup rfl (pgs_cons (pg_name (i := 15) sc_find_sides.nd rfl (Or.inl rfl)) (pgs_cons (pg_tup rfl (pgs_cons (pg_name (i := 11) sc_find_sides.nd rfl (Or.inl rfl)) (pgs_cons (pg_name (i := 12) sc_find_sides.nd rfl (Or.inl rfl)) (pgs_cons (pg_name (i := 16) sc_find_sides.nd rfl (Or.inl rfl)) (pgs_cons (pg_name (i := 14) sc_find_sides.nd rfl (Or.inl rfl)) pgs_nil))))) pgs_nil)))) (fun _ _ _ _ _ => pts_nil) (fun _ _ _ _ _ => (pe_tup (pa_cons (pv 11) (pa_cons (pv 12) (pa_cons (pv 14) (pa_cons (pv 15) pa_nil))))))) pa_nil))))
      (pss_cons (ps_set (i := 5) sc_find_sides.nd rfl (.inl rfl) (pe_lst pa_nil))
      (pss_cons (ps_lock (ps_for PassesOwn.never rfl (pi_itemsT (pv 3)) (pg_tup rfl (pgs_cons (pg_name (i := 6) sc_find_sides.nd rfl (Or.inl rfl)) (pgs_cons (pg_name (i := 7) sc_find_sides.nd rfl (Or.inl rfl)) pgs_nil))) (pss_one (ps_if (pt_cmp (pc_din (room1L hr) (pv 6) (pv 4)) (by rfl)) (pss_cons (ps_asg (pv 6) (pg_tup rfl (pgs_cons (pg_name (i := 8) sc_find_sides.nd rfl (Or.inl rfl)) (pgs_cons (pg_name (i := 9) sc_find_sides.nd rfl (Or.inl rfl)) pgs_nil))))
      (pss_cons (ps_set (i := 10) sc_find_sides.nd rfl (.inl rfl) (pe_ix (ixTK (K := K) rfl) (pe_ix (ixLK (K := K) rfl) (pv 2) (pe_ix (ixLK (K := K) rfl) (pv 7) (pe_un un_neg pe_int) (fun _ _ => rfl)) (fun _ _ => rfl)) pe_int (fun _ _ => rfl)))
      (pss_one (ps_expr (pe_bm PySem.F.plainAttrs_list PySem.F.slot_list_append PySem.F.type_list_append mt_append (pv 5) (pa_cons (pe_tup (pa_cons (pe_tup (pa_cons (pv 1) (pa_cons (pv 8) (pa_cons (pv 9) (pa_cons (pv 10) pa_nil))))) (pa_cons (pv 7) (pa_cons (pe_dget (room1L hr) (pv 4) (pv 6) (fun _ _ => rfl)) pa_nil)))) pa_nil)))))) pss_nil))))
      (pss_one (ps_ret (pv 5)))))))), ?_⟩
    have hlen : ps.length ≤ 60 := hD.v.len
    refine q_corn (up := up) (ps := ps) (l := l) rfl rfl hl (by omega) (fun _ => rfl) (fun p H1 => Evl.ea_cons (Evl.ev_var rfl) (Evl.ea_cons (Evl.ev_var rfl) (Evl.ea_cons (Evl.ev_var rfl) (Evl.ea_cons (Evl.ev_var rfl) Evl.ea_nil)))) fun C H1 e1 hC => ?_
    obtain ⟨W', H', dT⟩ := turnP_desk (up := up) hD
    have hσ : List.set (L2.start n_find_sides [V.ref l, V.str (kdS up)]) 2 (some (V.ref C)) = [some (.ref l), some (.str (kdS up)), some (.ref C), none, none, none, none, none, none, none, none, none, none, none, none, none, none] := rfl
    rw [hσ]
    have hlt : (turnP up ps).length ≤ 60 := dT.v.len
    refine q_asgJoin (zs := aheadB (turnP up ps)) (by
      rw [← aheadB_eq]
      exact EvRL.to (R := fun u : Nat × Pn => tupI (barL ⟨u.2.x1, u.2.y0, u.2.y1, u.1⟩)) (fun z y H h => h) (er_lcPE (S := fun u : Nat × Pn => tupI (barL ⟨u.2.x1, u.2.y0, u.2.y1, u.1⟩)) (fun z v H H' D hv k h => tupI_m _ v H H' D hv k h) (Evl.ev_var rfl) hC (by omega) (fun _ _ => wipe_set5 (by decide)) fun m p hp H3 e3 => en_tupI (ns := [p.x1, p.y0, p.y1, (m : Int)]) (Evl.ea_cons (Evl.ev_var rfl) (Evl.ea_cons (Evl.ev_var rfl) (Evl.ea_cons (Evl.ev_var rfl) (Evl.ea_cons (Evl.ev_var rfl) Evl.ea_nil)))) (show 4 ≤ 1000 by decide))) (by rw [← aheadB_eq, List.length_map, enumL_len]; omega) (desk_aheadS dT) fun D1 as1 H2 e2 nD1 J1 => ?_
    have hC2 := hC.ex pnR_e e2
    refine q_asgJoin (zs := behindB (turnP up ps)) (by
      rw [← behindB_eq]
      exact EvRL.to (R := fun u : Nat × Pn => tupI (barL ⟨u.2.x0, u.2.y0, u.2.y1, u.1⟩)) (fun z y H h => h) (er_lcPE (S := fun u : Nat × Pn => tupI (barL ⟨u.2.x0, u.2.y0, u.2.y1, u.1⟩)) (fun z v H H' D hv k h => tupI_m _ v H H' D hv k h) (Evl.ev_var rfl) hC2 (by omega) (fun _ _ => wipe_set5 (by decide)) fun m p hp H3 e3 => en_tupI (ns := [p.x0, p.y0, p.y1, (m : Int)]) (Evl.ea_cons (Evl.ev_var rfl) (Evl.ea_cons (Evl.ev_var rfl) (Evl.ea_cons (Evl.ev_var rfl) (Evl.ea_cons (Evl.ev_var rfl) Evl.ea_nil)))) (show 4 ≤ 1000 by decide))) (by rw [← behindB_eq, List.length_map, enumL_len]; omega) (desk_behindS dT) fun D2 as2 H3 e3 nD2 J2 => ?_
    refine Evl.q_asgL (xs := []) (Evl.el_lst Evl.ea_nil (by decide)) fun S H4 nS e4 hS => ?_
    have e34 := e3.trans e4
    have nS1 : S ≠ D1 := fun z => by
      have := e3 _ _ J1.d
      rw [← z, nS] at this
      cases this
    have nS2 : S ≠ D2 := fun z => by
      have := J2.d
      rw [← z, nS] at this
      cases this
    have n12 : D2 ≠ D1 := fun z => by
      have := J1.d
      rw [← z, nD2] at this
      cases this
    have J1' := J1.ex e34
    have J2' := J2.ex e4
    have hC4 := hC2.ex pnR_e e34
    have hσ2 : List.set (List.set (List.set [some (.ref l), some (.str (kdS up)), some (.ref C), none, none, none, none, none, none, none, none, none, none, none, none, none, none] 3 (some (V.ref D1))) 4 (some (V.ref D2))) 5 (some (V.ref S)) = [some (.ref l), some (.str (kdS up)), some (.ref C), some (.ref D1), some (.ref D2), some (.ref S), none, none, none, none, none, none, none, none, none, none, none] := rfl
    rw [hσ2]
    have n0 : ∀ od x, (upd H4 D1 (.frz od x)) D1 = some (.frz od x) := fun od x => upd_same
    refine q_forItT rfl J1'.d (fun od i σ' H' => ∃ o6 o7 o8 o9 o10, σ' = [some (.ref l), some (.str (kdS up)), some (.ref C), some (.ref D1), some (.ref D2), some (.ref S), o6, o7, o8, o9, o10, none, none, none, none, none, none] ∧ But1 S (upd H4 D1 (.frz od (.dT (kvJ (GsF (isort barL (aheadB (turnP up ps)))) as1)))) H' ∧ Grow (sdR up) H' S (((runs (isort barL (aheadB (turnP up ps)))).take i).filterMap fun g => ((runs (isort barL (behindB (turnP up ps)))).find? fun h => decide (beg h = beg g)).map fun h => (g, h)))
      (fun od => ⟨none, none, none, none, none, rfl, But1.of (Evl.Ex.refl _), grow_nil (by rw [upd_ne nS1]; exact hS)⟩) (fun od i σ' H' hi ⟨o6, o7, o8, o9, o10, _, b, _⟩ => b _ _ (Ne.symm nS1) upd_same) ?_ ?_
    · rintro od i k v q1 T σ' H' hkv hq ⟨o6, o7, o8, o9, o10, rfl, b, gr⟩ nT rt bk
      obtain ⟨g, a, hg, ha, rfl, rfl⟩ := kvJ_inv hkv
      obtain ⟨r, hr1, rfl⟩ := gs_at hg
      have rne : r ≠ [] := runs_ne _ r (List.mem_of_getElem? hr1)
      refine g_tup2v upd_same ?_
      have eT : Evl.Ex H' (upd H' T (.tup [.ref q1, .ref a])) := Evl.Ex.new nT
      generalize upd H' T (.tup [.ref q1, .ref a]) = H5 at eT
      have keep : ∀ c o, c ≠ D1 → c ≠ S → H4 c = some o → H5 c = some o := fun c o h1 h2 h => eT _ _ (b _ _ h2 (by rw [upd_ne h1]; exact h))
      have hD2 : H5 D2 = some (.dT (kvJ (GsF (isort barL (behindB (turnP up ps)))) as2)) := keep _ _ n12 (Ne.symm nS2) J2'.d
      have hq5 := eT _ _ hq
      have gr5 := gr.ex sdR_e eT
      have tk : ((runs (isort barL (aheadB (turnP up ps)))).take (i + 1)).filterMap (fun g => ((runs (isort barL (behindB (turnP up ps)))).find? fun h => decide (beg h = beg g)).map fun h => (g, h)) = ((runs (isort barL (aheadB (turnP up ps)))).take i).filterMap (fun g => ((runs (isort barL (behindB (turnP up ps)))).find? fun h => decide (beg h = beg g)).map fun h => (g, h)) ++ (match (runs (isort barL (behindB (turnP up ps)))).find? fun h => decide (beg h = beg r) with | none => [] | some h => [(r, h)]) := by
        rw [List.take_add_one, hr1, List.filterMap_append]
        congr 1
        show List.filterMap _ [r] = _
        rw [List.filterMap_cons]
        cases (runs (isort barL (behindB (turnP up ps)))).find? fun h => decide (beg h = beg r) <;> rfl
      have fm : (GsF (isort barL (behindB (turnP up ps)))).find? (fun g => decide (g.1 = beg r)) = ((runs (isort barL (behindB (turnP up ps)))).find? fun h => decide (beg h = beg r)).map fun h => (beg h, idsB h) := by
        unfold GsF
        rw [List.find?_map]
        rfl
      refine Evl.s_when (b := (valV (kvJ (GsF (isort barL (behindB (turnP up ps)))) as2) (kyJ (beg r))).isSome) (fun H6 e6 Q q => ⟨.ref q1, rfl, .ref D2, rfl, D2, _, rfl, .inr ⟨_, kyJ (beg r), q1, .inl (e6 _ _ hD2), rfl, e6 _ _ hq5, rfl⟩, _, rfl, q H6 (Evl.Ex.refl _)⟩) (fun hb H6 e6 => ?_) fun hb H6 e6 => ?_
      · rcases kv_find (b := beg r) J2'.len with ⟨_, h2⟩ | ⟨j, g2, a2, h1, h2, h3, h4⟩
        · rw [h2] at hb
          cases hb
        · rw [fm] at h3
          obtain ⟨hh, k1, k2⟩ := Option.map_eq_some_iff.mp h3
          subst k2
          have fa := J1.fr a (List.mem_of_getElem? ha)
          have fa2 := J2.fr a2 (List.mem_of_getElem? h2)
          have ha2' : H3 a = some (.lst ((idsB r).map V.int)) := e3 _ _ (J1.at_ i a _ ha hg)
          have hb2' : H3 a2 = some (.lst ((idsB hh).map V.int)) := J2.at_ j a2 _ h2 h1
          have naS : a ≠ S := fun z => by rw [z, nS] at ha2'; cases ha2'
          have nbS : a2 ≠ S := fun z => by rw [z, nS] at hb2'; cases hb2'
          have nbD : a2 ≠ D1 := fun z => by
            have := J1.d
            rw [← z, fa2.1] at this
            cases this
          have ha6 : H6 a = some (.lst ((idsB r).map V.int)) := e6 _ _ (keep a _ fa.2 naS (e4 _ _ ha2'))
          have hb6 : H6 a2 = some (.lst ((idsB hh).map V.int)) := e6 _ _ (keep a2 _ nbD nbS (e4 _ _ hb2'))
          have hD6 := e6 _ _ hD2
          have hq6 := e6 _ _ hq5
          have gr6 := gr5.ex sdR_e e6
          have hC6 : RL (fun p => tupI (pnL p)) H6 C (turnP up ps) := by
            have z1 : RL (fun p => tupI (pnL p)) H4 C (turnP up ps) := hC4
            have z2 := rl_butD (H' := upd H4 D1 (.frz od (.dT (kvJ (GsF (isort barL (aheadB (turnP up ps)))) as1)))) z1 J1'.d (fun _ h => (nomatch h)) (fun _ h => (nomatch h)) ((But1.of (Evl.Ex.refl H4)).upd)
            have nCS : C ≠ S := fun z => by
              obtain ⟨ys, hy, _⟩ := hC2.ex pnR_e e3
              rw [z, nS] at hy
              cases hy
            have z3 := rl_but z2 (show (upd H4 D1 (.frz od (.dT (kvJ (GsF (isort barL (aheadB (turnP up ps)))) as1)))) S = some (.lst []) by rw [upd_ne nS1]; exact hS) nCS b
            exact (z3.ex (fun p => tupI_e (pnL p)) eT).ex (fun p => tupI_e (pnL p)) e6
          have cnt : (runs (isort barL (aheadB (turnP up ps)))).length ≤ 60 := by
            have c1 := gs_count (isort barL (aheadB (turnP up ps)))
            have c2 := (isort_perm barL (aheadB (turnP up ps))).length_eq
            unfold GsF at c1
            rw [List.length_map] at c1
            have c3 : (aheadB (turnP up ps)).length = (turnP up ps).length := by unfold aheadB; rw [List.length_map, List.length_zipIdx]
            omega
          refine q_asgT2 (a := (beg r).1) (b := (beg r).2) (Evl.ev_var rfl) ⟨q1, rfl, hq6⟩ fun H7 e7 => ?_
          obtain ⟨r0, s0, hr0⟩ : ∃ r0 s0, r = r0 ++ [s0] := ⟨r.dropLast, r.getLast rne, (List.dropLast_concat_getLast rne).symm⟩
          obtain ⟨p0, hp0, _, _, hpb⟩ := mem_ahead.mp ((isort_perm barL _).mem_iff.mp (runs_sub (List.mem_of_getElem? hr1) s0 (by rw [hr0]; simp)))
          have htip : tipB r = p0.y1 := by rw [hr0]; simp [tipB, hpb]
          obtain ⟨ys, hy1, hy2⟩ := hC6.ex (fun p => tupI_e (pnL p)) e7
          obtain ⟨y, hy3, Ty, rfl, hTy⟩ := pr_at hy2 hp0
          have ha7 : H7 a = some (.lst ((idsB r0).map V.int ++ [.int (s0.id : Int)])) := by
            rw [e7 _ _ ha6, hr0]
            simp [idsB]
          refine Evl.q_asg (v := .int (tipB r)) (Evl.ev_op (Evl.ev_op (Evl.ev_var rfl) (ev_lastV (l := a) rfl ha7) (Evl.rv_ixL (SqL.of hy1) (atI_nat hy3))) Evl.ev_c (Evl.rv_ixT (SqT.of hTy) (by rw [htip]; rfl))) fun H8 e8 => ?_
          have e68 := e7.trans e8
          refine s_appG sdR_e (z := (r, hh)) (gr6.ex sdR_e e68) rfl (by
            have c1 := List.length_filterMap_le (fun g => ((runs (isort barL (behindB (turnP up ps)))).find? fun h => decide (beg h = beg g)).map fun h => (g, h)) ((runs (isort barL (aheadB (turnP up ps)))).take i)
            rw [List.length_take] at c1
            omega) (fun H9 e9 Q q => ?_) fun H9 b9 gr9 => ?_
          · refine Evl.eu_tup (vs := [.str (kdS up), .int (beg r).1, .int (beg r).2, .int (tipB r)]) (Evl.ea_cons (Evl.ev_var rfl) (Evl.ea_cons (Evl.ev_var rfl) (Evl.ea_cons (Evl.ev_var rfl) (Evl.ea_cons (Evl.ev_var rfl) Evl.ea_nil)))) (show 4 ≤ 100000 by decide) H9 e9 (fun sv H10 => (tCons (tVar 7) (tCons (tDGet (tVar 4) (tVar 6)) tNil)) _ H10 fun xs H11 => (sv :: xs).length ≤ sizeLine ∧ ∀ p, H11 p = none → Q (.ref p) (upd H11 p (.tup (sv :: xs)))) fun s2 H10 ns2 e10 hs2 => ?_
            have e610 := e68.trans (e9.trans e10)
            have hSS : H6 S ≠ none := by
              obtain ⟨ys, h, _⟩ := gr6
              rw [h]
              exact fun h => nomatch h
            refine ⟨.ref a, rfl, .ref D2, rfl, .ref q1, rfl, D2, .ref a2, rfl, .inr ⟨_, kyJ (beg r), q1, .inl (e610 _ _ hD6), rfl, e610 _ _ hq6, h4.symm⟩, (show 3 ≤ sizeLine by decide), fun T2 nT2 => q (.ref T2) _ (e10.trans (Evl.Ex.new nT2)) ⟨T2, s2, a, a2, rfl, hide_of (fun z => ?_) upd_same, hide_of (fun z => ?_) (Evl.Ex.new nT2 _ _ hs2), hide_of naS (Evl.Ex.new nT2 _ _ (e610 _ _ ha6)), hide_of nbS (Evl.Ex.new nT2 _ _ (e610 _ _ hb6))⟩⟩
            · exact ex_ne e610 hSS (by rw [← z]; exact nT2)
            · exact ex_ne (e68.trans e9) hSS (by rw [← z]; exact ns2)
          · refine ⟨_, _, _, _, _, rfl, (b.tr (But1.of (eT.trans (e6.trans e68)))).tr b9, ?_⟩
            rw [tk, k1]
            exact gr9
      · rcases kv_find (b := beg r) J2'.len with ⟨h1, _⟩ | ⟨j, g2, a2, h1, h2, h3, h4⟩
        · rw [fm, Option.map_eq_none_iff] at h1
          refine ⟨_, _, _, _, _, rfl, b.tr (But1.of (eT.trans e6)), ?_⟩
          rw [tk, h1]
          show Grow _ _ _ (_ ++ [])
          rw [List.append_nil]
          exact gr5.ex sdR_e e6
        · rw [h4] at hb
          cases hb
    · rintro od σ' H' ⟨o6, o7, o8, o9, o10, rfl, b, gr⟩
      rw [kvJ_len J1'.len, show (GsF (isort barL (aheadB (turnP up ps)))).length = (runs (isort barL (aheadB (turnP up ps)))).length from List.length_map _, List.take_of_length_le (Nat.le_refl _)] at gr
      have hfz : H' D1 = some (.frz od (.dT (kvJ (GsF (isort barL (aheadB (turnP up ps)))) as1))) := b _ _ (Ne.symm nS1) upd_same
      obtain ⟨ys, hy, hpr⟩ := gr
      have eH : Evl.Ex H (upd H' D1 (.dT (kvJ (GsF (isort barL (aheadB (turnP up ps)))) as1))) := fun c o hc => by
        have n1 : c ≠ D1 := fun z => by
          have := e1 _ _ hc
          rw [z, nD1] at this
          cases this
        have n2 : c ≠ S := fun z => by
          have := (e1.trans (e2.trans e3)) _ _ hc
          rw [z, nS] at this
          cases this
        rw [upd_ne n1]
        exact b _ _ n2 (by rw [upd_ne n1]; exact (e1.trans (e2.trans e34)) _ _ hc)
      exact Evl.s_ret (Evl.ev_var rfl) fun H6 e6 => q H6 S (eH.trans e6) (Evl.fresh_back (e1.trans (e2.trans e3)) nS) (RL.ex sdR_e ⟨ys, by rw [upd_ne nS1]; exact hy, sdR_un hfz hpr⟩ e6)
end
end GL
set_option Elab.async false
set_option linter.all false
set_option maxRecDepth 100000
set_option maxHeartbeats 1000000
/-! # the pairs that touch: find_all_sides, find_pairs_at, find_touching, touching_pairs -/
namespace GL
open PySem PySem.Spec PyProof.Rows L2 Geo Rel ItT
section
variable {P : Program} {w : World} {K : PySem.W.Frag} {mg : Str → Option Value} {base : Heap} {σ : L2.St} {H : Hp}
theorem maxTK {X : Cx} (e : X.K = K) (hc : X.calm = true) (hu : X.A.units + 65 < cLine) : CallR X (.builtin "max") (MxT.rMaxT K) := e ▸ MxT.cr_maxT hc (by omega)
theorem minTK {X : Cx} (e : X.K = K) (hc : X.calm = true) (hu : X.A.units + 65 < cLine) : CallR X (.builtin "min") (MxT.rMinT K) := e ▸ MxT.cr_minT hc (by omega)
theorem er_sides {up : Bool} {l : Addr} {ps : List Pn} {W Hh : Int} (h0 : σ[0]? = some (some (.ref l))) (hl : RL pnR H l ps) (hD : Desk ps W Hh) : EvRL (tCall spSides2 [] E0 (tCons (tVar 0) (tCons (tC (.str (kdS up))) tNil))) σ H (sdR up) (sidesF (aheadS up ps) (behindS up ps)) := fun H1 e Q q =>
  ⟨.ref l, h0, l, ps, W, Hh, up, rfl, hl.ex pnR_e e, hD, fun H2 S e2 nS hS => q S H2 nS e2 hS⟩
abbrev SdT := Bool × (List Bar × List Bar)
def sdR2 (z : SdT) : V → Hp → Prop := sdR z.1 z.2
theorem sdR2_e : MonoE sdR2 := fun z v H H' e h => sdR_e (up := z.1) z.2 v H H' e h
def allSides (ps : List Pn) : List SdT := (sidesF (aheadS false ps) (behindS false ps)).map (fun u => (false, u)) ++ (sidesF (aheadS true ps) (behindS true ps)).map (fun u => (true, u))
theorem aheadS_len (up : Bool) (ps : List Pn) : (aheadS up ps).length = ps.length := by
  unfold aheadS
  rw [(isort_perm barL _).length_eq]
  unfold aheadB turnP
  cases up <;> simp
theorem sdF_len (up : Bool) (ps : List Pn) : (sidesF (aheadS up ps) (behindS up ps)).length ≤ ps.length := by
  have c1 := gs_count (aheadS up ps)
  unfold GsF at c1
  rw [List.length_map, aheadS_len] at c1
  unfold sidesF
  exact Nat.le_trans (List.length_filterMap_le _ _) c1
def spAllSides : Sp := fun vs H Q _ => ∃ (l : Addr) (ps : List Pn) (W Hh : Int), vs = [.ref l] ∧ RL pnR H l ps ∧ Desk ps W Hh ∧ ∀ H' S, Evl.Ex H H' → H S = none → RL sdR2 H' S (allSides ps) → Q (.ref S) H'
theorem ok_all_sides {f f1 : Addr} {fd fd1 : FuncData} (F : Fun K "find_all_sides" "find_all_sides" s_find_all_sides f fd) (C_find_sides : Cal P w K mg base "find_sides" 2 f1 fd1 ["layout", "kind"] spSides2) : FnOk P w K mg base CX0 3 f fd ["layout"] spAllSides := by
  refine F.ok sc_find_all_sides (fun vs H Q E h => ?_) (fun cdv A outer s H vs Q E hr h => ?_)
  · obtain ⟨x, p, _, _, rfl, _⟩ := h
    rfl
  · obtain ⟨l, ps, W, Hh, rfl, hl, hD, q⟩ := h
    refine ⟨_, (pss_one (ps_ret (pe_op op_cat (pe_call C_find_sides.G (hr.mono (by decide)) (by rfl) C_find_sides.g C_find_sides.k C_find_sides.b .nil pass0 (by exact (pa_cons (pv 0) (pa_cons pe_str pa_nil)))) (pe_call C_find_sides.G (hr.mono (by decide)) (by rfl) C_find_sides.g C_find_sides.k C_find_sides.b .nil pass0 (by exact (pa_cons (pv 0) (pa_cons pe_str pa_nil))))))), ?_⟩
    have s1 := sdF_len false ps
    have s2 := sdF_len true ps
    have := hD.v.len
    exact s_retRL (R := sdR2) (zs := allSides ps) (er_catNN sdR2_e (EvRL.to (R := sdR false) (g := fun u => (false, u)) (fun z y H h => h) (er_sides rfl hl hD)) (EvRL.to (R := sdR true) (g := fun u => (true, u)) (fun z y H h => h) (er_sides rfl hl hD)) (by rw [List.length_map, List.length_map]; omega)) fun S H1 nS e1 hS => q H1 S e1 nS hS
/-- the far end of a pane along a line -/
def tipP (up : Bool) (p : Pn) : Int := if up then p.y1 else p.x1
def tips (up : Bool) (ps : List Pn) (g : List Bar) : Prop := ∀ s ∈ g, ∃ p, ps[s.id]? = some p ∧ tipP up p = s.b
def prL (u : Bar × Bar) : List Int := [(u.1.id : Int), (u.2.id : Int)]
theorem atB {g : List Bar} {i : Nat} {s : Bar} (h : g[i]? = some s) : atI ((idsB g).map V.int) (i : Int) = some (.int (s.id : Int)) := atI_nat (by unfold idsB; rw [List.getElem?_map, List.getElem?_map, h]; rfl)
theorem atB0 {g : List Bar} {s : Bar} (h : g[0]? = some s) : atI ((idsB g).map V.int) 0 = some (.int (s.id : Int)) := atB (i := 0) h
theorem pn_tip (up : Bool) (p : Pn) : atI ((pnL p).map V.int) (if up then 3 else 2) = some (.int (tipP up p)) := by cases up <;> rfl
theorem mg_len : ∀ (A B : List Bar), (Geo.mg A B).length ≤ A.length + B.length
  | [], B => by simp [Geo.mg]
  | a :: A, [] => by simp [Geo.mg]
  | a :: A, b :: B => by
    rw [mg_cons, List.length_cons]
    split
    · simp
      omega
    · split
      · have := mg_len A (b :: B)
        simp at this ⊢
        omega
      · have := mg_len (a :: A) B
        simp at this ⊢
        omega
termination_by A B => A.length + B.length
def spPairsAt : Sp := fun vs H Q _ => ∃ (l ka kb : Addr) (up : Bool) (ps : List Pn) (g h : List Bar), vs = [.ref l, .str (kdS up), .ref ka, .ref kb] ∧ RL pnR H l ps ∧ H ka = some (.lst ((idsB g).map V.int)) ∧ H kb = some (.lst ((idsB h).map V.int)) ∧ Good g h ∧ tips up ps g ∧ tips up ps h ∧ g.length ≤ 1000 ∧ h.length ≤ 1000 ∧ ∀ H' S, Evl.Ex H H' → H S = none → RL (fun u => tupI (prL u)) H' S (Geo.mg g h) → Q (.ref S) H'
theorem ok_pairs_at {f : Addr} {fd : FuncData} (F : Fun K "find_pairs_at" "find_pairs_at" s_find_pairs_at f fd) (B : BP mg) : FnOk P w K mg base CX0 1 f fd ["layout", "kind", "ahead", "behind"] spPairsAt := by
  refine F.ok sc_find_pairs_at (fun vs H Q E h => ?_) (fun cdv A outer s H vs Q E hr h => ?_)
  · obtain ⟨_, _, _, _, _, _, _, rfl, _⟩ := h
    rfl
  · obtain ⟨l, ka, kb, up, ps, g, h, rfl, hl, hka, hkb, good, tg, th, lg, lh, q⟩ := h
    refine ⟨_, (pss_cons (ps_set (i := 4) sc_find_pairs_at.nd rfl (.inl rfl) (pe_ifExp (pt_cmpR op_eq (pv 1) pe_str (nomark _)) pe_int pe_int))
      (pss_cons (ps_set (i := 5) sc_find_pairs_at.nd rfl (.inl rfl) (pe_lst (pa_cons (pe_tup (pa_cons (pe_ix (ixLK (K := K) rfl) (pv 2) pe_int (fun _ _ => rfl)) (pa_cons (pe_ix (ixLK (K := K) rfl) (pv 3) pe_int (fun _ _ => rfl)) pa_nil))) pa_nil)))
      (pss_cons (ps_asg2 pe_int (pg_name (i := 6) sc_find_pairs_at.nd rfl (Or.inl rfl)) (pg_name (i := 7) sc_find_pairs_at.nd rfl (Or.inl rfl)))
      (pss_cons (ps_while PassesOwn.never (PW.pt (pw_or (pt_cmpR op_lt (pe_op op_add (pv 6) pe_int) (pe_callB (lenK (K := K) rfl) (by rfl) B.len_ (by decide +kernel) (pa_cons (pv 2) pa_nil)) (nomark _)) (pw_or1 (pt_cmpR op_lt (pe_op op_add (pv 7) pe_int) (pe_callB (lenK (K := K) rfl) (by rfl) B.len_ (by decide +kernel) (pa_cons (pv 3) pa_nil)) (nomark _))))) (Evl.pss_cut (ps_if (pt_cmpR op_lt (pe_ix (ixTK (K := K) rfl) (pe_ix (ixLK (K := K) rfl) (pv 0) (pe_ix (ixLK (K := K) rfl) (pv 2) (pv 6) (fun _ _ => rfl)) (fun _ _ => rfl)) (pv 4) (fun _ _ => rfl)) (pe_ix (ixTK (K := K) rfl) (pe_ix (ixLK (K := K) rfl) (pv 0) (pe_ix (ixLK (K := K) rfl) (pv 3) (pv 7) (fun _ _ => rfl)) (fun _ _ => rfl)) (pv 4) (fun _ _ => rfl)) (nomark _)) (pss_one (ps_aug (i := 6) sc_find_pairs_at.nd rfl (.inl rfl) pe_int ip_add)) (pss_one (ps_aug (i := 7) sc_find_pairs_at.nd rfl (.inl rfl) pe_int ip_add)))
      (pss_one (ps_expr (pe_bm PySem.F.plainAttrs_list PySem.F.slot_list_append PySem.F.type_list_append mt_append (pv 5) (pa_cons (pe_tup (pa_cons (pe_ix (ixLK (K := K) rfl) (pv 2) (pv 6) (fun _ _ => rfl)) (pa_cons (pe_ix (ixLK (K := K) rfl) (pv 3) (pv 7) (fun _ _ => rfl)) pa_nil))) pa_nil))))))
      (pss_one (ps_ret (pv 5))))))), ?_⟩
    obtain ⟨a, b, A, B, x, y, e, rfl, rfl, cA, cB, pA, pB⟩ := good
    have tk : Evl.EvT (tTest (tOp rEq (tVar 1) (tC (.str "upright")))) (L2.start n_find_pairs_at [V.ref l, V.str (kdS up), V.ref ka, V.ref kb]) H up := Evl.et_test (Evl.ev_is (Evl.ev_op (Evl.ev_var rfl) Evl.ev_c (Evl.rv_eq rfl)) (by cases up <;> decide +kernel))
    refine Evl.q_asg (v := .int (if up then 3 else 2)) (Evl.ev_if tk (fun h => by rw [h]; exact Evl.ev_c) (fun h => by rw [h]; exact Evl.ev_c)) fun H1 e1 => ?_
    refine q_asgRL (R := fun u => tupI (prL u)) (zs := [(a, b)]) (fun H2 e2 Q q2 => ?_) fun S H2 nS e2 hS => ?_
    · refine Evl.eu_tup (vs := [.int (a.id : Int), .int (b.id : Int)]) (Evl.ea_cons (Evl.ev_op (Evl.ev_var rfl) Evl.ev_c (Evl.rv_ixL (SqL.of (e1 _ _ hka)) (atB0 rfl))) (Evl.ea_cons (Evl.ev_op (Evl.ev_var rfl) Evl.ev_c (Evl.rv_ixL (SqL.of (e1 _ _ hkb)) (atB0 rfl))) Evl.ea_nil)) (show 2 ≤ 100000 by decide) H2 e2 (fun v H3 => [v].length ≤ sizeLine ∧ ∀ p, H3 p = none → Q (.ref p) (upd H3 p (.lst [v]))) fun p H3 np e3 hp => ⟨(show 1 ≤ sizeLine by decide), fun d nd => q2 d _ (Evl.fresh_back e3 nd) (e3.trans (Evl.Ex.new nd)) ⟨_, upd_same, .cons ⟨p, rfl, Evl.Ex.new nd _ _ hp⟩ .nil⟩⟩
    · refine q_asg2 (v := .int 0) ?_
      have hσ : List.set (List.set (List.set (List.set (L2.start n_find_pairs_at [V.ref l, V.str (kdS up), V.ref ka, V.ref kb]) 4 (some (V.int (if up = true then 3 else 2)))) 5 (some (V.ref S))) 6 (some (V.int 0))) 7 (some (V.int 0)) = [some (.ref l), some (.str (kdS up)), some (.ref ka), some (.ref kb), some (.int (if up then 3 else 2)), some (.ref S), some (.int 0), some (.int 0)] := rfl
      rw [hσ]
      have hka2 := (e1.trans e2) _ _ hka
      have hkb2 := (e1.trans e2) _ _ hkb
      have hl2 : RL (fun p => tupI (pnL p)) H2 l ps := (hl.ex pnR_e e1).ex pnR_e e2
      have nka : ka ≠ S := fun z => by
        have := e1 _ _ hka
        rw [z, nS] at this
        cases this
      have nkb : kb ≠ S := fun z => by
        have := e1 _ _ hkb
        rw [z, nS] at this
        cases this
      have nl : l ≠ S := fun z => by
        obtain ⟨ys, this, _⟩ := hl.ex pnR_e e1
        rw [z, nS] at this
        cases this
      obtain ⟨yS, hyS, _⟩ := hS
      have hS : RL (fun u => tupI (prL u)) H2 S [(a, b)] := ⟨yS, hyS, ‹_›⟩
      refine Evl.q_while (fun m σ' H' => ∃ (i j : Nat) (a' b' : Bar) (A' B' : List Bar) (pre : List (Bar × Bar)), σ' = [some (.ref l), some (.str (kdS up)), some (.ref ka), some (.ref kb), some (.int (if up then 3 else 2)), some (.ref S), some (.int (i : Int)), some (.int (j : Int))] ∧ (a :: A).drop i = a' :: A' ∧ (b :: B).drop j = b' :: B' ∧ m = A'.length + B'.length ∧ Ch x a'.a (a' :: A') e ∧ Ch y b'.a (b' :: B') e ∧ pre ++ Geo.mg (a' :: A') (b' :: B') = Geo.mg (a :: A) (b :: B) ∧ But1 S H2 H' ∧ RL (fun u => tupI (prL u)) H' S (pre ++ [(a', b')])) (A.length + B.length) ⟨0, 0, a, b, A, B, [], rfl, rfl, rfl, rfl, cA, cB, rfl, But1.of (Evl.Ex.refl _), hS⟩ ?_
      rintro m σ' H' ⟨i, j, a', b', A', B', pre, rfl, dA, dB, rfl, cA', cB', hpre, bS, hP⟩
      have lA : (a :: A).length = i + (A'.length + 1) := by
        have := congrArg List.length dA
        rw [List.length_drop, List.length_cons, List.length_cons] at this
        rw [List.length_cons]
        omega
      have lB : (b :: B).length = j + (B'.length + 1) := by
        have := congrArg List.length dB
        rw [List.length_drop, List.length_cons, List.length_cons] at this
        rw [List.length_cons]
        omega
      have iA : ((idsB (a :: A)).map V.int).length = i + (A'.length + 1) := by unfold idsB; rw [List.length_map, List.length_map, lA]
      have iB : ((idsB (b :: B)).map V.int).length = j + (B'.length + 1) := by unfold idsB; rw [List.length_map, List.length_map, lB]
      have pA' : ∀ s ∈ a' :: A', s.a < s.b := fun s hs => pA s (List.mem_of_mem_drop (dA ▸ hs))
      have pB' : ∀ s ∈ b' :: B', s.a < s.b := fun s hs => pB s (List.mem_of_mem_drop (dB ▸ hs))
      have hka' := bS _ _ nka hka2
      have hkb' := bS _ _ nkb hkb2
      refine ⟨!(decide (A' = []) && decide (B' = [])), ?_, fun hb H3 e3 => ?_, fun hb H3 e3 => ?_⟩
      · refine Evl.et_is (Evl.et_or (a := decide ((i : Int) + 1 < ((i + (A'.length + 1) : Nat) : Int))) (b := decide ((j : Int) + 1 < ((j + (B'.length + 1) : Nat) : Int))) (Evl.et_test (Evl.ev_op (Evl.ev_op (Evl.ev_var rfl) Evl.ev_c Evl.rv_I0) (iA ▸ ev_lenS rfl fun H3 e3 => .inl (SqL.of (e3 _ _ hka'))) Evl.rv_I0)) (fun _ => Evl.et_test (Evl.ev_op (Evl.ev_op (Evl.ev_var rfl) Evl.ev_c Evl.rv_I0) (iB ▸ ev_lenS rfl fun H3 e3 => .inl (SqL.of (e3 _ _ hkb'))) Evl.rv_I0))) ?_
        rw [Bool.not_and]
        congr 1
        · rw [← decide_not]
          refine decide_eq_decide.mpr ⟨fun h z => ?_, fun h => ?_⟩
          · rw [z] at h
            simp at h
          · have := List.length_pos_iff.mpr h
            omega
        · rw [← decide_not]
          refine decide_eq_decide.mpr ⟨fun h z => ?_, fun h => ?_⟩
          · rw [z] at h
            simp at h
          · have := List.length_pos_iff.mpr h
            omega
      · have nn : ¬ (A' = [] ∧ B' = []) := fun ⟨h1, h2⟩ => by rw [h1, h2] at hb; cases hb
        obtain ⟨g1, g2⟩ := good_step cA' cB' pA' pB' nn
        have hi : (a :: A)[i]? = some a' := by
          have := congrArg (fun z : List Bar => z[0]?) dA
          simpa [List.getElem?_drop] using this
        have hj : (b :: B)[j]? = some b' := by
          have := congrArg (fun z : List Bar => z[0]?) dB
          simpa [List.getElem?_drop] using this
        have dA2 : (a :: A).drop (i + 1) = A' := by rw [← List.drop_drop, dA]; rfl
        have dB2 : (b :: B).drop (j + 1) = B' := by rw [← List.drop_drop, dB]; rfl
        have mgE := mg_cons a' b' A' B'
        rw [if_neg nn] at mgE
        refine ⟨_, fun _ _ h => h, ?_⟩
        obtain ⟨ys3, hy3, hp3⟩ := (rl_but hl2 hyS nl bS).ex (fun p => tupI_e (pnL p)) e3
        obtain ⟨pa, hpa, tpa⟩ := tg a' (List.mem_of_getElem? hi)
        obtain ⟨pb, hpb, tpb⟩ := th b' (List.mem_of_getElem? hj)
        obtain ⟨ya, hya, Ta, rfl, hTa⟩ := pr_at hp3 hpa
        obtain ⟨yb, hyb, Tb, rfl, hTb⟩ := pr_at hp3 hpb
        have hka3 := e3 _ _ hka'
        have hkb3 := e3 _ _ hkb'
        have hP3 := hP.ex (fun u => tupI_e (prL u)) e3
        refine Evl.q_cut (M := fun σ2 H4 => ∃ (i2 j2 : Nat) (a2 b2 : Bar) (A2 B2 : List Bar), σ2 = [some (.ref l), some (.str (kdS up)), some (.ref ka), some (.ref kb), some (.int (if up then 3 else 2)), some (.ref S), some (.int (i2 : Int)), some (.int (j2 : Int))] ∧ (a :: A).drop i2 = a2 :: A2 ∧ (b :: B).drop j2 = b2 :: B2 ∧ A2.length + B2.length < A'.length + B'.length ∧ Ch x a2.a (a2 :: A2) e ∧ Ch y b2.a (b2 :: B2) e ∧ (pre ++ [(a', b')]) ++ Geo.mg (a2 :: A2) (b2 :: B2) = Geo.mg (a :: A) (b :: B) ∧ Evl.Ex H3 H4) ?_ ?_
        · refine Evl.s_if (b := decide (a'.b < b'.b)) (Evl.et_test (Evl.ev_op (x := .int a'.b) (y := .int b'.b) (Evl.ev_op (Evl.ev_op (Evl.ev_var rfl) (Evl.ev_op (Evl.ev_var rfl) (Evl.ev_var rfl) (Evl.rv_ixL (SqL.of hka3) (atB hi))) (Evl.rv_ixL (SqL.of hy3) (atI_nat hya))) (Evl.ev_var rfl) (Evl.rv_ixT (SqT.of hTa) (by rw [pn_tip, tpa]))) (Evl.ev_op (Evl.ev_op (Evl.ev_var rfl) (Evl.ev_op (Evl.ev_var rfl) (Evl.ev_var rfl) (Evl.rv_ixL (SqL.of hkb3) (atB hj))) (Evl.rv_ixL (SqL.of hy3) (atI_nat hyb))) (Evl.ev_var rfl) (Evl.rv_ixT (SqT.of hTb) (by rw [pn_tip, tpb]))) Evl.rv_I0)) (fun hc H4 e4 => ?_) fun hc H4 e4 => ?_
          · have c := of_decide_eq_true hc
            obtain ⟨a2, A2, rfl, cA2⟩ := cA'.step (g1 c)
            rw [if_pos c] at mgE
            refine Evl.s_aug (a := (i : Int)) (b := 1) rfl Evl.ev_c fun H5 e5 => ⟨i + 1, j, a2, b', A2, B', rfl, dA2, dB, by simp, cA2, cB', ?_, e4.trans e5⟩
            rw [List.append_assoc, ← hpre, mgE]
            rfl
          · have c := of_decide_eq_false hc
            obtain ⟨b2, B2, rfl, cB2⟩ := cB'.step (g2 c)
            rw [if_neg c] at mgE
            refine Evl.s_aug (a := (j : Int)) (b := 1) rfl Evl.ev_c fun H5 e5 => ⟨i, j + 1, a', b2, A', B2, rfl, dA, dB2, by simp, cA', cB2, ?_, e4.trans e5⟩
            rw [List.append_assoc, ← hpre, mgE]
            rfl
        · rintro σ2 H4 ⟨i2, j2, a2, b2, A2, B2, rfl, dA4, dB4, lt, cA4, cB4, hpre4, e4⟩
          have hi2 : (a :: A)[i2]? = some a2 := by
            have := congrArg (fun z : List Bar => z[0]?) dA4
            simpa [List.getElem?_drop] using this
          have hj2 : (b :: B)[j2]? = some b2 := by
            have := congrArg (fun z : List Bar => z[0]?) dB4
            simpa [List.getElem?_drop] using this
          have lp : (pre ++ [(a', b')]).length < 50000 := by
            have z := congrArg List.length hpre
            have z2 := mg_len (a :: A) (b :: B)
            have z3 := congrArg List.length mgE
            rw [List.length_append] at z
            rw [List.length_cons] at z3
            rw [List.length_append, List.length_singleton]
            omega
          refine s_appT (z := (a2, b2)) (hP3.ex (fun u => tupI_e (prL u)) e4) (Evl.ev_var rfl) (Evl.eu_tup (vs := [.int (a2.id : Int), .int (b2.id : Int)]) (Evl.ea_cons (Evl.ev_op (Evl.ev_var rfl) (Evl.ev_var rfl) (Evl.rv_ixL (SqL.of (e4 _ _ hka3)) (atB hi2))) (Evl.ea_cons (Evl.ev_op (Evl.ev_var rfl) (Evl.ev_var rfl) (Evl.rv_ixL (SqL.of (e4 _ _ hkb3)) (atB hj2))) Evl.ea_nil)) (show 2 ≤ 100000 by decide)) lp fun H5 b5 hP5 => ?_
          exact ⟨A2.length + B2.length, lt, i2, j2, a2, b2, A2, B2, pre ++ [(a', b')], rfl, dA4, dB4, rfl, cA4, cB4, hpre4, (bS.tr (But1.of (e3.trans e4))).tr b5, hP5⟩
      · have : A' = [] ∧ B' = [] := by simpa using hb
        obtain ⟨rfl, rfl⟩ := this
        rw [mg_cons, if_pos ⟨rfl, rfl⟩] at hpre
        have eH : Evl.Ex H H' := fun c o hc => bS _ _ (fun z => by
          have := e1 _ _ hc
          rw [z, nS] at this
          cases this) ((e1.trans e2) _ _ hc)
        rw [hpre] at hP
        exact Evl.s_ret (Evl.ev_var rfl) fun H4 e4 => q H4 S ((eH.trans e3).trans e4) (Evl.fresh_back e1 nS) ((hP.ex (fun u => tupI_e (prL u)) e3).ex (fun u => tupI_e (prL u)) e4)
theorem g_tup3V {i j k : Nat} {a b c : V} {p : Addr} {Q : L2.St → Hp → Prop} (hp : H p = some (.tup [a, b, c])) (q : Q (((σ.set i (some a)).set j (some b)).set k (some c)) H) :
    gTup K 3 (gCons (gName i) (gCons (gName j) (gCons (gName k) gNil))) (.ref p) σ H Q := ⟨p, _, rfl, SqT.of hp, rfl, _, _, rfl, _, _, rfl, _, _, rfl, rfl, q⟩
theorem sd_good {ps : List Pn} {W Hh : Int} (d : Desk ps W Hh) {z : SdT} (hz : z ∈ allSides ps) : Good z.2.1 z.2.2 ∧ tips z.1 ps z.2.1 ∧ tips z.1 ps z.2.2 ∧ z.2.1 ≠ [] ∧ z.2.2 ≠ [] ∧ z.2.1.length ≤ 60 ∧ z.2.2.length ≤ 60 := by
  obtain ⟨up, u⟩ := z
  have hu : u ∈ sidesF (aheadS up ps) (behindS up ps) := by
    unfold allSides at hz
    rcases List.mem_append.mp hz with h | h
    · obtain ⟨v, hv, e⟩ := List.mem_map.mp h
      injection e with e1 e2
      subst e1 e2
      exact hv
    · obtain ⟨v, hv, e⟩ := List.mem_map.mp h
      injection e with e1 e2
      subst e1 e2
      exact hv
  obtain ⟨h1, h2, h3⟩ := sides_mem hu
  obtain ⟨W', H', d2⟩ := turnP_desk (up := up) d
  have two : Two (aheadS up ps) (behindS up ps) := d2.two (isort_perm _ _) (bar_lex _) (isort_perm _ _) (bar_lex _)
  have tp : ∀ {i : Nat} {p : Pn}, (turnP up ps)[i]? = some p → ∃ q, ps[i]? = some q ∧ tipP up q = p.y1 := fun {i p} h => by
    cases up with
    | true => exact ⟨p, h, rfl⟩
    | false =>
      obtain ⟨q, hq, rfl⟩ := swap_at.mp h
      exact ⟨q, hq, rfl⟩
  have lq : (turnP up ps).length ≤ 60 := d2.v.len
  refine ⟨two.good h1 h2 h3, fun s hs => ?_, fun s hs => ?_, runs_ne _ _ h1, runs_ne _ _ h2, ?_, ?_⟩
  · obtain ⟨p, hp, _, _, e⟩ := mem_ahead.mp ((isort_perm barL _).mem_iff.mp (runs_sub h1 s hs))
    obtain ⟨q, hq, e2⟩ := tp hp
    exact ⟨q, hq, e2.trans e.symm⟩
  · obtain ⟨p, hp, _, _, e⟩ := mem_behind.mp ((isort_perm barL _).mem_iff.mp (runs_sub h2 s hs))
    obtain ⟨q, hq, e2⟩ := tp hp
    exact ⟨q, hq, e2.trans e.symm⟩
  · have a := (List.sublist_flatten_of_mem h1).length_le
    rw [runs_flat, aheadS_len] at a
    have := d.v.len
    exact Nat.le_trans a this
  · have a := (List.sublist_flatten_of_mem h2).length_le
    rw [runs_flat] at a
    unfold behindS at a
    rw [(isort_perm barL _).length_eq] at a
    unfold behindB at a
    rw [List.length_map, List.length_zipIdx] at a
    show u.2.length ≤ 60
    omega
def prN (z : Nat × Nat) : List Int := [(z.1 : Int), (z.2 : Int)]
theorem due_isort {ps : List Pn} {W Hh : Int} (d : Desk ps W Hh) : isort prN (((allSides ps).flatMap fun z => Geo.mg z.2.1 z.2.2).map fun u => mm (u.1.id, u.2.id)) = dueF ps := by
  have e : ((allSides ps).flatMap fun z => Geo.mg z.2.1 z.2.2).map (fun u => mm (u.1.id, u.2.id)) = (idsOf (aheadS false ps) (behindS false ps) ++ idsOf (aheadS true ps) (behindS true ps)).map mm := by
    unfold allSides
    rw [List.flatMap_append, List.flatMap_map, List.flatMap_map]
    show List.map _ ((sidesF _ _).flatMap (fun u => Geo.mg u.1 u.2) ++ (sidesF _ _).flatMap (fun u => Geo.mg u.1 u.2)) = _
    rw [sides_pairs, sides_pairs]
    unfold idsOf
    rw [List.map_append, List.map_append, List.map_map, List.map_map]
    rfl
  rw [e]
  have p := d.due (L := aheadS true ps) (M := behindS true ps) (L2 := aheadS false ps) (M2 := behindS false ps) (isort_perm _ _) (bar_lex _) (isort_perm _ _) (bar_lex _) (isort_perm _ _) (bar_lex _) (isort_perm _ _) (bar_lex _)
  refine List.Perm.eq_of_pairwise (le := fun u v => u.1 < v.1 ∨ (u.1 = v.1 ∧ u.2 ≤ v.2)) (fun a b _ _ h1 h2 => Prod.ext (by omega) (by omega)) ((isort_srt prN _).imp fun {u v} h => ?_) ((due_srt ps).imp fun {u v} h => ?_) ((isort_perm prN _).trans p.symm)
  · unfold prN at h
    rw [HT.lexLt_cons] at h
    by_cases c : (v.1 : Int) = u.1
    · rw [if_pos c, HT.lexLt_cons] at h
      by_cases d : (v.2 : Int) = u.2
      · omega
      · rw [if_neg d] at h
        have := of_decide_eq_false h
        omega
    · rw [if_neg c] at h
      have := of_decide_eq_false h
      omega
  · unfold LtP at h
    omega
theorem sd_hide {S : Addr} (hS : H S = some (.lst [])) {ys : List V} {zs : List SdT} (hz : ∀ z ∈ zs, z.2.1 ≠ [] ∧ z.2.2 ≠ []) (h : Paired (fun y z => sdR2 z y H) ys zs) : Paired (fun y z => sdR2 z y (hide S H)) ys zs := by
  induction h with
  | nil => exact .nil
  | @cons y z ys zs h t ih =>
    obtain ⟨n1, n2⟩ := hz z List.mem_cons_self
    obtain ⟨T, s, a, b, h1, h2, h3, h4, h5⟩ := h
    refine .cons ⟨T, s, a, b, h1, hide_of (fun e => ?_) h2, hide_of (fun e => ?_) h3, hide_of (fun e => ?_) h4, hide_of (fun e => ?_) h5⟩ (ih fun z hz' => hz z (List.mem_cons_of_mem _ hz'))
    · rw [e, hS] at h2
      cases h2
    · rw [e, hS] at h3
      cases h3
    · rw [e, hS] at h4
      injection h4 with h4
      injection h4 with h4
      exact n1 (List.map_eq_nil_iff.mp (List.map_eq_nil_iff.mp h4.symm))
    · rw [e, hS] at h5
      injection h5 with h5
      injection h5 with h5
      exact n2 (List.map_eq_nil_iff.mp (List.map_eq_nil_iff.mp h5.symm))
theorem sdF_count {ps : List Pn} {W Hh : Int} (d : Desk ps W Hh) : ∀ {Z : List SdT}, (∀ z ∈ Z, z ∈ allSides ps) → (Z.flatMap fun z => Geo.mg z.2.1 z.2.2).length ≤ 120 * Z.length
  | [], _ => Nat.zero_le _
  | z :: Z, h => by
    have ih := sdF_count d fun y hy => h y (List.mem_cons_of_mem z hy)
    obtain ⟨_, _, _, _, _, l1, l2⟩ := sd_good d (h z List.mem_cons_self)
    have := mg_len z.2.1 z.2.2
    rw [List.flatMap_cons, List.length_append, List.length_cons]
    omega
theorem er_callL {α : Type} {R : α → V → Hp → Prop} {zs : List α} {sp : Sp} {dvs vs : List V} {E : XK} {ta : TA} (h : Evl.EvA ta σ H vs) (hs : ∀ H1, Evl.Ex H H1 → ∀ Q : VK, (∀ p H2, H1 p = none → Evl.Ex H1 H2 → RL R H2 p zs → Q (.ref p) H2) → ∀ E : XK, sp (vs ++ dvs) H1 Q E) : EvRL (tCall sp dvs E ta) σ H R zs := fun H1 e Q q =>
  h H1 e _ fun H2 e2 => hs H2 (e.trans e2) _ (fun p H3 np e3 hp => q p H3 (Evl.fresh_back e2 np) (e2.trans e3) hp) E
theorem ev_minT {i : Nat} {y : V} {m n : Int} (hs : σ[i]? = some (some y)) (h : tupI [m, n] y H) : Evl.Ev (tCB (MxT.rMinT K) (tCons (tVar i) tNil)) σ H (.int (min m n)) := by
  obtain ⟨p, rfl, hp⟩ := h
  exact fun H1 e Q q => ⟨.ref p, hs, p, m, [n], rfl, SqT.of (e _ _ hp), q H1 (Evl.Ex.refl _)⟩
theorem ev_maxT2 {i : Nat} {y : V} {m n : Int} (hs : σ[i]? = some (some y)) (h : tupI [m, n] y H) : Evl.Ev (tCB (MxT.rMaxT K) (tCons (tVar i) tNil)) σ H (.int (max m n)) := by
  obtain ⟨p, rfl, hp⟩ := h
  exact fun H1 e Q q => ⟨.ref p, hs, p, m, [n], rfl, SqT.of (e _ _ hp), q H1 (Evl.Ex.refl _)⟩
theorem mm_min (i j : Nat) : min (i : Int) (j : Int) = ((mm (i, j)).1 : Int) := by
  unfold mm
  dsimp only
  split <;> dsimp only <;> omega
theorem mm_max (i j : Nat) : max (i : Int) (j : Int) = ((mm (i, j)).2 : Int) := by
  unfold mm
  dsimp only
  split <;> dsimp only <;> omega
def spTouching : Sp := fun vs H Q _ => ∃ (l : Addr) (ps : List Pn) (W Hh : Int), vs = [.ref l] ∧ RL pnR H l ps ∧ Desk ps W Hh ∧ ∀ H' S, Evl.Ex H H' → H S = none → RL (fun z => tupI (prN z)) H' S (dueF ps) → Q (.ref S) H'
theorem ok_find_touching {f f1 f2 : Addr} {fd fd1 fd2 : FuncData} (F : Fun K "find_touching" "find_touching" s_find_touching f fd) (B : BP mg) (C_find_all_sides : Cal P w K mg base "find_all_sides" 3 f1 fd1 ["layout"] spAllSides) (C_find_pairs_at : Cal P w K mg base "find_pairs_at" 1 f2 fd2 ["layout", "kind", "ahead", "behind"] spPairsAt) : FnOk P w K mg base CX0 4 f fd ["layout"] spTouching := by
  refine F.ok sc_find_touching (fun vs H Q E h => ?_) (fun cdv A outer s H vs Q E hr h => ?_)
  · obtain ⟨x, p, _, _, rfl, _⟩ := h
    rfl
  · obtain ⟨l, ps, W, Hh, rfl, hl, hD, q⟩ := h
    refine ⟨_, (pss_cons (ps_set (i := 1) sc_find_touching.nd rfl (.inl rfl) (pe_lst pa_nil))
      (pss_cons (ps_for PassesOwn.never rfl (pi_list (pe_call C_find_all_sides.G (hr.mono (by decide)) (by rfl) C_find_all_sides.g C_find_all_sides.k C_find_all_sides.b .nil pass0 (by exact (pa_cons (pv 0) pa_nil)))) (pg_tup rfl (pgs_cons (pg_name (i := 2) sc_find_touching.nd rfl (Or.inl rfl)) (pgs_cons (pg_name (i := 3) sc_find_touching.nd rfl (Or.inl rfl)) (pgs_cons (pg_name (i := 4) sc_find_touching.nd rfl (Or.inl rfl)) pgs_nil)))) (pss_one (ps_expr (pe_bm PySem.F.plainAttrs_list PySem.F.slot_list_extend PySem.F.type_list_extend mt_extend (pv 1) (pa_cons (pe_call C_find_pairs_at.G (hr.mono (by decide)) (by rfl) C_find_pairs_at.g C_find_pairs_at.k C_find_pairs_at.b .nil pass0 (by exact (pa_cons (pv 0) (pa_cons (pe_ix (ixTK (K := K) rfl) (pv 2) pe_int (fun _ _ => rfl)) (pa_cons (pv 3) (pa_cons (pv 4) pa_nil)))))) pa_nil)))))
      (pss_one (ps_ret (pe_callB (SoT.cr_sortedT (m := 1)) (by rfl) B.sorted_ (by decide +kernel) (pa_cons (pe_lc (own := [("pair", 5)]) (g := gName 5) (tt := tYes) rfl sc_find_touching.nd (pi_list (pv 1)) (blkOk_by (N := n_find_touching) (sc := (defScope s_find_touching)) (by decide +kernel)) (fun _ _ _ _ _ => (pg_name (i := 5) sc_find_touching.nd rfl (Or.inl rfl))) (fun _ _ _ _ _ => pts_nil) (fun _ _ _ _ _ => (pe_tup (pa_cons (pe_callB (minTK (K := K) rfl rfl (by exact roomL hr)) (by rfl) B.min_ (by decide +kernel) (pa_cons (pv 5) pa_nil)) (pa_cons (pe_callB (maxTK (K := K) rfl rfl (by exact roomL hr)) (by rfl) B.max_ (by decide +kernel) (pa_cons (pv 5) pa_nil)) pa_nil))))) pa_nil)))))), ?_⟩
    refine Evl.q_asgL (xs := []) (Evl.el_lst Evl.ea_nil (by decide)) fun S H1 nS e1 hS => ?_
    have hσ : List.set (L2.start n_find_touching [V.ref l]) 1 (some (V.ref S)) = [some (.ref l), some (.ref S), none, none, none, none] := rfl
    rw [hσ]
    have hl1 := hl.ex pnR_e e1
    have nl : l ≠ S := fun z => by
      obtain ⟨ys, this, _⟩ := hl
      rw [z, nS] at this
      cases this
    refine q_forNRL (R := sdR2) (zs := allSides ps) (fun H2 e2 Q q2 => ⟨.ref l, rfl, l, ps, W, Hh, rfl, hl1.ex pnR_e e2, hD, fun H3 S' e3 nS' hS' => q2 S' H3 nS' e3 hS'⟩)
      (fun q0 i σ' H' => ∃ Hs o2 o3 o4, σ' = [some (.ref l), some (.ref S), o2, o3, o4, none] ∧ Evl.Ex H1 Hs ∧ Hs S = some (.lst []) ∧ (∃ ys, Hs q0 = some (.lst ys) ∧ q0 ≠ S ∧ Paired (fun y z => sdR2 z y (hide S Hs)) ys (allSides ps)) ∧ But1 S Hs H' ∧ RL (fun u => tupI (prL u)) H' S (((allSides ps).take i).flatMap fun z => Geo.mg z.2.1 z.2.2)) ?_ ?_ ?_ ?_
    · intro q0 Hs nq e2 hq
      obtain ⟨ys, hy, hp⟩ := hq
      refine ⟨Hs, none, none, none, rfl, e2, e2 _ _ hS, ⟨ys, hy, (fun z => by rw [z, hS] at nq; cases nq), sd_hide (e2 _ _ hS) (fun z hz => ⟨(sd_good hD hz).2.2.2.1, (sd_good hD hz).2.2.2.2.1⟩) hp⟩, But1.of (Evl.Ex.refl _), rl_nil (e2 _ _ hS)⟩
    · rintro q0 i σ' H' hi ⟨Hs, o2, o3, o4, rfl, eS, hSS, ⟨ys, hy, nq, hp⟩, b, hP⟩
      exact ⟨ys, b _ _ nq hy, pr_unhideL sdR2_e (pr_hideL sdR2_e b hp)⟩
    · rintro q0 i z y σ' H' hz hy ⟨Hs, o2, o3, o4, rfl, eS, hSS, hQ, b, hP⟩
      have hz2 := List.mem_of_getElem? hz
      obtain ⟨good, tg, th, _, _, lg, lh⟩ := sd_good hD hz2
      obtain ⟨T, s', a, b', rfl, hT, hs, ha, hb⟩ := hy
      refine g_tup3V hT ?_
      have hlS : RL (fun p => tupI (pnL p)) H' l ps := rl_but (F := S) (xs := []) (show RL (fun p => tupI (pnL p)) Hs l ps from hl1.ex pnR_e eS) hSS nl b
      have lz := sdF_count hD (fun z hz => List.mem_of_mem_take hz) (Z := (allSides ps).take i)
      have lz2 : ((allSides ps).take i).length ≤ 120 := by
        have a1 := sdF_len false ps
        have a2 := sdF_len true ps
        have a3 := hD.v.len
        have a4 : (allSides ps).length = (sidesF (aheadS false ps) (behindS false ps)).length + (sidesF (aheadS true ps) (behindS true ps)).length := by unfold allSides; rw [List.length_append, List.length_map, List.length_map]
        rw [List.length_take]
        omega
      have lm := mg_len z.2.1 z.2.2
      refine s_ext (ws := Geo.mg z.2.1 z.2.2) hP (Evl.ev_var rfl) (er_callL (vs := [.ref l, .str (kdS z.1), .ref a, .ref b']) (Evl.ea_cons (Evl.ev_var rfl) (Evl.ea_cons (Evl.ev_op (Evl.ev_var rfl) Evl.ev_c (Evl.rv_ixT (SqT.of hs) rfl)) (Evl.ea_cons (Evl.ev_var rfl) (Evl.ea_cons (Evl.ev_var rfl) Evl.ea_nil)))) fun H3 e3 Q q2 E => ⟨l, a, b', z.1, ps, z.2.1, z.2.2, rfl, hlS.ex (fun p => tupI_e (pnL p)) e3, e3 _ _ ha, e3 _ _ hb, good, tg, th, by omega, by omega, fun H4 S4 e4 n4 h4 => q2 S4 H4 n4 e4 h4⟩) (by omega) fun H3 b3 hP3 => ?_
      refine ⟨Hs, _, _, _, rfl, eS, hSS, hQ, b.tr b3, ?_⟩
      rw [List.take_add_one, hz, List.flatMap_append]
      show RL _ _ _ (_ ++ List.flatMap (fun z => Geo.mg z.2.1 z.2.2) [z])
      rw [List.flatMap_singleton]
      exact hP3
    · rintro q0 σ' H' ⟨Hs, o2, o3, o4, rfl, eS, hSS, hQ, b, hP⟩
      rw [List.take_of_length_le (Nat.le_refl _)] at hP
      have lz := sdF_count hD (fun z hz => hz) (Z := allSides ps)
      have a1 := sdF_len false ps
      have a2 := sdF_len true ps
      have a3 := hD.v.len
      have a4 : (allSides ps).length = (sidesF (aheadS false ps) (behindS false ps)).length + (sidesF (aheadS true ps) (behindS true ps)).length := by unfold allSides; rw [List.length_append, List.length_map, List.length_map]
      have eH : Evl.Ex H H' := fun c o hc => b _ _ (fun z => by rw [z, nS] at hc; cases hc) ((e1.trans eS) _ _ hc)
      refine s_retRL (R := fun z => tupI (prN z)) (zs := dueF ps) (by
        rw [← due_isort hD]
        exact er_sortN (EvRL.to (R := fun u : Bar × Bar => tupI (prN (mm (u.1.id, u.2.id)))) (S := fun z => tupI (prN z)) (fun z y H h => h) (er_lc0 (R := fun u => tupI (prL u)) (S := fun u : Bar × Bar => tupI (prN (mm (u.1.id, u.2.id)))) (fun z => tupI_e (prL z)) (fun z v H H' D hv k h => tupI_m _ v H H' D hv k h) (Evl.ev_var rfl) hP (by omega) (fun _ => rfl) fun z hz y H1 e1 hr => en_tupI (ns := prN (mm (z.1.id, z.2.id))) (Evl.ea_cons (Evl.ev_is (ev_minT rfl hr) (congrArg V.int (mm_min _ _))) (Evl.ea_cons (Evl.ev_is (ev_maxT2 rfl hr) (congrArg V.int (mm_max _ _))) Evl.ea_nil)) (show 2 ≤ 1000 by decide))) (fun z _ => rfl)) fun S' H3 nS' e3 hS' => q H3 S' (eH.trans e3) ?_ hS'
      cases o : H S' with
      | none => rfl
      | some u =>
        have := eH _ _ o
        rw [nS'] at this
        cases this
def spTouchingP : Sp := fun vs H Q _ => ∃ (l : Addr) (ps : List Pn), vs = [.ref l] ∧ RL pnR H l ps ∧ Valid ps ∧ ∀ H' S, Evl.Ex H H' → H S = none → RL (fun z => tupI (prN z)) H' S (dueF ps) → Q (.ref S) H'
theorem ok_touching_pairs {f f1 f2 : Addr} {fd fd1 fd2 : FuncData} (F : Fun K "touching_pairs" "touching_pairs" s_touching_pairs f fd) (C_check_layout : Cal P w K mg base "check_layout" 4 f1 fd1 ["layout"] spCkLay) (C_find_touching : Cal P w K mg base "find_touching" 4 f2 fd2 ["layout"] spTouching) : FnOk P w K mg base CX0 5 f fd ["layout"] spTouchingP := by
  refine F.ok sc_touching_pairs (fun vs H Q E h => ?_) (fun cdv A outer s H vs Q E hr h => ?_)
  · obtain ⟨x, p, rfl, _⟩ := h
    rfl
  · obtain ⟨l, ps, rfl, hl, hv, q⟩ := h
    refine ⟨_, (pss_cons (ps_expr (pe_call C_check_layout.G (hr.mono (by decide)) (by rfl) C_check_layout.g C_check_layout.k C_check_layout.b .nil pass0 (by exact (pa_cons (pv 0) pa_nil))))
      (pss_one (ps_ret (pe_call C_find_touching.G (hr.mono (by decide)) (by rfl) C_find_touching.g C_find_touching.k C_find_touching.b .nil pass0 (by exact (pa_cons (pv 0) pa_nil)))))), ?_⟩
    obtain ⟨W, Hh, d⟩ := hv.desk
    have := hv.len
    refine ⟨.ref l, rfl, l, ps, rfl, hl, Valid.layB hv, by omega, fun H1 e1 => ?_⟩
    exact ⟨.ref l, rfl, l, ps, W, Hh, rfl, hl.ex pnR_e e1, d, fun H2 S e2 nS hS => q H2 S (e1.trans e2) (Evl.fresh_back e1 nS) hS⟩
end
end GL
set_option Elab.async false
set_option linter.all false
set_option maxRecDepth 100000
set_option maxHeartbeats 4000000
/-! # repr of lists of tuples of numbers -/
namespace GL
open PySem PySem.Spec PyProof.Rows L2 Rel
theorem join_len (sep : Str) (m : Nat) : ∀ ts : List Str, (∀ t ∈ ts, t.length ≤ m) → (sep.join ts).length ≤ ts.length * (m + sep.length)
  | [], _ => by
    rw [Str.join.eq_1]
    have : Str.empty.length = 0 := by decide +kernel
    omega
  | [t], h => by
    rw [Str.join.eq_2]
    have := h t List.mem_cons_self
    rw [List.length_singleton]
    omega
  | t :: u :: r, h => by
    rw [Str.join.eq_3 sep t (u :: r) (by simp), strLen_append, strLen_append]
    have ih := join_len sep m (u :: r) fun x hx => h x (List.mem_cons_of_mem _ hx)
    have := h t List.mem_cons_self
    rw [List.length_cons, Nat.add_mul, Nat.one_mul]
    omega
theorem shown_intB {i : Int} (h : i.natAbs < 10 ^ 49) : (PyData.int i).showable = true ∧ (PyData.int i).shown.length ≤ 50 := by
  refine ⟨?_, ?_⟩
  · show decide (i.natAbs.log2 < 1920) = true
    refine decide_eq_true ?_
    by_cases c : i.natAbs = 0
    · rw [c]
      decide
    · exact (Nat.log2_lt c).mpr (Nat.lt_of_lt_of_le h (Nat.le_trans (by decide +kernel : 10 ^ 49 ≤ 2 ^ 200) (Nat.pow_le_pow_right (by decide) (by decide))))
  · show (Str.ofString (toString i)).length ≤ 50
    rw [PySem.ofString_length]
    exact int_text_length_le10 (by decide) h
theorem showAll_intsB : ∀ ns : List Int, (∀ i ∈ ns, i.natAbs < 10 ^ 49) → PyData.showableAll (ns.map PyData.int) = true
  | [], _ => rfl
  | n :: ns, h => by
    show (PyData.showable (PyData.int n) && PyData.showableAll (ns.map PyData.int)) = true
    rw [showAll_intsB ns fun i hi => h i (List.mem_cons_of_mem _ hi), (shown_intB (h n List.mem_cons_self)).1]
    rfl
def tupD (ns : List Int) : PyData := .tuple (ns.map PyData.int)
def tupsD (zs : List (List Int)) : PyData := .list (zs.map tupD)
theorem shown_tupB {ns : List Int} (hl : ns.length ≤ 10) (h : ∀ i ∈ ns, i.natAbs < 10 ^ 49) : (tupD ns).showable = true ∧ (tupD ns).shown.length ≤ 600 := by
  refine ⟨showAll_intsB ns h, ?_⟩
  show (tupleText (PyData.shownAll (ns.map PyData.int))).length ≤ 600
  rw [shownAll_ints]
  unfold tupleText
  have z := join_len (Str.ofString ", ") 50 (ns.map fun i => (PyData.int i).shown) fun t ht => by
    obtain ⟨i, hi, rfl⟩ := List.mem_map.mp ht
    exact (shown_intB (h i hi)).2
  rw [List.length_map] at z
  have e1 : (Str.ofString "(").length = 1 := by decide +kernel
  have e2 : (Str.ofString ", ").length = 2 := by decide +kernel
  have e3 : ∀ b : Bool, (Str.ofString (if b = true then ",)" else ")")).length ≤ 2 := fun b => by cases b <;> decide +kernel
  have e4 := e3 ((ns.map fun i => (PyData.int i).shown).length == 1)
  rw [strLen_append, strLen_append]
  have : ns.length * (50 + 2) ≤ 10 * 52 := Nat.mul_le_mul hl (Nat.le_refl _)
  rw [e2] at z
  omega
theorem shownAll_tups : ∀ zs : List (List Int), PyData.shownAll (zs.map tupD) = zs.map fun r => (tupD r).shown
  | [] => rfl
  | n :: ns => by
    show (tupD n).shown :: PyData.shownAll (ns.map tupD) = _
    rw [shownAll_tups ns]
    rfl
theorem showAll_tups : ∀ zs : List (List Int), (∀ r ∈ zs, (tupD r).showable = true) → PyData.showableAll (zs.map tupD) = true
  | [], _ => rfl
  | n :: ns, h => by
    show ((tupD n).showable && PyData.showableAll (ns.map tupD)) = true
    rw [showAll_tups ns fun i hi => h i (List.mem_cons_of_mem _ hi), h n List.mem_cons_self]
    rfl
def ShT (zs : List (List Int)) : Prop := zs.length ≤ 5000 ∧ ∀ r ∈ zs, r.length ≤ 10 ∧ ∀ i ∈ r, i.natAbs < 10 ^ 49
theorem shown_tups {zs : List (List Int)} (h : ShT zs) : (tupsD zs).showable = true ∧ (tupsD zs).shown.length ≤ sizeLine := by
  obtain ⟨hl, h⟩ := h
  refine ⟨showAll_tups zs fun r hr => (shown_tupB (h r hr).1 (h r hr).2).1, ?_⟩
  show (listText (PyData.shownAll (zs.map tupD))).length ≤ sizeLine
  rw [shownAll_tups]
  unfold listText
  have z := textFrom_up (zs.map fun r => (tupD r).shown) 0 "[" 600 fun t ht => by
    obtain ⟨r, hr, rfl⟩ := List.mem_map.mp ht
    exact (shown_tupB (h r hr).1 (h r hr).2).2
  rw [List.length_map] at z
  have e1 : (Str.ofString "[").length = 1 := by decide +kernel
  have e2 : (Str.ofString "]").length = 1 := by decide +kernel
  rw [strLen_append]
  have : sizeLine = 16777216 := by decide
  omega
section
variable {K : PySem.W.Frag} {σ : L2.St} {H : Hp} {te : TE}
theorem ev_reprT {p : Addr} {zs : List (List Int)} (h : Evl.Ev te σ H (.ref p)) (hl : RL tupI H p zs) (hs : ShT zs) : Evl.Ev (tCB (Gd.rRepr K) (tCons te tNil)) σ H (.str (tupsD zs).shown) := fun H1 e Q q =>
  h H1 e _ fun H2 e2 => ⟨.ref p, tupsD zs, rfl, datTup.list.dp K zs (.ref p) H2 ⟨p, rfl, hl.ex tupI_e (e.trans e2)⟩, fun _ => datTup.list.shaped (by decide) zs, (shown_tups hs).1, (shown_tups hs).2, q H2 e2⟩
end
end GL
set_option Elab.async false
set_option linter.all false
set_option maxRecDepth 100000
set_option maxHeartbeats 1000000
/-! # k03's law: _law_touch, _law_right -/
namespace GL
open PySem PySem.Spec PyProof.Rows L2 Geo Rel ItT
structure BRL (mg : Str → Option Value) : Prop extends BP mg where
  repr_ : mg "repr" = none
section
variable {P : Program} {w : World} {K : PySem.W.Frag} {mg : Str → Option Value} {base : Heap} {σ : L2.St} {H : Hp}
def tBf (ax : Int) (p q : Pn) : Bool := decide (cm p (ax + 2) = cm q ax) && decide ((if cm q (1 - ax) > cm p (1 - ax) then cm q (1 - ax) else cm p (1 - ax)) < (if cm q (3 - ax) < cm p (3 - ax) then cm q (3 - ax) else cm p (3 - ax)))
theorem tou_iff {p q : Pn} (hp : p.x0 < p.x1 ∧ p.y0 < p.y1) (hq : q.x0 < q.x1 ∧ q.y0 < q.y1) : touchB p q = (tBf 0 p q || tBf 0 q p || (tBf 1 p q || tBf 1 q p)) := by
  rw [Bool.eq_iff_iff]
  unfold touchB tBf
  have c0 : ∀ p : Pn, cm p 0 = p.x0 := fun _ => rfl
  have c1 : ∀ p : Pn, cm p 1 = p.y0 := fun _ => rfl
  have c2 : ∀ p : Pn, cm p 2 = p.x1 := fun _ => rfl
  have c3 : ∀ p : Pn, cm p 3 = p.y1 := fun _ => rfl
  simp only [Bool.or_eq_true, Bool.and_eq_true, decide_eq_true_eq, show (0 : Int) + 2 = 2 from rfl, show (1 : Int) + 2 = 3 from rfl, show (1 : Int) - 0 = 1 from rfl, show (1 : Int) - 1 = 0 from rfl, show (3 : Int) - 0 = 3 from rfl, show (3 : Int) - 1 = 2 from rfl, c0, c1, c2, c3]
  constructor
  · rintro ((⟨h1, h2, h3⟩ | ⟨h1, h2, h3⟩) | (⟨h1, h2, h3⟩ | ⟨h1, h2, h3⟩))
    · refine .inl (.inl ⟨h1, ?_⟩)
      split <;> split <;> omega
    · refine .inl (.inr ⟨h1, ?_⟩)
      split <;> split <;> omega
    · refine .inr (.inl ⟨h1, ?_⟩)
      split <;> split <;> omega
    · refine .inr (.inr ⟨h1, ?_⟩)
      split <;> split <;> omega
  · rintro ((⟨h1, h2⟩ | ⟨h1, h2⟩) | (⟨h1, h2⟩ | ⟨h1, h2⟩))
    · refine .inl (.inl ⟨h1, ?_⟩)
      split at h2 <;> split at h2 <;> omega
    · refine .inl (.inr ⟨h1, ?_⟩)
      split at h2 <;> split at h2 <;> omega
    · refine .inr (.inl ⟨h1, ?_⟩)
      split at h2 <;> split at h2 <;> omega
    · refine .inr (.inr ⟨h1, ?_⟩)
      split at h2 <;> split at h2 <;> omega
def touR (z : Pn × Pn) (v : V) (H : Hp) : Prop := ∃ T u w, v = .ref T ∧ H T = some (.tup [.ref u, .ref w]) ∧ H u = some (.tup (PnV z.1)) ∧ H w = some (.tup (PnV z.2))
theorem touR_e : MonoE touR := fun z v H H' e ⟨T, u, w, h1, h2, h3, h4⟩ => ⟨T, u, w, h1, e _ _ h2, e _ _ h3, e _ _ h4⟩
theorem ev_mx2L {ta tb : TE} {i j : Int} (h1 : Evl.Ev ta σ H (.int i)) (h2 : Evl.Ev tb σ H (.int j)) : Evl.Ev (tCB (fun xs H Q => ∃ i j, xs = [V.int i, V.int j] ∧ Q (V.int (if j > i then j else i)) H) (tCons ta (tCons tb tNil))) σ H (.int (if j > i then j else i)) := Evl.ev_cb (Evl.ea_cons h1 (Evl.ea_cons h2 Evl.ea_nil)) fun H1 e Q q => ⟨i, j, rfl, q H1 (Evl.Ex.refl H1)⟩
theorem ev_mn2L {ta tb : TE} {i j : Int} (h1 : Evl.Ev ta σ H (.int i)) (h2 : Evl.Ev tb σ H (.int j)) : Evl.Ev (tCB (fun xs H Q => ∃ i j, xs = [V.int i, V.int j] ∧ Q (V.int (if j < i then j else i)) H) (tCons ta (tCons tb tNil))) σ H (.int (if j < i then j else i)) := Evl.ev_cb (Evl.ea_cons h1 (Evl.ea_cons h2 Evl.ea_nil)) fun H1 e Q q => ⟨i, j, rfl, q H1 (Evl.Ex.refl H1)⟩
def spTouch : Sp := fun vs H Q _ => ∃ (x y : V) (p q : Pn), vs = [x, y] ∧ pnR p x H ∧ pnR q y H ∧ (p.x0 < p.x1 ∧ p.y0 < p.y1) ∧ (q.x0 < q.x1 ∧ q.y0 < q.y1) ∧ ∀ H', Evl.Ex H H' → Q (.bl (touchB p q)) H'
theorem ok_touch {f : Addr} {fd : FuncData} (F : Fun K "_law_touch" "_law_touch" s__law_touch f fd) (B : BP mg) : FnOk P w K mg base CX0 1 f fd ["one", "two"] spTouch := by
  refine F.ok sc__law_touch (fun vs H Q E h => ?_) (fun cdv A outer s H vs Q E hr h => ?_)
  · obtain ⟨x, y, _, _, rfl, _⟩ := h
    rfl
  · obtain ⟨x, y, p, q, rfl, ⟨a, rfl, ha⟩, ⟨b, rfl, hb⟩, hp, hq, qq⟩ := h
    refine ⟨_, (pss_cons (ps_for PassesOwn.never rfl (pi_range1 (by rfl) B.range_ (pa_cons pe_int pa_nil)) (pg_name (i := 2) sc__law_touch.nd rfl (Or.inl rfl)) (pss_one (ps_for PassesOwn.never rfl (pi_list (pe_lst (pa_cons (pe_tup (pa_cons (pv 0) (pa_cons (pv 1) pa_nil))) (pa_cons (pe_tup (pa_cons (pv 1) (pa_cons (pv 0) pa_nil))) pa_nil)))) (pg_tup rfl (pgs_cons (pg_name (i := 3) sc__law_touch.nd rfl (Or.inl rfl)) (pgs_cons (pg_name (i := 4) sc__law_touch.nd rfl (Or.inl rfl)) pgs_nil))) (pss_one (ps_if (pt_cmpR op_eq (pe_ix (ixTK (K := K) rfl) (pv 3) (pe_op op_add (pv 2) pe_int) (fun _ _ => rfl)) (pe_ix (ixTK (K := K) rfl) (pv 4) (pv 2) (fun _ _ => rfl)) (nomark _)) (pss_one (ps_if (pt_cmpR op_lt (pe_callB (call_max2 rfl) (by rfl) B.max_ (by decide +kernel) (pa_cons (pe_ix (ixTK (K := K) rfl) (pv 3) (pe_op op_sub pe_int (pv 2)) (fun _ _ => rfl)) (pa_cons (pe_ix (ixTK (K := K) rfl) (pv 4) (pe_op op_sub pe_int (pv 2)) (fun _ _ => rfl)) pa_nil))) (pe_callB (call_min2 rfl) (by rfl) B.min_ (by decide +kernel) (pa_cons (pe_ix (ixTK (K := K) rfl) (pv 3) (pe_op op_sub pe_int (pv 2)) (fun _ _ => rfl)) (pa_cons (pe_ix (ixTK (K := K) rfl) (pv 4) (pe_op op_sub pe_int (pv 2)) (fun _ _ => rfl)) pa_nil))) (nomark _)) (pss_one (ps_ret pe_bl)) pss_nil)) pss_nil)))))
      (pss_one (ps_ret pe_bl))), ?_⟩
    have iff := tou_iff hp hq
    refine Evl.q_forR1 (n := 2) (Evl.ea_cons Evl.ev_c Evl.ea_nil) (by decide) (fun i σ' H' => ∃ o2 o3 o4, σ' = [some (.ref a), some (.ref b), o2, o3, o4] ∧ Evl.Ex H H' ∧ ∀ k : Nat, k < i → tBf (k : Int) p q = false ∧ tBf (k : Int) q p = false) (fun H1 e1 => ⟨none, none, none, rfl, e1, fun k hk => absurd hk (Nat.not_lt_zero k)⟩) ?_ ?_
    · rintro i σ' H' hi ⟨o2, o3, o4, rfl, e1, hn⟩
      refine s_forNRL (R := touR) (zs := [(p, q), (q, p)]) (fun H1 e2 Q q2 => ?_) (fun q0 k σ' H2 => ∃ o3 o4, σ' = [some (.ref a), some (.ref b), some (.int (i : Int)), o3, o4] ∧ Evl.Ex H H2 ∧ RL touR H2 q0 [(p, q), (q, p)] ∧ ∀ z ∈ ([(p, q), (q, p)] : List (Pn × Pn)).take k, tBf (i : Int) z.1 z.2 = false) ?_ ?_ ?_ ?_
      · refine Evl.eu_tup (vs := [.ref a, .ref b]) (Evl.ea_cons (Evl.ev_var rfl) (Evl.ea_cons (Evl.ev_var rfl) Evl.ea_nil)) (show 2 ≤ 100000 by decide) H1 e2 (fun v H2 => tTup (tCons (tVar 1) (tCons (tVar 0) tNil)) _ H2 fun v2 H3 => [v, v2].length ≤ sizeLine ∧ ∀ p, H3 p = none → Q (.ref p) (upd H3 p (.lst [v, v2]))) fun T1 H2 n1 e3 h1 => Evl.eu_tup (vs := [.ref b, .ref a]) (Evl.ea_cons (Evl.ev_var rfl) (Evl.ea_cons (Evl.ev_var rfl) Evl.ea_nil)) (show 2 ≤ 100000 by decide) H2 (e2.trans e3) _ fun T2 H3 n2 e4 h2 => ⟨(show 2 ≤ sizeLine by decide), fun d nd => q2 d _ (Evl.fresh_back (e3.trans e4) nd) ((e3.trans e4).trans (Evl.Ex.new nd)) ?_⟩
        have eA : Evl.Ex H (upd H3 d (.lst [.ref T1, .ref T2])) := (e1.trans (e2.trans (e3.trans e4))).trans (Evl.Ex.new nd)
        exact ⟨_, upd_same, .cons ⟨T1, a, b, rfl, Evl.Ex.new nd _ _ (e4 _ _ h1), eA _ _ ha, eA _ _ hb⟩ (.cons ⟨T2, b, a, rfl, Evl.Ex.new nd _ _ h2, eA _ _ hb, eA _ _ ha⟩ .nil)⟩
      · exact fun q0 H2 _ e2 h => ⟨o3, o4, rfl, e1.trans e2, h, fun z hz => by cases hz⟩
      · rintro q0 k σ' H2 hk ⟨_, _, rfl, e2, h, _⟩
        exact h
      · rintro q0 k z y σ' H2 hz ⟨T, u, v, rfl, hT, hu, hv⟩ ⟨o5, o6, rfl, e2, hR, hf⟩
        refine g_tup2v hT ?_
        have hi2 : (0 : Int) ≤ i ∧ (i : Int) ≤ 1 := by omega
        have tk : ([(p, q), (q, p)] : List (Pn × Pn)).take (k + 1) = ([(p, q), (q, p)] : List (Pn × Pn)).take k ++ [z] := by rw [List.take_add_one, hz]; rfl
        have go : ∀ H3 o5 o6, Evl.Ex H2 H3 → tBf (i : Int) z.1 z.2 = false → ∃ o3 o4, ([some (.ref a), some (.ref b), some (.int (i : Int)), o5, o6] : L2.St) = [some (.ref a), some (.ref b), some (.int (i : Int)), o3, o4] ∧ Evl.Ex H H3 ∧ RL touR H3 q0 [(p, q), (q, p)] ∧ ∀ z ∈ ([(p, q), (q, p)] : List (Pn × Pn)).take (k + 1), tBf (i : Int) z.1 z.2 = false := fun H3 o5 o6 e3 hz0 => ⟨o5, o6, rfl, e2.trans e3, hR.ex touR_e e3, fun z' hz' => by
          rw [tk] at hz'
          rcases List.mem_append.mp hz' with h | h
          · exact hf z' h
          · rw [List.mem_singleton.mp h]
            exact hz0⟩
        refine Evl.s_when (b := decide (cm z.1 ((i : Int) + 2) = cm z.2 i)) (Evl.et_test (Evl.ev_is (Evl.ev_op (ev_cm (p := z.1) (Evl.ev_var rfl) (Evl.ev_op (Evl.ev_var rfl) Evl.ev_c Evl.rv_I0) hu (by omega)) (ev_cm (p := z.2) (Evl.ev_var rfl) (Evl.ev_var rfl) hv (by omega)) (Evl.rv_eq rfl)) (by simp only [V.int.injEq]))) (fun h1 H3 e3 => ?_) fun h1 H3 e3 => go H3 _ _ e3 (by unfold tBf; rw [h1]; rfl)
        refine Evl.s_when (b := decide ((if cm z.2 (1 - (i : Int)) > cm z.1 (1 - (i : Int)) then cm z.2 (1 - (i : Int)) else cm z.1 (1 - (i : Int))) < (if cm z.2 (3 - (i : Int)) < cm z.1 (3 - (i : Int)) then cm z.2 (3 - (i : Int)) else cm z.1 (3 - (i : Int))))) (Evl.et_test (Evl.ev_op (ev_mx2L (ev_cm (p := z.1) (Evl.ev_var rfl) (Evl.ev_op Evl.ev_c (Evl.ev_var rfl) Evl.rv_I0) (e3 _ _ hu) (by omega)) (ev_cm (p := z.2) (Evl.ev_var rfl) (Evl.ev_op Evl.ev_c (Evl.ev_var rfl) Evl.rv_I0) (e3 _ _ hv) (by omega))) (ev_mn2L (ev_cm (p := z.1) (Evl.ev_var rfl) (Evl.ev_op Evl.ev_c (Evl.ev_var rfl) Evl.rv_I0) (e3 _ _ hu) (by omega)) (ev_cm (p := z.2) (Evl.ev_var rfl) (Evl.ev_op Evl.ev_c (Evl.ev_var rfl) Evl.rv_I0) (e3 _ _ hv) (by omega))) Evl.rv_I0)) (fun h2 H4 e4 => ?_) fun h2 H4 e4 => go H4 _ _ (e3.trans e4) (by unfold tBf; rw [h2, Bool.and_false])
        have ht : tBf (i : Int) z.1 z.2 = true := by unfold tBf; rw [h1, h2]; rfl
        have htt : touchB p q = true := by
          rw [iff]
          have hz2 := List.mem_of_getElem? hz
          have hi3 : i = 0 ∨ i = 1 := by omega
          rcases hi3 with rfl | rfl
          · rcases List.mem_cons.mp hz2 with rfl | hz2
            · simp at ht
              simp [ht]
            · rw [List.mem_singleton.mp hz2] at ht
              simp at ht
              simp [ht]
          · rcases List.mem_cons.mp hz2 with rfl | hz2
            · simp at ht
              simp [ht]
            · rw [List.mem_singleton.mp hz2] at ht
              simp at ht
              simp [ht]
        rw [htt] at qq
        exact Evl.s_ret Evl.ev_c fun H5 e5 => qq H5 (e2.trans (e3.trans (e4.trans e5)))
      · rintro q0 σ' H2 ⟨o5, o6, rfl, e2, hR, hf⟩
        refine ⟨_, _, _, rfl, e2, fun k hk => ?_⟩
        by_cases c : k = i
        · rw [c]
          exact ⟨hf (p, q) (by simp), hf (q, p) (by simp)⟩
        · exact hn k (by omega)
    · rintro σ' H' ⟨o2, o3, o4, rfl, e1, hn⟩
      have h0 := hn 0 (by decide)
      have h1 := hn 1 (by decide)
      have htt : touchB p q = false := by
        rw [iff]
        simp at h0 h1
        simp [h0, h1]
      rw [htt] at qq
      exact Evl.s_ret Evl.ev_c fun H5 e5 => qq H5 (e1.trans e5)
theorem q_parVL {t1 t2 : TE} {v : V} {xs : List V} {i j : Nat} {D : Ends} {tz : TS} (h1 : Evl.Ev t1 σ H v) (h2 : ∀ H1, Evl.Ex H H1 → Evl.EvL t2 σ H1 xs) (k : ∀ p H1, Evl.Ex H H1 → H p = none → H1 p = some (.lst xs) → tz D ((σ.set i (some v)).set j (some (.ref p))) H1) : tSeq (tPar i j (tCons t1 (tCons t2 tNil))) tz D σ H :=
  h1 H (Evl.Ex.refl H) (fun x H1 => (tCons t2 tNil) σ H1 fun vs H2 => ∃ v w, x :: vs = [v, w] ∧ _) fun H1 e1 => h2 H1 e1 H1 (Evl.Ex.refl H1) _ fun p H2 np e2 hp => ⟨_, _, rfl, k p H2 (e1.trans e2) (Evl.fresh_back e1 np) hp⟩
theorem prN_inj (a b : Nat × Nat) (h : prN a = prN b) : a = b := by
  unfold prN at h
  injection h with h1 h2
  injection h2 with h2 _
  exact Prod.ext (by omega) (by omega)
theorem datPr : Dat (fun z : Nat × Nat => tupI (prN z)) (fun z => .tuple ((prN z).map PyData.int)) 1 := Dat.comp datTup prN prN_inj
theorem ev_eqRV {α : Type} [DecidableEq α] {R : α → V → Hp → Prop} {d : α → PyData} {n : Nat} (D : Dat R d n) (hn : n + 1 ≤ 64) (m : MonoE R) {ta : TE} {j : Nat} {q : Addr} {zs ws : List α} (ha : EvRL ta σ H R zs) (hs : σ[j]? = some (some (.ref q))) (hb : RL R H q ws) : Evl.Ev (tOp (rEqD K) ta (tVar j)) σ H (.bl (decide (zs = ws))) := fun H1 e Q k =>
  ha H1 e _ fun p H2 np e2 hp => ⟨.ref q, hs, D.list.rv_eq hn (rlR_e m) ⟨p, rfl, hp⟩ ⟨q, rfl, hb.ex m (e.trans e2)⟩ H2 (Evl.Ex.refl _) Q fun H4 e4 => k H4 (e2.trans e4)⟩
def rowD (ps : List Pn) (i : Nat) (k : Nat) : List (Nat × Nat) := ((List.range' (i + 1) k).filter fun j => touchAt ps i j).map fun j => (i, j)
theorem rowD_step (ps : List Pn) (i k : Nat) : rowD ps i (k + 1) = rowD ps i k ++ (if touchAt ps i (i + 1 + k) then [(i, i + 1 + k)] else []) := by
  unfold rowD
  rw [List.range'_1_concat, List.filter_append, List.map_append]
  congr 1
  by_cases c : touchAt ps i (i + 1 + k) = true
  · rw [if_pos c]
    simp [c]
  · rw [if_neg c]
    simp [c]
def dueP (ps : List Pn) (i : Nat) : List (Nat × Nat) := (List.range i).flatMap fun a => rowD ps a (ps.length - (a + 1))
theorem dueP_step (ps : List Pn) (i : Nat) : dueP ps (i + 1) = dueP ps i ++ rowD ps i (ps.length - (i + 1)) := by
  unfold dueP
  rw [List.range_succ, List.flatMap_append, List.flatMap_singleton]
theorem dueP_all (ps : List Pn) : dueP ps ps.length = dueF ps := rfl
theorem rowD_len (ps : List Pn) (i k : Nat) : (rowD ps i k).length ≤ k := by
  unfold rowD
  rw [List.length_map]
  exact Nat.le_trans (List.length_filter_le _ _) (by rw [List.length_range']; exact Nat.le_refl _)
theorem dueP_len (ps : List Pn) : ∀ i, (dueP ps i).length ≤ i * ps.length
  | 0 => Nat.zero_le _
  | i + 1 => by
    have := dueP_len ps i
    have := rowD_len ps i (ps.length - (i + 1))
    rw [dueP_step, List.length_append, Nat.add_mul, Nat.one_mul]
    omega
theorem due_sht {ps : List Pn} (h : ps.length ≤ 60) : ShT ((dueF ps).map prN) := by
  refine ⟨?_, fun r hr => ?_⟩
  · have := dueP_len ps ps.length
    rw [dueP_all] at this
    rw [List.length_map]
    have : ps.length * ps.length ≤ 60 * 60 := Nat.mul_le_mul h h
    omega
  · obtain ⟨z, hz, rfl⟩ := List.mem_map.mp hr
    obtain ⟨a, b⟩ := z
    have hm := (due_mem a b).mp hz
    refine ⟨(by show 2 ≤ 10; decide), fun i hi => ?_⟩
    have big : 60 < 10 ^ 49 := by decide +kernel
    unfold prN at hi
    rcases List.mem_cons.mp hi with rfl | hi
    · dsimp only
      omega
    · rw [List.mem_singleton.mp hi]
      dsimp only
      omega
theorem pan_sht {ps : List Pn} (v : Valid ps) (h : ∀ p ∈ ps, p.x1 < 2 ^ 160 ∧ p.y1 < 2 ^ 160) : ShT (ps.map pnL) := by
  refine ⟨by rw [List.length_map]; have := v.len; omega, fun r hr => ?_⟩
  obtain ⟨p, hp, rfl⟩ := List.mem_map.mp hr
  have h1 := v.pos p hp
  have h2 := h p hp
  have big : (2 : Int) ^ 160 < 10 ^ 49 := by decide +kernel
  refine ⟨(by show 4 ≤ 10; decide), fun i hi => ?_⟩
  have : 0 ≤ i ∧ i < 10 ^ 49 := by
    unfold pnL at hi
    rcases List.mem_cons.mp hi with rfl | hi
    · exact ⟨h1.1, by omega⟩
    · rcases List.mem_cons.mp hi with rfl | hi
      · exact ⟨h1.2.2.1, by omega⟩
      · rcases List.mem_cons.mp hi with rfl | hi
        · exact ⟨by omega, by omega⟩
        · rw [List.mem_singleton.mp hi]
          exact ⟨by omega, by omega⟩
  have e : ((10 ^ 49 : Nat) : Int) = (10 : Int) ^ 49 := by decide +kernel
  omega
def spRight : Sp := fun vs H Q _ => ∃ (l : Addr) (ps : List Pn), vs = [.ref l] ∧ RL pnR H l ps ∧ Valid ps ∧ (∀ p ∈ ps, p.x1 < 2 ^ 160 ∧ p.y1 < 2 ^ 160) ∧ ∀ H', Evl.Ex H H' → Q (.bl true) H'
theorem ok_right {f f1 f2 : Addr} {fd fd1 fd2 : FuncData} (F : Fun K "_law_right" "_law_right" s__law_right f fd) (B : BRL mg) (C__law_touch : Cal P w K mg base "_law_touch" 1 f1 fd1 ["one", "two"] spTouch) (C_touching_pairs : Cal P w K mg base "touching_pairs" 5 f2 fd2 ["layout"] spTouchingP) (B_touching_pairs : KB0 fd2 ["layout"] ["layout"] (fun us => us) (fun vs => vs)) : Gd.FnG P w K mg base CX0 6 f fd ["panes"] spRight := by
  refine Gd.fun_g F sc__law_right (fun vs H Q E h => ?_) (fun cdv A outer s H vs Q E hc hr h => ?_)
  · obtain ⟨x, p, rfl, _⟩ := h
    rfl
  · obtain ⟨l, ps, rfl, hl, hv, hb, q⟩ := h
    refine ⟨_, (pss_cons (ps_par (i := 1) (j := 2) rfl sc__law_right.nd rfl rfl (by decide) rfl rfl (pa_cons (pe_callB (reprK (K := K) rfl hc hr) (by rfl) B.repr_ (by decide +kernel) (pa_cons (pv 0) pa_nil)) (pa_cons (pe_lst pa_nil) pa_nil)) (by rfl))
      (pss_cons (ps_for PassesOwn.never rfl (pi_enum (by rfl) B.enumerate_ (pa_cons (pv 0) pa_nil)) (pg_tup rfl (pgs_cons (pg_name (i := 3) sc__law_right.nd rfl (Or.inl rfl)) (pgs_cons (pg_name (i := 4) sc__law_right.nd rfl (Or.inl rfl)) pgs_nil))) (pss_one (ps_for PassesOwn.never rfl (pi_range2 (by rfl) B.range_ (pa_cons (pe_op op_add (pv 3) pe_int) (pa_cons (pe_callB (lenK (K := K) rfl) (by rfl) B.len_ (by decide +kernel) (pa_cons (pv 0) pa_nil)) pa_nil))) (pg_name (i := 5) sc__law_right.nd rfl (Or.inl rfl)) (pss_one (ps_if (pt_val (pe_call C__law_touch.G (hr.mono (by decide)) (by rfl) C__law_touch.g C__law_touch.k C__law_touch.b .nil pass0 (by exact (pa_cons (pv 4) (pa_cons (pe_ix (ixLK (K := K) rfl) (pv 0) (pv 5) (fun _ _ => rfl)) pa_nil))))) (pss_one (ps_expr (pe_bm PySem.F.plainAttrs_list PySem.F.slot_list_append PySem.F.type_list_append mt_append (pv 2) (pa_cons (pe_tup (pa_cons (pv 3) (pa_cons (pv 5) pa_nil))) pa_nil)))) pss_nil)))))
      (pss_cons (ps_set (i := 6) sc__law_right.nd rfl (.inl rfl) (pe_callK0 C_touching_pairs.G (hr.mono (by decide)) (by rfl) C_touching_pairs.g C_touching_pairs.k B_touching_pairs pass0 (pk_cons (pv 0) pk_nil)))
      (pss_cons (ps_if (pt_cmpR op_ne (pe_callB (reprK (K := K) rfl hc hr) (by rfl) B.repr_ (by decide +kernel) (pa_cons (pv 6) pa_nil)) (pe_callB (reprK (K := K) rfl hc hr) (by rfl) B.repr_ (by decide +kernel) (pa_cons (pv 2) pa_nil)) (nomark _)) (pss_one (ps_ret pe_bl)) pss_nil)
      (pss_cons (ps_expr (pe_bm PySem.F.plainAttrs_list PySem.F.slot_list_append PySem.F.type_list_append mt_append (pv 6) (pa_cons pe_non pa_nil)))
      (pss_one (ps_ret (pe_and (pe_cmpR (op_eqD hr.units) (pe_call C_touching_pairs.G (hr.mono (by decide)) (by rfl) C_touching_pairs.g C_touching_pairs.k C_touching_pairs.b .nil pass0 (by exact (pa_cons (pv 0) pa_nil))) (pv 2) (nomark _)) (pe_one (pe_cmpR op_eq (pe_callB (reprK (K := K) rfl hc hr) (by rfl) B.repr_ (by decide +kernel) (pa_cons (pv 0) pa_nil)) (pv 1) (nomark _))))))))))), ?_⟩
    have hlen := hv.len
    have shP := pan_sht hv hb
    have shD := due_sht hlen
    have hlT : RL tupI H l (ps.map pnL) := hl.map (g := pnL) fun z y h => h
    refine q_parVL (v := .str (tupsD (ps.map pnL)).shown) (xs := []) (ev_reprT (Evl.ev_var rfl) hlT shP) (fun H1 e1 => Evl.el_lst Evl.ea_nil (by decide)) fun S H1 e1 nS hS => ?_
    have hσ : List.set (List.set (L2.start n__law_right [V.ref l]) 1 (some (V.str (tupsD (ps.map pnL)).shown))) 2 (some (V.ref S)) = [some (.ref l), some (.str (tupsD (ps.map pnL)).shown), some (.ref S), none, none, none, none] := rfl
    rw [hσ]
    have nl : l ≠ S := fun z => by
      obtain ⟨ys, this, _⟩ := hl
      rw [z, nS] at this
      cases this
    have hl1 : RL (fun p => tupI (pnL p)) H1 l ps := hl.ex pnR_e e1
    refine q_forERL (R := pnR) (zs := ps) (Evl.ev_var rfl) (fun i σ' H' => ∃ o3 o4 o5, σ' = [some (.ref l), some (.str (tupsD (ps.map pnL)).shown), some (.ref S), o3, o4, o5, none] ∧ But1 S H1 H' ∧ RL (fun z => tupI (prN z)) H' S (dueP ps i)) (fun H2 e2 => ⟨none, none, none, rfl, But1.of e2, rl_nil (e2 _ _ hS)⟩) (fun i σ' H' hi ⟨_, _, _, _, b, _⟩ => rl_but hl1 hS nl b) ?_ ?_
    · rintro i z y T σ' H' hz hy ⟨o3, o4, o5, rfl, b, hD⟩ nT
      refine g_tup2v upd_same ?_
      have eT : Evl.Ex H' (upd H' T (.tup [.int (i : Nat), y])) := Evl.Ex.new nT
      have b2 := b.tr (But1.of eT)
      have hD2 := hD.ex (fun z => tupI_e (prN z)) eT
      generalize upd H' T (.tup [.int (i : Nat), y]) = H2 at b2 hD2 eT
      have hi := (List.getElem?_eq_some_iff.mp hz).1
      have hl2 : RL (fun p => tupI (pnL p)) H2 l ps := rl_but hl1 hS nl b2
      obtain ⟨ys2, hy2, hp2⟩ := hl2
      have lenY := pr_len hp2
      refine Evl.s_forR2 (lo := (i : Int) + 1) (n := (ps.length : Int)) (Evl.ea_cons (Evl.ev_op (Evl.ev_var rfl) Evl.ev_c Evl.rv_I0) (Evl.ea_cons (lenY ▸ ev_lenS rfl fun H3 e3 => .inl (SqL.of (e3 _ _ hy2))) Evl.ea_nil)) (by omega) (fun k σ' H3 => ∃ o5, σ' = [some (.ref l), some (.str (tupsD (ps.map pnL)).shown), some (.ref S), some (.int (i : Int)), some y, o5, none] ∧ But1 S H2 H3 ∧ RL (fun z => tupI (prN z)) H3 S (dueP ps i ++ rowD ps i k)) (fun H3 e3 => ⟨_, rfl, But1.of e3, by
        have : rowD ps i 0 = [] := rfl
        rw [this, List.append_nil]
        exact hD2.ex (fun z => tupI_e (prN z)) e3⟩) ?_ ?_
      · rintro k σ' H3 hk ⟨o5', rfl, b3, hD3⟩
        have hj : i + 1 + k < ps.length := by omega
        have hpj : ps[i + 1 + k]? = some ps[i + 1 + k] := List.getElem?_eq_getElem hj
        have b13 := b2.tr b3
        have hl3 : RL (fun p => tupI (pnL p)) H3 l ps := rl_but hl1 hS nl b13
        obtain ⟨ys3, hy3, hp3⟩ := hl3
        obtain ⟨w, hw1, hw2⟩ := pr_at hp3 hpj
        obtain ⟨y', hy1', hy2'⟩ := pr_at hp3 hz
        have hyz : pnR z y H3 := by
          obtain ⟨Ty, rfl, hTy⟩ := hy
          refine ⟨Ty, rfl, b3 _ _ (fun e => ?_) (eT _ _ hTy)⟩
          obtain ⟨u, hu, _⟩ := hD
          rw [e, hu] at hTy
          cases hTy
        have pz := hv.pos z (List.mem_of_getElem? hz)
        have pw := hv.pos ps[i + 1 + k] (List.getElem_mem hj)
        have cast : (i : Int) + 1 + (k : Int) = ((i + 1 + k : Nat) : Int) := by omega
        rw [cast]
        have tA : touchAt ps i (i + 1 + k) = touchB z ps[i + 1 + k] := by unfold touchAt; rw [hz, hpj]
        refine Evl.s_when (b := touchB z ps[i + 1 + k]) (Evl.et_B (Evl.ev_call (vs := [y, w]) (Evl.ea_cons (Evl.ev_var rfl) (Evl.ea_cons (Evl.ev_op (Evl.ev_var rfl) (Evl.ev_var rfl) (Evl.rv_ixL (SqL.of hy3) (atI_nat hw1))) Evl.ea_nil)) fun H4 e4 Q q2 E => ⟨y, w, z, ps[i + 1 + k], rfl, pnR_e _ _ _ _ e4 hyz, pnR_e _ _ _ _ e4 hw2, ⟨pz.2.1, pz.2.2.2⟩, ⟨pw.2.1, pw.2.2.2⟩, q2⟩)) (fun hb4 H4 e4 => ?_) fun hb4 H4 e4 => ?_
        · refine s_appT (z := (i, i + 1 + k)) (hD3.ex (fun z => tupI_e (prN z)) e4) (Evl.ev_var rfl) (Evl.eu_tup (vs := [.int (i : Int), .int ((i + 1 + k : Nat) : Int)]) (Evl.ea_cons (Evl.ev_var rfl) (Evl.ea_cons (Evl.ev_var rfl) Evl.ea_nil)) (show 2 ≤ 100000 by decide)) (by
            have l1 := dueP_len ps i
            have l2 := rowD_len ps i k
            have : i * ps.length ≤ 60 * 60 := Nat.mul_le_mul (by omega) hlen
            rw [List.length_append]
            omega) fun H5 b5 hD5 => ⟨_, rfl, (b3.tr (But1.of e4)).tr b5, ?_⟩
          rw [rowD_step, tA, if_pos hb4, ← List.append_assoc]
          exact hD5
        · refine ⟨_, rfl, b3.tr (But1.of e4), ?_⟩
          rw [rowD_step, tA, if_neg (by rw [hb4]; decide), List.append_nil]
          exact hD3.ex (fun z => tupI_e (prN z)) e4
      · rintro σ' H3 ⟨o5', rfl, b3, hD3⟩
        refine ⟨_, _, _, rfl, b2.tr b3, ?_⟩
        rw [dueP_step]
        rw [show ((ps.length : Int) - ((i : Int) + 1)).toNat = ps.length - (i + 1) by omega] at hD3
        exact hD3
    · rintro σ' H' ⟨o3, o4, o5, rfl, b, hD⟩
      rw [dueP_all] at hD
      have hl2 : RL pnR H' l ps := rl_but hl1 hS nl b
      have eH' : Evl.Ex H H' := fun c o hc => b _ _ (fun z => by rw [z, nS] at hc; cases hc) (e1 _ _ hc)
      refine q_asgRL (R := fun z => tupI (prN z)) (zs := dueF ps) (fun H2 e2 Q q2 => ⟨.ref l, rfl, rfl, l, ps, rfl, hl2.ex pnR_e e2, hv, fun H3 S3 e3 n3 h3 => q2 S3 H3 n3 e3 h3⟩) fun T H2 nT e2 hT => ?_
      have hTt : RL tupI H2 T ((dueF ps).map prN) := hT.map (g := prN) fun z y h => h
      have hDt : RL tupI H2 S ((dueF ps).map prN) := (hD.ex (fun z => tupI_e (prN z)) e2).map (g := prN) fun z y h => h
      refine Evl.q_when (b := false) (Evl.et_test (Evl.ev_is (Evl.ev_op (ev_reprT (Evl.ev_var rfl) hTt shD) (ev_reprT (Evl.ev_var rfl) hDt shD) (Evl.rv_ne rfl)) (by simp))) (fun h => by cases h) fun _ H3 e3 => ?_
      obtain ⟨yT, hyT, hpT⟩ := hT.ex (fun z => tupI_e (prN z)) e3
      refine Evl.q_app (l := T) (v := .non) hyT (Evl.ev_var rfl) Evl.ev_c (by
        rw [pr_len hpT]
        have := shD.1
        rw [List.length_map] at this
        omega) fun H4 e4 => ?_
      have nST : S ≠ T := fun z => by
        obtain ⟨u, hu, _⟩ := hD
        rw [z, nT] at hu
        cases hu
      have nlT : l ≠ T := fun z => by
        obtain ⟨u, hu, _⟩ := hl2
        rw [z, nT] at hu
        cases hu
      have b4 : But1 T H3 (upd H4 T (.lst (yT ++ [.non]))) := (But1.of e4).upd
      have hl5 : RL pnR (upd H4 T (.lst (yT ++ [.non]))) l ps := rl_but (show RL (fun p => tupI (pnL p)) H3 l ps from (hl2.ex pnR_e e2).ex pnR_e e3) hyT nlT b4
      have hD5 : RL (fun z => tupI (prN z)) (upd H4 T (.lst (yT ++ [.non]))) S (dueF ps) := rl_but ((hD.ex (fun z => tupI_e (prN z)) e2).ex (fun z => tupI_e (prN z)) e3) hyT nST b4
      have eH5 : Evl.Ex H (upd H4 T (.lst (yT ++ [.non]))) := fun c o hc => b4 _ _ (fun z => by
        have := eH' _ _ hc
        rw [z, nT] at this
        cases this) ((eH'.trans (e2.trans e3)) _ _ hc)
      generalize upd H4 T (.lst (yT ++ [.non])) = H5 at hl5 hD5 eH5
      have hlT5 : RL tupI H5 l (ps.map pnL) := hl5.map (g := pnL) fun z y h => h
      refine Evl.s_ret (v := .bl true) (Evl.ev_is (Evl.ev_andV (a := true) (b := true) (Evl.ev_is (ev_eqRV datPr (by decide) (fun z => tupI_e (prN z)) (zs := dueF ps) (ws := dueF ps) (er_callL (vs := [.ref l]) (Evl.ea_cons (Evl.ev_var rfl) Evl.ea_nil) fun H6 e6 Q q2 E => ⟨l, ps, rfl, hl5.ex pnR_e e6, hv, fun H7 S7 e7 n7 h7 => q2 S7 H7 n7 e7 h7⟩) rfl hD5) (by simp)) fun _ => Evl.ev_is (Evl.ev_op (ev_reprT (Evl.ev_var rfl) hlT5 shP) (Evl.ev_var rfl) (Evl.rv_eq rfl)) (by simp)) rfl) fun H6 e6 => q H6 (eH5.trans e6)
end
end GL
set_option linter.all false
namespace Geo
/-! # the pushed pane in the words of a law, and in those of the mathematics -/
/-- a pane's corners by their number -/
def nth (p : Pn) (i : Int) : Int := if i = 0 then p.x0 else if i = 1 then p.y0 else if i = 2 then p.x1 else p.y1
def put (p : Pn) (i v : Int) : Pn := if i = 0 then { p with x0 := v } else if i = 1 then { p with y0 := v } else if i = 2 then { p with x1 := v } else { p with y1 := v }
def ipn (ps : List Pn) : List (Nat × Pn) := ps.zipIdx.map fun p => (p.2, p.1)
def Lp (x y : Int × Int) : Prop := x.1 < y.1 ∨ (x.1 = y.1 ∧ x.2 ≤ y.2)
def out (ax E : Int) (kept : List (Int × Int)) (i : Nat) (p : Pn) : Pn := if nth p (ax + 2) = E ∧ (i : Int) ∉ kept.map (·.2) then put p (ax + 2) (E + 1) else p
structure MadeP (ps : List Pn) (ax : Int) (n : Nat) (E W : Int) (row : List (Int × Int)) (k0 : Int × Int) (r : List (Int × Int)) (ps' : List Pn) : Prop where
  e1 : ∃ p ∈ ps, nth p (ax + 2) = E
  e2 : ∀ p ∈ ps, nth p (ax + 2) ≤ E
  w1 : ∃ p ∈ ps, nth p (3 - ax) = W
  w2 : ∀ p ∈ ps, nth p (3 - ax) ≤ W
  perm : row.Perm (((ipn ps).filter fun u => decide (nth u.2 (ax + 2) = E)).map fun u => (nth u.2 (1 - ax), (u.1 : Int)))
  srt : row.Pairwise Lp
  cut : row.drop (row.length - n) = k0 :: r
  out : ps' = ((ipn ps).map fun u => out ax E (k0 :: r) u.1 u.2) ++ [put (put (put (put ⟨0, 0, 0, 0⟩ ax E) (ax + 2) (E + 1)) (1 - ax) k0.1) (3 - ax) W]
theorem ipn_at {ps : List Pn} {i : Nat} {p : Pn} : (i, p) ∈ ipn ps ↔ ps[i]? = some p := by
  unfold ipn
  rw [List.mem_map]
  constructor
  · rintro ⟨⟨q, j⟩, h, e⟩
    cases e
    exact List.mem_zipIdx_iff_getElem?.mp h
  · intro h
    exact ⟨(p, i), List.mem_zipIdx_iff_getElem?.mpr h, rfl⟩
theorem ipn_snd (ps : List Pn) : (ipn ps).map (·.2) = ps := by
  unfold ipn
  rw [List.map_map]
  exact List.zipIdx_map_fst 0 ps
theorem sorted_eq {α : Type} {f : α → Int} : ∀ {l m : List α}, l.Perm m → l.Pairwise (fun a b => f a ≤ f b) → m.Pairwise (fun a b => f a < f b) → l = m
  | l, [], h, _, _ => h.eq_nil
  | [], b :: t, h, _, _ => absurd h.length_eq (by simp)
  | a :: s, b :: t, h, h1, h2 => by
    obtain ⟨h3, h4⟩ := List.pairwise_cons.mp h1
    obtain ⟨h5, h6⟩ := List.pairwise_cons.mp h2
    have ea : a = b := by
      rcases List.mem_cons.mp (h.mem_iff.mp List.mem_cons_self) with e | hm
      · exact e
      · rcases List.mem_cons.mp (h.mem_iff.mpr (List.mem_cons_self (a := b) (l := t))) with e | hm2
        · exact e.symm
        · have := h5 a hm
          have := h3 b hm2
          omega
    subst ea
    rw [sorted_eq h.cons_inv h4 h6]
theorem ChX.strict {b : Int} : ∀ {r : List Pn} {a : Int}, ChX a r b → (∀ p ∈ r, p.x0 < p.x1) → r.Pairwise fun p q => p.x0 < q.x0
  | [], _, _, _ => .nil
  | p :: r, a, h, v => by
    obtain ⟨_, h⟩ := h.inv
    have v2 : ∀ z ∈ r, z.x0 < z.x1 := fun z hz => v z (List.mem_cons_of_mem _ hz)
    refine List.pairwise_cons.mpr ⟨fun q hq => ?_, h.strict v2⟩
    have z := (h.mem id v2 q hq).1
    have w := v p List.mem_cons_self
    simp only [id] at z
    omega
/-- a pushed pane below is push -/
theorem made_gr1 {ps ps' : List Pn} {W H E Wd : Int} {n : Nat} {row r : List (Int × Int)} {k0 : Int × Int} (g : Gr ps W H) (m : MadeP ps 1 n E Wd row k0 r ps') : Gr ps' W (H + 1) := by
  -- the sides
  have hE : E = H := by
    obtain ⟨p, hp, ep⟩ := m.e1
    have ep' : p.y1 = E := ep
    obtain ⟨R, h1, h2⟩ := g.rig
    rcases h2.tail with z | ⟨q', hq', z⟩
    · have := g.h
      omega
    · obtain ⟨q, hq, rfl⟩ := List.mem_map.mp hq'
      have mm := h1.mem_iff.mp hq
      rw [List.mem_filter] at mm
      have a1 : q.y1 ≤ E := m.e2 q mm.1
      have a2 : q.y1 = H := z
      have := g.pos p hp
      omega
  have hW : Wd = W := by
    obtain ⟨p, hp, ep⟩ := m.w1
    have ep' : p.x1 = Wd := ep
    obtain ⟨B, h1, h2⟩ := g.bot
    rcases h2.tail with z | ⟨q, hq, z⟩
    · have := g.w
      omega
    · have mm := h1.mem_iff.mp hq
      rw [List.mem_filter] at mm
      have a1 : q.x1 ≤ Wd := m.w2 q mm.1
      have := g.pos p hp
      omega
  subst hE hW
  -- the row's panes
  have row_at : ∀ u ∈ row, ∃ (i : Nat) (p : Pn), ps[i]? = some p ∧ p.y1 = E ∧ u = (p.x0, (i : Int)) := fun u hu => by
    obtain ⟨⟨i, p⟩, h1, h2⟩ := List.mem_map.mp (m.perm.mem_iff.mp hu)
    rw [List.mem_filter] at h1
    exact ⟨i, p, ipn_at.mp h1.1, of_decide_eq_true h1.2, h2.symm⟩
  let pane : Int × Int → Pn := fun u => (ps[u.2.toNat]?).getD ⟨0, 0, 0, 0⟩
  have pane_of : ∀ {i : Nat} {p : Pn} (x : Int), ps[i]? = some p → pane (x, (i : Int)) = p := fun {i p} x h => by
    show (ps[(i : Int).toNat]?).getD _ = p
    rw [Int.toNat_natCast, h]
    rfl
  have bperm : (row.map pane).Perm (ps.filter fun p => decide (p.y1 = E)) := by
    have z := m.perm.map pane
    rw [List.map_map] at z
    refine z.trans ?_
    have e : ((ipn ps).filter fun u => decide (nth u.2 (1 + 2) = E)).map (pane ∘ fun u : Nat × Pn => (nth u.2 (1 - 1), (u.1 : Int))) = ((ipn ps).filter fun u => decide (u.2.y1 = E)).map (·.2) := by
      refine List.map_congr_left fun u hu => ?_
      rw [List.mem_filter] at hu
      exact pane_of _ (ipn_at.mp hu.1)
    rw [e]
    have e2 : (ps.filter fun p => decide (p.y1 = E)) = ((ipn ps).filter fun u => decide (u.2.y1 = E)).map (·.2) := by
      have z2 := List.filter_map (f := fun u : Nat × Pn => u.2) (p := fun p : Pn => decide (p.y1 = E)) (l := ipn ps)
      rw [ipn_snd] at z2
      exact z2
    rw [e2]
  obtain ⟨B, h1, h2⟩ := g.bot
  have vB : ∀ p ∈ B, p.x0 < p.x1 := fun p hp => by
    have mm := h1.mem_iff.mp hp
    rw [List.mem_filter] at mm
    exact (g.pos p mm.1).2.1
  have eB : row.map pane = B := by
    refine sorted_eq (f := fun p : Pn => p.x0) (bperm.trans h1.symm) ?_ (h2.strict vB)
    rw [List.pairwise_map]
    refine m.srt.imp_of_mem fun {u v} hu hv hl => ?_
    obtain ⟨i, p, a1, a2, rfl⟩ := row_at u hu
    obtain ⟨j, q, b1, b2, rfl⟩ := row_at v hv
    rw [pane_of _ a1, pane_of _ b1]
    rcases hl with hl | hl
    · exact Int.le_of_lt hl
    · exact Int.le_of_eq hl.1
  -- the two parts
  have spl : row.map pane = (row.take (row.length - n)).map pane ++ (k0 :: r).map pane := by
    rw [← List.map_append, ← m.cut, List.take_append_drop]
  have k0row : k0 ∈ row := List.mem_of_mem_drop (by rw [m.cut]; exact List.mem_cons_self)
  rw [← eB, spl] at h2
  obtain ⟨b, c1, c2⟩ := h2.cut
  have hb : b = k0.1 := by
    obtain ⟨i, p, a1, a2, e⟩ := row_at k0 k0row
    have z := c2.head
    rw [e, pane_of _ a1] at z
    rw [e]
    exact z.symm
  subst hb
  have c : Cut ps ((row.take (row.length - n)).map pane) ((k0 :: r).map pane) Wd E k0.1 := ⟨by rw [← spl]; exact bperm, c1, c2, by simp⟩
  have eo : ps' = push ps Wd E k0.1 := by
    rw [m.out]
    unfold push
    congr 1
    have e3 : (ipn ps).map (fun u => out 1 E (k0 :: r) u.1 u.2) = (ipn ps).map fun u => ext E k0.1 u.2 := by
      refine List.map_congr_left fun u hu => ?_
      obtain ⟨i, p⟩ := u
      have hi := ipn_at.mp hu
      unfold out ext
      by_cases y : p.y1 = E
      · -- at the border
        have inrow : (p.x0, (i : Int)) ∈ row := m.perm.mem_iff.mpr (List.mem_map.mpr ⟨(i, p), List.mem_filter.mpr ⟨hu, decide_eq_true y⟩, rfl⟩)
        by_cases k : (i : Int) ∈ (k0 :: r).map (·.2)
        · obtain ⟨u, hu2, eu⟩ := List.mem_map.mp k
          have hur : u ∈ row := List.mem_of_mem_drop (by rw [m.cut]; exact hu2)
          obtain ⟨j, q, b1, b2, e⟩ := row_at u hur
          have ej : j = i := by
            rw [e] at eu
            have : (j : Int) = (i : Int) := eu
            omega
          subst ej
          have eq : q = p := Option.some.inj (b1.symm.trans hi)
          subst eq
          have mem2 : q ∈ (k0 :: r).map pane := List.mem_map.mpr ⟨u, hu2, by rw [e, pane_of _ b1]⟩
          have ge := c.ge g q mem2
          rw [if_neg fun z => z.2 k, if_neg fun z => by have z2 : q.x0 < k0.1 := z.2; omega]
        · have intake : (p.x0, (i : Int)) ∈ row.take (row.length - n) := by
            rw [← List.take_append_drop (row.length - n) row, m.cut] at inrow
            rcases List.mem_append.mp inrow with h | h
            · exact h
            · exact absurd (List.mem_map.mpr ⟨_, h, rfl⟩) k
          have mem1 : p ∈ (row.take (row.length - n)).map pane := List.mem_map.mpr ⟨_, intake, pane_of _ hi⟩
          have lt := c.lt g p mem1
          rw [if_pos ⟨y, k⟩, if_pos ⟨y, lt⟩]
          rfl
      · rw [if_neg fun z => y z.1, if_neg fun z => y z.1]
    rw [e3]
    have e4 := congrArg (List.map (ext E k0.1)) (ipn_snd ps)
    rw [List.map_map] at e4
    exact e4
  rw [eo]
  exact push_gr g c
/-- a pushed pane to the right is one below, with x and y exchanged -/
theorem made_swap {ps ps' : List Pn} {E Wd : Int} {n : Nat} {row r : List (Int × Int)} {k0 : Int × Int} (m : MadeP ps 0 n E Wd row k0 r ps') : MadeP (ps.map Pn.swap) 1 n E Wd row k0 r (ps'.map Pn.swap) := by
  have ei : ipn (ps.map Pn.swap) = (ipn ps).map fun u => (u.1, u.2.swap) := by
    unfold ipn
    rw [List.zipIdx_map, List.map_map, List.map_map]
    rfl
  refine ⟨?_, fun p hp => ?_, ?_, fun p hp => ?_, ?_, m.srt, m.cut, ?_⟩
  · obtain ⟨p, hp, e⟩ := m.e1
    exact ⟨p.swap, List.mem_map_of_mem hp, e⟩
  · obtain ⟨q, hq, rfl⟩ := List.mem_map.mp hp
    exact m.e2 q hq
  · obtain ⟨p, hp, e⟩ := m.w1
    exact ⟨p.swap, List.mem_map_of_mem hp, e⟩
  · obtain ⟨q, hq, rfl⟩ := List.mem_map.mp hp
    exact m.w2 q hq
  · rw [ei, List.filter_map, List.map_map]
    exact m.perm
  · rw [m.out, ei, List.map_append, List.map_map, List.map_map]
    congr 1
    refine List.map_congr_left fun u hu => ?_
    show (out 0 E (k0 :: r) u.1 u.2).swap = out 1 E (k0 :: r) u.1 u.2.swap
    unfold out
    by_cases c : nth u.2 (0 + 2) = E ∧ (u.1 : Int) ∉ (k0 :: r).map (·.2)
    · rw [if_pos c, if_pos (show nth u.2.swap (1 + 2) = E ∧ _ from c)]
      rfl
    · rw [if_neg c, if_neg (show ¬ (nth u.2.swap (1 + 2) = E ∧ _) from c)]
theorem made_gr0 {ps ps' : List Pn} {W H E Wd : Int} {n : Nat} {row r : List (Int × Int)} {k0 : Int × Int} (g : Gr ps W H) (m : MadeP ps 0 n E Wd row k0 r ps') : Gr ps' (W + 1) H := by
  have z := (made_gr1 g.swap (made_swap m)).swap
  rw [map_swap2] at z
  exact z
end Geo
set_option Elab.async false
set_option linter.all false
set_option maxRecDepth 100000
set_option maxHeartbeats 8000000
/-! # grown layouts -/
namespace GL
open PySem PySem.Spec PyProof.Rows L2 Geo Rel
abbrev nGrown : List Str := ["jar", "many", "panes", "entries_here", "axis", "entry"]
theorem scGrown : FnScope nGrown ["jar", "many"] (defScope sGrown) := ⟨rfl, rfl, rfl, by decide +kernel, rfl, by decide +kernel, by decide +kernel⟩
/-- how a def of this text stands -/
structure Kd (K : PySem.W.Frag) (mg : Str → Option Value) (x : Str) (f : Addr) (fd : FuncData) (ps : List Str) : Prop where
  g : mg x = some (.ref f)
  k : PySem.W.keepIn K (.ref f) = true
  b : Binds K fd ps []
theorem made_of {zs : List (Addr × Pn)} {ax : Int} {n : Nat} {E W : Int} {row r : List (Int × Int)} {k0 : Int × Int} {ps' : List Pn} (m : Made zs ax n E W row k0 r ps') : MadeP (zs.map (·.2)) ax n E W row k0 r ps' := by
  have ei : ipn (zs.map (·.2)) = (zs.zipIdx.map fun p => (p.2, p.1)).map fun u : Nat × (Addr × Pn) => (u.1, u.2.2) := by
    unfold ipn
    rw [List.zipIdx_map, List.map_map, List.map_map]
    rfl
  refine ⟨?_, fun p hp => ?_, ?_, fun p hp => ?_, ?_, m.srt, m.cut, ?_⟩
  · obtain ⟨z, hz, e⟩ := m.e.1
    exact ⟨z.2, List.mem_map_of_mem hz, e⟩
  · obtain ⟨z, hz, rfl⟩ := List.mem_map.mp hp
    exact m.e.2 z hz
  · obtain ⟨z, hz, e⟩ := m.w.1
    exact ⟨z.2, List.mem_map_of_mem hz, e⟩
  · obtain ⟨z, hz, rfl⟩ := List.mem_map.mp hp
    exact m.w.2 z hz
  · rw [ei, List.filter_map, List.map_map]
    exact m.perm
  · rw [m.out, ei, List.map_map, List.map_map, List.map_map]
    rfl
theorem made_gr {zs : List (Addr × Pn)} {ax : Int} {n : Nat} {E W A B : Int} {row r : List (Int × Int)} {k0 : Int × Int} {ps' : List Pn} (hx : ax = 0 ∨ ax = 1) (g : Gr (zs.map (·.2)) A B) (m : Made zs ax n E W row k0 r ps') : ∃ A' B', Gr ps' A' B' := by
  rcases hx with rfl | rfl
  · exact ⟨_, _, made_gr0 g (made_of m)⟩
  · exact ⟨_, _, made_gr1 g (made_of m)⟩
theorem made_len {zs : List (Addr × Pn)} {ax : Int} {n : Nat} {E W : Int} {row r : List (Int × Int)} {k0 : Int × Int} {ps' : List Pn} (m : Made zs ax n E W row k0 r ps') : ps'.length = zs.length + 1 := by
  rw [m.out]
  simp
theorem But.none {j a : Addr} {H H' : Hp} (b : But j H H') (hj : ∃ o, H' j = some o) (h : H' a = none) : H a = none := by
  obtain ⟨o, ho⟩ := hj
  cases e : H a with
  | none => rfl
  | some u =>
    have n : a ≠ j := fun z => by
      rw [z, ho] at h
      cases h
    rw [b a u n e] at h
    cases h
theorem Jar.some {H : Hp} {j : Addr} {m : Nat} (h : Jar H j m) : ∃ o, H j = some o := by
  obtain ⟨a, b, c, e, _⟩ := h
  exact ⟨_, e⟩
section
variable {P : Program} {w : World} {K : PySem.W.Frag} {mg : Str → Option Value} {base : Heap}
def spGrown : Sp := fun vs H Q _ => ∃ (j : Addr) (many : Int) (m : Nat), vs = [.ref j, .int many] ∧ 1 ≤ many ∧ many ≤ 60 ∧ Jar H j m ∧ m + 120 ≤ 1000000 ∧
  ∀ (H' : Hp) (t l le : Addr) (zs : List (Addr × Pn)) (es : List Int) (A B : Int), But j H H' → Jar H' j (m + 120) → H t = none → H l = none → H' t = some (.tup [.ref l, .ref le]) → H' le = some (.lst (es.map V.int)) → Lay H' l zs → (zs.length : Int) = many → Gr (zs.map (·.2)) A B → Q (.ref t) H'
/-- the layout zs at l, the numbers es at le, at a turn of the loop -/
structure Gw (H H' : Hp) (j : Addr) (l le : Addr) (zs : List (Addr × Pn)) (es : List Int) : Prop where
  but : But j H H'
  l0 : H l = none
  le0 : H le = none
  ll : l ≠ le
  lay : Lay H' l zs
  ent : H' le = some (.lst (es.map V.int))
  el : es.length + 1 = zs.length
  jar : ∃ o, H j = some o
  gr : ∃ A B, Gr (zs.map (·.2)) A B
theorem Gw.ne {H H' : Hp} {j l le : Addr} {zs : List (Addr × Pn)} {es : List Int} (g : Gw H H' j l le zs es) : zs ≠ [] := fun z => by
  have := g.el
  rw [z] at this
  cases this
theorem Gw.same {H H' H2 : Hp} {j l le : Addr} {zs : List (Addr × Pn)} {es : List Int} (g : Gw H H' j l le zs es) (e : Same H' H2) : Gw H H2 j l le zs es :=
  ⟨g.but.same e, g.l0, g.le0, g.ll, g.lay.same e, e _ _ g.ent, g.el, g.jar, g.gr⟩
theorem Gw.dip {H H' H2 : Hp} {j l le : Addr} {m : Nat} {zs : List (Addr × Pn)} {es : List Int} (g : Gw H H' j l le zs es) (hj : Jar H' j m) (b : But j H' H2) : Gw H H2 j l le zs es :=
  ⟨g.but.trans b, g.l0, g.le0, g.ll, g.lay.but hj b g.ne, b _ _ (fun z => by
    obtain ⟨o, ho⟩ := g.jar
    have := g.le0
    rw [z, ho] at this
    cases this) g.ent, g.el, g.jar, g.gr⟩
theorem ok_grown {f fD fB fP : Addr} {fd dD dB dP : FuncData} (F : Fun K "_law_grown" "_law_grown" sGrown f fd)
    (GD : FnOk P w K mg base CX0 1 fD dD ["jar", "many"] spDip) (KD : Kd K mg "_law_dip" fD dD ["jar", "many"])
    (GB : FnOk P w K mg base CX0 1 fB dB ["panes", "axis"] spBorder) (KB : Kd K mg "_law_border" fB dB ["panes", "axis"])
    (GP : FnOk P w K mg base CX0 1 fP dP ["panes", "entry"] spPushed) (KP : Kd K mg "_law_pushed" fP dP ["panes", "entry"]) (m : BI mg) :
    FnOk P w K mg base CX0 2 f fd ["jar", "many"] spGrown := by
  refine F.ok scGrown (fun vs H Q E h => ?_) (fun cdv A outer s H vs Q E hr h => ?_)
  · obtain ⟨j, n, m, rfl, _⟩ := h
    rfl
  · obtain ⟨j, many, mj, rfl, hm1, hm2, hj, hmj, q⟩ := h
    refine ⟨_, pss_cons (ps_par (i := 2) (j := 3) rfl scGrown.nd rfl rfl (by decide) rfl rfl (pa_cons (pe_lst (pa_cons (pe_tup (pa_cons pe_int (pa_cons pe_int (pa_cons pe_int (pa_cons pe_int pa_nil))))) pa_nil)) (pa_cons (pe_lst pa_nil) pa_nil)) (by rfl))
      (pss_cons (ps_while PassesOwn.never (pt_cmpR op_lt (pe_callB call_len_seq (by rfl) m.le PySem.boot_len (pa_cons (pv 2) pa_nil)) (pv 1) (nomark _))
        (pss_cons (ps_set (i := 4) scGrown.nd rfl (Or.inl rfl) (pe_call GD hr (by rfl) KD.g KD.k KD.b .nil pass0 (by exact (pa_cons (pv 0) (pa_cons pe_int pa_nil)))))
        (pss_cons (ps_set (i := 5) scGrown.nd rfl (Or.inl rfl) (pe_op op_add pe_int (pe_call GD hr (by rfl) KD.g KD.k KD.b .nil pass0 (by exact (pa_cons (pv 0) (pa_cons (pe_call GB hr (by rfl) KB.g KB.k KB.b .nil pass0 (by exact (pa_cons (pv 2) (pa_cons (pv 4) pa_nil)))) pa_nil))))))
        (Evl.pss_cut (ps_set (i := 5) scGrown.nd rfl (Or.inl rfl) (pe_ifExp (pt_cmpR op_eq (pv 4) pe_int (nomark _)) (pv 5) (pe_op op_sub pe_int (pv 5))))
        (pss_cons (ps_set (i := 2) scGrown.nd rfl (Or.inl rfl) (pe_call GP hr (by rfl) KP.g KP.k KP.b .nil pass0 (by exact (pa_cons (pv 2) (pa_cons (pv 5) pa_nil)))))
        (pss_one (ps_expr (pe_bm PySem.F.plainAttrs_list PySem.F.slot_list_append PySem.F.type_list_append mt_append (pv 3) (pa_cons (pv 5) pa_nil)))))))))
      (pss_one (ps_ret (pe_tup (pa_cons (pv 2) (pa_cons (pv 3) pa_nil)))))), ?_⟩
    have e200 : (2 : Int) ^ 200 = 1606938044258990275541962092341162602522202993782792835301376 := by decide +kernel
    refine ⟨(show 4 ≤ sizeLine by decide), fun T nT => ⟨(show 1 ≤ sizeLine by decide), fun l nl => ⟨(show 0 ≤ sizeLine by decide), fun le nle => ⟨_, _, rfl, ?_⟩⟩⟩⟩
    have e0 : Same H (upd (upd (upd H T (.tup [.int 0, .int 0, .int 1, .int 1])) l (.lst [.ref T])) le (.lst [])) := ((Evl.Ex.new nT).trans (Evl.Ex.new nl)).trans (Evl.Ex.new nle)
    have e1 : Same H (upd (upd H T (.tup [.int 0, .int 0, .int 1, .int 1])) l (.lst [.ref T])) := (Evl.Ex.new nT).trans (Evl.Ex.new nl)
    have lle : l ≠ le := fun z => by
      rw [← z, upd_same] at nle
      cases nle
    have Tl : T ≠ l := fun z => by
      rw [← z, upd_same] at nl
      cases nl
    have Tle : T ≠ le := fun z => by
      rw [← z, upd_ne Tl, upd_same] at nle
      cases nle
    refine Evl.q_while (fun k σ H' => ∃ (l le : Addr) (zs : List (Addr × Pn)) (es : List Int) (y4 y5 : Option V), σ = [some (.ref j), some (.int many), some (.ref l), some (.ref le), y4, y5] ∧ Gw H H' j l le zs es ∧ Jar H' j (mj + 2 * (zs.length - 1)) ∧ (zs.length : Int) + k = many) (many.toNat - 1)
      ⟨l, le, [(T, ⟨0, 0, 1, 1⟩)], [], none, none, rfl, ⟨Same.but e0, Same.free (Evl.Ex.new nT) nl, Same.free e1 nle, lle, ⟨?_, fun z hz => ?_⟩, ?_, rfl, hj.some, 1, 1, gr_one⟩, ?_, ?_⟩ ?_
    · rw [upd_ne lle, upd_same]
      rfl
    · obtain rfl := List.mem_singleton.mp hz
      rw [upd_ne Tle, upd_ne Tl, upd_same]
      rfl
    · rw [upd_same]
      rfl
    · exact (hj.same e0).mono (by simp)
    · show (1 : Int) + ((many.toNat - 1 : Nat) : Int) = many
      omega
    rintro k σ H1 ⟨l, le, zs, es, y4, y5, rfl, g, hj1, hk⟩
    refine ⟨decide (((zs.map fun z => V.ref z.1).length : Int) < many), Evl.et_test (Evl.ev_op (Evl.ev_len (Evl.ev_var rfl) (SqL.of g.lay.l)) (Evl.ev_var rfl) Evl.rv_I0), fun z H2 e2 => ⟨_, fun _ _ h => h, ?_⟩, fun z H2 e2 => ?_⟩
    · have hlt := of_decide_eq_true z
      rw [List.length_map] at hlt
      have g2 := g.same e2
      have hj2 := hj1.same e2
      have zl : 1 ≤ zs.length := by
        have := g.el
        omega
      refine ⟨.ref j, rfl, j, 2, _, rfl, by decide, by rw [e200]; decide, hj2, by omega, fun H3 ax a0 a1 b3 j3 => ?_⟩
      have g3 := g2.dip hj2 b3
      refine ⟨.ref j, rfl, .ref l, rfl, .int ax, rfl, l, zs, ax, rfl, g3.lay, g3.ne, by omega, ⟨a0, by omega⟩, fun H4 Eb s4 top => ?_⟩
      have g4 := g3.same s4
      have cb : 0 < (zs.filter fun z => decide (cm z.2 (ax + 2) = Eb)).length := by
        obtain ⟨⟨z, hz, e⟩, _⟩ := top
        exact List.length_pos_of_mem (List.mem_filter.mpr ⟨hz, decide_eq_true e⟩)
      have cl : (zs.filter fun z => decide (cm z.2 (ax + 2) = Eb)).length ≤ zs.length := List.length_filter_le _ _
      refine ⟨j, _, _, rfl, (show (0 : Int) < _ by omega), by rw [e200]; omega, j3.same s4, by omega, fun H5 r r0 r1 b5 j5 => ⟨1, r, rfl, rfl, ?_⟩⟩
      have g5 := g4.dip (j3.same s4) b5
      have hx01 : ax = 0 ∨ ax = 1 := by omega
      refine ⟨fun σ' H6 => σ' = [some (.ref j), some (.int many), some (.ref l), some (.ref le), some (.int ax), some (.int (if ax = 1 then 1 + r else 0 - (1 + r)))] ∧ H6 = H5, ?_, ?_⟩
      · refine ⟨.int ax, rfl, rfl, _, rfl, ite2 (fun z => ?_) (fun z => ?_)⟩
        · refine ⟨.int (1 + r), rfl, ?_, rfl⟩
          rw [if_pos (V.int.inj (of_decide_eq_true z))]
          rfl
        · refine ⟨.int (1 + r), rfl, 0, 1 + r, rfl, rfl, ?_, rfl⟩
          rw [if_neg fun y => z (decide_eq_true (by rw [y]))]
          rfl
      rintro σ' H6 ⟨rfl, rfl⟩
      have g6 := g5
      have j6 := j5
      refine ⟨.ref l, rfl, .int (if ax = 1 then 1 + r else 0 - (1 + r)), rfl, l, zs, _, ax, rfl, g6.lay, g6.ne, by omega, by split <;> omega, by split <;> split <;> omega, fun E2 top2 => ?_, fun H7 l' zs' E2 W2 row k0 r2 s7 nl' lay' made => ?_⟩
      · rw [← top_one top top2]
        split <;> omega
      have ml := made_len made
      rw [List.length_map] at ml
      have g7 := g6.same s7
      have hle7 : H7 le = some (.lst (es.map V.int)) := g7.ent
      have hl' : l' ≠ le := fun z => by
        rw [z, g6.ent] at nl'
        cases nl'
      have l'0 : H l' = none := g6.but.none j6.some nl'
      have jle : j ≠ le := fun z => by
        obtain ⟨o, ho⟩ := hj.some
        have := g.le0
        rw [← z, ho] at this
        cases this
      have g7e := g7.el
      refine ⟨.ref le, rfl, .inl ⟨rfl, _, SqL.of hle7⟩, .int (if ax = 1 then 1 + r else 0 - (1 + r)), rfl, le, es.map V.int, _, rfl, rfl, hle7, ?_, k - 1, ?_, l', le, zs', es ++ [if ax = 1 then 1 + r else 0 - (1 + r)], some (.int ax), some (.int (if ax = 1 then 1 + r else 0 - (1 + r))), rfl, ⟨?_, l'0, g.le0, hl', ⟨?_, fun z hz => ?_⟩, ?_, ?_, hj.some, ?_⟩, ?_, ?_⟩
      · rw [List.length_map]
        exact small1000 (by omega)
      · omega
      · intro a o n h
        rw [upd_ne (ne_of_none h g.le0)]
        exact g7.but a o n h
      · rw [upd_ne hl']
        exact lay'.l
      · have t := lay'.t z hz
        rw [upd_ne (fun y => by rw [y, hle7] at t; cases t)]
        exact t
      · rw [upd_same, List.map_append]
        rfl
      · rw [List.length_append, List.length_singleton]
        omega
      · obtain ⟨A, B, gg⟩ := g.gr
        exact made_gr hx01 gg made
      · obtain ⟨a, b, c, e, h1, h2, h3, h4⟩ := j6.same s7
        refine ⟨a, b, c, by rw [upd_ne jle]; exact e, h1, h2, h3, ?_⟩
        rw [ml]
        omega
      · rw [ml]
        omega
    · have hge := of_decide_eq_false z
      rw [List.length_map] at hge
      have g2 := g.same e2
      obtain ⟨A, B, gg⟩ := g.gr
      refine ⟨.ref l, rfl, .ref le, rfl, (show 2 ≤ sizeLine by decide), fun t nt => ?_⟩
      refine q _ t l le zs es A B (g2.but.same (Evl.Ex.new nt)) (((hj1.same e2).same (Evl.Ex.new nt)).mono (by omega)) (g2.but.none (hj1.same e2).some nt) g.l0 upd_same ?_ (g2.lay.same (Evl.Ex.new nt)) (by omega) gg
      exact Evl.Ex.new nt _ _ g2.ent
end
end GL
set_option Elab.async false
set_option linter.all false
set_option maxRecDepth 100000
set_option maxHeartbeats 8000000
/-! # panes in a drawn sequence -/
namespace GL
open PySem PySem.Spec PyProof.Rows L2 Geo Rel
abbrev nNamed : List Str := ["jar", "panes", "left", "found", "spot"]
theorem scNamed : FnScope nNamed ["jar", "panes"] (defScope sNamed) := ⟨rfl, rfl, rfl, by decide +kernel, rfl, by decide +kernel, by decide +kernel⟩
section
variable {K : PySem.W.Frag} {H : Hp}
theorem dp_ints : ∀ ns : List Int, DpAll K H (ns.map V.int) (ns.map PyData.int)
  | [] => .nil
  | n :: r => .cons (.int n) (dp_ints r)
theorem can_ints : ∀ ns : List Int, PyData.canLayAll0 (ns.map PyData.int) = true
  | [] => rfl
  | n :: r => by
    show (PyData.canLay0 (.int n) && PyData.canLayAll0 (r.map PyData.int)) = true
    rw [can_ints r]
    rfl
theorem deep_ints : ∀ ns : List Int, PyData.depthAll (ns.map PyData.int) = 0
  | [] => by simp [PyData.depthAll]
  | n :: r => by
    rw [List.map_cons]
    simp [PyData.depthAll, PyData.depth, deep_ints r]
theorem shaped_ints (ns : List Int) : SeqAt.shaped (.list (ns.map PyData.int)) = true := by
  have h1 : (PyData.list (ns.map PyData.int)).canLay0 = true := can_ints ns
  have h2 : (PyData.list (ns.map PyData.int)).depth = 1 := by simp [PyData.depth, deep_ints]
  show (PyData.canLay0 (.list (ns.map PyData.int)) && decide (PyData.depth (.list (ns.map PyData.int)) ≤ 64)) = true
  rw [h1, h2]
  rfl
end
theorem eqv_nil (ns : List Int) : PyData.eqv (.list (ns.map PyData.int)) (.list []) = decide (ns = []) := by
  cases ns with
  | nil => rfl
  | cons a r => rfl
theorem seq_at {i n : Nat} (h : i < n) : seqIndex? (i : Int) n = some i := by
  unfold seqIndex?
  have e : (if (i : Int) < 0 then (i : Int) + (n : Int) else (i : Int)) = (i : Int) := if_neg (by omega)
  rw [e]
  simp [h]
theorem erase_map {α β : Type} (f : α → β) : ∀ (l : List α) (i : Nat), (l.map f).eraseIdx i = (l.eraseIdx i).map f
  | [], i => by simp
  | a :: l, 0 => rfl
  | a :: l, i + 1 => by
    rw [List.map_cons, List.eraseIdx_cons_succ, List.eraseIdx_cons_succ, List.map_cons, erase_map f l i]
theorem erase_perm {α : Type} : ∀ (l : List α) (i : Nat) (h : i < l.length), (l[i] :: l.eraseIdx i).Perm l
  | a :: l, 0, _ => .rfl
  | a :: l, i + 1, h => by
    rw [List.eraseIdx_cons_succ, List.getElem_cons_succ]
    exact (List.Perm.swap ..).trans ((erase_perm l i (by simpa using h)).cons a)
/-- the panes of zs by the numbers ns -/
def picked {α : Type} (zs : List α) (ns : List Nat) : List α := ns.filterMap fun i => zs[i]?
theorem picked_range {α : Type} (zs : List α) : picked zs (List.range zs.length) = zs := by
  unfold picked
  refine List.ext_getElem? fun i => ?_
  have e : (List.range zs.length).filterMap (fun i => zs[i]?) = (List.range zs.length).pmap (fun i (h : i < zs.length) => zs[i]) (fun i hi => List.mem_range.mp hi) := by
    have g : ∀ (l : List Nat) (h : ∀ i ∈ l, i < zs.length), l.filterMap (fun i => zs[i]?) = l.pmap (fun i (h : i < zs.length) => zs[i]) h := by
      intro l
      induction l with
      | nil => intro h; rfl
      | cons a l ih =>
        intro h
        rw [List.filterMap_cons, List.getElem?_eq_getElem (h a List.mem_cons_self), List.pmap_cons, ih fun i hi => h i (List.mem_cons_of_mem _ hi)]
    exact g _ _
  rw [e]
  by_cases c : i < zs.length
  · rw [List.getElem?_pmap]
    simp [c]
  · rw [List.getElem?_eq_none (by simp; omega), List.getElem?_eq_none (by omega)]
theorem picked_perm {α : Type} {zs : List α} {ns : List Nat} (h : ns.Perm (List.range zs.length)) : (picked zs ns).Perm zs := by
  have z := h.filterMap fun i => zs[i]?
  have e := picked_range zs
  unfold picked at e
  rw [e] at z
  exact z
section
variable {P : Program} {w : World} {K : PySem.W.Frag} {mg : Str → Option Value} {base : Heap}
def natV (ns : List Nat) : List V := ns.map fun i => V.int (i : Nat)
def spNamed : Sp := fun vs H Q _ => ∃ (j l : Addr) (zs : List (Addr × Pn)) (m : Nat), vs = [.ref j, .ref l] ∧ Jar H j m ∧ Lay H l zs ∧ zs ≠ [] ∧ zs.length ≤ 1000 ∧ m + zs.length ≤ 1000000 ∧
  ∀ (H' : Hp) (t l' lf : Addr) (ns : List Nat), But j H H' → Jar H' j (m + zs.length) → H t = none → H l' = none → H' t = some (.tup [.ref l', .ref lf]) → H' lf = some (.lst (natV ns)) → ns.Perm (List.range zs.length) → Lay H' l' (picked zs ns) → Q (.ref t) H'
theorem ok_named {f fD : Addr} {fd dD : FuncData} (F : Fun K "_law_named" "_law_named" sNamed f fd)
    (GD : FnOk P w K mg base CX0 1 fD dD ["jar", "many"] spDip) (KD : Kd K mg "_law_dip" fD dD ["jar", "many"]) (m : BI mg) (mr : mg "range" = none) :
    FnOk P w K mg base CX0 2 f fd ["jar", "panes"] spNamed := by
  refine F.ok scNamed (fun vs H Q E h => ?_) (fun cdv A outer s H vs Q E hr h => ?_)
  · obtain ⟨j, l, zs, m, rfl, _⟩ := h
    rfl
  · obtain ⟨j, l, zs, mj, rfl, hj, hL, hne, hlen, hmj, q⟩ := h
    refine ⟨_, pss_cons (ps_par (i := 2) (j := 3) rfl scNamed.nd rfl rfl (by decide) rfl rfl (pa_cons (pe_listRg rfl (by rfl) m.li (prg_1 (by rfl) mr (pe_callB call_len_seq (by rfl) m.le PySem.boot_len (pa_cons (pv 1) pa_nil)))) (pa_cons (pe_lst pa_nil) pa_nil)) (by rfl))
      (pss_cons (ps_while PassesOwn.never (pt_cmpR (op_neD hr.units) (pv 2) (pe_lst pa_nil) (nomark _))
        (pss_one (ps_expr (pe_bm PySem.F.plainAttrs_list PySem.F.slot_list_append PySem.F.type_list_append mt_append (pv 3) (pa_cons (pe_bm PySem.F.plainAttrs_list PySem.F.slot_list_pop PySem.F.type_list_pop mt_popAt (pv 2)
          (pa_cons (pe_call GD hr (by rfl) KD.g KD.k KD.b .nil pass0 (by exact (pa_cons (pv 0) (pa_cons (pe_callB call_len_seq (by rfl) m.le PySem.boot_len (pa_cons (pv 2) pa_nil)) pa_nil)))) pa_nil)) pa_nil)))))
      (pss_one (ps_ret (pe_tup (pa_cons (pe_lc (own := [("spot", 4)]) (g := gName 4) (tt := tYes) rfl scNamed.nd (pi_list (pv 3)) (blkOk_by (N := nNamed) (sc := defScope sNamed) (by decide +kernel)) (fun _ _ _ _ _ => pg_name (i := 4) scNamed.nd rfl (Or.inl rfl)) (fun _ _ _ _ _ => pts_nil)
        (fun _ _ _ _ _ => pe_ix (ixLK (K := K) rfl) (pv 1) (pv 4) (fun _ _ => rfl))) (pa_cons (pv 3) pa_nil)))))), ?_⟩
    have hn0 : 0 < zs.length := List.length_pos_iff.mpr hne
    have lz : (zs.map fun z => V.ref z.1).length = zs.length := List.length_map _
    have z62 : (2 : Int) ^ 62 = 4611686018427387904 := by decide
    have z63 : (2 : Int) ^ 63 = 9223372036854775808 := by decide
    have e200 : (2 : Int) ^ 200 = 1606938044258990275541962092341162602522202993782792835301376 := by decide +kernel
    refine ⟨.ref l, rfl, l, _, rfl, .inl (SqL.of hL.l), _, rfl, ⟨by rw [z62]; omega, by rw [z62]; omega, by rw [z62]; omega, by rw [lz, z62]; omega, by rw [lz]; omega⟩, fun L nL => ⟨(show 0 ≤ sizeLine by decide), fun fo nf => ⟨_, _, rfl, ?_⟩⟩⟩
    have erg : rgV 0 ((zs.map fun z => V.ref z.1).length : Int) = natV (List.range zs.length) := by
      unfold rgV natV
      rw [lz, Int.sub_zero, Int.toNat_natCast]
      refine List.map_congr_left fun i _ => ?_
      rw [Int.zero_add]
    rw [erg] at nf ⊢
    have s1 : Same H (upd (upd H L (.lst (natV (List.range zs.length)))) fo (.lst [])) := (Evl.Ex.new nL).trans (Evl.Ex.new nf)
    have nf0 : H fo = none := Same.free (Evl.Ex.new nL) nf
    have Lf : L ≠ fo := fun z => by
      rw [← z, upd_same] at nf
      cases nf
    obtain ⟨oj, hoj⟩ := hj.some
    have jL : j ≠ L := fun z => by
      rw [← z, hoj] at nL
      cases nL
    have jf : j ≠ fo := fun z => by
      rw [← z, hoj] at nf0
      cases nf0
    have lj : l ≠ j := fun z => by
      obtain ⟨a, b, c, e, _⟩ := hj
      have := hL.l
      rw [z, e] at this
      cases zs with
      | nil => exact hne rfl
      | cons u r =>
        injection this with this
        injection this with this
        rw [List.map_cons] at this
        injection this with this _
        cases this
    refine Evl.q_while (fun k σ H' => σ = [some (.ref j), some (.ref l), some (.ref L), some (.ref fo), none] ∧ ∃ ls fs : List Nat, k = ls.length ∧ H' L = some (.lst (natV ls)) ∧ H' fo = some (.lst (natV fs)) ∧ (fs ++ ls).Perm (List.range zs.length) ∧ But j H H' ∧ Jar H' j (mj + fs.length)) zs.length
      ⟨rfl, List.range zs.length, [], (List.length_range ..).symm, by rw [upd_ne Lf, upd_same], upd_same, .rfl, Same.but s1, hj.same s1⟩ ?_
    rintro k σ H1 ⟨rfl, ls, fs, rfl, hl1, hf1, hp1, b1, j1⟩
    have hl : fs.length + ls.length = zs.length := by
      have := hp1.length_eq
      rw [List.length_append, List.length_range] at this
      exact this
    have eint : ∀ ns : List Nat, natV ns = (ns.map fun i => ((i : Nat) : Int)).map V.int := fun ns => by
      unfold natV
      rw [List.map_map]
      rfl
    refine ⟨decide (ls ≠ []), fun H2 e2 Q2 k2 => ?_, fun z H2 e2 => ⟨_, fun _ _ h => h, ?_⟩, fun z H2 e2 => ?_⟩
    · refine ⟨.ref L, rfl, (show 0 ≤ sizeLine by decide), fun p np => ?_⟩
      refine ⟨.list ((ls.map fun i => ((i : Nat) : Int)).map PyData.int), .list [], .lst (SqL.of (by rw [← eint]; exact Evl.Ex.new np _ _ (e2 _ _ hl1))) (dp_ints _), .lst (SqL.of upd_same) .nil, shaped_ints _, rfl, ?_⟩
      rw [eqv_nil]
      refine ⟨_, rfl, ?_⟩
      have eb : (!decide ((ls.map fun i => ((i : Nat) : Int)) = [])) = decide (ls ≠ []) := by
        cases ls with
        | nil => rfl
        | cons a r => rfl
      rw [eb]
      exact k2 _ (Evl.Ex.new np)
    · have hne2 : ls ≠ [] := of_decide_eq_true z
      have lpos := List.length_pos_iff.mpr hne2
      have hl2 : H2 L = some (.lst (natV ls)) := e2 _ _ hl1
      have hf2 : H2 fo = some (.lst (natV fs)) := e2 _ _ hf1
      have nlen : (natV ls).length = ls.length := List.length_map _
      have j2 := j1.same e2
      refine ⟨.ref fo, rfl, .inl ⟨rfl, _, SqL.of hf2⟩, .ref L, rfl, .inl ⟨rfl, _, SqL.of hl2⟩, .ref j, rfl, .ref L, rfl, L, _, rfl, .inl (SqL.of hl2), j, _, _, rfl, by rw [nlen]; omega, by rw [nlen, e200]; omega, j2, by omega, fun H3 r r0 r1 b3 j3 => ?_⟩
      rw [nlen] at r1
      obtain ⟨i, rfl⟩ : ∃ i : Nat, r = (i : Int) := ⟨r.toNat, by omega⟩
      have hi : i < ls.length := by omega
      have hl3 : H3 L = some (.lst (natV ls)) := b3 _ _ (Ne.symm jL) hl2
      have hf3 : H3 fo = some (.lst (natV fs)) := b3 _ _ (Ne.symm jf) hf2
      refine ⟨L, natV ls, (i : Int), i, .int (ls[i] : Nat), rfl, rfl, hl3, by rw [z63]; omega, by rw [z63]; omega, ?_, ?_, ?_⟩
      · rw [nlen]
        exact seq_at hi
      · unfold natV
        rw [List.getElem?_map, List.getElem?_eq_getElem hi]
        rfl
      refine ⟨fo, natV fs, .int (ls[i] : Nat), rfl, rfl, ?_, ?_, (ls.eraseIdx i).length, ?_, rfl, ls.eraseIdx i, fs ++ [ls[i]], rfl, ?_, ?_, ?_, ?_, ?_⟩
      · rw [upd_ne (Ne.symm Lf)]
        exact hf3
      · show (List.map _ fs).length < _
        rw [List.length_map]
        exact small1000 (by omega)
      · rw [List.length_eraseIdx_of_lt hi]
        omega
      · rw [upd_ne Lf, upd_same]
        unfold natV
        rw [erase_map]
      · rw [upd_same]
        unfold natV
        rw [List.map_append]
        rfl
      · refine List.Perm.trans ?_ hp1
        rw [List.append_assoc]
        exact List.Perm.append_left fs (erase_perm ls i hi)
      · intro a o n h
        rw [upd_ne (ne_of_none h nf0), upd_ne (ne_of_none h nL)]
        exact b3 _ _ n (e2 _ _ (b1 _ _ n h))
      · obtain ⟨a, b, c, e, h1, h2, h3, h4⟩ := j3
        refine ⟨a, b, c, by rw [upd_ne jf, upd_ne jL]; exact e, h1, h2, h3, ?_⟩
        rw [List.length_append, List.length_singleton]
        omega
    · have hnil : ls = [] := by simpa using of_decide_eq_false z
      subst hnil
      rw [List.append_nil] at hp1
      have fl : fs.length = zs.length := by simpa using hl
      have hf2 : H2 fo = some (.lst (natV fs)) := e2 _ _ hf1
      have b2 := b1.same e2
      have L2 : Lay H2 l zs := hL.but hj b2 hne
      have mem : ∀ i ∈ fs, i < zs.length := fun i hi => List.mem_range.mp (hp1.mem_iff.mp hi)
      have lc := el_lcV (K := K) (σ := [some (.ref j), some (.ref l), some (.ref L), some (.ref fo), none]) (H := H2) (tl := tVar 3) (te := tOp (rIxL K) (tVar 1) (tVar 4)) (j := 4) (vs := [4]) (t := tYes) (zs := fs) (val := fun i => V.int (i : Nat)) (g := fun i => ((zs[i]?).map fun z => V.ref z.1).getD .non) (fun _ => true) (Evl.ev_var rfl) (SqL.of hf2) (by omega) (fun _ => rfl)
        (fun z hz H1 e H2 e2 Q q => q H2 (Evl.Ex.refl _))
        (fun i hi H3 e _ => by
          have z := Evl.ev_op (σ := [some (.ref j), some (.ref l), some (.ref L), some (.ref fo), some (.int (i : Nat))]) (H := H3) (Evl.ev_var (i := 1) rfl) (Evl.ev_var (i := 4) rfl) (Evl.rv_ixL (K := K) (SqL.of (e _ _ L2.l)) (i := (i : Int)) (v := ((zs[i]?).map fun z => V.ref z.1).getD .non) (atI_nat (by
            rw [List.getElem?_map, List.getElem?_eq_getElem (mem i hi)]
            rfl)))
          exact z)
        (fun i hi p hp => by
          have hm := mem i hi
          rw [List.getElem?_eq_getElem hm] at hp
          have e : (zs[i]'hm).1 = p := V.ref.inj hp
          rw [← e, L2.t _ (List.getElem_mem (mem i hi))]
          exact fun z => nomatch z)
      unfold tRet tTup tCons
      refine lc H2 (Evl.Ex.refl _) _ fun p H3 np e3 hp => ⟨.ref fo, rfl, (show 2 ≤ sizeLine by decide), fun t nt => ?_⟩
      have e4 : Same H2 (upd H3 t (.tup [.ref p, .ref fo])) := Evl.Ex.trans e3 (Evl.Ex.new nt)
      refine q _ t p fo fs (b2.same e4) ?_ (b2.none (j1.same e2).some (Same.free e3 nt)) (b2.none (j1.same e2).some np) upd_same (e4 _ _ hf2) hp1 ⟨?_, fun z hz => ?_⟩
      · rw [← fl]
        exact (j1.same e2).same e4
      · rw [Evl.Ex.new nt _ _ hp]
        congr 2
        rw [List.filter_eq_self.mpr fun _ _ => rfl]
        unfold picked
        clear lc hp hp1 fl hl hf1 hf2 j1 erg
        induction fs with
        | nil => rfl
        | cons a r ih =>
          rw [List.map_cons, List.filterMap_cons, List.getElem?_eq_getElem (mem a List.mem_cons_self)]
          simp only [List.map_cons]
          rw [ih fun i hi => mem i (List.mem_cons_of_mem _ hi)]
          rfl
      · unfold picked at hz
        obtain ⟨i, _, hi⟩ := List.mem_filterMap.mp hz
        exact e4 _ _ (L2.t _ (List.mem_of_getElem? hi))
end
end GL
set_option Elab.async false
set_option linter.all false
set_option maxRecDepth 100000
set_option maxHeartbeats 4000000
/-! # a dict that counts pairs -/
namespace GL
open PySem PySem.Spec PyProof.Rows L2 Geo Rel
def Kp (u : Int × Int) : List L2.Key := [.inl u.1, .inl u.2]
theorem Kp_inj {u v : Int × Int} (h : Kp u = Kp v) : u = v := by
  unfold Kp at h
  injection h with h1 h2
  injection h2 with h2 _
  injection h1 with h1
  injection h2 with h2
  exact Prod.ext h1 h2
/-- a dict that counts the points pts -/
def Cnt (pts : List (Int × Int)) (kvs : List (List L2.Key × V)) : Prop := ∃ us : List (Int × Int), us.Nodup ∧ (∀ u, u ∈ us ↔ u ∈ pts) ∧ us.length ≤ pts.length ∧ kvs = us.map fun u => (Kp u, V.int (pts.count u : Nat))
theorem cnt_nil : Cnt [] [] := ⟨[], .nil, fun _ => .rfl, Nat.le_refl _, rfl⟩
theorem valV_us (f : Int × Int → V) (u : Int × Int) : ∀ us : List (Int × Int), valV (us.map fun u => (Kp u, f u)) (Kp u) = if u ∈ us then some (f u) else none
  | [] => rfl
  | a :: r => by
    rw [List.map_cons]
    by_cases c : a = u
    · subst c
      rw [valV_pos rfl, if_pos List.mem_cons_self]
    · rw [valV_neg (fun z => c (Kp_inj z)), valV_us f u r]
      by_cases k : u ∈ r
      · rw [if_pos k, if_pos (List.mem_cons_of_mem _ k)]
      · rw [if_neg k, if_neg fun z => (List.mem_cons.mp z).elim (fun e => c e.symm) k]
theorem cnt_get {pts : List (Int × Int)} {kvs : List (List L2.Key × V)} (h : Cnt pts kvs) (u : Int × Int) : (valV kvs (Kp u)).getD (.int 0) = .int (pts.count u : Nat) := by
  obtain ⟨us, _, hm, _, rfl⟩ := h
  rw [valV_us]
  by_cases c : u ∈ us
  · rw [if_pos c]
    rfl
  · rw [if_neg c, List.count_eq_zero_of_not_mem fun z => c ((hm u).mpr z)]
    rfl
theorem cnt_put {pts : List (Int × Int)} {kvs : List (List L2.Key × V)} (h : Cnt pts kvs) (u : Int × Int) : Cnt (pts ++ [u]) (putK kvs (Kp u) (.int ((pts.count u : Nat) + 1))) := by
  obtain ⟨us, hn, hm, hl, rfl⟩ := h
  have ec : ∀ v, (pts ++ [u]).count v = pts.count v + if u = v then 1 else 0 := fun v => by
    rw [List.count_append, List.count_cons, List.count_nil]
    simp
  have ea : ((us.map fun u => (Kp u, V.int (pts.count u : Nat))).any fun kv => decide (kv.1 = Kp u)) = decide (u ∈ us) := by
    rw [valV_any, valV_us]
    by_cases c : u ∈ us
    · rw [if_pos c, decide_eq_true c]
      rfl
    · rw [if_neg c, decide_eq_false c]
      rfl
  unfold putK
  rw [ea]
  by_cases c : u ∈ us
  · rw [if_pos (decide_eq_true c)]
    refine ⟨us, hn, fun v => ?_, by rw [List.length_append]; omega, ?_⟩
    · rw [hm v, List.mem_append, List.mem_singleton]
      exact ⟨.inl, fun z => z.elim id fun e => by rw [e]; exact (hm u).mp c⟩
    · rw [List.map_map]
      refine List.map_congr_left fun v _ => ?_
      show (if Kp v = Kp u then (Kp v, V.int ((pts.count u : Nat) + 1)) else (Kp v, V.int (pts.count v : Nat))) = _
      rw [ec]
      by_cases k : u = v
      · subst k
        rw [if_pos rfl, if_pos rfl]
        rfl
      · rw [if_neg (fun z => k (Kp_inj z).symm), if_neg k]
        rfl
  · rw [if_neg (fun z => c (of_decide_eq_true z))]
    have c2 : u ∉ pts := fun z => c ((hm u).mpr z)
    refine ⟨us ++ [u], ?_, fun v => ?_, by rw [List.length_append, List.length_append, List.length_singleton]; omega, ?_⟩
    · refine List.nodup_append.mpr ⟨hn, List.nodup_cons.mpr ⟨List.not_mem_nil, .nil⟩, fun a ha b hb e => ?_⟩
      obtain rfl := List.mem_singleton.mp hb
      exact c (e ▸ ha)
    · rw [List.mem_append, List.mem_append, hm v]
    · rw [List.map_append]
      congr 1
      · refine List.map_congr_left fun v hv => ?_
        rw [ec, if_neg fun (e : u = v) => c (by rw [e]; exact hv)]
        rfl
      · rw [List.map_cons, ec, if_pos rfl]
        rfl
theorem cnt_vals {pts : List (Int × Int)} {kvs : List (List L2.Key × V)} (h : Cnt pts kvs) : ∃ ns : List Int, kvs.map (·.2) = ns.map V.int ∧ (4 ∈ ns ↔ ∃ u, pts.count u = 4) := by
  obtain ⟨us, hn, hm, hl, rfl⟩ := h
  refine ⟨us.map fun u => ((pts.count u : Nat) : Int), by rw [List.map_map, List.map_map]; rfl, ?_⟩
  rw [List.mem_map]
  constructor
  · rintro ⟨u, _, e⟩
    exact ⟨u, by omega⟩
  · rintro ⟨u, e⟩
    exact ⟨u, (hm u).mpr (List.count_pos_iff.mp (by omega)), by omega⟩
theorem cnt_len {pts : List (Int × Int)} {kvs : List (List L2.Key × V)} (h : Cnt pts kvs) : kvs.length ≤ pts.length := by
  obtain ⟨us, _, _, hl, rfl⟩ := h
  rw [List.length_map]
  exact hl
end GL
set_option Elab.async false
set_option linter.all false
set_option maxRecDepth 100000
set_option maxHeartbeats 8000000
/-! # whether a point is a corner of four panes -/
namespace GL
open PySem PySem.Spec PyProof.Rows L2 Geo Rel
abbrev nCrossed : List Str := ["panes", "counts_here", "one", "point"]
theorem scCrossed : FnScope nCrossed ["panes"] (defScope sCrossed) := ⟨rfl, rfl, rfl, by decide +kernel, rfl, by decide +kernel, by decide +kernel⟩
/-- the corners of a pane -/
def crn (p : Pn) : List (Int × Int) := [(p.x0, p.y0), (p.x0, p.y1), (p.x1, p.y0), (p.x1, p.y1)]
theorem crn_count {p : Pn} (h : p.x0 < p.x1 ∧ p.y0 < p.y1) (u : Int × Int) : (crn p).count u = if Cor u.1 u.2 p = true then 1 else 0 := by
  obtain ⟨x, y⟩ := u
  obtain ⟨a, b, c, d⟩ := p
  obtain ⟨h1, h2⟩ := h
  simp only at h1 h2
  unfold crn Cor
  simp only [List.count_cons, List.count_nil, beq_iff_eq, Prod.mk.injEq, Bool.and_eq_true, Bool.or_eq_true, decide_eq_true_eq]
  by_cases e1 : a = x <;> by_cases e2 : b = y <;> by_cases e3 : c = x <;> by_cases e4 : d = y <;> simp_all <;> omega
theorem crn_len : ∀ ps : List Pn, (ps.flatMap crn).length = 4 * ps.length
  | [] => rfl
  | p :: r => by
    rw [List.flatMap_cons, List.length_append, crn_len r, List.length_cons]
    show 4 + _ = _
    omega
theorem crn_all {ps : List Pn} (h : ∀ p ∈ ps, p.x0 < p.x1 ∧ p.y0 < p.y1) (u : Int × Int) : (ps.flatMap crn).count u = ps.countP (Cor u.1 u.2) := by
  induction ps with
  | nil => rfl
  | cons p r ih =>
    rw [List.flatMap_cons, List.count_append, ih fun q hq => h q (List.mem_cons_of_mem _ hq), crn_count (h p List.mem_cons_self), List.countP_cons]
    omega
/-! ## the def -/
section
variable {K : PySem.W.Frag} {σ : L2.St} {H : Hp}
def EvPs (ta : TA) (σ : L2.St) (H : Hp) (ps : List (Int × Int)) : Prop := ∀ H1, Evl.Ex H H1 → ∀ Q : List V → Hp → Prop, (∀ ys H2, Evl.Ex H1 H2 → PrR H2 ys ps → Q ys H2) → ta σ H1 Q
theorem eps_nil : EvPs tNil σ H [] := fun H1 e Q q => q [] H1 (Evl.Ex.refl _) .nil
theorem eps_cons {t1 t2 : TE} {ta : TA} {a b : Int} {ps : List (Int × Int)} (h1 : Evl.Ev t1 σ H (.int a)) (h2 : Evl.Ev t2 σ H (.int b)) (h : EvPs ta σ H ps) : EvPs (tCons (tTup (tCons t1 (tCons t2 tNil))) ta) σ H ((a, b) :: ps) := fun H1 e Q q => by
  refine h1 H1 e _ fun H2 e2 => h2 H2 (e.trans e2) _ fun H3 e3 => ⟨(show 2 ≤ sizeLine by decide), fun p np => ?_⟩
  have e4 : Evl.Ex H1 (upd H3 p (.tup [.int a, .int b])) := (e2.trans e3).trans (Evl.Ex.new np)
  refine h _ (e.trans e4) _ fun ys H5 e5 hr => q (.ref p :: ys) H5 (e4.trans e5) (.cons ⟨p, rfl, e5 _ _ upd_same⟩ hr)
theorem ep_lst {ta : TA} {ps : List (Int × Int)} (h : EvPs ta σ H ps) (hl : ps.length ≤ 1000) : EvP (tLst ta) σ H ps := fun H1 e Q q => by
  refine h H1 e _ fun ys H2 e2 hr => ⟨?_, fun p np => ?_⟩
  · rw [hr.len]
    exact Nat.le_of_lt (small1000 hl)
  · exact q p _ (Same.free e2 np) (e2.trans (Evl.Ex.new np)) ⟨ys, upd_same, hr.ex (Evl.Ex.new np)⟩
end
section
variable {P : Program} {w : World} {K : PySem.W.Frag} {mg : Str → Option Value} {base : Heap}
def spCrossed : Sp := fun vs H Q _ => ∃ (l : Addr) (zs : List (Addr × Pn)), vs = [.ref l] ∧ Lay H l zs ∧ zs.length ≤ 1000 ∧ (∀ z ∈ zs, z.2.x0 < z.2.x1 ∧ z.2.y0 < z.2.y1) ∧
  ∀ (H' : Hp) (b : Bool), Same H H' → (b = true ↔ ∃ x y, (zs.map (·.2)).countP (Cor x y) = 4) → Q (.bl b) H'
theorem ok_crossed {f : Addr} {fd : FuncData} {k : Nat} (F : Fun K "_law_crossed" "_law_crossed" sCrossed f fd) : FnOk P w K mg base CX0 (k + 1) f fd ["panes"] spCrossed := by
  refine F.ok scCrossed (fun vs H Q E h => ?_) (fun cdv A outer s H vs Q E hr h => ?_)
  · obtain ⟨l, zs, rfl, _⟩ := h
    rfl
  · obtain ⟨l, zs, rfl, hL, hlen, hpos, q⟩ := h
    have hu := hr.units
    refine ⟨_, pss_cons (ps_set (i := 1) scCrossed.nd rfl (Or.inl rfl) pe_dnewT)
      (Evl.pss_cut (ps_for PassesOwn.never rfl (pi_list (pv 0)) (pg_name (i := 2) scCrossed.nd rfl (Or.inl rfl))
        (pss_one (ps_for PassesOwn.never rfl (pi_list (pe_lst (pa_cons (pe_tup (pa_cons (pe_ix (ixTK (K := K) rfl) (pv 2) pe_int (fun _ _ => rfl)) (pa_cons (pe_ix (ixTK (K := K) rfl) (pv 2) pe_int (fun _ _ => rfl)) pa_nil))) (pa_cons (pe_tup (pa_cons (pe_ix (ixTK (K := K) rfl) (pv 2) pe_int (fun _ _ => rfl)) (pa_cons (pe_ix (ixTK (K := K) rfl) (pv 2) pe_int (fun _ _ => rfl)) pa_nil)))
            (pa_cons (pe_tup (pa_cons (pe_ix (ixTK (K := K) rfl) (pv 2) pe_int (fun _ _ => rfl)) (pa_cons (pe_ix (ixTK (K := K) rfl) (pv 2) pe_int (fun _ _ => rfl)) pa_nil))) (pa_cons (pe_tup (pa_cons (pe_ix (ixTK (K := K) rfl) (pv 2) pe_int (fun _ _ => rfl)) (pa_cons (pe_ix (ixTK (K := K) rfl) (pv 2) pe_int (fun _ _ => rfl)) pa_nil))) pa_nil)))))) (pg_name (i := 3) scCrossed.nd rfl (Or.inl rfl))
          (pss_one (ps_dput (by exact Nat.lt_of_le_of_lt (Nat.add_le_add_left (by decide) _) hu) (pv 1) (pv 3) (pe_op op_add (pe_dget2 (by exact Nat.lt_of_le_of_lt (Nat.add_le_add_left (by decide) _) hu) (pv 1) (pv 3) pe_int (by constructor <;> rfl)) pe_int) (by rfl))))))
      (pss_one (ps_ret (pe_cmpR (VIn.op_vin rfl) pe_int (pe_bm0 PySem.F.plainAttrs_dict PySem.F.slot_dict_values PySem.F.type_dict_values VIn.mt_vals (pv 1)) (by rfl))))), ?_⟩
    refine fun c nc => ⟨fun σ H' => ∃ (y2 y3 : Option V) (kvs : List (List L2.Key × V)), σ = [some (.ref l), some (.ref c), y2, y3] ∧ But c H H' ∧ H' c = some (.dT kvs) ∧ Cnt ((zs.map (·.2)).flatMap crn) kvs, ?_, ?_⟩
    · have lc : l ≠ c := fun z => by
        rw [← z, hL.l] at nc
        cases nc
      have e0 : Same H (upd H c (.dT [])) := Evl.Ex.new nc
      refine Evl.s_forLn (K := K) (a := l) (xs := zs.map fun z => .ref z.1) (Evl.ev_var rfl) (SqL.of (e0 _ _ hL.l))
        (fun i σ H' => ∃ (y2 y3 : Option V) (kvs : List (List L2.Key × V)), σ = [some (.ref l), some (.ref c), y2, y3] ∧ But c H H' ∧ H' c = some (.dT kvs) ∧ Cnt (((zs.take i).map (·.2)).flatMap crn) kvs)
        (fun H1 e1 => ⟨none, none, [], rfl, fun a o n h => e1 _ _ (by rw [upd_ne n]; exact h), e1 _ _ upd_same, cnt_nil⟩) (fun i σ' H' _ ⟨_, _, _, _, hb, _⟩ => SqL.of (hb _ _ lc hL.l)) ?_ ?_
      · rintro i x σ' H1 hx ⟨y2, y3, kvs, rfl, hb, hc, hcnt⟩
        have hi : i < zs.length := by
          have := (List.getElem?_eq_some_iff.mp hx).1
          rw [List.length_map] at this
          exact this
        have ex : x = .ref zs[i].1 := by
          rw [List.getElem?_map, List.getElem?_eq_getElem hi] at hx
          exact (Option.some.inj hx).symm
        subst ex
        have hz : zs[i] ∈ zs := List.getElem_mem hi
        have ht1 : H1 zs[i].1 = some (.tup (PnV zs[i].2)) := hb _ _ (fun z => by
          have t := hL.t _ hz
          rw [z, nc] at t
          cases t) (hL.t _ hz)
        have cx : ∀ (m : Int), 0 ≤ m ∧ m ≤ 3 → Evl.Ev (tOp (rIxT K) (tVar 2) (tC (.int m))) [some (.ref l), some (.ref c), some (.ref zs[i].1), y3] H1 (.int (cm zs[i].2 m)) := fun m hm =>
          ev_cm (Evl.ev_var rfl) Evl.ev_c ht1 hm
        have ep : EvP (tLst (tCons (tTup (tCons (tOp (rIxT K) (tVar 2) (tC (.int 0))) (tCons (tOp (rIxT K) (tVar 2) (tC (.int 1))) tNil))) (tCons (tTup (tCons (tOp (rIxT K) (tVar 2) (tC (.int 0))) (tCons (tOp (rIxT K) (tVar 2) (tC (.int 3))) tNil)))
            (tCons (tTup (tCons (tOp (rIxT K) (tVar 2) (tC (.int 2))) (tCons (tOp (rIxT K) (tVar 2) (tC (.int 1))) tNil))) (tCons (tTup (tCons (tOp (rIxT K) (tVar 2) (tC (.int 2))) (tCons (tOp (rIxT K) (tVar 2) (tC (.int 3))) tNil))) tNil)))))
            [some (.ref l), some (.ref c), some (.ref zs[i].1), y3] H1 (crn zs[i].2) :=
          ep_lst (eps_cons (cx 0 (by omega)) (cx 1 (by omega)) (eps_cons (cx 0 (by omega)) (cx 3 (by omega)) (eps_cons (cx 2 (by omega)) (cx 1 (by omega)) (eps_cons (cx 2 (by omega)) (cx 3 (by omega)) eps_nil)))) (by show 4 ≤ 1000; decide)
        unfold tFor iList
        refine ep H1 (Evl.Ex.refl _) _ fun p H2 np e2 hpr => ?_
        obtain ⟨ys, hp, hr2⟩ := hpr
        have pc : p ≠ c := fun z => by
          rw [z, hc] at np
          cases np
        have hc2 := e2 _ _ hc
        refine ⟨p, rfl, ⟨ys, SqL.of hp⟩, for_list (K := K) (fun j σ' H' => ∃ (y3 : Option V) (kvs : List (List L2.Key × V)), σ' = [some (.ref l), some (.ref c), some (.ref zs[i].1), y3] ∧ But c H2 H' ∧ H' c = some (.dT kvs) ∧ Cnt (((zs.take i).map (·.2)).flatMap crn ++ (crn zs[i].2).take j) kvs)
          ⟨y3, kvs, rfl, But.refl _ _, hc2, by rw [List.take_zero, List.append_nil]; exact hcnt⟩ (fun j σ' H' _ ⟨_, _, _, hb2, _⟩ => SqL.of (hb2 _ _ pc hp)) ?_ ?_⟩
        · rintro j x σ' H3 hx ⟨y3, kvs, rfl, hb2, hc3, hcnt3⟩
          have hj : j < (crn zs[i].2).length := by
            rw [← hr2.len]
            exact (List.getElem?_eq_some_iff.mp hx).1
          obtain ⟨b, rfl, hbt⟩ := hr2.at (List.getElem?_eq_getElem hj) hx
          have hb3 : H3 b = some (.tup ((Kp (crn zs[i].2)[j]).map kV)) := hb2 _ _ (fun z => by
            rw [z, hc2] at hbt
            cases hbt) hbt
          have hlen3 : kvs.length < sizeLine := by
            have z := cnt_len hcnt3
            rw [List.length_append, crn_len, List.length_map, List.length_take, List.length_take] at z
            have : (crn zs[i].2).length = 4 := rfl
            rw [sizeLine_eq]
            omega
          refine ⟨.ref c, rfl, c, rfl, .inr ⟨kvs, .inl hc3⟩, .ref b, rfl, _, DGet.t (k := Kp (crn zs[i].2)[j]) hc3 hb3, _, 1, cnt_get hcnt3 _, rfl, .ref c, rfl, .ref b, rfl, c, _, rfl, DPut.t (k := Kp (crn zs[i].2)[j]) hc3 hb3 hlen3, some (.ref b), _, rfl, ?_, upd_same, ?_⟩
          · intro a o n h
            rw [upd_ne n]
            exact hb2 _ _ n h
          · have z := cnt_put hcnt3 (crn zs[i].2)[j]
            rw [List.append_assoc, ← List.take_succ_eq_append_getElem hj] at z
            exact z
        · rintro σ' H3 ⟨y3, kvs, rfl, hb2, hc3, hcnt3⟩
          refine ⟨some (.ref zs[i].1), y3, kvs, rfl, fun a o n h => hb2 _ _ n (e2 _ _ (hb _ _ n h)), hc3, ?_⟩
          rw [hr2.len, List.take_length] at hcnt3
          rw [List.take_succ_eq_append_getElem hi, List.map_append, List.flatMap_append]
          have e : (List.map (fun z : Addr × Pn => z.2) [zs[i]]).flatMap crn = crn zs[i].2 := by simp
          rw [e]
          exact hcnt3
      · rintro σ' H1 ⟨y2, y3, kvs, rfl, hb, hc, hcnt⟩
        rw [List.length_map, List.take_length] at hcnt
        exact ⟨y2, y3, kvs, rfl, hb, hc, hcnt⟩
    · rintro σ' H1 ⟨y2, y3, kvs, rfl, hb, hc, hcnt⟩
      obtain ⟨ns, e1, e2⟩ := cnt_vals hcnt
      refine ⟨.ref c, rfl, .inr (.inr (.inl ⟨rfl, .inr ⟨kvs, hc⟩⟩)), c, kvs, rfl, rfl, hc, fun p np => ⟨4, p, c, kvs, ns, rfl, rfl, upd_same, Evl.Ex.new np _ _ hc, e1, q _ _ (fun a o h => Evl.Ex.new np _ _ (hb _ _ (fun z => by rw [z, nc] at h; cases h) h)) ?_⟩⟩
      rw [decide_eq_true_eq, e2]
      constructor
      · rintro ⟨u, hu⟩
        rw [crn_all (fun p hp => by
          obtain ⟨z, hz, rfl⟩ := List.mem_map.mp hp
          exact hpos z hz)] at hu
        exact ⟨u.1, u.2, hu⟩
      · rintro ⟨x, y, hu⟩
        refine ⟨(x, y), ?_⟩
        rw [crn_all (fun p hp => by
          obtain ⟨z, hz, rfl⟩ := List.mem_map.mp hp
          exact hpos z hz)]
        exact hu
end
end GL
set_option Elab.async false
set_option linter.all false
set_option maxRecDepth 100000
set_option maxHeartbeats 8000000
/-! # lists of panes, evaluated -/
namespace GL
open PySem PySem.Spec PyProof.Rows L2 Geo Rel
section
variable {K : PySem.W.Frag} {σ : L2.St} {H : Hp}
def EvZ (te : TE) (σ : L2.St) (H : Hp) (qs : List Pn) : Prop := ∀ H1, Evl.Ex H H1 → ∀ Q : VK, (∀ p zs H2, H1 p = none → Evl.Ex H1 H2 → Lay H2 p zs → zs.map (·.2) = qs → Q (.ref p) H2) → te σ H1 Q
theorem ez_sl {te : TE} {tl th : TO} {a : Addr} {zs zs' : List (Addr × Pn)} {lo hi : Option Int} (h : Evl.Ev te σ H (.ref a)) (hL : Lay H a zs) (h1 : Evl.EvO tl σ H lo) (h2 : Evl.EvO th σ H hi) (he : cutV (zs.map fun z => V.ref z.1) lo hi = zs'.map fun z => V.ref z.1) (hm : ∀ z ∈ zs', z ∈ zs) :
    EvZ (tSl (rSlL K) te tl th) σ H (zs'.map (·.2)) := fun H1 e Q q =>
  Evl.el_sl h h1 h2 (SqL.of hL.l) H1 e Q fun p H2 np e2 hp => q p zs' H2 np e2 ⟨by rw [hp, he], fun z hz => (hL.same (Evl.Ex.trans e e2)).t z (hm z hz)⟩ rfl
theorem ez_cat {t1 t2 : TE} {ps qs : List Pn} (h1 : EvZ t1 σ H ps) (h2 : EvZ t2 σ H qs) (hl : ps.length + qs.length ≤ 100000) : EvZ (tOp rCat t1 t2) σ H (ps ++ qs) := fun H1 e Q q =>
  h1 H1 e _ fun p zs H2 np e2 hp ep => h2 H2 (e.trans e2) _ fun p' zs' H3 np' e3 hp' ep' => by
    have l1 : zs.length = ps.length := by rw [← ep, List.length_map]
    have l2 : zs'.length = qs.length := by rw [← ep', List.length_map]
    have hp3 := hp.same e3
    refine ⟨p, p', _, _, rfl, rfl, hp3.l, hp'.l, ?_, fun r nr => q r (zs ++ zs') _ (Same.free (e2.trans e3) nr) ((e2.trans e3).trans (Evl.Ex.new nr)) ⟨?_, fun z hz => ?_⟩ ?_⟩
    · rw [List.length_map, List.length_map, sizeLine_eq]
      omega
    · rw [upd_same, List.map_append]
    · refine Evl.Ex.new nr _ _ ?_
      rcases List.mem_append.mp hz with hz | hz
      · exact hp3.t z hz
      · exact hp'.t z hz
    · rw [List.map_append, ep, ep']
theorem drop_cut {α : Type} (xs : List α) (f : α → V) (k : Nat) (hk : k ≤ xs.length) : cutV (xs.map f) (some (k : Int)) none = (xs.drop k).map f := by
  unfold cutV
  rw [HT.sIx_none, HT.sIx_nat, List.length_map, Nat.min_eq_left hk, List.map_drop]
  exact List.take_of_length_le (by rw [List.length_drop, List.length_map]; omega)
theorem take_cut {α : Type} (xs : List α) (f : α → V) (k : Nat) (hk : k ≤ xs.length) : cutV (xs.map f) none (some (k : Int)) = (xs.take k).map f := by
  unfold cutV
  rw [HT.sIx_none, HT.sIx_nat, List.length_map, Nat.min_eq_left hk, Nat.sub_zero, List.drop_zero, List.map_take]
end
/-- a pane cut at m across the axis ax -/
theorem sc_cut {p : Pn} {ax m : Int} (hx : ax = 0 ∨ ax = 1) (h : cm p ax < m ∧ m < cm p (ax + 2)) :
    ((sc p (ax + 2) m, sc p ax m) = cutX p m ∧ p.x0 < m ∧ m < p.x1) ∨ ((sc p (ax + 2) m, sc p ax m) = cutY p m ∧ p.y0 < m ∧ m < p.y1) := by
  rcases hx with rfl | rfl
  · exact .inl ⟨rfl, h⟩
  · exact .inr ⟨rfl, h⟩
theorem sc_low {p : Pn} {ax m : Int} (hx : ax = 0 ∨ ax = 1) (h : cm p ax < m ∧ m < cm p (ax + 2)) (l : p.x1 < 2 ^ 160 ∧ p.y1 < 2 ^ 160) :
    ((sc p (ax + 2) m).x1 < 2 ^ 160 ∧ (sc p (ax + 2) m).y1 < 2 ^ 160) ∧ ((sc p ax m).x1 < 2 ^ 160 ∧ (sc p ax m).y1 < 2 ^ 160) := by
  rcases hx with rfl | rfl
  · have h2 : m < p.x1 := h.2
    exact ⟨⟨Int.lt_trans h2 l.1, l.2⟩, l⟩
  · have h2 : m < p.y1 := h.2
    exact ⟨⟨l.1, Int.lt_trans h2 l.2⟩, l⟩
theorem sc_pos {p : Pn} {ax m : Int} (hx : ax = 0 ∨ ax = 1) (h : cm p ax < m ∧ m < cm p (ax + 2)) (l : p.x0 < p.x1 ∧ p.y0 < p.y1) :
    ((sc p (ax + 2) m).x0 < (sc p (ax + 2) m).x1 ∧ (sc p (ax + 2) m).y0 < (sc p (ax + 2) m).y1) ∧ ((sc p ax m).x0 < (sc p ax m).x1 ∧ (sc p ax m).y0 < (sc p ax m).y1) := by
  rcases hx with rfl | rfl
  · exact ⟨⟨h.1, l.2⟩, ⟨h.2, l.2⟩⟩
  · exact ⟨⟨l.1, h.1⟩, ⟨l.1, h.2⟩⟩
end GL
set_option Elab.async false
set_option linter.all false
set_option maxRecDepth 100000
set_option maxHeartbeats 8000000
/-! # panes cut at drawn places -/
namespace GL
open PySem PySem.Spec PyProof.Rows L2 Geo Rel
abbrev nSplit : List Str := ["jar", "panes", "turns", "found", "turn", "spot", "axis", "chosen", "place_here", "one", "two", "later"]
theorem scSplit : FnScope nSplit ["jar", "panes", "turns"] (defScope sSplit) := ⟨rfl, rfl, rfl, by decide +kernel, rfl, by decide +kernel, by decide +kernel⟩
/-- corners below 2 ^ 160 -/
def Low (ps : List Pn) : Prop := ∀ p ∈ ps, p.x1 < 2 ^ 160 ∧ p.y1 < 2 ^ 160
section
variable {P : Program} {w : World} {K : PySem.W.Frag} {mg : Str → Option Value} {base : Heap}
abbrev rTupOf (K : PySem.W.Frag) : List V → Hp → VK → Prop := fun xs H Q => ∃ p ys, xs = [.ref p] ∧ ((SqL K H p ys ∧ ∀ l, H l = none → Q (.ref l) (upd H l (.tup ys))) ∨ (SqT K H p ys ∧ Q (.ref p) H))
abbrev rListOf (K : PySem.W.Frag) : List V → Hp → VK → Prop := fun xs H Q => ∃ p ys, xs = [.ref p] ∧ (SqL K H p ys ∨ SqT K H p ys) ∧ ∀ l, H l = none → Q (.ref l) (upd H l (.lst ys))
theorem el_listT {K : PySem.W.Frag} {σ : L2.St} {H : Hp} {te : TE} {a : Addr} {xs : List V} (h : Evl.Ev te σ H (.ref a)) (ha : H a = some (.tup xs)) : Evl.EvL (tCB (rListOf K) (tCons te tNil)) σ H xs := fun H1 e Q q =>
  h H1 e _ fun H2 e2 => ⟨a, xs, rfl, .inr (SqT.of ((Evl.Ex.trans e e2) _ _ ha)), fun l nl => q l _ (Same.free e2 nl) (Evl.Ex.trans e2 (Evl.Ex.new nl)) upd_same⟩
theorem ez_one {K : PySem.W.Frag} {σ : L2.St} {H : Hp} {te : TE} {o : Addr} {p : Pn} (h : Evl.Ev te σ H (.ref o)) (ho : H o = some (.lst (PnV p))) : EvZ (tLst (tCons (tCB (rTupOf K) (tCons te tNil)) tNil)) σ H [p] := fun H1 e Q q =>
  h H1 e _ fun H2 e2 => ⟨o, PnV p, rfl, .inl ⟨SqL.of ((Evl.Ex.trans e e2) _ _ ho), fun t nt => ⟨(show 1 ≤ sizeLine by decide), fun u nu => q u [(t, p)] _ (Same.free (Evl.Ex.trans e2 (Evl.Ex.new nt)) nu) (Evl.Ex.trans (Evl.Ex.trans e2 (Evl.Ex.new nt)) (Evl.Ex.new nu)) ⟨upd_same, fun z hz => by
    obtain rfl := List.mem_singleton.mp hz
    exact Evl.Ex.new nu _ _ upd_same⟩ rfl⟩⟩⟩
theorem q_asgZ {σ : L2.St} {H : Hp} {te : TE} {qs : List Pn} {i : Nat} {D : Ends} {tz : TS} (h : EvZ te σ H qs) (k : ∀ p zs H1, H p = none → Evl.Ex H H1 → Lay H1 p zs → zs.map (·.2) = qs → tz D (σ.set i (some (.ref p))) H1) : tSeq (tAsg te (gName i)) tz D σ H :=
  h H (Evl.Ex.refl _) _ fun p zs H1 np e l eq => k p zs H1 np e l eq
structure Sw (H H' : Hp) (j : Addr) (m i : Nat) (fl : Addr) (zs zs' : List (Addr × Pn)) : Prop where
  but : But j H H'
  jar : Jar H' j m
  j0 : ∃ o, H j = some o
  fl0 : H fl = none
  lay : Lay H' fl zs'
  val : Valid (zs'.map (·.2))
  low : Low (zs'.map (·.2))
  l0 : 0 < zs.length
  l1 : zs.length ≤ zs'.length
  l2 : zs'.length ≤ zs.length + i
theorem Sw.same {H H' H2 : Hp} {j fl : Addr} {m i : Nat} {zs zs' : List (Addr × Pn)} (g : Sw H H' j m i fl zs zs') (e : Same H' H2) : Sw H H2 j m i fl zs zs' :=
  ⟨g.but.same e, g.jar.same e, g.j0, g.fl0, g.lay.same e, g.val, g.low, g.l0, g.l1, g.l2⟩
theorem Sw.dip {H H' H2 : Hp} {j fl : Addr} {m n i : Nat} {zs zs' : List (Addr × Pn)} (g : Sw H H' j m i fl zs zs') (b : But j H' H2) (hj : Jar H2 j n) : Sw H H2 j n i fl zs zs' :=
  ⟨g.but.trans b, hj, g.j0, g.fl0, g.lay.but g.jar b (fun z => by
    have h0 := g.l0
    have h1 := g.l1
    rw [z] at h1
    simp at h1
    rw [h1] at h0
    exact absurd h0 (by simp)), g.val, g.low, g.l0, g.l1, g.l2⟩
theorem Sw.mono {H H' : Hp} {j fl : Addr} {m n i i' : Nat} {zs zs' : List (Addr × Pn)} (g : Sw H H' j m i fl zs zs') (h : m ≤ n) (k : i ≤ i') : Sw H H' j n i' fl zs zs' :=
  ⟨g.but, g.jar.mono h, g.j0, g.fl0, g.lay, g.val, g.low, g.l0, g.l1, Nat.le_trans g.l2 (Nat.add_le_add_left k _)⟩
theorem cm_low {p : Pn} {ax : Int} (hx : ax = 0 ∨ ax = 1) (h : 0 ≤ p.x0 ∧ p.x0 < p.x1 ∧ 0 ≤ p.y0 ∧ p.y0 < p.y1) (l : p.x1 < 2 ^ 160 ∧ p.y1 < 2 ^ 160) : 0 ≤ cm p ax ∧ cm p (ax + 2) < 2 ^ 160 := by
  rcases hx with rfl | rfl
  · exact ⟨h.1, l.1⟩
  · exact ⟨h.2.2.1, l.2⟩
def spSplit : Sp := fun vs H Q _ => ∃ (j l : Addr) (zs : List (Addr × Pn)) (turns m : Nat), vs = [.ref j, .ref l, .int turns] ∧ Jar H j m ∧ Lay H l zs ∧ zs ≠ [] ∧ Valid (zs.map (·.2)) ∧ Low (zs.map (·.2)) ∧ zs.length + turns ≤ 60 ∧ m + 180 ≤ 1000000 ∧
  ∀ (H' : Hp) (l' : Addr) (zs' : List (Addr × Pn)), But j H H' → Jar H' j (m + 180) → H l' = none → Lay H' l' zs' → Valid (zs'.map (·.2)) → Low (zs'.map (·.2)) → zs.length ≤ zs'.length → zs'.length ≤ zs.length + turns → Q (.ref l') H'
theorem ok_split {f fD fC : Addr} {fd dD dC : FuncData} (F : Fun K "_law_split" "_law_split" sSplit f fd)
    (GD : FnOk P w K mg base CX0 1 fD dD ["jar", "many"] spDip) (KD : Kd K mg "_law_dip" fD dD ["jar", "many"])
    (GC : FnOk P w K mg base CX0 1 fC dC ["panes"] spCrossed) (KC : Kd K mg "_law_crossed" fC dC ["panes"]) (m : BI mg) (mr : mg "range" = none) :
    FnOk P w K mg base CX0 2 f fd ["jar", "panes", "turns"] spSplit := by
  refine F.ok scSplit (fun vs H Q E h => ?_) (fun cdv A outer s H vs Q E hr h => ?_)
  · obtain ⟨j, l, zs, turns, m, rfl, _⟩ := h
    rfl
  · obtain ⟨j, l, zs, turns, mj, rfl, hj, hL, hne, hv, hlow, ht1, hmj, q⟩ := h
    refine ⟨_, pss_cons (ps_set (i := 3) scSplit.nd rfl (Or.inl rfl) (pe_callTy call_list_of (by rfl) m.li (by decide +kernel) (pa_cons (pv 1) pa_nil)))
      (Evl.pss_cut (ps_for PassesOwn.never rfl (pi_range1 (by rfl) mr (pa_cons (pv 2) pa_nil)) (pg_name (i := 4) scSplit.nd rfl (Or.inl rfl))
        (pss_cons (ps_par (i := 5) (j := 6) rfl scSplit.nd rfl rfl (by decide) rfl rfl (pa_cons (pe_call GD hr (by rfl) KD.g KD.k KD.b .nil pass0 (by exact (pa_cons (pv 0) (pa_cons (pe_callB call_len_seq (by rfl) m.le PySem.boot_len (pa_cons (pv 3) pa_nil)) pa_nil))))
            (pa_cons (pe_call GD hr (by rfl) KD.g KD.k KD.b .nil pass0 (by exact (pa_cons (pv 0) (pa_cons pe_int pa_nil)))) pa_nil)) (by rfl))
        (Evl.pss_cut (ps_set (i := 7) scSplit.nd rfl (Or.inl rfl) (pe_ix ix_list (pv 3) (pv 5) (fun _ _ => rfl)))
        (pss_one (ps_if (pt_cmpR op_gt (pe_op op_sub (pe_ix ix_tup (pv 7) (pe_op op_add (pv 6) pe_int) (fun _ _ => rfl)) (pe_ix ix_tup (pv 7) (pv 6) (fun _ _ => rfl))) pe_int (nomark _))
          (Evl.pss_cut (ps_set (i := 8) scSplit.nd rfl (Or.inl rfl) (pe_op op_add (pe_op op_add (pe_ix ix_tup (pv 7) (pv 6) (fun _ _ => rfl)) pe_int)
            (pe_call GD hr (by rfl) KD.g KD.k KD.b .nil pass0 (by exact (pa_cons (pv 0) (pa_cons (pe_op op_sub (pe_op op_sub (pe_ix (ixTK rfl) (pv 7) (pe_op op_add (pv 6) pe_int) (fun _ _ => rfl)) (pe_ix (ixTK rfl) (pv 7) (pv 6) (fun _ _ => rfl))) pe_int) pa_nil))))))
          (pss_cons (ps_par (i := 9) (j := 10) rfl scSplit.nd rfl rfl (by decide) rfl rfl (pa_cons (pe_callTy call_list_of (by rfl) m.li (by decide +kernel) (pa_cons (pv 7) pa_nil)) (pa_cons (pe_callTy call_list_of (by rfl) m.li (by decide +kernel) (pa_cons (pv 7) pa_nil)) pa_nil)) (by rfl))
          (Evl.pss_cut (ps_asg (pe_tup (pa_cons (pv 8) (pa_cons (pv 8) pa_nil))) (pg_tup rfl (pgs_cons (pg_sub (pv 9) (pe_op op_add (pv 6) pe_int) set_list) (pgs_cons (pg_sub (pv 10) (pv 6) set_list) pgs_nil))))
          (pss_cons (ps_set (i := 11) scSplit.nd rfl (Or.inl rfl) (pe_op op_cat (pe_op op_cat (pe_op op_cat (pe_slice sl_list (pv 3) po_none (po_some (pv 5))) (pe_lst (pa_cons (pe_callTy call_tuple_of (by rfl) m.tu (by decide +kernel) (pa_cons (pv 9) pa_nil)) pa_nil)))
            (pe_slice sl_list (pv 3) (po_some (pe_op op_add (pv 5) pe_int)) po_none)) (pe_lst (pa_cons (pe_callTy call_tuple_of (by rfl) m.tu (by decide +kernel) (pa_cons (pv 10) pa_nil)) pa_nil))))
          (pss_one (ps_set (i := 3) scSplit.nd rfl (Or.inl rfl) (pe_ifExp (pt_val (pe_call GC hr (by rfl) KC.g KC.k KC.b .nil pass0 (by exact (pa_cons (pv 11) pa_nil)))) (pv 3) (pv 11)))))))) pss_nil)))))
      (pss_one (ps_ret (pv 3)))), ?_⟩
    have e200 : (2 : Int) ^ 200 = 1606938044258990275541962092341162602522202993782792835301376 := by decide +kernel
    have e160 : (2 : Int) ^ 160 = 1461501637330902918203684832716283019655932542976 := by decide +kernel
    have hl0 : 0 < zs.length := List.length_pos_iff.mpr hne
    refine ⟨.ref l, rfl, l, _, rfl, .inl (SqL.of hL.l), fun fl nfl => ⟨fun σ H' => ∃ (fl : Addr) (zs' : List (Addr × Pn)) (y4 y5 y6 y7 y8 y9 y10 y11 : Option V), σ = [some (.ref j), some (.ref l), some (.int turns), some (.ref fl), y4, y5, y6, y7, y8, y9, y10, y11] ∧ Sw H H' j (mj + 3 * turns) turns fl zs zs', ?_, ?_⟩⟩
    · refine Evl.s_forR1 (n := (turns : Int)) (Evl.ea_cons (Evl.ev_var rfl) Evl.ea_nil) ⟨by omega, by omega⟩ (fun i σ H' => ∃ (fl : Addr) (zs' : List (Addr × Pn)) (y4 y5 y6 y7 y8 y9 y10 y11 : Option V), σ = [some (.ref j), some (.ref l), some (.int turns), some (.ref fl), y4, y5, y6, y7, y8, y9, y10, y11] ∧ Sw H H' j (mj + 3 * i) i fl zs zs')
        (fun H1 e1 => ⟨fl, zs, none, none, none, none, none, none, none, none, rfl, Same.but (Evl.Ex.trans (Evl.Ex.new nfl) e1), hj.same (Evl.Ex.trans (Evl.Ex.new nfl) e1), hj.some, nfl, ⟨e1 _ _ upd_same, (hL.same (Evl.Ex.trans (Evl.Ex.new nfl) e1)).t⟩, hv, hlow, hl0, Nat.le_refl _, by omega⟩) ?_ ?_
      · rintro i σ' H1 hi ⟨fl, zs', y4, y5, y6, y7, y8, y9, y10, y11, rfl, g⟩
        have hl1 := g.l1
        have hl2 := g.l2
        refine ⟨.ref j, rfl, .ref fl, rfl, fl, _, rfl, .inl (SqL.of g.lay.l), j, _, _, rfl, by rw [List.length_map]; omega, by rw [List.length_map, e200]; omega, g.jar, by omega, fun H2 r r0 r1 b2 j2 => ⟨.ref j, rfl, j, 2, _, rfl, by decide, by rw [e200]; decide, j2, by omega, fun H3 ax a0 a1 b3 j3 => ⟨_, _, rfl, ?_⟩⟩⟩
        have g3 := (g.dip b2 j2).dip b3 j3
        have hx : ax = 0 ∨ ax = 1 := by omega
        rw [List.length_map] at r1
        obtain ⟨k, rfl⟩ : ∃ k : Nat, r = (k : Int) := ⟨r.toNat, by omega⟩
        have hk : k < zs'.length := by omega
        have hz : zs'[k] ∈ zs' := List.getElem_mem hk
        have ht3 : H3 zs'[k].1 = some (.tup (PnV zs'[k].2)) := g3.lay.t _ hz
        refine ⟨fun σ' H' => σ' = [some (.ref j), some (.ref l), some (.int turns), some (.ref fl), some (.int (i : Nat)), some (.int (k : Nat)), some (.int ax), some (.ref zs'[k].1), y8, y9, y10, y11] ∧ H' = H3, ?_, ?_⟩
        · exact ⟨.ref fl, rfl, .int (k : Nat), rfl, fl, _, (k : Int), .ref zs'[k].1, rfl, rfl, SqL.of g3.lay.l, atI_nat (by rw [List.getElem?_map, List.getElem?_eq_getElem hk]; rfl), rfl, rfl⟩
        rintro σ' H' ⟨rfl, rfl⟩
        have pk := g3.val.pos _ (List.mem_map_of_mem hz)
        have lk := g3.low _ (List.mem_map_of_mem hz)
        have ck := cm_low hx pk lk
        refine Evl.s_when (b := decide (1 < cm zs'[k].2 (ax + 2) - cm zs'[k].2 ax)) (Evl.et_test (Evl.ev_op (Evl.ev_op (ev_cm (Evl.ev_var rfl) (Evl.ev_op (Evl.ev_var rfl) Evl.ev_c Evl.rv_I0) ht3 (by omega)) (ev_cm (Evl.ev_var rfl) (Evl.ev_var rfl) ht3 (by omega)) Evl.rv_I0) Evl.ev_c Evl.rv_I0)) (fun z Ha ea => ?_) fun z Ha ea => ?_
        · have hlt := of_decide_eq_true z
          have ga := g3.same ea
          have hta := ga.lay.t _ hz
          refine ⟨fun σ' H' => ∃ m : Int, (cm zs'[k].2 ax < m ∧ m < cm zs'[k].2 (ax + 2)) ∧ σ' = [some (.ref j), some (.ref l), some (.int turns), some (.ref fl), some (.int (i : Nat)), some (.int (k : Nat)), some (.int ax), some (.ref zs'[k].1), some (.int m), y9, y10, y11] ∧ Sw H H' j (mj + 3 * i + 1 + 1 + 1) i fl zs zs', ?_, ?_⟩
          · refine ⟨.ref zs'[k].1, rfl, .int ax, rfl, zs'[k].1, PnV zs'[k].2, ax, .int (cm zs'[k].2 ax), rfl, rfl, SqT.of hta, cm_at _ (by omega), _, 1, rfl, rfl, .ref j, rfl, .ref zs'[k].1, rfl, .int ax, rfl, ax, 2, rfl, rfl, zs'[k].1, PnV zs'[k].2, ax + 2, .int (cm zs'[k].2 (ax + 2)), rfl, rfl, SqT.of hta, cm_at _ (by omega),
              .ref zs'[k].1, rfl, .int ax, rfl, zs'[k].1, PnV zs'[k].2, ax, .int (cm zs'[k].2 ax), rfl, rfl, SqT.of hta, cm_at _ (by omega), _, _, rfl, rfl, _, 1, rfl, rfl, j, _, _, rfl, (show (0 : Int) < _ - _ - 1 by omega), ?_, ga.jar, by omega, fun H5 r2 s0 s1 b5 j5 => ⟨_, r2, rfl, rfl, _, ⟨?_, ?_⟩, rfl, ga.dip b5 j5⟩⟩
            · rw [e200]
              rw [e160] at ck
              show _ - _ - (1 : Int) < _
              omega
            · show cm zs'[k].2 ax < cm zs'[k].2 ax + 1 + r2
              omega
            · show cm zs'[k].2 ax + 1 + r2 < _
              omega
          rintro σ' H5 ⟨mm, hm, rfl, g5⟩
          have ht5 := g5.lay.t _ hz
          refine q_parL (xs := PnV zs'[k].2) (ys := PnV zs'[k].2) (el_listT (K := K) (Evl.ev_var rfl) ht5) (el_listT (K := K) (Evl.ev_var rfl) ht5) fun p1 p2 H6 n1 n2 hne6 e6 h61 h62 => ?_
          refine ⟨fun σ' H' => σ' = [some (.ref j), some (.ref l), some (.int turns), some (.ref fl), some (.int (i : Nat)), some (.int (k : Nat)), some (.int ax), some (.ref zs'[k].1), some (.int mm), some (.ref p1), some (.ref p2), y11] ∧ Same H5 H' ∧ H' p1 = some (.lst (PnV (sc zs'[k].2 (ax + 2) mm))) ∧ H' p2 = some (.lst (PnV (sc zs'[k].2 ax mm))), ?_, ?_⟩
          · obtain ⟨k1, ek1, lk1, sk1⟩ := sc4 zs'[k].2 (i := ax + 2) (by omega) mm
            obtain ⟨k2, ek2, lk2, sk2⟩ := sc4 zs'[k].2 (i := ax) (by omega) mm
            refine ⟨.int mm, rfl, .int mm, rfl, (show 2 ≤ sizeLine by decide), fun T nT => ⟨T, [.int mm, .int mm], rfl, .inl (.inl upd_same), rfl, .int mm, [.int mm], rfl, .ref p1, rfl, .int ax, rfl, ax, 2, rfl, rfl, p1, PnV zs'[k].2, ax + 2, k1, rfl, rfl, Evl.Ex.new nT _ _ h61, by rw [ek1]; exact Evl.ixN_nat lk1, .int mm, [], rfl, .ref p2, rfl, .int ax, rfl, p2, PnV zs'[k].2, ax, k2, rfl, rfl, ?_, by rw [ek2]; exact Evl.ixN_nat lk2, rfl, rfl, ?_, ?_, ?_⟩⟩
            · rw [upd_ne (Ne.symm hne6)]
              exact Evl.Ex.new nT _ _ h62
            · intro a o h
              rw [upd_ne (ne_of_none h n2), upd_ne (ne_of_none h n1)]
              exact Evl.Ex.new nT _ _ (e6 _ _ h)
            · rw [upd_ne hne6, upd_same, sk1]
            · rw [upd_same, sk2]
          rintro σ' H7 ⟨rfl, s7, h71, h72⟩
          have g7 := g5.same s7
          have lz : zs'.length ≤ 60 := by omega
          have lt : ((zs'.take k).map fun z => z.2).length = k := by rw [List.length_map, List.length_take]; omega
          have ld : ((zs'.drop (k + 1)).map fun z => z.2).length = zs'.length - (k + 1) := by rw [List.length_map, List.length_drop]
          refine q_asgZ (ez_cat (ez_cat (ez_cat (ez_sl (K := K) (zs' := zs'.take k) (Evl.ev_var rfl) g7.lay Evl.eo_none (Evl.eo_some (Evl.ev_var rfl)) (take_cut zs' _ k (by omega)) fun z hz => List.mem_of_mem_take hz) (ez_one (K := K) (Evl.ev_var rfl) h71) (by rw [lt, List.length_singleton]; omega))
            (ez_sl (K := K) (zs' := zs'.drop (k + 1)) (Evl.ev_var rfl) g7.lay (Evl.eo_some (Evl.ev_is (Evl.ev_op (Evl.ev_var rfl) Evl.ev_c (Evl.rv_I0 (g := fun i j => V.int (i + j)))) rfl)) Evl.eo_none (drop_cut zs' _ (k + 1) (by omega)) fun z hz => List.mem_of_mem_drop hz) (by rw [List.length_append, lt, ld, List.length_singleton]; omega)) (ez_one (K := K) (Evl.ev_var rfl) h72)
            (by rw [List.length_append, List.length_append, lt, ld, List.length_singleton, List.length_singleton]; omega)) fun pl zs2 H8 n8 e8 l8 eq8 => ?_
          have ezs : zs'.map (·.2) = (zs'.take k).map (·.2) ++ zs'[k].2 :: (zs'.drop (k + 1)).map (·.2) := by
            rw [← List.map_cons, ← List.drop_eq_getElem_cons hk, ← List.map_append, List.take_append_drop]
          have eq9 : zs2.map (·.2) = (zs'.take k).map (·.2) ++ sc zs'[k].2 (ax + 2) mm :: (zs'.drop (k + 1)).map (·.2) ++ [sc zs'[k].2 ax mm] := by
            rw [eq8]
            simp
          have l2 : zs2.length = zs'.length + 1 := by
            have z := congrArg List.length eq9
            rw [List.length_map, List.length_append, List.length_append, List.length_cons, lt, ld, List.length_singleton] at z
            omega
          have mem9 : ∀ p ∈ zs2.map (·.2), p ∈ zs'.map (·.2) ∨ p = sc zs'[k].2 (ax + 2) mm ∨ p = sc zs'[k].2 ax mm := fun p hp => by
            rw [eq9] at hp
            rw [ezs]
            simp only [List.mem_append, List.mem_cons, List.mem_singleton, List.not_mem_nil, or_false] at hp ⊢
            rcases hp with (h | h | h) | h
            · exact .inl (.inl h)
            · exact .inr (.inl h)
            · exact .inl (.inr (.inr h))
            · exact .inr (.inr h)
          have sp := sc_pos hx hm ⟨pk.2.1, pk.2.2.2⟩
          have sl := sc_low hx hm lk
          refine ⟨.ref pl, rfl, pl, zs2, rfl, l8, by omega, fun z hz => ?_, fun H9 b s9 hb => ⟨b, rfl, ?_⟩⟩
          · rcases mem9 z.2 (List.mem_map_of_mem hz) with h | h | h
            · have := g7.val.pos _ h
              exact ⟨this.2.1, this.2.2.2⟩
            · rw [h]
              exact sp.1
            · rw [h]
              exact sp.2
          · cases b with
            | true =>
              rw [if_pos rfl]
              exact ⟨.ref fl, rfl, fl, zs', _, _, _, _, _, _, _, _, rfl, ((g7.same e8).same s9).mono (by omega) (by omega)⟩
            | false =>
              rw [if_neg (by decide)]
              have g9 := (g7.same e8).same s9
              refine ⟨.ref pl, rfl, pl, zs2, _, _, _, _, _, _, _, _, rfl, g9.but, g9.jar.mono (by omega), g9.j0, g7.but.none g7.jar.some n8, l8.same s9, ?_, fun p hp => ?_, g9.l0, by omega, by omega⟩
              · rw [eq9]
                have hval := g7.val
                rw [ezs] at hval
                refine cut_valid (two := (sc zs'[k].2 (ax + 2) mm, sc zs'[k].2 ax mm)) hval (sc_cut hx hm) ?_ fun x y z => ?_
                · rw [← ezs, List.length_map]
                  omega
                · rw [← eq9] at z
                  exact absurd (hb.mpr ⟨x, y, z⟩) (by decide)
              · rcases mem9 p hp with h | h | h
                · exact g7.low _ h
                · rw [h]
                  exact sl.1
                · rw [h]
                  exact sl.2
        · exact ⟨fl, zs', _, _, _, _, _, _, _, _, rfl, (g3.same ea).mono (by omega) (by omega)⟩
      · rintro σ' H1 ⟨fl, zs', y4, y5, y6, y7, y8, y9, y10, y11, rfl, g⟩
        rw [Int.toNat_natCast] at g
        exact ⟨fl, zs', y4, y5, y6, y7, y8, y9, y10, y11, rfl, g⟩
    · rintro σ' H1 ⟨fl, zs', y4, y5, y6, y7, y8, y9, y10, y11, rfl, g⟩
      exact ⟨.ref fl, rfl, q _ _ _ g.but (g.jar.mono (by omega)) g.fl0 g.lay g.val g.low g.l1 g.l2⟩
end
end GL
set_option Elab.async false
set_option linter.all false
set_option maxRecDepth 100000
set_option maxHeartbeats 8000000
/-! # one pane cut again and again; a drawn layout -/
namespace GL
open PySem PySem.Spec PyProof.Rows L2 Geo Rel
abbrev nCut : List Str := ["jar", "turns", "size"]
theorem scCut : FnScope nCut ["jar", "turns", "size"] (defScope sCut) := ⟨rfl, rfl, rfl, by decide +kernel, rfl, by decide +kernel, by decide +kernel⟩
theorem valid_one {a b : Int} (ha : 0 < a) (hb : 0 < b) : Valid [⟨0, 0, a, b⟩] where
  len := Nat.le_of_ble_eq_true rfl
  pos := fun p hp => by
    obtain rfl := List.mem_singleton.mp hp
    exact ⟨Int.le_refl _, ha, Int.le_refl _, hb⟩
  sep := List.pairwise_singleton _ _
  full := ⟨a, b, fun p hp => by
    obtain rfl := List.mem_singleton.mp hp
    exact ⟨Int.le_refl _, Int.le_refl _⟩, ⟨_, List.mem_singleton_self _, rfl⟩, ⟨_, List.mem_singleton_self _, rfl⟩, by simp [areas, Pn.area]⟩
  cnt := fun x y => by
    have := List.countP_le_length (p := Cor x y) (l := [⟨0, 0, a, b⟩])
    rw [List.length_singleton] at this
    omega
section
variable {P : Program} {w : World} {K : PySem.W.Frag} {mg : Str → Option Value} {base : Heap}
def spCut : Sp := fun vs H Q _ => ∃ (j : Addr) (turns m : Nat) (size : Int), vs = [.ref j, .int turns, .int size] ∧ Jar H j m ∧ turns ≤ 59 ∧ 1 ≤ size ∧ size ≤ 2 ^ 150 ∧ m + 200 ≤ 1000000 ∧
  ∀ (H' : Hp) (l' : Addr) (zs' : List (Addr × Pn)), But j H H' → Jar H' j (m + 200) → H l' = none → Lay H' l' zs' → Valid (zs'.map (·.2)) → Low (zs'.map (·.2)) → 1 ≤ zs'.length → zs'.length ≤ 1 + turns → Q (.ref l') H'
theorem ok_cut {f fD fS : Addr} {fd dD dS : FuncData} (F : Fun K "_law_cut" "_law_cut" sCut f fd)
    (GD : FnOk P w K mg base CX0 1 fD dD ["jar", "many"] spDip) (KD : Kd K mg "_law_dip" fD dD ["jar", "many"])
    (GS : FnOk P w K mg base CX0 2 fS dS ["jar", "panes", "turns"] spSplit) (KS : Kd K mg "_law_split" fS dS ["jar", "panes", "turns"]) :
    FnOk P w K mg base CX0 3 f fd ["jar", "turns", "size"] spCut := by
  refine F.ok scCut (fun vs H Q E h => ?_) (fun cdv A outer s H vs Q E hr h => ?_)
  · obtain ⟨j, turns, m, size, rfl, _⟩ := h
    rfl
  · obtain ⟨j, turns, m, size, rfl, hj, ht, hs1, hs2, hm, q⟩ := h
    have hr1 : Room 1 _ := hr.mono (by decide)
    have e200 : (2 : Int) ^ 200 = 1606938044258990275541962092341162602522202993782792835301376 := by decide +kernel
    have e160 : (2 : Int) ^ 160 = 1461501637330902918203684832716283019655932542976 := by decide +kernel
    have e150 : (2 : Int) ^ 150 = 1427247692705959881058285969449495136382746624 := by decide +kernel
    refine ⟨_, pss_one (ps_ret (pe_call GS hr (by rfl) KS.g KS.k KS.b .nil pass0 (by exact (pa_cons (pv 0) (pa_cons (pe_lst (pa_cons (pe_tup (pa_cons pe_int (pa_cons pe_int
      (pa_cons (pe_op op_add pe_int (pe_call GD hr1 (by rfl) KD.g KD.k KD.b .nil pass0 (by exact (pa_cons (pv 0) (pa_cons (pv 2) pa_nil)))))
      (pa_cons (pe_op op_add pe_int (pe_call GD hr1 (by rfl) KD.g KD.k KD.b .nil pass0 (by exact (pa_cons (pv 0) (pa_cons (pv 2) pa_nil))))) pa_nil))))) pa_nil)) (pa_cons (pv 1) pa_nil)))))), ?_⟩
    refine ⟨.ref j, rfl, .ref j, rfl, .int size, rfl, j, size, m, rfl, by omega, by rw [e200]; rw [e150] at hs2; omega, hj, by omega, fun H1 r1 a0 a1 b1 j1 => ⟨2, r1, rfl, rfl, .ref j, rfl, .int size, rfl, j, size, _, rfl, by omega, by rw [e200]; rw [e150] at hs2; omega, j1, by omega, fun H2 r2 c0 c1 b2 j2 => ⟨2, r2, rfl, rfl,
      (show 4 ≤ sizeLine by decide), fun T nT => ⟨(show 1 ≤ sizeLine by decide), fun L nL => ⟨.int turns, rfl, j, L, [(T, ⟨0, 0, 2 + r1, 2 + r2⟩)], turns, m + 1 + 1, rfl, ?_, ⟨upd_same, fun z hz => ?_⟩, by simp, valid_one (by omega) (by omega), fun p hp => ?_, ?_, by omega, fun H' l' zs' b3 j3 n3 l3 v3 w3 k1 k2 => ?_⟩⟩⟩⟩⟩
    · exact (j2.same (Evl.Ex.new nT)).same (Evl.Ex.new nL)
    · obtain rfl := List.mem_singleton.mp hz
      exact Evl.Ex.new nL _ _ upd_same
    · obtain rfl := List.mem_singleton.mp hp
      rw [e150] at hs2
      rw [e160]
      exact ⟨by show 2 + r1 < _; omega, by show 2 + r2 < _; omega⟩
    · show 1 + turns ≤ 60
      omega
    · have e : Same H2 (upd (upd H2 T (.tup [.int 0, .int 0, .int (2 + r1), .int (2 + r2)])) L (.lst [.ref T])) := Evl.Ex.trans (Evl.Ex.new nT) (Evl.Ex.new nL)
      have b12 : But j H H2 := b1.trans b2
      refine q H' l' zs' ((b12.same e).trans b3) (j3.mono (by omega)) (b12.none j2.some (e.free n3)) l3 v3 w3 k1 k2
abbrev nLayout : List Str := ["jar", "most", "size", "panes"]
theorem scLayout : FnScope nLayout ["jar", "most", "size"] (defScope sLayout) := ⟨rfl, rfl, rfl, by decide +kernel, rfl, by decide +kernel, by decide +kernel⟩
/-- _law_shaken, as ok_layout wants it -/
def spShaken : Sp := fun vs H Q _ => ∃ (j l : Addr) (zs : List (Addr × Pn)) (size : Int) (m : Nat) (A B : Int), vs = [.ref j, .ref l, .int size] ∧ Jar H j m ∧ Lay H l zs ∧ zs ≠ [] ∧ zs.length ≤ 60 ∧ Gr (zs.map (·.2)) A B ∧ 1 ≤ size ∧ size ≤ 2 ^ 150 ∧ m + 7200 ≤ 1000000 ∧
  ∀ (H' : Hp) (l' : Addr) (zs' : List (Addr × Pn)), But j H H' → Jar H' j (m + 7200) → H l' = none → Lay H' l' zs' → Valid (zs'.map (·.2)) → Low (zs'.map (·.2)) → zs'.length = zs.length → Q (.ref l') H'
def spLayout : Sp := fun vs H Q _ => ∃ (j : Addr) (most m : Nat) (size : Int), vs = [.ref j, .int most, .int size] ∧ Jar H j m ∧ 1 ≤ most ∧ most ≤ 60 ∧ 1 ≤ size ∧ size ≤ 2 ^ 150 ∧ m + 10000 ≤ 1000000 ∧
  ∀ (H' : Hp) (l' : Addr) (zs' : List (Addr × Pn)), But j H H' → Jar H' j (m + 10000) → H l' = none → Lay H' l' zs' → Valid (zs'.map (·.2)) → Low (zs'.map (·.2)) → 1 ≤ zs'.length → zs'.length ≤ most → Q (.ref l') H'
theorem ok_layout {f fD fG fH fS fN : Addr} {fd dD dG dH dS dN : FuncData} (F : Fun K "_law_layout" "_law_layout" sLayout f fd)
    (GD : FnOk P w K mg base CX0 1 fD dD ["jar", "many"] spDip) (KD : Kd K mg "_law_dip" fD dD ["jar", "many"])
    (GG : FnOk P w K mg base CX0 2 fG dG ["jar", "many"] spGrown) (KG : Kd K mg "_law_grown" fG dG ["jar", "many"])
    (GH : FnOk P w K mg base CX0 2 fH dH ["jar", "panes", "size"] spShaken) (KH : Kd K mg "_law_shaken" fH dH ["jar", "panes", "size"])
    (GS : FnOk P w K mg base CX0 2 fS dS ["jar", "panes", "turns"] spSplit) (KS : Kd K mg "_law_split" fS dS ["jar", "panes", "turns"])
    (GN : FnOk P w K mg base CX0 2 fN dN ["jar", "panes"] spNamed) (KN : Kd K mg "_law_named" fN dN ["jar", "panes"]) (b : BI mg) (mi : mg "min" = none) :
    FnOk P w K mg base CX0 3 f fd ["jar", "most", "size"] spLayout := by
  refine F.ok scLayout (fun vs H Q E h => ?_) (fun cdv A outer s H vs Q E hr h => ?_)
  · obtain ⟨j, most, m, size, rfl, _⟩ := h
    rfl
  · obtain ⟨j, most, m, size, rfl, hj, hm1, hm2, hs1, hs2, hm, q⟩ := h
    have hr1 : Room 1 _ := hr.mono (by decide)
    have e200 : (2 : Int) ^ 200 = 1606938044258990275541962092341162602522202993782792835301376 := by decide +kernel
    refine ⟨_, Evl.pss_cut (ps_set (i := 3) scLayout.nd rfl (Or.inl rfl) (pe_call GH hr (by rfl) KH.g KH.k KH.b .nil pass0 (by exact (pa_cons (pv 0) (pa_cons (pe_ix ix_tup (pe_call GG hr (by rfl) KG.g KG.k KG.b .nil pass0 (by exact (pa_cons (pv 0) (pa_cons (pe_op op_add pe_int (pe_call GD hr1 (by rfl) KD.g KD.k KD.b .nil pass0 (by exact (pa_cons (pv 0) (pa_cons (pv 1) pa_nil))))) pa_nil)))) pe_int (fun _ _ => rfl)) (pa_cons (pv 2) pa_nil))))))
      (Evl.pss_cut (ps_if (pt_cmpR op_eq (pe_call GD hr1 (by rfl) KD.g KD.k KD.b .nil pass0 (by exact (pa_cons (pv 0) (pa_cons pe_int pa_nil)))) pe_int (nomark _))
        (pss_one (ps_set (i := 3) scLayout.nd rfl (Or.inl rfl) (pe_call GS hr (by rfl) KS.g KS.k KS.b .nil pass0 (by exact (pa_cons (pv 0) (pa_cons (pv 3) (pa_cons (pe_callB (call_min2 rfl) (by rfl) mi (by decide +kernel) (pa_cons (pe_op op_sub (pv 1) (pe_callB call_len_seq (by rfl) b.le PySem.boot_len (pa_cons (pv 3) pa_nil))) (pa_cons pe_int pa_nil))) pa_nil))))))) pss_nil)
      (pss_one (ps_ret (pe_ix ix_tup (pe_call GN hr (by rfl) KN.g KN.k KN.b .nil pass0 (by exact (pa_cons (pv 0) (pa_cons (pv 3) pa_nil)))) pe_int (fun _ _ => rfl))))), ?_⟩
    refine ⟨fun σ' H' => ∃ (lp : Addr) (zs : List (Addr × Pn)), σ' = [some (.ref j), some (.int most), some (.int size), some (.ref lp)] ∧ But j H H' ∧ Jar H' j (m + 8000) ∧ H lp = none ∧ Lay H' lp zs ∧ Valid (zs.map (·.2)) ∧ Low (zs.map (·.2)) ∧ 1 ≤ zs.length ∧ zs.length ≤ most, ?_, ?_⟩
    · refine ⟨.ref j, rfl, .ref j, rfl, .ref j, rfl, .int most, rfl, j, most, m, rfl, by omega, by rw [e200]; omega, hj, by omega, fun H1 r r0 r1 b1 j1 => ⟨1, r, rfl, rfl, j, _, _, rfl, (show (1 : Int) ≤ 1 + r by omega), (show 1 + r ≤ 60 by omega), j1, by omega, fun H2 t lg le zs es A B b2 j2 t0 l0 ht hle hlay hlen hgr => ?_⟩⟩
      have hlen2 : (zs.length : Int) = 1 + r := hlen
      have b12 := b1.trans b2
      refine ⟨t, [.ref lg, .ref le], 0, .ref lg, rfl, rfl, SqT.of ht, rfl, .int size, rfl, j, lg, zs, size, _, A, B, rfl, j2, hlay, fun z => ?_, by omega, hgr, hs1, hs2, by omega, fun H3 l3 zs3 b3 j3 n3 hl3 v3 w3 k3 => ?_⟩
      · rw [z] at hlen2
        simp at hlen2
        omega
      · exact ⟨l3, zs3, rfl, b12.trans b3, j3.mono (by omega), b12.none j2.some n3, hl3, v3, w3, by omega, by omega⟩
    · rintro σ' H1 ⟨lp, zs, rfl, b1, j1, n1, hl, v, w, k1, k2⟩
      have hne : zs ≠ [] := fun z => by
        rw [z] at k1
        simp at k1
      refine ⟨fun σ' H' => ∃ (lp : Addr) (zs : List (Addr × Pn)), σ' = [some (.ref j), some (.int most), some (.int size), some (.ref lp)] ∧ But j H H' ∧ Jar H' j (m + 9000) ∧ H lp = none ∧ Lay H' lp zs ∧ Valid (zs.map (·.2)) ∧ Low (zs.map (·.2)) ∧ 1 ≤ zs.length ∧ zs.length ≤ most, ?_, ?_⟩
      · refine ⟨.ref j, rfl, j, 2, _, rfl, by decide, by rw [e200]; decide, j1, by omega, fun H2 r r0 r1 b2 j2 => ⟨rfl, _, rfl, ite2 (fun e => ?_) fun e => ?_⟩⟩
        · have hl2 := hl.but j1 b2 hne
          have b12 := b1.trans b2
          obtain ⟨n, hn, hn2⟩ : ∃ n : Nat, (if (6 : Int) < (most : Int) - ((zs.map fun z => V.ref z.1).length : Nat) then (6 : Int) else (most : Int) - ((zs.map fun z => V.ref z.1).length : Nat)) = n ∧ zs.length + n ≤ most := by
            rw [List.length_map]
            split
            · exact ⟨6, rfl, by omega⟩
            · exact ⟨most - zs.length, by omega, by omega⟩
          refine ⟨.ref j, rfl, .ref lp, rfl, .int most, rfl, .ref lp, rfl, lp, _, rfl, .inl (SqL.of hl2.l), _, _, rfl, rfl, _, 6, rfl, j, lp, zs, n, _, ?_, j2, hl2, hne, v, w, by omega, by omega, fun H3 l3 zs3 b3 j3 n3 hl3 v3 w3 k3 k4 => ⟨l3, zs3, rfl, b12.trans b3, j3.mono (by omega), b12.none j2.some n3, hl3, v3, w3, by omega, by omega⟩⟩
          rw [← hn]
          rfl
        · exact ⟨lp, zs, rfl, b1.trans b2, j2.mono (by omega), n1, hl.but j1 b2 hne, v, w, k1, k2⟩
      · rintro σ' H2 ⟨lp, zs, rfl, b2, j2, n2, hl, v, w, k1, k2⟩
        have hne : zs ≠ [] := fun z => by
          rw [z] at k1
          simp at k1
        refine ⟨.ref j, rfl, .ref lp, rfl, j, lp, zs, _, rfl, j2, hl, hne, by omega, by omega, fun H3 t l3 lf ns b3 j3 t0 n3 ht hf hp hl3 => ⟨t, [.ref l3, .ref lf], 0, .ref l3, rfl, rfl, SqT.of ht, rfl, ?_⟩⟩
        have pp := picked_perm (zs := zs) hp
        have ppm := pp.map (fun z : Addr × Pn => z.2)
        refine q H3 l3 _ (b2.trans b3) (j3.mono (by omega)) (b2.none j2.some n3) hl3 (v.perm ppm.symm) (fun p hp => w p (ppm.mem_iff.mp hp)) ?_ ?_
        · rw [pp.length_eq]
          exact k1
        · rw [pp.length_eq]
          exact k2
end
end GL
set_option Elab.async false
set_option linter.all false
set_option maxRecDepth 100000
set_option maxHeartbeats 3200000
/-! # set(a list of whole numbers), told so that sorted(..) can take it -/
namespace SIn
open PySem PySem.Spec PyProof.Rows L2
section
variable {P : Program} {w : World} {A : Around} {E : Value → Shared → Prop}
/-- the object of a set at its birth -/
def ob0 (w : World) : Obj := { cls := .type "set", dict := none, data := .set #[] 0 (.fresh 0 0 (!w.params.followText "set-order")) }
/-- what stands behind set.__init__ -/
def Born (w : World) (s : Shared) (S : Addr) (ns : List Int) (s' : Shared) : Prop := ∃ h' tk c, s' = { s with heap := h', toks := tk } ∧ SetR w h' S (fun j => decide (j ∈ ns)) c ∧ c ≤ ns.length ∧ ∀ b o, b ≠ S → s.heap.get? b = some o → h'.get? b = some o
theorem init_list {s : Shared} {S l : Addr} {items : Array Value} {ns : List Int} (hh : A.handled = none) (hS : s.heap.get? S = some (ob0 w)) (hl : s.heap.IsList l items) (hne0 : S ≠ l) (hi : IntsAre items.toList ns) (hb : ns.length + 1 < scanBound) :
    codeAny (model P w) A (.call (.builtin "set.__init__") ⟨[.ref S, .ref l], []⟩) (wants (fun r s' => r = .none ∧ Born w s S ns s') E) s := by
  have hT : s.TypeIs (.ref S) "set" := ⟨_, hS, rfl⟩
  have hsz : items.size = ns.length := by
    have q := IntsAre.length hi
    rw [Array.length_toList] at q
    exact q
  refine codeAny_call_builtin F.called_set.init.plain F.entry_set_init (check_set_init_1 hT ?_)
  obtain ⟨ol, hol, hcl, nl, hdl⟩ := id hl
  obtain ⟨ocls, odict, odata, oslots⟩ := ol
  simp only at hcl hdl
  subst hcl
  subst hdl
  have hsls := F.sub_list_set
  have hslf := F.sub_list_frozenset
  have hne : (Value.type "list" == Value.type "dict") = false := by decide
  unfold Builtin.«set.__init__» noKeywords Builtin.Frozenset.updateFrom
  unfold ob0 at hS
  generalize hPI : pyIter = PI
  wp_walk
  subst hPI
  have lt : ∀ {a : Addr} {o : Obj}, s.heap.get? a = some o → a ≠ s.heap.objs.size := fun h => Nat.ne_of_lt (Heap.lt_size h)
  refine wpAny_pyIter_list hl ?_
  refine wpAny_bind (wpAny_runValue ?_)
  have fp : S ∉ [s.heap.objs.size, l] := fun z => by
    rcases List.mem_cons.mp z with e | z
    · exact lt hS e
    · exact hne0 (List.mem_singleton.mp z)
  have hval : ∀ (i : Nat) (v : Value), items[i]? = some v → ∃ k t, ns[i]? = some k ∧ v = .int k t := fun i v hv => by
    have hin : i < ns.length := by rw [← hsz]; exact (Array.getElem?_eq_some_iff.mp hv).1
    obtain ⟨t, e⟩ := IntsAre.int_at hi i v (by rw [Array.getElem?_toList]; exact hv)
    refine ⟨ns[i], t, List.getElem?_eq_getElem hin, ?_⟩
    rw [e, List.getD_eq_getElem?_getD, List.getElem?_eq_getElem hin]
    rfl
  refine set_update_ints (ns := ns) ((Walks.list (by simp [hh]) _ l (lt hol) items).toS) S fp hsz hb hval items.size 0 _ (by omega) (Nat.zero_le _) ⟨⟨_, Heap.get?_push_size _ rfl, rfl, rfl⟩, hl.push _⟩
    ⟨0, Nat.le_refl 0, setR_new_at (Heap.get?_push_of_some _ hS)⟩ fun s' c hm hc hR => ?_
  obtain ⟨h', g2, d2, t2, o2⟩ := s'
  have eg : g2 = s.gens := hm.gens
  have ed : d2 = s.drawn := hm.drawn
  have eo : o2 = s.os := hm.os
  subst eg ed eo
  show wpAny _ _ _ _ _ _
  refine wpAny_pure (wpAny_pure ⟨rfl, h', t2, c, rfl, hR, by rw [← hsz]; exact hc, fun b o hbS e => ?_⟩)
  refine hm.heap b o (fun z => ?_) (Heap.get?_push_of_some _ e)
  rcases List.mem_cons.mp z with z | z
  · exact hbS z
  · exact lt e (List.mem_singleton.mp z)
theorem call_set_ints {s : Shared} {l : Addr} {items : Array Value} {ns : List Int} {Q : Value → Shared → Prop} (hh : A.handled = none) (hl : s.heap.IsList l items) (hi : IntsAre items.toList ns) (hb : ns.length + 1 < scanBound)
    (h : ∀ (h' : Heap) (tk c : Nat), SetR w h' s.heap.objs.size (fun j => decide (j ∈ ns)) c → c ≤ ns.length → (∀ b o, s.heap.get? b = some o → h'.get? b = some o) → Q (.ref s.heap.objs.size) { s with heap := h', toks := tk }) :
    wpAny (model P w) A (call (.type "set") [.ref l]) Q E s := by
  have h1 := F.called_set.notType
  have h2 := F.called_set.canCreate
  have hct := F.typeCall_set_1 (.ref l)
  obtain ⟨c0, tl, hmro⟩ := F.called_set.mro
  have hmade := F.called_set.made
  have hsub := F.called_set.sub
  refine wpAny_call (codeAny_of_tree ?_)
  show wpAny _ _ (callAny (.type "set") _) _ _ _
  refine wpAny_pure ⟨Code.quiet_builtin _ (by decide +kernel), codeAny_builtin F.entry_type_call ?_⟩
  rw [Around.under_plain (weight_type_call_type "set" [.ref l] []) rfl]
  repeat (any_goals (first | assumption | wp_step))
  refine codeAny_mono (code_set_led1 (.ref l) (E := E) (Q₁ := fun obj s₁ => obj = .ref s.heap.objs.size ∧ s₁ = { s with heap := s.heap.push (ob0 w) }) ⟨rfl, rfl⟩) fun r s₁ hr => ?_
  cases r with
  | error e => exact hr
  | ok fl =>
    cases fl with
    | ret obj =>
      obtain ⟨rfl, rfl⟩ := hr
      have hS : (s.heap.push (ob0 w)).get? s.heap.objs.size = some (ob0 w) := Heap.get?_push_size _ rfl
      have hT : Shared.TypeIs { s with heap := s.heap.push (ob0 w) } (.ref s.heap.objs.size) "set" := ⟨_, hS, rfl⟩
      have hli := F.called_set.init.lookup
      have hbi := F.called_set.init.bind (.ref s.heap.objs.size)
      have hne : s.heap.objs.size ≠ l := fun z => by
        obtain ⟨o, ho, _⟩ := hl
        exact Nat.ne_of_lt (Heap.lt_size ho) z.symm
      repeat (any_goals (first | assumption | wp_step))
      refine codeAny_mono (init_list (E := E) (s := { s with heap := s.heap.push (ob0 w) }) (by simp [hh]) hS (hl.push _) hne hi hb) fun r2 s2 hr2 => ?_
      cases r2 with
      | error e => exact hr2
      | ok f2 =>
        cases f2 with
        | ret r =>
          obtain ⟨rfl, h', tk, c, rfl, hR, hc, hk⟩ := hr2
          repeat (any_goals (first | assumption | wp_step))
          exact h _ _ c hR hc fun b o e => hk b o (Nat.ne_of_lt (Heap.lt_size e)) (Heap.get?_push_of_some _ e)
        | _ => exact hr2.elim
    | _ => exact hr.elim
end
section
variable {X : Cx}
/-- set(xs), xs a list of whole numbers -/
def rSetI (K : PySem.W.Frag) (w : World) : List V → Hp → VK → Prop := fun xs H Q => ∃ (l : Addr) (ns : List Int), xs = [V.ref l] ∧ SqL K H l (ns.map V.int) ∧ ns.length + 1 < scanBound ∧ ∀ p c, H p = none → c ≤ ns.length → Q (.ref p) (upd H p (SetO w p (fun j => decide (j ∈ ns)) c))
theorem cr_setI (hc : X.calm = true) : CallR X (.type "set") (rSetI X.K X.w) := by
  intro pins s σ H xs us Q I rx h
  obtain ⟨l, ns, rfl, hq, hb, q⟩ := h
  rw [Vals.ref1 rx]
  obtain ⟨its, r, pl, hz⟩ := I.list hq
  refine call_set_ints (I.ok.hd hc) pl.isList (ns := ns) (by simpa using r.ints) hb fun h' tk c hR hc' hk => ?_
  exact ⟨.ref s.heap.objs.size, _, I.laid (t' := tk) hk (Nat.le_refl _) (setO_new hR), rfl, q _ c (I.hok.fresh (Nat.le_refl _)) hc'⟩
end
end SIn
set_option Elab.async false
set_option linter.all false
set_option maxRecDepth 100000
/-! # a comprehension that makes a new list for each item: they are apart -/
namespace Rel
open PySem PySem.Spec PyProof.Rows L2 Evl
section
variable {K : PySem.W.Frag} {σ : L2.St} {H : Hp} {tl te : TE}
theorem el_cells {α : Type} {zs : List α} {val : α → V} {c : α → List V} {a : Addr} {j : Nat} {vs : List Nat} (h : Ev tl σ H (.ref a)) (hx : SqL K H a (zs.map val)) (hz : zs.length ≤ 40000) (hw : ∀ x, wipe ((wipe σ vs).set j (some x)) vs = wipe σ vs)
    (he : ∀ z ∈ zs, ∀ H1, Ex H H1 → EvL te ((wipe σ vs).set j (some (val z))) H1 (c z)) :
    ∀ H1, Ex H H1 → ∀ Q : VK, (∀ (p : Addr) (as : List Addr) (H2 : Hp), H1 p = none → Ex H1 H2 → H2 p = some (.lst (as.map V.ref)) → as.Nodup → (∀ b ∈ as, H1 b = none ∧ b ≠ p) → as.length = zs.length → (∀ (i : Nat) (b : Addr) (z : α), as[i]? = some b → zs[i]? = some z → H2 b = some (.lst (c z))) → Q (.ref p) H2) →
      tLc (iList K tl) (gName j) tYes te vs σ H1 Q := fun H0 e Q q => by
  refine h H0 e _ fun H1 e1 => ⟨a, rfl, ⟨_, ex_l (e.trans e1) hx⟩, fun D nD => ?_⟩
  have nD0 : H0 D = none := fresh_back e1 nD
  refine lc_it (walk_list (K := K) (a := a) (xs := zs.map val)) (fun i H2 => Ex H1 H2 ∧ ∃ as : List Addr, H2 D = some (.lst (as.map V.ref)) ∧ as.Nodup ∧ (∀ b ∈ as, H1 b = none ∧ b ≠ D) ∧ as.length = i ∧ ∀ (k : Nat) (b : Addr) (z : α), as[k]? = some b → zs[k]? = some z → H2 b = some (.lst (c z)))
    ⟨Ex.new nD, [], upd_same, .nil, by simp, rfl, by simp⟩ (fun i H2 _ p => ex_l ((e.trans e1).trans p.1) hx) ?_ ?_
  · rintro i x H2 H3 hi ⟨e2, as, hD, hnd, hf, hl, hc⟩ ⟨rfl, hy⟩
    rw [List.length_map] at hi
    have hm := List.getElem_mem hi
    rw [List.getElem?_map, List.getElem?_eq_getElem hi] at hy
    have ex : x = val zs[i] := (Option.some.inj hy).symm
    subst ex
    refine ⟨hw _, ?_⟩
    show te _ H3 _
    refine he _ hm H3 ((e.trans e1).trans e2) H3 (Ex.refl _) _ fun b H4 nb e4 gb => ?_
    have D4 : H4 D = some (.lst (as.map V.ref)) := e4 _ _ hD
    have bD : b ≠ D := fun z => by
      rw [z, hD] at nb
      cases nb
    have nb1 : H1 b = none := fresh_back e2 nb
    have bas : b ∉ as := fun hb => by
      obtain ⟨k, hk, ek⟩ := List.getElem_of_mem hb
      have g := hc k b (zs[k]'(by omega)) (by rw [List.getElem?_eq_getElem hk, ek]) (List.getElem?_eq_getElem (by omega))
      rw [nb] at g
      cases g
    refine ⟨as.map V.ref, D4, ?_, (e2.trans e4).mut nD, as ++ [b], by rw [upd_same, List.map_append]; rfl, ?_, ?_, by rw [List.length_append, hl]; rfl, ?_⟩
    · rw [List.length_map]
      exact Nat.lt_of_lt_of_le (show as.length < 100000 by omega) (by decide)
    · refine List.nodup_append.mpr ⟨hnd, List.nodup_cons.mpr ⟨List.not_mem_nil, .nil⟩, fun u hu v hv euv => ?_⟩
      obtain rfl := List.mem_singleton.mp hv
      exact bas (euv ▸ hu)
    · intro u hu
      rcases List.mem_append.mp hu with hu | hu
      · exact hf u hu
      · rw [List.mem_singleton.mp hu]
        exact ⟨nb1, bD⟩
    · intro k u z hk hz2
      rcases Nat.lt_or_ge k as.length with hlt | hge
      · rw [List.getElem?_append_left hlt] at hk
        rw [upd_ne (hf u (List.mem_of_getElem? hk)).2]
        exact e4 _ _ (hc k u z hk hz2)
      · rw [List.getElem?_append_right hge] at hk
        have ek : k = i := by
          have := (List.getElem?_eq_some_iff.mp hk).1
          rw [List.length_singleton] at this
          omega
        subst ek
        rw [hl, Nat.sub_self] at hk
        have eb : b = u := Option.some.inj hk
        have ez : zs[k] = z := Option.some.inj ((List.getElem?_eq_getElem hi).symm.trans hz2)
        subst eb ez
        rw [upd_ne bD]
        exact gb
  · rintro H2 ⟨e2, as, hD, hnd, hf, hl, hc⟩
    rw [List.length_map] at hl
    exact q D as H2 nD0 (e1.trans e2) hD hnd (fun b hb => ⟨fresh_back e1 (hf b hb).1, (hf b hb).2⟩) hl hc
end
end Rel
set_option Elab.async false
set_option linter.all false
set_option maxRecDepth 100000
set_option maxHeartbeats 8000000
/-! # the greatest of some places, each with a number drawn -/
namespace GL
open PySem PySem.Spec PyProof.Rows L2 Geo Rel
section
variable {K : PySem.W.Frag} {σ : L2.St} {H : Hp}
theorem q_draws {j pb : Addr} {ns : List Int} {m : Nat} {size : Int} (h0 : ∀ x, ((wipe σ [12]).set 12 (some x))[0]? = some (some (.ref j))) (h2 : ∀ x, ((wipe σ [12]).set 12 (some x))[2]? = some (some (.int size))) (h9 : σ[9]? = some (some (.ref pb))) (h12 : ∀ x : V, ((wipe σ [12]).set 12 (some x))[12]? = some (some x)) (hw : ∀ x, wipe ((wipe σ [12]).set 12 (some x)) [12] = wipe σ [12])
    (hj : Jar H j m) (hb : H pb = some (.lst (ns.map V.int))) (hne : pb ≠ j) (hn : 0 < ns.length) (hl : ns.length ≤ 1000) (hs1 : 1 ≤ size) (hs2 : size < 2 ^ 200) (hm : m + ns.length ≤ 1000000) {Q : VK}
    (k : ∀ t H', But j H H' → Jar H' j (m + ns.length) → (∀ n ∈ ns, n < t) → (∃ n ∈ ns, t ≤ n + size) → Q (.int t) H') :
    tCB (rMax K) (tCons (tLc (iList K (tVar 9)) (gName 12) tYes (tOp (rI0 fun i j => .int (i + j)) (tOp (rI0 fun i j => .int (i + j)) (tVar 12) (tC (.int 1))) (tCall spDip [] E0 (tCons (tVar 0) (tCons (tVar 2) tNil)))) [12]) tNil) σ H Q := by
  refine ⟨.ref pb, h9, pb, rfl, ⟨_, SqL.of hb⟩, fun D nD => ?_⟩
  have jD : j ≠ D := fun z => by
    obtain ⟨o, ho⟩ := hj.some
    rw [← z, ho] at nD
    cases nD
  have bD : pb ≠ D := fun z => by
    rw [← z, hb] at nD
    cases nD
  refine lc_it (walk_list (K := K) (a := pb) (xs := ns.map V.int)) (fun i H1 => But j H H1 ∧ Jar H1 j (m + i) ∧ ∃ rs : List Int, H1 D = some (.lst (rs.map V.int)) ∧ rs.length = i ∧ ∀ (q : Nat) (r n : Int), rs[q]? = some r → ns[q]? = some n → n < r ∧ r ≤ n + size)
    ⟨Same.but (Evl.Ex.new nD), hj.same (Evl.Ex.new nD), [], upd_same, rfl, by simp⟩ (fun i H1 _ p => SqL.of (p.1 _ _ hne hb)) ?_ ?_
  · rintro i x H1 H2 hi ⟨b1, j1, rs, hD, hr, hc⟩ ⟨rfl, hy⟩
    rw [List.length_map] at hi
    rw [List.getElem?_map, List.getElem?_eq_getElem hi] at hy
    have ex : x = .int ns[i] := (Option.some.inj hy).symm
    subst ex
    refine ⟨hw _, ?_⟩
    refine ⟨.int ns[i], h12 _, ns[i], 1, rfl, rfl, .ref j, h0 _, .int size, h2 _, j, size, _, rfl, by omega, hs2, j1, by omega, fun H3 r r0 r1 b3 j3 => ⟨_, r, rfl, rfl, ?_⟩⟩
    have D3 : H3 D = some (.lst (rs.map V.int)) := b3 _ _ (Ne.symm jD) hD
    refine ⟨rs.map V.int, D3, ?_, ?_, ?_, rs ++ [ns[i] + 1 + r], by rw [upd_same, List.map_append]; rfl, by rw [List.length_append, hr]; rfl, ?_⟩
    · rw [List.length_map]
      exact small1000 (by omega)
    · intro a o n h
      rw [upd_ne (ne_of_none h nD)]
      exact b3 _ _ n (b1 _ _ n h)
    · obtain ⟨a, b, c, e, z⟩ := j3
      exact ⟨a, b, c, by rw [upd_ne jD]; exact e, z⟩
    · intro q u n hq hn2
      rcases Nat.lt_or_ge q rs.length with hlt | hge
      · rw [List.getElem?_append_left hlt] at hq
        exact hc q u n hq hn2
      · rw [List.getElem?_append_right hge] at hq
        have eq : q = i := by
          have := (List.getElem?_eq_some_iff.mp hq).1
          rw [List.length_singleton] at this
          omega
        subst eq
        rw [hr, Nat.sub_self] at hq
        have e1 : ns[q] + 1 + r = u := Option.some.inj hq
        have e2 : ns[q] = n := Option.some.inj ((List.getElem?_eq_getElem hi).symm.trans hn2)
        omega
  · rintro H1 ⟨b1, j1, rs, hD, hr, hc⟩
    rw [List.length_map] at hr j1
    refine ⟨D, rs, rfl, SqL.of hD, by omega, fun t ht hle => k t H1 b1 j1 (fun n hn3 => ?_) ?_⟩
    · obtain ⟨q, hq, e⟩ := List.getElem_of_mem hn3
      have z := hc q (rs[q]'(by omega)) n (List.getElem?_eq_getElem (by omega)) (by rw [List.getElem?_eq_getElem hq, e])
      have y := hle _ (List.getElem_mem (show q < rs.length by omega))
      omega
    · obtain ⟨q, hq, e⟩ := List.getElem_of_mem ht
      have z := hc q t (ns[q]'(by omega)) (by rw [List.getElem?_eq_getElem hq, e]) (List.getElem?_eq_getElem (by omega))
      exact ⟨_, List.getElem_mem (show q < ns.length by omega), z.2⟩
end
end GL
set_option linter.all false
namespace Geo
/-! # places moved one after another -/
/-- the places dom have their new ones, X; f, g: where a pane begins, and ends; all new ones at most b -/
structure Moved (ps : List Pn) (f g : Pn → Int) (dom : List Int) (X : Int → Int) (b : Int) : Prop where
  zero : X 0 = 0
  z0 : 0 ∈ dom
  inj : ∀ a ∈ dom, ∀ c ∈ dom, X a = X c → a = c
  nn : ∀ a ∈ dom, 0 ≤ X a
  bd : ∀ a ∈ dom, X a ≤ b
  up : ∀ p ∈ ps, g p ∈ dom → X (f p) < X (g p)
theorem moved_nil {ps : List Pn} {f g : Pn → Int} (h : ∀ p ∈ ps, 0 < g p) (X : Int → Int) (h0 : X 0 = 0) : Moved ps f g [0] X 0 where
  zero := h0
  z0 := List.mem_singleton_self _
  inj := fun a ha c hc _ => by rw [List.mem_singleton.mp ha, List.mem_singleton.mp hc]
  nn := fun a ha => by rw [List.mem_singleton.mp ha, h0]; exact Int.le_refl _
  bd := fun a ha => by rw [List.mem_singleton.mp ha, h0]; exact Int.le_refl _
  up := fun p hp hg => by
    have := h p hp
    rw [List.mem_singleton.mp hg] at this
    exact absurd this (by decide)
def moveTo (X : Int → Int) (v t : Int) : Int → Int := fun i => if i = v then t else X i
theorem moveTo_same {X : Int → Int} {v t : Int} : moveTo X v t v = t := if_pos rfl
theorem moveTo_ne {X : Int → Int} {v t i : Int} (h : i ≠ v) : moveTo X v t i = X i := if_neg h
/-- one place more: v, above all of dom, goes to t, where none is yet -/
theorem Moved.step {ps : List Pn} {f g : Pn → Int} {dom : List Int} {X : Int → Int} {b v t : Int} (m : Moved ps f g dom X b) (fg : ∀ p ∈ ps, f p < g p) (hv : ∀ a ∈ dom, a < v) (new : ∀ a ∈ dom, X a ≠ t) (hb : b ≤ t ∨ 0 ≤ t)
    (t0 : 0 ≤ t) (up : ∀ p ∈ ps, g p = v → f p ∈ dom ∧ X (f p) < t) : Moved ps f g (dom ++ [v]) (moveTo X v t) (max b t) where
  zero := by
    have := hv 0 m.z0
    rw [moveTo_ne (by omega)]
    exact m.zero
  z0 := List.mem_append_left _ m.z0
  inj := fun a ha c hc e => by
    rcases List.mem_append.mp ha with h1 | h1 <;> rcases List.mem_append.mp hc with h2 | h2
    · have := hv a h1
      have := hv c h2
      rw [moveTo_ne (by omega), moveTo_ne (by omega)] at e
      exact m.inj a h1 c h2 e
    · have := hv a h1
      rw [List.mem_singleton.mp h2, moveTo_ne (by omega), moveTo_same] at e
      exact absurd e (new a h1)
    · have := hv c h2
      rw [List.mem_singleton.mp h1, moveTo_same, moveTo_ne (by omega)] at e
      exact absurd e.symm (new c h2)
    · rw [List.mem_singleton.mp h1, List.mem_singleton.mp h2]
  nn := fun a ha => by
    rcases List.mem_append.mp ha with ha | ha
    · have := hv a ha
      rw [moveTo_ne (by omega)]
      exact m.nn a ha
    · obtain rfl := List.mem_singleton.mp ha
      rw [moveTo_same]
      exact t0
  bd := fun a ha => by
    rcases List.mem_append.mp ha with ha | ha
    · have := hv a ha
      have := m.bd a ha
      rw [moveTo_ne (by omega)]
      omega
    · obtain rfl := List.mem_singleton.mp ha
      rw [moveTo_same]
      omega
  up := fun p hp hg => by
    have h1 := fg p hp
    rcases List.mem_append.mp hg with hg | hg
    · have h2 := hv _ hg
      rw [moveTo_ne (by omega), moveTo_ne (by omega)]
      exact m.up p hp hg
    · have e := List.mem_singleton.mp hg
      obtain ⟨h2, h3⟩ := up p hp e
      rw [moveTo_ne (by omega), e, moveTo_same]
      exact h3
/-- a grown layout, all places moved -/
theorem moved_valid {ps : List Pn} {W H bx by_ : Int} {X Y : Int → Int} {dx dy : List Int} (g : Gr ps W H) (hl : ps.length ≤ 60) (mx : Moved ps (·.x0) (·.x1) dx X bx) (my : Moved ps (·.y0) (·.y1) dy Y by_)
    (hx : ∀ p ∈ ps, p.x1 ∈ dx) (hy : ∀ p ∈ ps, p.y1 ∈ dy) : Valid (ps.map (Pn.img X Y)) := by
  have ax : ∀ p ∈ ps, ∀ a ∈ [p.x0, p.x1], a ∈ dx := fun p hp a ha => by
    rcases List.mem_cons.mp ha with rfl | ha
    · rcases g.cx p hp with e | ⟨q, hq, e⟩
      · rw [e]
        exact mx.z0
      · rw [← e]
        exact hx q hq
    · rw [List.mem_singleton.mp ha]
      exact hx p hp
  have ay : ∀ p ∈ ps, ∀ a ∈ [p.y0, p.y1], a ∈ dy := fun p hp a ha => by
    rcases List.mem_cons.mp ha with rfl | ha
    · rcases g.cy p hp with e | ⟨q, hq, e⟩
      · rw [e]
        exact my.z0
      · rw [← e]
        exact hy q hq
    · rw [List.mem_singleton.mp ha]
      exact hy p hp
  refine g.valid hl (fun p hp => ⟨mx.up p hp (hx p hp), my.up p hp (hy p hp)⟩) mx.zero my.zero (fun p hp q hq a ha c hc e => mx.inj a (ax p hp a ha) c (ax q hq c hc) e) fun p hp q hq a ha c hc e => my.inj a (ay p hp a ha) c (ay q hq c hc) e
/-- where a pane that ends at v begins has its place -/
theorem begin_in {ps : List Pn} {f g : Pn → Int} {ns : List Int} {k : Nat} {v : Int} (srt : ns.Pairwise (· < ·)) (hv : ns[k]? = some v) (all : ∀ p ∈ ps, g p ∈ ns) (fg : ∀ p ∈ ps, f p < g p) (c : ∀ p ∈ ps, f p = 0 ∨ ∃ q ∈ ps, g q = f p) :
    ∀ p ∈ ps, g p = v → f p ∈ 0 :: ns.take k := fun p hp e => by
  rcases c p hp with e2 | ⟨q, hq, e2⟩
  · rw [e2]
    exact List.mem_cons_self
  · refine List.mem_cons_of_mem _ ?_
    have hlt : f p < v := by
      rw [← e]
      exact fg p hp
    have hm := all q hq
    rw [e2] at hm
    obtain ⟨i, hi, ei⟩ := List.getElem_of_mem hm
    obtain ⟨hk, ek⟩ := List.getElem?_eq_some_iff.mp hv
    have hik : i < k := by
      rcases Nat.lt_trichotomy i k with z | z | z
      · exact z
      · subst z
        rw [ei] at ek
        omega
      · have := List.pairwise_iff_getElem.mp srt k i hk hi z
        rw [ei, ek] at this
        omega
    rw [← ei]
    exact List.mem_take_iff_getElem.mpr ⟨i, by omega, rfl⟩
/-- what stands ahead of ns[k] lies below -/
theorem ahead_lt {ns : List Int} {k : Nat} {v : Int} (srt : ns.Pairwise (· < ·)) (hv : ns[k]? = some v) (pos : 0 < v) : ∀ a ∈ 0 :: ns.take k, a < v := fun a ha => by
  rcases List.mem_cons.mp ha with rfl | ha
  · exact pos
  · obtain ⟨i, hi, ei⟩ := List.mem_take_iff_getElem.mp ha
    obtain ⟨hk, ek⟩ := List.getElem?_eq_some_iff.mp hv
    have := List.pairwise_iff_getElem.mp srt i k (by omega) hk (by omega)
    rw [ei, ek] at this
    exact this
end Geo
set_option Elab.async false
set_option linter.all false
set_option maxRecDepth 100000
set_option maxHeartbeats 8000000
/-! # the dicts of the places -/
namespace GL
open PySem PySem.Spec PyProof.Rows L2 Geo Rel
/-- a dict tells the new places of dom -/
def Pm (kvs : List (L2.Key × V)) (dom : List Int) (X : Int → Int) : Prop := (∀ a ∈ dom, valV kvs (.inl a) = some (.int (X a))) ∧ kvs.length ≤ dom.length
/-- a dict knows which new places are taken -/
def Um (kvs : List (L2.Key × V)) (dom : List Int) (X : Int → Int) : Prop := (∀ t : Int, (valV kvs (.inl t)).isSome = true ↔ ∃ a ∈ dom, X a = t) ∧ kvs.length ≤ dom.length
theorem pm_put {kvs : List (L2.Key × V)} {dom : List Int} {X : Int → Int} {v t : Int} (h : Pm kvs dom X) (hv : v ∉ dom) : Pm (putK kvs (.inl v) (.int t)) (dom ++ [v]) (moveTo X v t) := by
  refine ⟨fun a ha => ?_, ?_⟩
  · rw [valV_put]
    rcases List.mem_append.mp ha with ha | ha
    · have ne : a ≠ v := fun e => hv (e ▸ ha)
      rw [if_neg (fun e => ne (Sum.inl.inj e)), moveTo_ne ne]
      exact h.1 a ha
    · obtain rfl := List.mem_singleton.mp ha
      rw [if_pos rfl, moveTo_same]
  · have := length_putK kvs (.inl v) (.int t)
    have := h.2
    rw [List.length_append, List.length_singleton]
    omega
theorem um_put {kvs : List (L2.Key × V)} {dom : List Int} {X : Int → Int} {v t : Int} (h : Um kvs dom X) (hv : v ∉ dom) : Um (putK kvs (.inl t) (.bl true)) (dom ++ [v]) (moveTo X v t) := by
  refine ⟨fun s => ?_, ?_⟩
  · rw [valV_put]
    by_cases c : s = t
    · subst c
      rw [if_pos rfl]
      exact ⟨fun _ => ⟨v, List.mem_append_right _ (List.mem_singleton_self v), moveTo_same⟩, fun _ => rfl⟩
    · rw [if_neg (fun e => c (Sum.inl.inj e)), h.1 s]
      constructor
      · rintro ⟨a, ha, e⟩
        refine ⟨a, List.mem_append_left _ ha, ?_⟩
        rw [moveTo_ne (show a ≠ v from fun e => hv (e ▸ ha))]
        exact e
      · rintro ⟨a, ha, e⟩
        rcases List.mem_append.mp ha with ha | ha
        · rw [moveTo_ne (show a ≠ v from fun e => hv (e ▸ ha))] at e
          exact ⟨a, ha, e⟩
        · rw [List.mem_singleton.mp ha, moveTo_same] at e
          exact absurd e.symm c
  · have := length_putK kvs (.inl t) (.bl true)
    have := h.2
    rw [List.length_append, List.length_singleton]
    omega
theorem pm_one : Pm [(.inl 0, .int 0)] [0] (fun _ => 0) := ⟨fun a ha => by
  rw [List.mem_singleton.mp ha]
  rfl, Nat.le_refl _⟩
theorem um_one : Um [(.inl 0, .bl true)] [0] (fun _ => 0) := ⟨fun t => by
  by_cases c : t = 0
  · subst c
    exact ⟨fun _ => ⟨0, List.mem_singleton_self _, rfl⟩, fun _ => rfl⟩
  · constructor
    · intro h
      have e : valV [((Sum.inl 0 : L2.Key), V.bl true)] (.inl t) = none := by
        rw [valV_neg (fun e => c (Sum.inl.inj e).symm)]
        rfl
      rw [e] at h
      cases h
    · rintro ⟨a, _, e⟩
      exact absurd e.symm c, Nat.le_refl _⟩
section
variable {H : Hp} {D : Ends}
/-- the first place from t0 on that is not taken -/
theorem q_there {u : Addr} {kvs : List (L2.Key × V)} {dom : List Int} {X : Int → Int} {b t0 : Int} (τ : Int → L2.St) (h10 : ∀ t, (τ t)[10]? = some (some (.int t))) (h7 : ∀ t, (τ t)[7]? = some (some (.ref u))) (hset : ∀ t t', (τ t).set 10 (some (.int t')) = τ t')
    (hu : H u = some (.dK kvs)) (um : Um kvs dom X) (bd : ∀ a ∈ dom, X a ≤ b) (k : ∀ t H', Evl.Ex H H' → t0 ≤ t → (∀ a ∈ dom, X a ≠ t) → (t = t0 ∨ t ≤ b + 1) → D.nx (τ t) H') :
    tWhile (tB (tDIn (tVar 10) (tVar 7))) (tAsg (tOp (rI0 fun i j => .int (i + j)) (tVar 10) (tC (.int 1))) (gName 10)) D (τ t0) H := by
  refine Evl.s_while (fun n σ' H' => Evl.Ex H H' ∧ ∃ t, t0 ≤ t ∧ (t = t0 ∨ t ≤ b + 1) ∧ σ' = τ t ∧ n = (b + 1 - t).toNat) (b + 1 - t0).toNat ⟨Evl.Ex.refl _, t0, Int.le_refl _, .inl rfl, rfl, rfl⟩ ?_
  rintro n σ' H1 ⟨e1, t, ht, hb, rfl, rfl⟩
  refine ⟨(valV kvs (.inl t)).isSome, fun H2 e2 Q q => ⟨.int t, h10 t, .ref u, h7 t, u, _, rfl, DGet.k (k := .inl t) (e2 _ _ (e1 _ _ hu)), _, rfl, q H2 (Evl.Ex.refl _)⟩, fun z H2 e2 => ⟨_, fun _ _ h => h, ?_⟩, fun z H2 e2 => ?_⟩
  · obtain ⟨a, ha, e⟩ := (um.1 t).mp z
    have := bd a ha
    refine ⟨.int t, h10 t, t, 1, rfl, rfl, (b + 1 - (t + 1)).toNat, by omega, Evl.Ex.trans e1 e2, t + 1, by omega, .inr (by omega), hset _ _, rfl⟩
  · refine k t H2 (Evl.Ex.trans e1 e2) ht (fun a ha e => ?_) hb
    have y := (um.1 t).mpr ⟨a, ha, e⟩
    rw [z] at y
    cases y
end
end GL
set_option Elab.async false
set_option linter.all false
set_option maxRecDepth 100000
set_option maxHeartbeats 8000000
/-! # found: a new list for each pane; one of its corners set -/
namespace GL
open PySem PySem.Spec PyProof.Rows L2 Geo Rel
section
variable {K : PySem.W.Frag} {σ : L2.St} {H : Hp} {tl te : TE}
theorem q_cells {α : Type} {zs : List α} {val : α → V} {c : α → List V} {a : Addr} {i j : Nat} {vs : List Nat} {D : Ends} {tz : TS} (h : Evl.Ev tl σ H (.ref a)) (hx : SqL K H a (zs.map val)) (hz : zs.length ≤ 40000) (hw : ∀ x, wipe ((wipe σ vs).set j (some x)) vs = wipe σ vs)
    (he : ∀ z ∈ zs, ∀ H1, Evl.Ex H H1 → Evl.EvL te ((wipe σ vs).set j (some (val z))) H1 (c z))
    (k : ∀ (p : Addr) (as : List Addr) (H2 : Hp), H p = none → Evl.Ex H H2 → H2 p = some (.lst (as.map V.ref)) → as.Nodup → (∀ b ∈ as, H b = none ∧ b ≠ p) → as.length = zs.length → (∀ (i : Nat) (b : Addr) (z : α), as[i]? = some b → zs[i]? = some z → H2 b = some (.lst (c z))) → tz D (σ.set i (some (.ref p))) H2) :
    tSeq (tAsg (tLc (iList K tl) (gName j) tYes te vs) (gName i)) tz D σ H :=
  el_cells h hx hz hw he H (Evl.Ex.refl _) (fun x H2 => tz D (σ.set i (some x)) H2) fun p as H2 h1 h2 h3 h4 h5 h6 h7 => k p as H2 h1 h2 h3 h4 h5 h6 h7
end
/-- the cells of found: bs their addresses, each a list of a pane's corners -/
structure Cells (H : Hp) (fl : Addr) (bs : List Addr) (ps : List Pn) : Prop where
  l : H fl = some (.lst (bs.map V.ref))
  nd : bs.Nodup
  len : bs.length = ps.length
  c : ∀ (i : Nat) (b : Addr) (p : Pn), bs[i]? = some b → ps[i]? = some p → H b = some (.lst (PnV p))
theorem Cells.keep {H H' : Hp} {fl : Addr} {bs : List Addr} {ps : List Pn} (h : Cells H fl bs ps) (k1 : H' fl = H fl) (k2 : ∀ b ∈ bs, H' b = H b) : Cells H' fl bs ps :=
  ⟨k1.trans h.l, h.nd, h.len, fun i b p hb hp => (k2 b (List.mem_of_getElem? hb)).trans (h.c i b p hb hp)⟩
/-- cell i anew -/
theorem Cells.put {H : Hp} {fl b : Addr} {bs : List Addr} {ps : List Pn} {i : Nat} {p : Pn} (h : Cells H fl bs ps) (hb : bs[i]? = some b) (hf : fl ≠ b) : Cells (upd H b (.lst (PnV p))) fl bs (ps.set i p) := by
  have hi : i < ps.length := by
    rw [← h.len]
    exact (List.getElem?_eq_some_iff.mp hb).1
  refine ⟨by rw [upd_ne hf]; exact h.l, h.nd, by rw [List.length_set]; exact h.len, fun k u q hu hq => ?_⟩
  by_cases c : k = i
  · subst c
    have e1 : b = u := Option.some.inj (hb.symm.trans hu)
    have e2 : p = q := by
      rw [List.getElem?_set_self hi] at hq
      exact Option.some.inj hq
    subst e1 e2
    exact upd_same
  · rw [List.getElem?_set_ne (Ne.symm c)] at hq
    have ne : u ≠ b := fun e => by
      obtain ⟨h1, e1⟩ := List.getElem?_eq_some_iff.mp hb
      obtain ⟨h2, e2⟩ := List.getElem?_eq_some_iff.mp hu
      rcases Nat.lt_trichotomy k i with z | z | z
      · exact List.pairwise_iff_getElem.mp h.nd k i h2 h1 z (by rw [e1, e2, e])
      · exact c z
      · exact List.pairwise_iff_getElem.mp h.nd i k h1 h2 z (by rw [e1, e2, e])
    rw [upd_ne ne]
    exact h.c k u q hu hq
end GL
set_option Elab.async false
set_option linter.all false
set_option maxRecDepth 100000
set_option maxHeartbeats 8000000
/-! # the cells' panes, as tuples -/
namespace GL
open PySem PySem.Spec PyProof.Rows L2 Geo Rel
theorem paired_lay {α : Type} {H : Hp} {g : α → Pn} : ∀ {ys : List V} {us : List α}, Paired (fun y u => ∃ p, y = .ref p ∧ H p = some (HO.tup (PnV (g u)))) ys us → ∃ zs : List (Addr × Pn), ys = zs.map (fun z => V.ref z.1) ∧ zs.map (·.2) = us.map g ∧ ∀ z ∈ zs, H z.1 = some (.tup (PnV z.2))
  | _, _, .nil => ⟨[], rfl, rfl, by simp⟩
  | _, _, .cons (b := u) ⟨p, e, hp⟩ t => by
    obtain ⟨zs, h1, h2, h3⟩ := paired_lay t
    refine ⟨(p, g u) :: zs, by rw [e, h1]; rfl, by rw [List.map_cons, List.map_cons, h2], fun z hz => ?_⟩
    rcases List.mem_cons.mp hz with e | hz
    · rw [e]
      exact hp
    · exact h3 z hz
section
variable {K : PySem.W.Frag} {σ : L2.St} {H : Hp}
theorem ez_tups {fl : Addr} {bs : List Addr} {ps : List Pn} (hc : Cells H fl bs ps) (hl : ps.length ≤ 1000) (h4 : σ[4]? = some (some (.ref fl))) (hw : ∀ x, wipe ((wipe σ [3]).set 3 (some x)) [3] = wipe σ [3]) (h3 : ∀ x : V, ((wipe σ [3]).set 3 (some x))[3]? = some (some x)) :
    EvZ (tLc (iList K (tVar 4)) (gName 3) tYes (tCB (rTupOf K) (tCons (tVar 3) tNil)) [3]) σ H ps := fun H1 e Q q => by
  have ez : (bs.zip ps).map (fun u => V.ref u.1) = bs.map V.ref := by
    have z := congrArg (List.map V.ref) (List.map_fst_zip (l₁ := bs) (l₂ := ps) (Nat.le_of_eq hc.len))
    rw [List.map_map] at z
    exact z
  have es : (bs.zip ps).map (·.2) = ps := List.map_snd_zip (Nat.le_of_eq hc.len.symm)
  refine er_lcL (K := K) (zs := bs.zip ps) (val := fun u => V.ref u.1) (fun _ => true) (fun u v H => ∃ p, v = .ref p ∧ H p = some (HO.tup (PnV u.2))) (mono_obj fun u : Addr × Pn => HO.tup (PnV u.2)) (Evl.ev_var h4) (SqL.of (by rw [ez]; exact hc.l)) (by rw [List.length_zip]; omega) hw
    (fun z hz H2 e2 H3 e3 Q q => q H3 (Evl.Ex.refl _)) (fun z hz H2 e2 _ H3 e3 Q q => ?_) H1 e Q fun p ys H2 np e2 hp hr => ?_
  · obtain ⟨i, hi, ei⟩ := List.getElem_of_mem hz
    rw [List.length_zip] at hi
    have hb : bs[i]? = some z.1 := by
      rw [List.getElem?_eq_getElem (by omega), ← ei, List.getElem_zip]
    have hq : ps[i]? = some z.2 := by
      rw [List.getElem?_eq_getElem (by omega), ← ei, List.getElem_zip]
    refine ⟨.ref z.1, h3 _, z.1, PnV z.2, rfl, .inl ⟨SqL.of ((Evl.Ex.trans e2 e3) _ _ (hc.c i _ _ hb hq)), fun t nt => q (.ref t) _ (Evl.Ex.new nt) (fun p hp => ?_) ⟨t, rfl, upd_same⟩⟩⟩
    cases hp
    exact .inl nt
  · rw [List.filter_eq_self.mpr fun _ _ => rfl] at hr
    obtain ⟨zs, h1, h2, h3⟩ := paired_lay hr
    refine q p zs H2 np e2 ⟨by rw [hp, h1], h3⟩ ?_
    rw [h2]
    exact es
end
end GL
set_option Elab.async false
set_option linter.all false
set_option maxRecDepth 100000
set_option maxHeartbeats 8000000
/-! # for x in sorted(set(xs)) -/
namespace GL
open PySem PySem.Spec PyProof.Rows L2 Geo Rel
section
variable {K : PySem.W.Frag} {w : World} {σ : L2.St} {H : Hp} {te : TE}
theorem s_forS {ns : List Int} {jj : Nat} {tu : TS} {D : Ends} (h : Evl.EvL te σ H (ns.map V.int)) (hl : ns.length < 64)
    (k : ∀ (q : Addr) (ms : List Int) (H1 : Hp), Evl.Ex H H1 → H q = none → H1 q = some (.lst (ms.map V.int)) → ms.Pairwise (· < ·) → (∀ x, x ∈ ms ↔ x ∈ ns) → ms.length ≤ ns.length →
      ∃ Pv : Nat → L2.St → Hp → Prop, Pv 0 σ H1 ∧ (∀ i σ' H', i ≤ ms.length → Pv i σ' H' → H' q = some (.lst (ms.map V.int))) ∧
        (∀ i n σ' H', ms[i]? = some n → Pv i σ' H' → tu { D with nx := Pv (i + 1), ct := Pv (i + 1), bk := D.nx } (σ'.set jj (some (.int n))) H') ∧ (∀ σ' H', Pv ms.length σ' H' → D.nx σ' H')) :
    tFor (iList K (tCB (rSortedSet w) (tCons (tCB (SIn.rSetI K w) (tCons te tNil)) tNil))) (gName jj) tu D σ H :=
  h H (Evl.Ex.refl _) _ fun p H4 np e4 hp => ⟨p, ns, rfl, SqL.of hp, by unfold scanBound; omega, fun sp c nsp hc => ⟨sp, _, c, rfl, upd_same, by omega, fun ms q srt mem hlen nq => by
    have e5 : Evl.Ex H (upd (upd H4 sp (SetO w sp (fun j => decide (j ∈ ns)) c)) q (.lst (ms.map V.int))) := (Evl.Ex.trans e4 (Evl.Ex.new nsp)).trans (Evl.Ex.new nq)
    obtain ⟨Pv, h0, h1, h2, h3⟩ := k q ms _ e5 (Same.free (Evl.Ex.trans e4 (Evl.Ex.new nsp)) nq) upd_same srt (fun x => (mem x).trans (by simp)) (by omega)
    refine ⟨q, rfl, ⟨_, SqL.of upd_same⟩, for_list (K := K) Pv h0 (fun i σ' H' hi p => SqL.of (h1 i σ' H' (by rw [List.length_map] at hi; exact hi) p)) (fun i x σ' H' hx p => ?_) (fun σ' H' p => h3 σ' H' (by rw [List.length_map] at p; exact p))⟩
    rw [List.getElem?_map] at hx
    cases hq : ms[i]? with
    | none =>
      rw [hq] at hx
      cases hx
    | some n =>
      rw [hq] at hx
      have ex : x = .int n := (Option.some.inj hx).symm
      subst ex
      exact h2 i n σ' H' hq p⟩⟩
end
end GL
set_option Elab.async false
set_option linter.all false
set_option maxRecDepth 100000
set_option maxHeartbeats 8000000
/-! # other places for all segments -/
namespace GL
open PySem PySem.Spec PyProof.Rows L2 Geo Rel
abbrev nShaken : List Str := ["jar", "panes", "size", "one", "found", "axis", "places_here", "used", "place_here", "before", "there", "spot", "here"]
theorem scShaken : FnScope nShaken ["jar", "panes", "size"] (defScope sShaken) := ⟨rfl, rfl, rfl, by decide +kernel, rfl, by decide +kernel, by decide +kernel⟩
section
variable {P : Program} {w : World} {K : PySem.W.Frag} {mg : Str → Option Value} {base : Heap}
/-- the places of the axis ax are moved by X -/
def After (ps : List Pn) (ax : Int) (X : Int → Int) : Prop := ∃ dom b, Moved ps (fun p => cm p ax) (fun p => cm p (ax + 2)) dom X b ∧ (∀ p ∈ ps, cm p (ax + 2) ∈ dom) ∧ b < 2 ^ 160
/-- the cell c of the pane p, its corners of the axis ax moved -/
def mv (ax : Int) (X : Int → Int) (p c : Pn) : Pn := sc (sc c ax (X (cm p ax))) (ax + 2) (X (cm p (ax + 2)))
theorem after_valid {ps : List Pn} {W0 H0 : Int} {X Y : Int → Int} (g : Gr ps W0 H0) (hl : ps.length ≤ 60) (a0 : After ps 0 X) (a1 : After ps 1 Y) : Valid (ps.map (Pn.img X Y)) ∧ Low (ps.map (Pn.img X Y)) := by
  obtain ⟨dx, bx, mx, hx, lx⟩ := a0
  obtain ⟨dy, by_, my, hy, ly⟩ := a1
  refine ⟨moved_valid g hl mx my hx hy, fun p' hp' => ?_⟩
  obtain ⟨p, hp, rfl⟩ := List.mem_map.mp hp'
  exact ⟨Int.lt_of_le_of_lt (mx.bd _ (hx p hp)) lx, Int.lt_of_le_of_lt (my.bd _ (hy p hp)) ly⟩
theorem mv_img (X Y : Int → Int) (p : Pn) : mv 1 Y p (mv 0 X p p) = p.img X Y := rfl
theorem clK {X : Cx} (e : X.K = K) : CallR X (.type "list") (rListOf K) := e ▸ call_list_of
theorem ctK {X : Cx} (e : X.K = K) : CallR X (.type "tuple") (rTupOf K) := e ▸ call_tuple_of
theorem ok_shaken {f fD : Addr} {fd dD : FuncData} (F : Fun K "_law_shaken" "_law_shaken" sShaken f fd)
    (GD : FnOk P w K mg base CX0 1 fD dD ["jar", "many"] spDip) (KD : Kd K mg "_law_dip" fD dD ["jar", "many"]) (m : BI mg) (mr : mg "range" = none) (ms : mg "set" = none) :
    FnOk P w K mg base CX0 2 f fd ["jar", "panes", "size"] spShaken := by
  refine F.ok scShaken (fun vs H Q E h => ?_) (fun cdv A outer s H vs Q E hr h => ?_)
  · obtain ⟨j, l, zs, size, m, A, B, rfl, _⟩ := h
    rfl
  · obtain ⟨j, l, zs, size, mj, WA, WB, rfl, hj, hL, hne, hlen, hg, hs1, hs2, hmj, q⟩ := h
    have hu := hr.units
    refine ⟨_, pss_cons (ps_setLc (i := 4) (own := [("one", 3)]) (g := gName 3) (tt := tYes) rfl scShaken.nd rfl rfl (sw_true rfl rfl rfl rfl) (pi_list (pv 1)) (blkOk_by (N := nShaken) (sc := defScope sShaken) (by decide +kernel)) (fun _ _ _ _ _ => (pg_name (i := 3) scShaken.nd rfl (Or.inl rfl))) (fun _ _ _ _ _ => pts_nil) (fun _ _ _ _ _ => pe_callTy (T := "list") (clK (K := K) rfl) (by rfl) m.li (by decide +kernel) (pa_cons (pv 3) pa_nil)))
      (Evl.pss_cut (ps_for PassesOwn.never rfl (pi_range1 (by rfl) mr (pa_cons pe_int pa_nil)) (pg_name (i := 5) scShaken.nd rfl (Or.inr rfl))
        (Evl.pss_cut (ps_asg (pe_tup (pa_cons (pe_disp (pps_cons pe_int pe_int pps_nil) rfl rfl (by simp) (by decide)) (pa_cons (pe_disp (pps_cons pe_int pe_bl pps_nil) rfl rfl (by simp) (by decide)) pa_nil))) (pg_tup rfl (pgs_cons (pg_name (i := 6) scShaken.nd rfl (Or.inr rfl)) (pgs_cons (pg_name (i := 7) scShaken.nd rfl (Or.inl rfl)) pgs_nil))))
        (Evl.pss_cut (ps_for PassesOwn.never rfl (pi_list (pe_callB (cr_sortedSet rfl) (by rfl) m.so (by decide +kernel) (pa_cons (pe_callTy (SIn.cr_setI rfl) (by rfl) ms (by decide +kernel) (pa_cons (pe_lc (own := [("one", 3)]) (g := gName 3) (tt := tYes) rfl scShaken.nd (pi_list (pv 1)) (blkOk_by (N := nShaken) (sc := defScope sShaken) (by decide +kernel)) (fun _ _ _ _ _ => (pg_name (i := 3) scShaken.nd rfl (Or.inl rfl))) (fun _ _ _ _ _ => pts_nil) (fun _ _ _ _ _ => pe_ix (ixTK (K := K) rfl) (pv 3) (pe_op op_add (pv 5) pe_int) (fun _ _ => rfl))) pa_nil)) pa_nil))) (pg_name (i := 8) scShaken.nd rfl (Or.inr rfl))
          (Evl.pss_cut (ps_setLc (i := 9) (own := [("one", 3)]) (g := gName 3) (tt := (tTest (tOp rEq (tOp (rIxT K) (tVar 3) (tOp (rI0 fun i j => .int (i + j)) (tVar 5) (tC (.int 2)))) (tVar 8)))) rfl scShaken.nd rfl rfl (sw_true rfl rfl rfl rfl) (pi_list (pv 1)) (blkOk_by (N := nShaken) (sc := defScope sShaken) (by decide +kernel)) (fun _ _ _ _ _ => (pg_name (i := 3) scShaken.nd rfl (Or.inl rfl))) (fun _ _ _ _ _ => pts_one (pt_cmpR op_eq (pe_ix (ixTK (K := K) rfl) (pv 3) (pe_op op_add (pv 5) pe_int) (fun _ _ => rfl)) (pv 8) (nomark _))) (fun _ _ _ _ _ => pe_dget (by exact Nat.lt_of_le_of_lt (Nat.add_le_add_left (by decide) _) hu) (pv 6) (pe_ix (ixTK (K := K) rfl) (pv 3) (pv 5) (fun _ _ => rfl)) (fun _ _ => rfl)))
          (Evl.pss_cut (ps_set (i := 10) scShaken.nd rfl (Or.inl rfl) (pe_callB (cr_max rfl) (by rfl) m.ma (by decide +kernel) (pa_cons (pe_lc (own := [("here", 12)]) (g := gName 12) (tt := tYes) rfl scShaken.nd (pi_list (pv 9)) (blkOk_by (N := nShaken) (sc := defScope sShaken) (by decide +kernel)) (fun _ _ _ _ _ => (pg_name (i := 12) scShaken.nd rfl (Or.inl rfl))) (fun _ _ _ _ _ => pts_nil) (fun _ _ _ _ _ => pe_op op_add (pe_op op_add (pv 12) pe_int) (pe_call GD hr (by rfl) KD.g KD.k KD.b .nil pass0 (by exact (pa_cons (pv 0) (pa_cons (pv 2) pa_nil)))))) pa_nil)))
          (Evl.pss_cut (ps_while PassesOwn.never (pt_cmp (pc_din (by exact Nat.lt_of_le_of_lt (Nat.add_le_add_left (by decide) _) hu) (pv 10) (pv 7)) (by rfl)) (pss_one (ps_set (i := 10) scShaken.nd rfl (Or.inl rfl) (pe_op op_add (pv 10) pe_int))))
          (pss_one (ps_asg (pe_tup (pa_cons (pv 10) (pa_cons pe_bl pa_nil))) (pg_tup rfl (pgs_cons (pg_sub (pv 6) (pv 8) (set_dict (by exact Nat.lt_of_le_of_lt (Nat.add_le_add_left (by decide) _) hu))) (pgs_cons (pg_sub (pv 7) (pv 10) (set_dict (by exact Nat.lt_of_le_of_lt (Nat.add_le_add_left (by decide) _) hu))) pgs_nil)))))))))
        (pss_one (ps_for PassesOwn.never rfl (pi_enum (by rfl) m.en (pa_cons (pv 1) pa_nil)) (pg_tup rfl (pgs_cons (pg_name (i := 11) scShaken.nd rfl (Or.inl rfl)) (pgs_cons (pg_name (i := 3) scShaken.nd rfl (Or.inl rfl)) pgs_nil)))
          (Evl.pss_cut (ps_asg (pe_dget (by exact Nat.lt_of_le_of_lt (Nat.add_le_add_left (by decide) _) hu) (pv 6) (pe_ix ix_tup (pv 3) (pv 5) (fun _ _ => rfl)) (fun _ _ => rfl)) (pg_sub (pe_ix ix_list (pv 4) (pv 11) (fun _ _ => rfl)) (pv 5) set_list))
          (pss_one (ps_asg (pe_dget (by exact Nat.lt_of_le_of_lt (Nat.add_le_add_left (by decide) _) hu) (pv 6) (pe_ix ix_tup (pv 3) (pe_op op_add (pv 5) pe_int) (fun _ _ => rfl)) (fun _ _ => rfl)) (pg_sub (pe_ix ix_list (pv 4) (pv 11) (fun _ _ => rfl)) (pe_op op_add (pv 5) pe_int) set_list)))))))))
      (pss_one (ps_ret (pe_lc (own := [("one", 3)]) (g := gName 3) (tt := tYes) rfl scShaken.nd (pi_list (pv 4)) (blkOk_by (N := nShaken) (sc := defScope sShaken) (by decide +kernel)) (fun _ _ _ _ _ => (pg_name (i := 3) scShaken.nd rfl (Or.inl rfl))) (fun _ _ _ _ _ => pts_nil) (fun _ _ _ _ _ => pe_callTy (T := "tuple") (ctK (K := K) rfl) (by rfl) m.tu (by decide +kernel) (pa_cons (pv 3) pa_nil)))))), ?_⟩
    refine q_cells (K := K) (a := l) (zs := zs) (val := fun z => V.ref z.1) (c := fun z => PnV z.2) (Evl.ev_var rfl) (SqL.of hL.l) (by omega) (fun _ => rfl) (fun z hz H1 e => el_listT (K := K) (Evl.ev_var rfl) (e _ _ (hL.t z hz))) fun fl bs H1 nfl e1 g1 nd fr len cont => ?_
    have cells1 : Cells H1 fl bs (zs.map (·.2)) := ⟨g1, nd, by rw [len, List.length_map], fun i b p hb hp => by
      rw [List.getElem?_map] at hp
      cases hq : zs[i]? with
      | none =>
        rw [hq] at hp
        cases hp
      | some z =>
        rw [hq] at hp
        have ep : z.2 = p := Option.some.inj hp
        rw [← ep]
        exact cont i b z hb hq⟩
    refine ⟨fun σ' H' => ∃ (y3 y5 y6 y7 y8 y9 y10 y11 y12 : Option V) (ps' : List Pn), σ' = [some (.ref j), some (.ref l), some (.int size), y3, some (.ref fl), y5, y6, y7, y8, y9, y10, y11, y12] ∧ But j H H' ∧ Jar H' j (mj + 7200) ∧ Cells H' fl bs ps' ∧ Valid ps' ∧ Low ps', ?_, ?_⟩
    · refine Evl.s_forR1 (n := 2) (Evl.ea_cons Evl.ev_c Evl.ea_nil) ⟨by omega, by omega⟩ (fun i σ' H' => ∃ (y3 y5 y6 y7 y8 y9 y10 y11 y12 : Option V) (G : Pn → Pn), σ' = [some (.ref j), some (.ref l), some (.int size), y3, some (.ref fl), y5, y6, y7, y8, y9, y10, y11, y12] ∧ But j H H' ∧ Jar H' j (mj + 3600 * i) ∧ Cells H' fl bs ((zs.map (·.2)).map G) ∧
          (i = 0 → G = id) ∧ (i = 1 → ∃ X, After (zs.map (·.2)) 0 X ∧ G = fun p => mv 0 X p p) ∧ (i = 2 → ∃ X Y, After (zs.map (·.2)) 0 X ∧ After (zs.map (·.2)) 1 Y ∧ G = Pn.img X Y)) (fun H2 e2 => ⟨_, _, _, _, _, _, _, _, _, id, rfl, (Same.but e1).same e2, (hj.same e1).same e2, ?_, fun _ => rfl, fun h => absurd h (by decide), fun h => absurd h (by decide)⟩) ?_ ?_
      · rw [List.map_id]
        refine ⟨e2 _ _ cells1.l, cells1.nd, cells1.len, fun i b p hb hp => e2 _ _ (cells1.c i b p hb hp)⟩
      · rintro i σ' H2 hi ⟨y3, y5, y6, y7, y8, y9, y10, y11, y12, G, rfl, b2, j2, cl, g0, g1', g2'⟩
        have hi2 : i = 0 ∨ i = 1 := by omega
        refine ⟨fun σ' H' => ∃ (mp u : Addr), σ' = [some (.ref j), some (.ref l), some (.int size), y3, some (.ref fl), some (.int (i : Nat)), some (.ref mp), some (.ref u), y8, y9, y10, y11, y12] ∧ Same H2 H' ∧ H2 mp = none ∧ H2 u = none ∧ mp ≠ u ∧ H' mp = some (.dK [(.inl 0, .int 0)]) ∧ H' u = some (.dK [(.inl 0, .bl true)]), ?_, ?_⟩
        · refine fun mp nm => ⟨upd_same, [(.inl 0, .int 0)], rfl, Nat.le_of_ble_eq_true rfl, fun u nu => ⟨upd_same, [(.inl 0, .bl true)], rfl, Nat.le_of_ble_eq_true rfl, (show 2 ≤ sizeLine by decide), fun T nT => ⟨T, [_, _], rfl, .inl (.inl upd_same), rfl, _, _, rfl, _, _, rfl, rfl, mp, u, rfl, ?_⟩⟩⟩
          rw [upd_upd] at nu nT ⊢
          rw [upd_upd] at nT ⊢
          have mu : mp ≠ u := fun z => by
            rw [← z, upd_same] at nu
            cases nu
          have nu2 : H2 u = none := by
            rw [upd_ne (Ne.symm mu)] at nu
            exact nu
          refine ⟨((Evl.Ex.new nm).trans (Evl.Ex.new nu)).trans (Evl.Ex.new nT), nm, nu2, mu, Evl.Ex.new nT _ _ ?_, Evl.Ex.new nT _ _ upd_same⟩
          rw [upd_ne mu, upd_same]
          rfl
        rintro σ' H3 ⟨mp, u, rfl, s3, nm, nu, mu, hmp, hu3⟩
        refine ⟨fun σ' H' => ∃ (y3 y8 y9 y10 y12 : Option V) (X : Int → Int) (kvs : List (L2.Key × V)), σ' = [some (.ref j), some (.ref l), some (.int size), y3, some (.ref fl), some (.int (i : Nat)), some (.ref mp), some (.ref u), y8, y9, y10, y11, y12] ∧ (∀ a o, a ≠ j → H2 a = some o → H' a = some o) ∧ Jar H' j (mj + 3600 * i + 3600) ∧
          H' mp = some (.dK kvs) ∧ After (zs.map (·.2)) (i : Nat) X ∧ (∀ z ∈ zs, valV kvs (.inl (cm z.2 (i : Nat))) = some (.int (X (cm z.2 (i : Nat))))) ∧ (∀ z ∈ zs, valV kvs (.inl (cm z.2 ((i : Nat) + 2))) = some (.int (X (cm z.2 ((i : Nat) + 2))))), ?_, ?_⟩
        · have L3 : Lay H3 l zs := ((hL.but hj b2 hne)).same s3
          have e200 : (2 : Int) ^ 200 = 1606938044258990275541962092341162602522202993782792835301376 := by decide +kernel
          have e160 : (2 : Int) ^ 160 = 1461501637330902918203684832716283019655932542976 := by decide +kernel
          have e150 : (2 : Int) ^ 150 = 1427247692705959881058285969449495136382746624 := by decide +kernel
          rw [e150] at hs2
          have lc := el_lcV (K := K) (σ := [some (.ref j), some (.ref l), some (.int size), y3, some (.ref fl), some (.int (i : Nat)), some (.ref mp), some (.ref u), y8, y9, y10, y11, y12]) (H := H3) (tl := tVar 1) (te := tOp (rIxT K) (tVar 3) (tOp (rI0 fun i j => .int (i + j)) (tVar 5) (tC (.int 2)))) (j := 3) (vs := [3]) (t := tYes) (zs := zs) (val := fun z => .ref z.1) (g := fun z => .int (cm z.2 ((i : Nat) + 2))) (fun _ => true) (Evl.ev_var rfl) (SqL.of L3.l) (by omega) (fun _ => rfl)
            (fun z hz H1 e H2 e2 Q q => q H2 (Evl.Ex.refl _)) (fun z hz H2 e _ => ev_cm (Evl.ev_var rfl) (Evl.ev_op (Evl.ev_var rfl) Evl.ev_c Evl.rv_I0) (e _ _ (L3.t z hz)) (by omega)) (fun z hz p hp => by cases hp)
          rw [List.filter_eq_self.mpr fun _ _ => rfl] at lc
          refine s_forS (K := K) (w := w) (ns := zs.map fun z => cm z.2 ((i : Nat) + 2)) (by rw [List.map_map]; exact lc) (by rw [List.length_map]; omega) fun q ms H5 e5 nq hq srt mem hml => ?_
          rw [List.length_map] at hml
          have j3 : Jar H3 j (mj + 3600 * i) := j2.same s3
          have gpos : ∀ p ∈ zs.map (·.2), 0 ≤ cm p (i : Nat) ∧ cm p (i : Nat) < cm p ((i : Nat) + 2) := fun p hp => by
            have z := hg.pos p hp
            rcases hi2 with rfl | rfl
            · exact ⟨z.1, z.2.1⟩
            · exact ⟨z.2.2.2.1, z.2.2.2.2.1⟩
          have gc : ∀ p ∈ zs.map (·.2), cm p (i : Nat) = 0 ∨ ∃ q ∈ zs.map (·.2), cm q ((i : Nat) + 2) = cm p (i : Nat) := fun p hp => by
            rcases hi2 with rfl | rfl
            · exact hg.cx p hp
            · exact hg.cy p hp
          have k25 : Same H2 H5 := s3.trans e5
          refine ⟨fun k σ' H' => ∃ (y3 y8 y9 y10 y12 : Option V) (X : Int → Int) (b : Int) (kv ku : List (L2.Key × V)), σ' = [some (.ref j), some (.ref l), some (.int size), y3, some (.ref fl), some (.int (i : Nat)), some (.ref mp), some (.ref u), y8, y9, y10, y11, y12] ∧ (∀ a o, a ≠ j → a ≠ mp → a ≠ u → H5 a = some o → H' a = some o) ∧ Jar H' j (mj + 3600 * i + 60 * k) ∧ H' mp = some (.dK kv) ∧ H' u = some (.dK ku) ∧
            Pm kv (0 :: ms.take k) X ∧ Um ku (0 :: ms.take k) X ∧ Moved (zs.map (·.2)) (fun p => cm p (i : Nat)) (fun p => cm p ((i : Nat) + 2)) (0 :: ms.take k) X b ∧ 0 ≤ b ∧ b ≤ k * size, ?_, ?_, ?_, ?_⟩
          · exact ⟨y3, y8, y9, y10, y12, fun _ => 0, 0, _, _, rfl, fun a o _ _ _ h => h, (j3.same e5).mono (by omega), e5 _ _ hmp, e5 _ _ hu3, pm_one, um_one, moved_nil (fun p hp => by have := gpos p hp; omega) _ rfl, Int.le_refl _, by simp⟩
          · rintro k σ' H' hk ⟨y3, y8, y9, y10, y12, X, b, kv, ku, rfl, kk, jj, hm', hu', pm, um, mv', hb0, hb⟩
            refine kk _ _ (fun e => ?_) (fun e => ?_) (fun e => ?_) hq
            · obtain ⟨o, ho⟩ := j3.some
              rw [e, ho] at nq
              cases nq
            · rw [e, hmp] at nq
              cases nq
            · rw [e, hu3] at nq
              cases nq
          · rintro k v σ' H6 hvk ⟨y3, y8, y9, y10, y12, X, b, kv, ku, rfl, kk, jj, hm', hu', pm, um, mv', hb0, hb⟩
            have hk : k < ms.length := (List.getElem?_eq_some_iff.mp hvk).1
            have L2 : Lay H2 l zs := hL.but hj b2 hne
            have L5 : Lay H5 l zs := L3.same e5
            obtain ⟨ja, jb', jc, hjc, _⟩ := id j2
            have L6 : Lay H6 l zs := by
              refine ⟨kk _ _ (fun e => ?_) (ne_of_none L2.l nm) (ne_of_none L2.l nu) L5.l, fun z hz => kk _ _ (fun e => ?_) (ne_of_none (L2.t z hz) nm) (ne_of_none (L2.t z hz) nu) (L5.t z hz)⟩
              · have y := L2.l
                rw [e, hjc] at y
                cases zs with
                | nil => exact hne rfl
                | cons a r =>
                  injection y with y
                  injection y with y
                  rw [List.map_cons] at y
                  injection y with y _
                  cases y
              · have y := L2.t z hz
                rw [e, hjc] at y
                cases y
            have vps : v ∈ zs.map (fun z => cm z.2 ((i : Nat) + 2)) := (mem v).mp (List.mem_of_getElem? hvk)
            have allm : ∀ p ∈ zs.map (·.2), cm p ((i : Nat) + 2) ∈ ms := fun p hp => by
              obtain ⟨z, hz, rfl⟩ := List.mem_map.mp hp
              exact (mem _).mpr (List.mem_map.mpr ⟨z, hz, rfl⟩)
            have bin := begin_in srt hvk allm (fun p hp => (gpos p hp).2) gc
            have vpos : 0 < v := by
              obtain ⟨z, hz, e⟩ := List.mem_map.mp vps
              have := gpos z.2 (List.mem_map_of_mem hz)
              omega
            have alt := ahead_lt srt hvk vpos
            have lc2 := el_lcV (K := K) (σ := [some (.ref j), some (.ref l), some (.int size), y3, some (.ref fl), some (.int (i : Nat)), some (.ref mp), some (.ref u), some (.int v), y9, y10, y11, y12]) (H := H6) (tl := tVar 1) (te := tDGet (tVar 6) (tOp (rIxT K) (tVar 3) (tVar 5))) (j := 3) (vs := [3]) (t := tTest (tOp rEq (tOp (rIxT K) (tVar 3) (tOp (rI0 fun i j => .int (i + j)) (tVar 5) (tC (.int 2)))) (tVar 8))) (zs := zs) (val := fun z => .ref z.1) (g := fun z => .int (X (cm z.2 (i : Nat)))) (fun z => decide (V.int (cm z.2 ((i : Nat) + 2)) = V.int v)) (Evl.ev_var rfl) (SqL.of L6.l) (by omega) (fun _ => rfl)
              (fun z hz Hb eb => Evl.et_test (Evl.ev_op (ev_cm (Evl.ev_var rfl) (Evl.ev_op (Evl.ev_var rfl) Evl.ev_c Evl.rv_I0) (eb _ _ (L6.t z hz)) (by omega)) (Evl.ev_var rfl) (Evl.rv_eq rfl)))
              (fun z hz Hb eb hf Hc ec Q q => by
                have ez : cm z.2 ((i : Nat) + 2) = v := V.int.inj (of_decide_eq_true hf)
                refine ⟨.ref mp, rfl, .ref z.1, rfl, .int (i : Nat), rfl, z.1, PnV z.2, ((i : Nat) : Int), .int (cm z.2 (i : Nat)), rfl, rfl, SqT.of ((Evl.Ex.trans eb ec) _ _ (L6.t z hz)), cm_at _ (by omega), mp, .int (X (cm z.2 (i : Nat))), rfl, ?_, q Hc (Evl.Ex.refl _)⟩
                rw [← pm.1 _ (bin z.2 (List.mem_map_of_mem hz) ez)]
                exact DGet.k (k := .inl _) ((Evl.Ex.trans eb ec) _ _ hm'))
              (fun z hz p hp => by cases hp)
            have efil : (fun z : Addr × Pn => decide (V.int (cm z.2 ((i : Nat) + 2)) = V.int v)) = fun z => decide (cm z.2 ((i : Nat) + 2) = v) := funext fun z => by simp
            rw [efil] at lc2
            have lfil : (zs.filter fun z => decide (cm z.2 ((i : Nat) + 2) = v)).length ≤ zs.length := List.length_filter_le _ _
            have pfil : 0 < (zs.filter fun z => decide (cm z.2 ((i : Nat) + 2) = v)).length := by
              obtain ⟨z, hz, e⟩ := List.mem_map.mp vps
              exact List.length_pos_of_mem (List.mem_filter.mpr ⟨hz, decide_eq_true e⟩)
            refine ⟨fun σ' H' => ∃ pb : Addr, σ' = [some (.ref j), some (.ref l), some (.int size), y3, some (.ref fl), some (.int (i : Nat)), some (.ref mp), some (.ref u), some (.int v), some (.ref pb), y10, y11, y12] ∧ Same H6 H' ∧ H' pb = some (.lst (((zs.filter fun z => decide (cm z.2 ((i : Nat) + 2) = v)).map fun z => X (cm z.2 (i : Nat))).map V.int)) ∧ pb ≠ j, Evl.s_asgL lc2 fun pb H7 npb e7 g7 => ⟨pb, rfl, e7, by rw [List.map_map]; exact g7, fun e => by
              obtain ⟨o, ho⟩ := jj.some
              rw [e, ho] at npb
              cases npb⟩, ?_⟩
            rintro σ' H7 ⟨pb, rfl, e7, g7, pbj⟩
            have mpj : mp ≠ j := fun e => by
              rw [e, hjc] at nm
              cases nm
            have uj : u ≠ j := fun e => by
              rw [e, hjc] at nu
              cases nu
            refine ⟨fun σ' H' => ∃ t0 : Int, σ' = [some (.ref j), some (.ref l), some (.int size), y3, some (.ref fl), some (.int (i : Nat)), some (.ref mp), some (.ref u), some (.int v), some (.ref pb), some (.int t0), y11, y12] ∧ But j H7 H' ∧ Jar H' j (mj + 3600 * i + 60 * (k + 1)) ∧ (∀ n ∈ (zs.filter fun z => decide (cm z.2 ((i : Nat) + 2) = v)).map fun z => X (cm z.2 (i : Nat)), n < t0) ∧ (∃ n ∈ (zs.filter fun z => decide (cm z.2 ((i : Nat) + 2) = v)).map fun z => X (cm z.2 (i : Nat)), t0 ≤ n + size), ?_, ?_⟩
            · unfold tAsg
              exact q_draws (K := K) (j := j) (pb := pb) (size := size) (fun _ => rfl) (fun _ => rfl) rfl (fun _ => rfl) (fun _ => rfl) (jj.same e7) g7 pbj (by rw [List.length_map]; exact pfil) (by rw [List.length_map]; omega) hs1 (by rw [e200]; omega) (by rw [List.length_map]; omega) fun t H8 b8 j8 h1 h2 => ⟨t, rfl, b8, j8.mono (by rw [List.length_map]; omega), h1, h2⟩
            rintro σ' H8 ⟨t0, rfl, b8, j8, hlt, n0, hn0, hle⟩
            have hm8 := b8 _ _ mpj (e7 _ _ hm')
            have hu8 := b8 _ _ uj (e7 _ _ hu')
            refine ⟨fun σ' H' => ∃ t : Int, σ' = [some (.ref j), some (.ref l), some (.int size), y3, some (.ref fl), some (.int (i : Nat)), some (.ref mp), some (.ref u), some (.int v), some (.ref pb), some (.int t), y11, y12] ∧ Evl.Ex H8 H' ∧ t0 ≤ t ∧ (∀ a ∈ 0 :: ms.take k, X a ≠ t) ∧ (t = t0 ∨ t ≤ b + 1), ?_, ?_⟩
            · exact q_there (fun t => [some (.ref j), some (.ref l), some (.int size), y3, some (.ref fl), some (.int (i : Nat)), some (.ref mp), some (.ref u), some (.int v), some (.ref pb), some (.int t), y11, y12]) (fun _ => rfl) (fun _ => rfl) (fun _ _ => rfl) hu8 um mv'.bd fun t H9 e9 h1 h2 h3 => ⟨t, rfl, e9, h1, h2, h3⟩
            rintro σ' H9 ⟨t, rfl, e9, ht0, hnew, htb⟩
            have hm9 := e9 _ _ hm8
            have hu9 := e9 _ _ hu8
            have vnot : v ∉ 0 :: ms.take k := fun hv => by
              have := alt v hv
              omega
            have tk : 0 :: ms.take (k + 1) = (0 :: ms.take k) ++ [v] := by
              rw [List.take_add_one, hvk]
              rfl
            have dl : (0 :: ms.take k).length ≤ 61 := by
              rw [List.length_cons, List.length_take]
              omega
            obtain ⟨z0, hz0, ez0⟩ := List.mem_map.mp hn0
            obtain ⟨hz0a, hz0b⟩ := List.mem_filter.mp hz0
            have bi0 := bin z0.2 (List.mem_map_of_mem hz0a) (of_decide_eq_true hz0b)
            have n00 : 0 ≤ n0 := by
              rw [← ez0]
              exact mv'.nn _ bi0
            have n0b : n0 ≤ b := by
              rw [← ez0]
              exact mv'.bd _ bi0
            have n0t := hlt n0 hn0
            have szk : ((k + 1 : Nat) : Int) * size = (k : Nat) * size + size := by
              rw [Int.natCast_add, Int.add_mul]
              simp
            have stp := mv'.step (t := t) (fun p hp => (gpos p hp).2) alt hnew (.inr (by omega)) (by omega) (fun p hp e => by
              obtain ⟨z, hz, rfl⟩ := List.mem_map.mp hp
              refine ⟨bin z.2 hp e, ?_⟩
              have := hlt (X (cm z.2 (i : Nat))) (List.mem_map.mpr ⟨z, List.mem_filter.mpr ⟨hz, decide_eq_true e⟩, rfl⟩)
              show X (cm z.2 (i : Nat)) < t
              omega)
            refine ⟨.int t, rfl, (show 2 ≤ sizeLine by decide), fun T nT => ⟨T, [.int t, .bl true], rfl, .inl (.inl upd_same), rfl, .int t, [.bl true], rfl, .ref mp, rfl, .int v, rfl, mp, _, rfl, DPut.k (k := .inl v) (Evl.Ex.new nT _ _ hm9) ?_, .bl true, [], rfl, .ref u, rfl, .int t, rfl, u, _, rfl, DPut.k (k := .inl t) (by rw [upd_ne (Ne.symm mu)]; exact Evl.Ex.new nT _ _ hu9) ?_, rfl, y3, _, _, _, y12, moveTo X v t, max b t, putK kv (.inl v) (.int t), putK ku (.inl t) (.bl true), rfl, ?_, ?_, ?_, upd_same, ?_, ?_, ?_, ?_, ?_⟩⟩
            · have := pm.2
              rw [sizeLine_eq]
              omega
            · have := um.2
              rw [sizeLine_eq]
              omega
            · intro a o n1 n2 n3 h
              rw [upd_ne n3, upd_ne n2]
              exact Evl.Ex.new nT _ _ (e9 _ _ (b8 _ _ n1 (e7 _ _ (kk a o n1 n2 n3 h))))
            · obtain ⟨a, bb, c, e, w1⟩ := j8.same (Evl.Ex.trans e9 (Evl.Ex.new nT))
              exact ⟨a, bb, c, by rw [upd_ne (Ne.symm uj), upd_ne (Ne.symm mpj)]; exact e, w1⟩
            · rw [upd_ne mu, upd_same]
            · rw [tk]
              exact pm_put pm vnot
            · rw [tk]
              exact um_put um vnot
            · rw [tk]
              exact stp
            · omega
            · rw [szk]
              rcases htb with e | e <;> omega
          · rintro σ' H' ⟨y3, y8, y9, y10, y12, X, b, kv, ku, rfl, kk, jj, hm', hu', pm, um, mv', hb0, hb⟩
            rw [List.take_length] at pm mv'
            have inD : ∀ p ∈ zs.map (·.2), cm p ((i : Nat) + 2) ∈ 0 :: ms := fun p hp => by
              obtain ⟨z, hz, rfl⟩ := List.mem_map.mp hp
              exact List.mem_cons_of_mem _ ((mem _).mpr (List.mem_map.mpr ⟨z, hz, rfl⟩))
            refine ⟨y3, y8, y9, y10, y12, X, kv, rfl, fun a o n h => kk a o n (ne_of_none h nm) (ne_of_none h nu) (k25 _ _ h), jj.mono (by omega), hm', ⟨0 :: ms, b, mv', inD, ?_⟩, fun z hz => pm.1 _ ?_, fun z hz => pm.1 _ (inD _ (List.mem_map_of_mem hz))⟩
            · have := Int.mul_le_mul_of_nonneg_right (show (ms.length : Int) ≤ 60 by omega) (show 0 ≤ size by omega)
              rw [e160]
              omega
            · rcases gc z.2 (List.mem_map_of_mem hz) with e | ⟨q, hq, e⟩
              · rw [e]
                exact List.mem_cons_self
              · rw [← e]
                exact inD q hq
        rintro σ' H4 ⟨y3, y8, y9, y10, y12, X, kvs, rfl, k4, j4, hmp4, aft, hX1, hX2⟩
        have hin : ∀ {a : Addr} {o : HO}, H a = some o → a ∉ bs := fun {a o} h hb => by
          rw [(fr a hb).1] at h
          cases h
        have fll : fl ∉ bs := fun hb => (fr fl hb).2 rfl
        have mpb : mp ∉ bs := fun hb => by
          obtain ⟨q, hq, e⟩ := List.getElem_of_mem hb
          have := cl.c q mp (((zs.map (·.2)).map G)[q]'(by rw [← cl.len]; exact hq)) (by rw [List.getElem?_eq_getElem hq, e]) (List.getElem?_eq_getElem _)
          rw [nm] at this
          cases this
        have jb : j ∉ bs := by
          obtain ⟨o, ho⟩ := hj.some
          exact hin ho
        have cl4 : Cells H4 fl bs ((zs.map (·.2)).map G) := by
          refine ⟨k4 _ _ (fun e => ?_) cl.l, cl.nd, cl.len, fun q b p hb hp => k4 _ _ (fun e => jb (e ▸ List.mem_of_getElem? hb)) (cl.c q b p hb hp)⟩
          obtain ⟨o, ho⟩ := hj.some
          rw [e, ho] at nfl
          cases nfl
        have L4 : Lay H4 l zs := ((hL.but hj b2 hne).but j2 (fun a o n h => k4 a o n h) hne)
        refine ⟨.ref l, rfl, l, _, rfl, SqL.of L4.l, ?_⟩
        refine for_it (walk_enum (K := K) (a := l) (xs := zs.map fun z => .ref z.1)) (fun k σ' H' => ∃ (y3 y11 : Option V), σ' = [some (.ref j), some (.ref l), some (.int size), y3, some (.ref fl), some (.int (i : Nat)), some (.ref mp), some (.ref u), y8, y9, y10, y11, y12] ∧ (∀ a o, a ∉ bs → H4 a = some o → H' a = some o) ∧
          Cells H' fl bs ((zs.take k).map (fun z => mv (i : Nat) X z.2 (G z.2)) ++ (zs.drop k).map fun z => G z.2))
          ⟨y3, y11, rfl, fun a o _ h => h, by rw [List.map_map] at cl4; exact cl4⟩ (fun k σ' H' _ ⟨_, _, _, kk, _⟩ => SqL.of (kk _ _ (hin hL.l) L4.l)) ?_ ?_
        · rintro k x σ' H5 H6 hk ⟨y3, y11, rfl, k5, cl5⟩ ⟨T, x1, x2, rfl, nT, rfl, h1, h2⟩
          have hk' : k < zs.length := by simpa using hk
          have ex1 : x1 = .int (k : Nat) := (Option.some.inj h1).symm
          have ex2 : x2 = .ref zs[k].1 := by
            have h2' : (zs.map fun z => V.ref z.1)[k]? = some x2 := h2
            rw [List.getElem?_map, List.getElem?_eq_getElem hk'] at h2'
            exact (Option.some.inj h2').symm
          subst ex1 ex2
          have hz : zs[k] ∈ zs := List.getElem_mem hk'
          have e6 : Evl.Ex H5 (upd H5 T (.tup [.int (k : Nat), .ref zs[k].1])) := Evl.Ex.new nT
          have ht5 := k5 _ _ (hin (hL.t _ hz)) (L4.t _ hz)
          have hkb : k < bs.length := by rw [len]; exact hk'
          have hb : bs[k]? = some bs[k] := List.getElem?_eq_getElem hkb
          have hbm : bs[k] ∈ bs := List.getElem_mem hkb
          have hcs : ((zs.take k).map (fun z => mv (i : Nat) X z.2 (G z.2)) ++ (zs.drop k).map fun z => G z.2)[k]? = some (G zs[k].2) := by
            rw [List.getElem?_append_right (by rw [List.length_map, List.length_take]; omega), List.length_map, List.length_take, Nat.min_eq_left (by omega), Nat.sub_self, List.drop_eq_getElem_cons hk']
            rfl
          have hc5 := cl5.c k _ _ hb hcs
          have hmp5 := k5 _ _ mpb hmp4
          refine ⟨T, [_, _], rfl, .inl (.inl upd_same), rfl, _, _, rfl, _, _, rfl, rfl, ?_⟩
          refine ⟨fun σ' H' => σ' = [some (.ref j), some (.ref l), some (.int size), some (.ref zs[k].1), some (.ref fl), some (.int (i : Nat)), some (.ref mp), some (.ref u), y8, y9, y10, some (.int (k : Nat)), y12] ∧ H' = upd (upd H5 T (.tup [.int (k : Nat), .ref zs[k].1])) bs[k] (.lst (PnV (sc (G zs[k].2) (i : Nat) (X (cm zs[k].2 (i : Nat)))))), ?_, ?_⟩
          · refine ⟨.ref mp, rfl, .ref zs[k].1, rfl, .int (i : Nat), rfl, zs[k].1, PnV zs[k].2, ((i : Nat) : Int), .int (cm zs[k].2 (i : Nat)), rfl, rfl, SqT.of (e6 _ _ ht5), cm_at _ (by omega), mp, .int (X (cm zs[k].2 (i : Nat))), rfl, ?_, .ref fl, rfl, .int (k : Nat), rfl, fl, _, (k : Int), .ref bs[k], rfl, rfl, SqL.of (e6 _ _ cl5.l), atI_nat (by rw [List.getElem?_map, hb]; rfl), .int (i : Nat), rfl, bs[k], PnV (G zs[k].2), ((i : Nat) : Int), i, rfl, rfl, e6 _ _ hc5, Evl.ixN_nat (show i < 4 by omega), rfl, ?_⟩
            · rw [← hX1 _ hz]
              exact DGet.k (k := .inl _) (e6 _ _ hmp5)
            · rw [sc_set _ _ rfl (by omega)]
          rintro σ' H7 ⟨rfl, rfl⟩
          have hnb : ∀ {a : Addr}, a ∉ bs → a ≠ bs[k] := fun h e => h (e ▸ hbm)
          have e7 : ∀ (a : Addr) (o : HO), a ≠ bs[k] → H5 a = some o → upd (upd H5 T (.tup [.int (k : Nat), .ref zs[k].1])) bs[k] (.lst (PnV (sc (G zs[k].2) (i : Nat) (X (cm zs[k].2 (i : Nat)))))) a = some o := fun a o n h => by
            rw [upd_ne n]
            exact e6 _ _ h
          have cl6 : Cells (upd H5 T (.tup [.int (k : Nat), .ref zs[k].1])) fl bs ((zs.take k).map (fun z => mv (i : Nat) X z.2 (G z.2)) ++ (zs.drop k).map fun z => G z.2) := ⟨e6 _ _ cl5.l, cl5.nd, cl5.len, fun q b p hb hp => e6 _ _ (cl5.c q b p hb hp)⟩
          refine ⟨.ref mp, rfl, .ref zs[k].1, rfl, .int (i : Nat), rfl, ((i : Nat) : Int), 2, rfl, rfl, zs[k].1, PnV zs[k].2, ((i : Nat) : Int) + 2, .int (cm zs[k].2 ((i : Nat) + 2)), rfl, rfl, SqT.of (e7 _ _ (hnb (hin (hL.t _ hz))) ht5), cm_at _ (by omega), mp, .int (X (cm zs[k].2 ((i : Nat) + 2))), rfl, ?_, .ref fl, rfl, .int (k : Nat), rfl, fl, _, (k : Int), .ref bs[k], rfl, rfl, SqL.of (e7 _ _ (hnb fll) cl5.l), atI_nat (by rw [List.getElem?_map, hb]; rfl), .int (i : Nat), rfl, ((i : Nat) : Int), 2, rfl, rfl,
            bs[k], PnV (sc (G zs[k].2) (i : Nat) (X (cm zs[k].2 (i : Nat)))), ((i : Nat) : Int) + 2, i + 2, rfl, rfl, upd_same, ?_, some (.ref zs[k].1), some (.int (k : Nat)), rfl, ?_, ?_⟩
          · rw [← hX2 _ hz]
            exact DGet.k (k := .inl _) (e7 _ _ (hnb mpb) hmp5)
          · exact Evl.ixN_nat (show i + 2 < 4 by omega)
          · intro a o n h
            rw [upd_ne (hnb n)]
            exact e7 _ _ (hnb n) (k5 _ _ n h)
          · have z := cl6.put (p := mv (i : Nat) X zs[k].2 (G zs[k].2)) hb (hnb fll)
            have es : ((zs.take k).map (fun z => mv (i : Nat) X z.2 (G z.2)) ++ (zs.drop k).map fun z => G z.2).set k (mv (i : Nat) X zs[k].2 (G zs[k].2)) = (zs.take (k + 1)).map (fun z => mv (i : Nat) X z.2 (G z.2)) ++ (zs.drop (k + 1)).map fun z => G z.2 := by
              rw [List.set_append_right _ _ (by rw [List.length_map, List.length_take]; omega), List.length_map, List.length_take, Nat.min_eq_left (by omega), Nat.sub_self, List.drop_eq_getElem_cons hk', List.map_cons, List.set_cons_zero, List.take_succ_eq_append_getElem hk', List.map_append, List.append_assoc]
              rfl
            rw [es] at z
            rw [upd_upd, sc_set _ _ rfl (by omega)]
            exact z
        · rintro σ' H5 ⟨y3, y11, rfl, k5, cl5⟩
          rw [List.length_map, List.take_length, List.drop_length, List.map_nil, List.append_nil] at cl5
          refine ⟨y3, _, _, _, y8, y9, y10, y11, y12, fun p => mv (i : Nat) X p (G p), rfl, ?_, ?_, ?_, fun h => absurd h (by omega), fun h => ?_, fun h => ?_⟩
          · intro a o n h
            exact k5 _ _ (hin h) (k4 _ _ n (b2 _ _ n h))
          · obtain ⟨a, b, c, e, z1, z2, z3, z4⟩ := j4
            exact ⟨a, b, c, k5 _ _ jb e, z1, z2, z3, by omega⟩
          · rw [List.map_map]
            exact cl5
          · have e0 : i = 0 := by omega
            subst e0
            refine ⟨X, aft, ?_⟩
            rw [g0 rfl]
            rfl
          · have e1 : i = 1 := by omega
            subst e1
            obtain ⟨X0, a0, eG⟩ := g1' rfl
            refine ⟨X0, X, a0, aft, ?_⟩
            rw [eG]
            rfl
      · rintro σ' H2 ⟨y3, y5, y6, y7, y8, y9, y10, y11, y12, G, rfl, b2, j2, cl, g0, g1', g2'⟩
        obtain ⟨X, Y, a0, a1, rfl⟩ := g2' rfl
        obtain ⟨v, w⟩ := after_valid hg (by rw [List.length_map]; exact hlen) a0 a1
        exact ⟨y3, y5, y6, y7, y8, y9, y10, y11, y12, _, rfl, b2, j2.mono (by show _ + 3600 * 2 ≤ _; omega), cl, v, w⟩
    · rintro σ' H2 ⟨y3, y5, y6, y7, y8, y9, y10, y11, y12, ps', rfl, b2, j2, cl, hv, hlow⟩
      have l2 : ps'.length = zs.length := by
        rw [← cl.len]
        exact len
      unfold tRet
      refine ez_tups (K := K) cl (by omega) rfl (fun _ => rfl) (fun _ => rfl) H2 (Evl.Ex.refl _) _ fun p zs' H3 np e3 hl3 es => ?_
      refine q H3 p zs' (b2.same e3) (j2.same e3) (b2.none j2.some np) hl3 (by rw [es]; exact hv) (by rw [es]; exact hlow) ?_
      have := congrArg List.length es
      rw [List.length_map] at this
      omega
end
end GL
set_option Elab.async false
set_option linter.all false
/-! # the generators' contracts, their callees told by Cal -/
namespace GL
open PySem PySem.Spec PyProof.Rows L2 Geo Rel
section
variable {P : Program} {w : World} {K : PySem.W.Frag} {mg : Str → Option Value} {base : Heap}
theorem Cal.kd {x : Str} {l : Nat} {f : Addr} {fd : FuncData} {ps : List Str} {sp : Sp} (C : Cal P w K mg base x l f fd ps sp) : Kd K mg x f fd ps := ⟨C.g, C.k, C.b⟩
theorem ok_grownC {f f1 f2 f3 : Addr} {fd fd1 fd2 fd3 : FuncData} (F : Fun K "_law_grown" "_law_grown" sGrown f fd) (C__law_dip : Cal P w K mg base "_law_dip" 1 f1 fd1 ["jar", "many"] spDip) (C__law_border : Cal P w K mg base "_law_border" 1 f2 fd2 ["panes", "axis"] spBorder) (C__law_pushed : Cal P w K mg base "_law_pushed" 1 f3 fd3 ["panes", "entry"] spPushed) (m : BI mg) : FnOk P w K mg base CX0 2 f fd ["jar", "many"] spGrown := by
  exact ok_grown F C__law_dip.G C__law_dip.kd C__law_border.G C__law_border.kd C__law_pushed.G C__law_pushed.kd m
theorem ok_namedC {f f1 : Addr} {fd fd1 : FuncData} (F : Fun K "_law_named" "_law_named" sNamed f fd) (C__law_dip : Cal P w K mg base "_law_dip" 1 f1 fd1 ["jar", "many"] spDip) (m : BI mg) (mr : mg "range" = none) : FnOk P w K mg base CX0 2 f fd ["jar", "panes"] spNamed := by
  exact ok_named F C__law_dip.G C__law_dip.kd m mr
theorem ok_splitC {f f1 f2 : Addr} {fd fd1 fd2 : FuncData} (F : Fun K "_law_split" "_law_split" sSplit f fd) (C__law_dip : Cal P w K mg base "_law_dip" 1 f1 fd1 ["jar", "many"] spDip) (C__law_crossed : Cal P w K mg base "_law_crossed" 1 f2 fd2 ["panes"] spCrossed) (m : BI mg) (mr : mg "range" = none) : FnOk P w K mg base CX0 2 f fd ["jar", "panes", "turns"] spSplit := by
  exact ok_split F C__law_dip.G C__law_dip.kd C__law_crossed.G C__law_crossed.kd m mr
theorem ok_cutC {f f1 f2 : Addr} {fd fd1 fd2 : FuncData} (F : Fun K "_law_cut" "_law_cut" sCut f fd) (C__law_dip : Cal P w K mg base "_law_dip" 1 f1 fd1 ["jar", "many"] spDip) (C__law_split : Cal P w K mg base "_law_split" 2 f2 fd2 ["jar", "panes", "turns"] spSplit) : FnOk P w K mg base CX0 3 f fd ["jar", "turns", "size"] spCut := by
  exact ok_cut F C__law_dip.G C__law_dip.kd C__law_split.G C__law_split.kd
theorem ok_shakenC {f f1 : Addr} {fd fd1 : FuncData} (F : Fun K "_law_shaken" "_law_shaken" sShaken f fd) (C__law_dip : Cal P w K mg base "_law_dip" 1 f1 fd1 ["jar", "many"] spDip) (m : BI mg) (mr : mg "range" = none) (ms : mg "set" = none) : FnOk P w K mg base CX0 2 f fd ["jar", "panes", "size"] spShaken := by
  exact ok_shaken F C__law_dip.G C__law_dip.kd m mr ms
theorem ok_layoutC {f f1 f2 f3 f4 f5 : Addr} {fd fd1 fd2 fd3 fd4 fd5 : FuncData} (F : Fun K "_law_layout" "_law_layout" sLayout f fd) (C__law_dip : Cal P w K mg base "_law_dip" 1 f1 fd1 ["jar", "many"] spDip) (C__law_grown : Cal P w K mg base "_law_grown" 2 f2 fd2 ["jar", "many"] spGrown) (C__law_shaken : Cal P w K mg base "_law_shaken" 2 f3 fd3 ["jar", "panes", "size"] spShaken) (C__law_split : Cal P w K mg base "_law_split" 2 f4 fd4 ["jar", "panes", "turns"] spSplit) (C__law_named : Cal P w K mg base "_law_named" 2 f5 fd5 ["jar", "panes"] spNamed) (m : BI mg) (mi : mg "min" = none) : FnOk P w K mg base CX0 3 f fd ["jar", "most", "size"] spLayout := by
  exact ok_layout F C__law_dip.G C__law_dip.kd C__law_grown.G C__law_grown.kd C__law_shaken.G C__law_shaken.kd C__law_split.G C__law_split.kd C__law_named.G C__law_named.kd m mi
end
end GL
set_option Elab.async false
set_option linter.all false
set_option maxRecDepth 100000
set_option maxHeartbeats 1000000
/-! # k03's law -/
namespace GL
open PySem PySem.Spec PyProof.Rows L2 Geo Rel ItT Gd
structure CalG (P : Program) (w : World) (K : PySem.W.Frag) (mg : Str → Option Value) (base : Heap) (x : Str) (l : Nat) (f : Addr) (fd : FuncData) (ps : List Str) (sp : Sp) : Prop where
  G : Gd.FnG P w K mg base CX0 l f fd ps sp
  g : mg x = some (.ref f)
  k : PySem.W.keepIn K (.ref f) = true
  b : Binds K fd ps []
section
variable {P : Program} {w : World} {K : PySem.W.Frag} {mg : Str → Option Value} {base : Heap} {σ : L2.St} {H : Hp}
theorem lay_rl {l : Addr} {zs : List (Addr × Pn)} (h : Lay H l zs) : RL pnR H l (zs.map (·.2)) := by
  obtain ⟨h1, h2⟩ := h
  refine ⟨_, h1, ?_⟩
  clear h1
  induction zs with
  | nil => exact .nil
  | cons z zs ih => exact .cons ⟨z.1, rfl, h2 z List.mem_cons_self⟩ (ih fun y hy => h2 y (List.mem_cons_of_mem _ hy))
theorem jar_ex {H H' : Hp} {j : Addr} {m : Nat} (h : Jar H j m) (e : Evl.Ex H H') : Jar H' j m := by
  obtain ⟨a, b, c, h1, h2⟩ := h
  exact ⟨a, b, c, e _ _ h1, h2⟩
theorem sql_ex {H H' : Hp} {a : Addr} {xs : List V} (h : SqL K H a xs) (e : Evl.Ex H H') : SqL K H' a xs := by
  rcases h with (h | ⟨o, h⟩) | h
  · exact .inl (.inl (e _ _ h))
  · exact .inl (.inr ⟨o, e _ _ h⟩)
  · exact .inr h
theorem jar_le {H : Hp} {j : Addr} {m n : Nat} (h : Jar H j m) (l : m ≤ n) : Jar H j n := by
  obtain ⟨a, b, c, h1, h2, h3, h4, h5⟩ := h
  exact ⟨a, b, c, h1, h2, h3, h4, by omega⟩
theorem q_ifnot {G : Hp → Prop} {te : TE} {tu tz : TS} {D : Ends} (h : ∀ Q : VK, (∀ H1, G H1 → Q (.bl true) H1) → te σ H Q) (k : ∀ H1, G H1 → tz D σ H1) : tSeq (tIfS (tNot (tB te)) tu tNext) tz D σ H := h _ fun H1 g => ⟨true, rfl, k H1 g⟩
theorem s_ifnot {G : Hp → Prop} {te : TE} {tu : TS} {D : Ends} (h : ∀ Q : VK, (∀ H1, G H1 → Q (.bl true) H1) → te σ H Q) (k : ∀ H1, G H1 → D.nx σ H1) : tIfS (tNot (tB te)) tu tNext D σ H := h _ fun H1 g => ⟨true, rfl, k H1 g⟩
/-- [a, b, 10 ** n][_law_dip(jar, 3)] -/
theorem t_size {j : Addr} {m : Nat} {a b n : Int} {Q : VK} (h2 : σ[2]? = some (some (.ref j))) (hJ : Jar H j m) (hm : m + 1 ≤ 1000000) (hc : CPow 10 n) (k : ∀ s H', But j H H' → Jar H' j (m + 1) → (s = a ∨ s = b ∨ s = 10 ^ n.toNat) → Q (.int s) H') :
    tOp (rIxL K) (tLst (tCons (tC (.int a)) (tCons (tC (.int b)) (tCons (tOp (rI CPow fun i j => .int (i ^ j.toNat)) (tC (.int 10)) (tC (.int n))) tNil)))) (tCall spDip [] E0 (tCons (tVar 2) (tCons (tC (.int 3)) tNil))) σ H Q := by
  refine ⟨10, n, rfl, rfl, hc, (show 3 ≤ sizeLine by decide), fun p np => ⟨.ref j, h2, j, 3, m, rfl, by decide, by decide, jar_ex hJ (Evl.Ex.new np), by omega, fun H' r h0 h1 bt jr => ?_⟩⟩
  have pj : p ≠ j := fun e => by
    obtain ⟨_, _, _, h, _⟩ := hJ
    rw [e, h] at np
    cases np
  have hp : H' p = some (.lst [.int a, .int b, .int (10 ^ n.toNat)]) := bt _ _ pj upd_same
  have b2 : But j H H' := fun c o hc he => bt _ _ hc (Evl.Ex.new np _ _ he)
  have hr : r = 0 ∨ r = 1 ∨ r = 2 := by omega
  rcases hr with rfl | rfl | rfl
  · exact ⟨p, _, _, _, rfl, rfl, SqL.of hp, rfl, k _ _ b2 jr (.inl rfl)⟩
  · exact ⟨p, _, _, _, rfl, rfl, SqL.of hp, rfl, k _ _ b2 jr (.inr (.inl rfl))⟩
  · exact ⟨p, _, _, _, rfl, rfl, SqL.of hp, rfl, k _ _ b2 jr (.inr (.inr rfl))⟩
theorem q_asgJar {i : Nat} {a : Addr} {ns : List Int} {ka : Int} {ta : TA} {D : Ends} {tz : TS} (h : Evl.EvA ta σ H [.ref a, .int ka]) (hS : SqL K H a (ns.map V.int)) (hn : ns.length ≤ 63) (hk : 0 ≤ ka ∧ ka ≤ 1000) (k : ∀ j H1, Evl.Ex H H1 → H j = none → Jar H1 j 0 → tz D (σ.set i (some (.ref j))) H1) : tSeq (tAsg (tCall (spJar K) [] E0 ta) (gName i)) tz D σ H :=
  h H (Evl.Ex.refl H) _ fun H1 e1 => ⟨a, ns, ka, rfl, sql_ex hS e1, hn, hk.1, hk.2, fun H2 j e2 nj hJ => k j H2 (e1.trans e2) (Evl.fresh_back e1 nj) hJ⟩
abbrev tSz (K : PySem.W.Frag) (a b n : Int) : TE := tOp (rIxL K) (tLst (tCons (tC (.int a)) (tCons (tC (.int b)) (tCons (tOp (rI CPow fun i j => .int (i ^ j.toNat)) (tC (.int 10)) (tC (.int n))) tNil)))) (tCall spDip [] E0 (tCons (tVar 2) (tCons (tC (.int 3)) tNil)))
theorem t_lay {j : Addr} {m : Nat} (h2 : σ[2]? = some (some (.ref j))) (hJ : Jar H j m) (hm : m + 10001 ≤ 1000000) (Q : VK) (k : ∀ H1, (But1 j H H1 ∧ Jar H1 j (m + 10001)) → Q (.bl true) H1) :
    tCall spRight [] E0 (tCons (tCall spLayout [] E0 (tCons (tVar 2) (tCons (tC (.int 20)) (tCons (tSz K 2 9 27) tNil)))) tNil) σ H Q :=
  ⟨.ref j, h2, t_size h2 hJ (by omega) (by unfold CPow; decide) fun s H1 b1 j1 hs => ⟨j, 20, m + 1, s, rfl, j1, by decide, by decide, by rcases hs with rfl | rfl | rfl <;> decide, by rcases hs with rfl | rfl | rfl <;> decide +kernel, by omega, fun H2 l' zs' b2 j2 nl lay v low l1 l2 => ⟨l', zs'.map (fun z : Addr × Pn => z.2), rfl, lay_rl lay, v, (fun p hp => low p hp), fun H3 e3 => k H3 ⟨But1.tr b1 (But1.tr b2 (But1.of e3)), jar_le (jar_ex j2 e3) (by omega)⟩⟩⟩⟩
theorem t_cut {j : Addr} {m : Nat} (h2 : σ[2]? = some (some (.ref j))) (hJ : Jar H j m) (hm : m + 201 ≤ 1000000) (Q : VK) (k : ∀ H1, (But1 j H H1 ∧ Jar H1 j (m + 201)) → Q (.bl true) H1) :
    tCall spRight [] E0 (tCons (tCall spCut [] E0 (tCons (tVar 2) (tCons (tC (.int 20)) (tCons (tSz K 4 12 28) tNil)))) tNil) σ H Q :=
  ⟨.ref j, h2, t_size h2 hJ (by omega) (by unfold CPow; decide) fun s H1 b1 j1 hs => ⟨j, 20, m + 1, s, rfl, j1, by decide, by rcases hs with rfl | rfl | rfl <;> decide, by rcases hs with rfl | rfl | rfl <;> decide +kernel, by omega, fun H2 l' zs' b2 j2 nl lay v low l1 l2 => ⟨l', zs'.map (fun z : Addr × Pn => z.2), rfl, lay_rl lay, v, (fun p hp => low p hp), fun H3 e3 => k H3 ⟨But1.tr b1 (But1.tr b2 (But1.of e3)), jar_le (jar_ex j2 e3) (by omega)⟩⟩⟩⟩
def EvARL {α : Type} (ta : TA) (σ : L2.St) (H : Hp) (R : α → V → Hp → Prop) (zs : List α) : Prop := ∀ H1, Evl.Ex H H1 → ∀ Q : List V → Hp → Prop, (∀ vs H2, Evl.Ex H1 H2 → Paired (fun y z => R z y H2) vs zs → Q vs H2) → ta σ H1 Q
theorem earl_nil {α : Type} {R : α → V → Hp → Prop} : EvARL tNil σ H R ([] : List α) := fun H1 _ Q q => q [] H1 (Evl.Ex.refl _) .nil
theorem earl_tup {α : Type} {g : α → List Int} {z : α} {zs : List α} {ta tr : TA} (h : Evl.EvA ta σ H ((g z).map V.int)) (hl : (g z).length ≤ 1000) (t : EvARL tr σ H (fun z => tupI (g z)) zs) : EvARL (tCons (tTup ta) tr) σ H (fun z => tupI (g z)) (z :: zs) := fun H1 e Q q =>
  Evl.eu_tup h (by rw [List.length_map]; omega) H1 e (fun v H2 => tr σ H2 fun vs H3 => Q (v :: vs) H3) fun p H2 np e2 hp => t H2 (e.trans e2) _ fun vs H3 e3 hv => q (.ref p :: vs) H3 (e2.trans e3) (.cons ⟨p, rfl, e3 _ _ hp⟩ hv)
theorem er_lstL {α : Type} {g : α → List Int} {zs : List α} {ta : TA} (h : EvARL ta σ H (fun z => tupI (g z)) zs) (hz : zs.length ≤ 100000) : EvRL (tLst ta) σ H (fun z => tupI (g z)) zs := fun H1 e Q q =>
  h H1 e (fun xs H2 => xs.length ≤ sizeLine ∧ ∀ p, H2 p = none → Q (.ref p) (upd H2 p (.lst xs))) fun vs H2 e2 hp => ⟨by have := pr_len hp; unfold sizeLine; omega, fun p np => q p _ (Evl.fresh_back e2 np) (e2.trans (Evl.Ex.new np)) ⟨vs, upd_same, pr_e (fun z => tupI_e (g z)) (Evl.Ex.new np) hp⟩⟩
theorem ev_eqRN {α : Type} [DecidableEq α] {R : α → V → Hp → Prop} {d : α → PyData} {n : Nat} (D : Dat R d n) (hn : n + 1 ≤ 64) (m : MonoE R) {ta tb : TE} {zs ws : List α} (ha : EvRL ta σ H R zs) (hb : EvRL tb σ H R ws) : Evl.Ev (tOp (rEqD K) ta tb) σ H (.bl (decide (zs = ws))) := fun H1 e Q q =>
  ha H1 e _ fun p H2 np e2 hp => hb H2 (e.trans e2) _ fun p' H3 np' e3 hp' => D.list.rv_eq hn (rlR_e m) ⟨p, rfl, hp.ex m e3⟩ ⟨p', rfl, hp'⟩ H3 (Evl.Ex.refl _) Q fun H4 e4 => q H4 (e2.trans (e3.trans e4))
def wheelP : List Pn := [⟨0, 0, 2, 1⟩, ⟨2, 0, 3, 2⟩, ⟨1, 2, 3, 3⟩, ⟨0, 1, 1, 3⟩, ⟨1, 1, 2, 2⟩]
def wheelD : List (Nat × Nat) := [(0, 1), (0, 3), (0, 4), (1, 2), (1, 4), (2, 3), (2, 4), (3, 4)]
theorem wheel_due : dueF wheelP = wheelD := by decide +kernel
instance (p q : Pn) : Decidable (Ov p q) := by unfold Ov; infer_instance
theorem wheel_valid : Valid wheelP := by
  refine ⟨by decide, by decide, by decide, ⟨3, 3, by decide, by decide, by decide, by decide⟩, fun x y => ?_⟩
  by_cases hx : 0 ≤ x ∧ x ≤ 3
  · by_cases hy : 0 ≤ y ∧ y ≤ 3
    · have ex : x = 0 ∨ x = 1 ∨ x = 2 ∨ x = 3 := by omega
      have ey : y = 0 ∨ y = 1 ∨ y = 2 ∨ y = 3 := by omega
      rcases ex with rfl | rfl | rfl | rfl <;> rcases ey with rfl | rfl | rfl | rfl <;> decide
    · have : wheelP.countP (Cor x y) = 0 := List.countP_eq_zero.mpr fun p hp h => by
        have b : ∀ p ∈ wheelP, 0 ≤ p.y0 ∧ p.y0 ≤ 3 ∧ 0 ≤ p.y1 ∧ p.y1 ≤ 3 := by decide
        have := b p hp
        unfold Cor at h
        simp at h
        omega
      omega
  · have : wheelP.countP (Cor x y) = 0 := List.countP_eq_zero.mpr fun p hp h => by
      have b : ∀ p ∈ wheelP, 0 ≤ p.x0 ∧ p.x0 ≤ 3 ∧ 0 ≤ p.x1 ∧ p.x1 ≤ 3 := by decide
      have := b p hp
      unfold Cor at h
      simp at h
      omega
    omega
def oneP : List Pn := [⟨0, 0, 5, 5⟩]
theorem one_due : dueF oneP = [] := by decide +kernel
theorem one_valid : Valid oneP := by
  refine ⟨by decide, by decide, by decide, ⟨5, 5, by decide, by decide, by decide, by decide⟩, fun x y => ?_⟩
  exact Nat.le_trans (List.countP_le_length) (by decide)
def spLaw03 (K : PySem.W.Frag) : Sp := fun vs H Q _ => ∃ (a : Addr) (ns : List Int), vs = [.ref a] ∧ SqL K H a (ns.map V.int) ∧ ns.length ≤ 63 ∧ (∀ H', Evl.Ex H H' → Q (.bl true) H')
theorem ok_law03 {f f1 f2 f3 f4 f5 f6 f7 f8 f9 : Addr} {fd fd1 fd2 fd3 fd4 fd5 fd6 fd7 fd8 fd9 : FuncData} (F : Fun K "law" "law" s_law f fd) (B : BRL mg) (C__law_jar : Cal P w K mg base "_law_jar" 1 f1 fd1 ["script", "k"] (spJar K)) (C__law_dip : Cal P w K mg base "_law_dip" 1 f2 fd2 ["jar", "many"] spDip) (C__law_layout : Cal P w K mg base "_law_layout" 3 f3 fd3 ["jar", "most", "size"] spLayout) (C__law_cut : Cal P w K mg base "_law_cut" 3 f4 fd4 ["jar", "turns", "size"] spCut) (C__law_named : Cal P w K mg base "_law_named" 2 f5 fd5 ["jar", "panes"] spNamed) (C__law_shaken : Cal P w K mg base "_law_shaken" 2 f6 fd6 ["jar", "panes", "size"] spShaken) (C__law_grown : Cal P w K mg base "_law_grown" 2 f7 fd7 ["jar", "many"] spGrown) (C__law_right : CalG P w K mg base "_law_right" 6 f8 fd8 ["panes"] spRight) (C_touching_pairs : Cal P w K mg base "touching_pairs" 5 f9 fd9 ["layout"] spTouchingP) : Gd.FnG P w K mg base CX0 7 f fd ["script"] (spLaw03 K) := by
  refine Gd.fun_g F sc_law (fun vs H Q E h => ?_) (fun cdv A outer s H vs Q E hc hr h => ?_)
  · obtain ⟨x, p, rfl, _⟩ := h
    rfl
  · obtain ⟨a, ns, rfl, hS, hn, q⟩ := h
    refine ⟨_, (pss_cons (ps_for PassesOwn.never rfl (pi_range1 (by rfl) B.range_ (pa_cons (pe_callB (call_max2 rfl) (by rfl) B.max_ (by decide +kernel) (pa_cons pe_int (pa_cons (pe_callB (call_min2 rfl) (by rfl) B.min_ (by decide +kernel) (pa_cons pe_int (pa_cons (pe_callB (lenK (K := K) rfl) (by rfl) B.len_ (by decide +kernel) (pa_cons (pv 0) pa_nil)) pa_nil))) pa_nil))) pa_nil)) (pg_name (i := 1) sc_law.nd rfl (Or.inl rfl)) (pss_cons (ps_set (i := 2) sc_law.nd rfl (.inl rfl) (pe_call C__law_jar.G (hr.mono (by decide)) (by rfl) C__law_jar.g C__law_jar.k C__law_jar.b .nil pass0 (by exact (pa_cons (pv 0) (pa_cons (pv 1) pa_nil)))))
      (pss_one (ps_for PassesOwn.never rfl (pi_range1 (by rfl) B.range_ (pa_cons pe_int pa_nil)) (pg_name (i := 3) sc_law.nd rfl (Or.inl rfl)) (pss_cons (ps_if (pt_not (pt_val (pe_callG C__law_right.G hc (hr.mono (by decide)) (by rfl) C__law_right.g C__law_right.k C__law_right.b .nil pass0 (by exact (pa_cons (pe_call C__law_layout.G (hr.mono (by decide)) (by rfl) C__law_layout.g C__law_layout.k C__law_layout.b .nil pass0 (by exact (pa_cons (pv 2) (pa_cons pe_int (pa_cons (pe_ix (ixLK (K := K) rfl) (pe_lst (pa_cons pe_int (pa_cons pe_int (pa_cons (pe_op op_pow pe_int pe_int) pa_nil)))) (pe_call C__law_dip.G (hr.mono (by decide)) (by rfl) C__law_dip.g C__law_dip.k C__law_dip.b .nil pass0 (by exact (pa_cons (pv 2) (pa_cons pe_int pa_nil)))) (fun _ _ => rfl)) pa_nil))))) pa_nil))))) (pss_one (ps_ret pe_bl)) pss_nil)
      (pss_one (ps_if (pt_not (pt_val (pe_callG C__law_right.G hc (hr.mono (by decide)) (by rfl) C__law_right.g C__law_right.k C__law_right.b .nil pass0 (by exact (pa_cons (pe_call C__law_cut.G (hr.mono (by decide)) (by rfl) C__law_cut.g C__law_cut.k C__law_cut.b .nil pass0 (by exact (pa_cons (pv 2) (pa_cons pe_int (pa_cons (pe_ix (ixLK (K := K) rfl) (pe_lst (pa_cons pe_int (pa_cons pe_int (pa_cons (pe_op op_pow pe_int pe_int) pa_nil)))) (pe_call C__law_dip.G (hr.mono (by decide)) (by rfl) C__law_dip.g C__law_dip.k C__law_dip.b .nil pass0 (by exact (pa_cons (pv 2) (pa_cons pe_int pa_nil)))) (fun _ _ => rfl)) pa_nil))))) pa_nil))))) (pss_one (ps_ret pe_bl)) pss_nil)))))))
      (pss_cons (ps_set (i := 2) sc_law.nd rfl (.inl rfl) (pe_call C__law_jar.G (hr.mono (by decide)) (by rfl) C__law_jar.g C__law_jar.k C__law_jar.b .nil pass0 (by exact (pa_cons (pv 0) (pa_cons pe_int pa_nil)))))
      (pss_cons (ps_if (pt_not (pt_val (pe_callG C__law_right.G hc (hr.mono (by decide)) (by rfl) C__law_right.g C__law_right.k C__law_right.b .nil pass0 (by exact (pa_cons (pe_ix (ixTK (K := K) rfl) (pe_call C__law_named.G (hr.mono (by decide)) (by rfl) C__law_named.g C__law_named.k C__law_named.b .nil pass0 (by exact (pa_cons (pv 2) (pa_cons (pe_call C__law_shaken.G (hr.mono (by decide)) (by rfl) C__law_shaken.g C__law_shaken.k C__law_shaken.b .nil pass0 (by exact (pa_cons (pv 2) (pa_cons (pe_ix (ixTK (K := K) rfl) (pe_call C__law_grown.G (hr.mono (by decide)) (by rfl) C__law_grown.g C__law_grown.k C__law_grown.b .nil pass0 (by exact (pa_cons (pv 2) (pa_cons pe_int pa_nil)))) pe_int (fun _ _ => rfl)) (pa_cons (pe_op op_pow pe_int pe_int) pa_nil))))) pa_nil)))) pe_int (fun _ _ => rfl)) pa_nil))))) (pss_one (ps_ret pe_bl)) pss_nil)
      (pss_cons (ps_set (i := 4) sc_law.nd rfl (.inl rfl) (pe_lst (pa_cons (pe_tup (pa_cons pe_int (pa_cons pe_int (pa_cons pe_int (pa_cons pe_int pa_nil))))) (pa_cons (pe_tup (pa_cons pe_int (pa_cons pe_int (pa_cons pe_int (pa_cons pe_int pa_nil))))) (pa_cons (pe_tup (pa_cons pe_int (pa_cons pe_int (pa_cons pe_int (pa_cons pe_int pa_nil))))) (pa_cons (pe_tup (pa_cons pe_int (pa_cons pe_int (pa_cons pe_int (pa_cons pe_int pa_nil))))) (pa_cons (pe_tup (pa_cons pe_int (pa_cons pe_int (pa_cons pe_int (pa_cons pe_int pa_nil))))) pa_nil)))))))
      (pss_cons (ps_set (i := 5) sc_law.nd rfl (.inl rfl) (pe_lst (pa_cons (pe_tup (pa_cons pe_int (pa_cons pe_int pa_nil))) (pa_cons (pe_tup (pa_cons pe_int (pa_cons pe_int pa_nil))) (pa_cons (pe_tup (pa_cons pe_int (pa_cons pe_int pa_nil))) (pa_cons (pe_tup (pa_cons pe_int (pa_cons pe_int pa_nil))) (pa_cons (pe_tup (pa_cons pe_int (pa_cons pe_int pa_nil))) (pa_cons (pe_tup (pa_cons pe_int (pa_cons pe_int pa_nil))) (pa_cons (pe_tup (pa_cons pe_int (pa_cons pe_int pa_nil))) (pa_cons (pe_tup (pa_cons pe_int (pa_cons pe_int pa_nil))) pa_nil))))))))))
      (pss_one (ps_ret (pe_and (pe_cmpR (op_eqD hr.units) (pe_call C_touching_pairs.G (hr.mono (by decide)) (by rfl) C_touching_pairs.g C_touching_pairs.k C_touching_pairs.b .nil pass0 (by exact (pa_cons (pv 4) pa_nil))) (pv 5) (nomark _)) (pe_one (pe_cmpR (op_eqD hr.units) (pe_call C_touching_pairs.G (hr.mono (by decide)) (by rfl) C_touching_pairs.g C_touching_pairs.k C_touching_pairs.b .nil pass0 (by exact (pa_cons (pe_lst (pa_cons (pe_tup (pa_cons pe_int (pa_cons pe_int (pa_cons pe_int (pa_cons pe_int pa_nil))))) pa_nil)) pa_nil))) (pe_lst pa_nil) (nomark _))))))))))), ?_⟩
    have hnk : ∃ nk : Nat, (nk : Int) = (if (if ((ns.length : Nat) : Int) < 5 then ((ns.length : Nat) : Int) else 5) > 1 then (if ((ns.length : Nat) : Int) < 5 then ((ns.length : Nat) : Int) else 5) else 1) ∧ nk ≤ 5 := by
      refine ⟨((if (if ((ns.length : Nat) : Int) < 5 then ((ns.length : Nat) : Int) else 5) > 1 then (if ((ns.length : Nat) : Int) < 5 then ((ns.length : Nat) : Int) else 5) else 1)).toNat, ?_, ?_⟩ <;> split <;> (try split) <;> omega
    obtain ⟨nk, hnk, lk⟩ := hnk
    have lenS : ((ns.map V.int).length : Int) = (ns.length : Int) := by rw [List.length_map]
    refine Evl.q_forR1 (n := (nk : Int)) (Evl.ea_cons (Evl.ev_is (ev_mx2L Evl.ev_c (ev_mn2L Evl.ev_c (ev_lenS (xs := ns.map V.int) rfl fun H1 e1 => .inl (sql_ex hS e1)))) (by rw [lenS, hnk])) Evl.ea_nil) (by omega) (fun k σ' H' => ∃ o1 o2 o3, σ' = [some (.ref a), o1, o2, o3, none, none] ∧ Evl.Ex H H') (fun H1 e1 => ⟨none, none, none, rfl, e1⟩) ?_ ?_
    · rintro k σ' H' hk ⟨o1, o2, o3, rfl, e1⟩
      refine q_asgJar (Evl.ea_cons (Evl.ev_var rfl) (Evl.ea_cons (Evl.ev_var rfl) Evl.ea_nil)) (sql_ex hS e1) hn (by omega) fun j H1 e2 nj hJ => ?_
      refine Evl.s_forR1 (n := 4) (Evl.ea_cons Evl.ev_c Evl.ea_nil) (by decide) (fun t σ' H2 => ∃ o3, σ' = [some (.ref a), some (.int (k : Int)), some (.ref j), o3, none, none] ∧ But1 j H1 H2 ∧ Jar H2 j (t * 10202)) (fun H2 e3 => ⟨_, rfl, But1.of e3, jar_ex hJ e3⟩) ?_ ?_
      · rintro t σ' H2 ht ⟨o3', rfl, b2, j2⟩
        refine q_ifnot (t_lay rfl j2 (by omega)) fun H3 ⟨b3, j3⟩ => ?_
        refine s_ifnot (t_cut rfl j3 (by omega)) fun H4 ⟨b4, j4⟩ => ?_
        exact ⟨_, rfl, b2.tr (b3.tr b4), jar_le j4 (by omega)⟩
      · rintro σ' H2 ⟨o3', rfl, b2, j2⟩
        exact ⟨_, _, _, rfl, But1.ex (Evl.fresh_back e1 nj) (e1.trans e2) b2⟩
    · rintro σ' H' ⟨o1, o2, o3, rfl, e1⟩
      refine q_asgJar (Evl.ea_cons (Evl.ev_var rfl) (Evl.ea_cons Evl.ev_c Evl.ea_nil)) (sql_ex hS e1) hn (by decide) fun j H1 e2 nj hJ => ?_
      refine q_ifnot (G := fun H2 => Evl.Ex H H2) (fun Q' kQ => ?_) fun H2 e3 => ?_
      · refine ⟨.ref j, rfl, .ref j, rfl, .ref j, rfl, j, 60, 0, rfl, by decide, by decide, hJ, by decide, fun H2 t l le zs es A B b2 j2 nt nl ht hle lay lz gr => ⟨t, _, 0, .ref l, rfl, rfl, SqT.of ht, rfl, 10, 27, rfl, rfl, by unfold CPow; decide, j, l, zs, 10 ^ 27, _, A, B, rfl, j2, lay, ?_, by omega, gr, by decide, by decide +kernel, by decide, fun H3 l2 zs2 b3 j3 n3 lay3 v3 low3 len3 => ⟨j, l2, zs2, _, rfl, j3, lay3, ?_, by omega, by omega, fun H4 t4 l4 lf4 ns4 b4 j4 nt4 nl4 ht4 hlf4 perm4 lay4 => ⟨t4, _, 0, .ref l4, rfl, rfl, SqT.of ht4, rfl, l4, _, rfl, lay_rl lay4, ?_, ?_, fun H5 e5 => kQ H5 ?_⟩⟩⟩⟩
        · intro z
          rw [z] at lz
          simp at lz
        · intro z
          rw [z] at len3
          simp at len3
          rw [← len3] at lz
          simp at lz
        · exact v3.perm ((picked_perm (zs := zs2) perm4).map (fun z : Addr × Pn => z.2)).symm
        · exact fun p hp => low3 p (((picked_perm (zs := zs2) perm4).map (fun z : Addr × Pn => z.2)).mem_iff.mp hp)
        · have b24 : But1 j H1 H4 := But1.tr b2 (But1.tr b3 b4)
          exact (But1.ex (Evl.fresh_back e1 nj) (e1.trans e2) b24).trans e5
      · have hσ : List.set ([some (.ref a), o1, o2, o3, none, none] : L2.St) 2 (some (V.ref j)) = [some (.ref a), o1, some (.ref j), o3, none, none] := rfl
        rw [hσ]
        refine q_asgRL (R := fun p => tupI (pnL p)) (zs := wheelP) (er_lstL (earl_tup (z := (⟨0, 0, 2, 1⟩ : Pn)) (Evl.ea_cons Evl.ev_c (Evl.ea_cons Evl.ev_c (Evl.ea_cons Evl.ev_c (Evl.ea_cons Evl.ev_c Evl.ea_nil)))) (show 4 ≤ 1000 by decide) (earl_tup (z := (⟨2, 0, 3, 2⟩ : Pn)) (Evl.ea_cons Evl.ev_c (Evl.ea_cons Evl.ev_c (Evl.ea_cons Evl.ev_c (Evl.ea_cons Evl.ev_c Evl.ea_nil)))) (show 4 ≤ 1000 by decide) (earl_tup (z := (⟨1, 2, 3, 3⟩ : Pn)) (Evl.ea_cons Evl.ev_c (Evl.ea_cons Evl.ev_c (Evl.ea_cons Evl.ev_c (Evl.ea_cons Evl.ev_c Evl.ea_nil)))) (show 4 ≤ 1000 by decide) (earl_tup (z := (⟨0, 1, 1, 3⟩ : Pn)) (Evl.ea_cons Evl.ev_c (Evl.ea_cons Evl.ev_c (Evl.ea_cons Evl.ev_c (Evl.ea_cons Evl.ev_c Evl.ea_nil)))) (show 4 ≤ 1000 by decide) (earl_tup (z := (⟨1, 1, 2, 2⟩ : Pn)) (Evl.ea_cons Evl.ev_c (Evl.ea_cons Evl.ev_c (Evl.ea_cons Evl.ev_c (Evl.ea_cons Evl.ev_c Evl.ea_nil)))) (show 4 ≤ 1000 by decide) earl_nil))))) (by decide)) fun lw H3 n3 e4 hw => ?_
        refine q_asgRL (R := fun z => tupI (prN z)) (zs := wheelD) (er_lstL (earl_tup (z := ((0, 1) : Nat × Nat)) (Evl.ea_cons Evl.ev_c (Evl.ea_cons Evl.ev_c Evl.ea_nil)) (show 2 ≤ 1000 by decide) (earl_tup (z := ((0, 3) : Nat × Nat)) (Evl.ea_cons Evl.ev_c (Evl.ea_cons Evl.ev_c Evl.ea_nil)) (show 2 ≤ 1000 by decide) (earl_tup (z := ((0, 4) : Nat × Nat)) (Evl.ea_cons Evl.ev_c (Evl.ea_cons Evl.ev_c Evl.ea_nil)) (show 2 ≤ 1000 by decide) (earl_tup (z := ((1, 2) : Nat × Nat)) (Evl.ea_cons Evl.ev_c (Evl.ea_cons Evl.ev_c Evl.ea_nil)) (show 2 ≤ 1000 by decide) (earl_tup (z := ((1, 4) : Nat × Nat)) (Evl.ea_cons Evl.ev_c (Evl.ea_cons Evl.ev_c Evl.ea_nil)) (show 2 ≤ 1000 by decide) (earl_tup (z := ((2, 3) : Nat × Nat)) (Evl.ea_cons Evl.ev_c (Evl.ea_cons Evl.ev_c Evl.ea_nil)) (show 2 ≤ 1000 by decide) (earl_tup (z := ((2, 4) : Nat × Nat)) (Evl.ea_cons Evl.ev_c (Evl.ea_cons Evl.ev_c Evl.ea_nil)) (show 2 ≤ 1000 by decide) (earl_tup (z := ((3, 4) : Nat × Nat)) (Evl.ea_cons Evl.ev_c (Evl.ea_cons Evl.ev_c Evl.ea_nil)) (show 2 ≤ 1000 by decide) earl_nil)))))))) (by decide)) fun ld H4 n4 e5 hd => ?_
        have hw4 : RL pnR H4 lw wheelP := hw.ex (fun p => tupI_e (pnL p)) e5
        refine Evl.s_ret (v := .bl true) (Evl.ev_is (Evl.ev_andV (a := true) (b := true) (Evl.ev_is (ev_eqRV datPr (by decide) (fun z => tupI_e (prN z)) (zs := wheelD) (ws := wheelD) (er_callL (vs := [.ref lw]) (Evl.ea_cons (Evl.ev_var rfl) Evl.ea_nil) fun H6 e6 Q q2 E => ⟨lw, wheelP, rfl, hw4.ex pnR_e e6, wheel_valid, fun H7 S7 e7 n7 h7 => q2 S7 H7 n7 e7 (wheel_due ▸ h7)⟩) rfl hd) (by simp)) fun _ => Evl.ev_is (ev_eqRN datPr (by decide) (fun z => tupI_e (prN z)) (zs := []) (ws := []) (fun H6 e6 Q q2 => ?_) (er_lstL earl_nil (by decide))) (by simp)) rfl) fun H6 e6 => q H6 ((e3.trans (e4.trans e5)).trans e6)
        exact er_lstL (g := pnL) (zs := oneP) (earl_tup (z := (⟨0, 0, 5, 5⟩ : Pn)) (Evl.ea_cons Evl.ev_c (Evl.ea_cons Evl.ev_c (Evl.ea_cons Evl.ev_c (Evl.ea_cons Evl.ev_c Evl.ea_nil)))) (show 4 ≤ 1000 by decide) earl_nil) (by decide) H6 e6 (fun v H7 => spTouchingP ([v] ++ []) H7 Q E0) fun p H7 n7 e7 h7 => ⟨p, oneP, rfl, h7, one_valid, fun H8 S8 e8 n8 h8 => q2 S8 H8 (Evl.fresh_back e7 n8) (e7.trans e8) (one_due ▸ h8)⟩
end
end GL
set_option Elab.async false
set_option linter.all false
set_option maxRecDepth 100000
set_option maxHeartbeats 0
/-! # the end -/
namespace HdZ
open PySem PySem.Spec PyProof.Rows L2 GL GxR
theorem fn_weak {P : Program} {w : World} {K : PySem.W.Frag} {mg : Str → Option Value} {base : Heap} {CX : CXT} {k : Nat} {f : Addr} {fd : FuncData} {ps : List Str} {sp sp' : Sp} (F : FnOk P w K mg base CX k f fd ps sp) (h : ∀ vs H Q E, sp' vs H Q E → sp vs H Q E) : FnOk P w K mg base CX k f fd ps sp' :=
  ⟨fun vs H Q E z => F.len _ _ _ _ (h vs H Q E z), fun A outer s H args us vs Q E hr e0 hb r z => F.run A outer s H args us vs Q E hr e0 hb r (h vs H Q E z)⟩
theorem facts {P : Program} {w : World} {K : PySem.W.Frag} {h : Heap} {mg : Str → Option Value} {f : Addr} (X : K.In h) (G : h.Ns mainGlobals mg) (hfa : mg ("law" : Str) = some (.ref f)) (c : He.SaysX fa fn [] tf ex w h K) : ∃ fd : FuncData, (∀ (s : Shared) (v : Value), BindsTo s fd ⟨[v], []⟩ [("script", v)]) ∧
    ∀ base : Heap, K.In base → base.Ns mainGlobals mg → (∀ p ∈ tf.map (He.cT K), TabB base mg p.1 p.2) → Gd.FnG P w K mg base CX0 7 f fd ["script"] (spLaw03 K) := by
  have D := c.t.d
  have mem : ∀ {x : He.Fa}, x ∈ fa → x.ok K = true := fun h => He.SaysD.facts D h
  obtain ⟨fd_is_layout, F_is_layout⟩ := D.def_ 0 (d := d_is_layout) rfl
  have g_is_layout := He.glo_ok X G (x := "is_layout") (D.fact 0 rfl)
  have Fu_is_layout := fun_of (st := s_is_layout) F_is_layout
  have b_is_layout : Binds K fd_is_layout ["thing"] [] := FunD.bindsN F_is_layout fun _ _ _ _ _ _ us hl => match us, hl with | [_], _ => rfl
  obtain ⟨fd_touching_pairs, F_touching_pairs⟩ := D.def_ 1 (d := d_touching_pairs) rfl
  have g_touching_pairs := He.glo_ok X G (x := "touching_pairs") (D.fact 1 rfl)
  have Fu_touching_pairs := fun_of (st := s_touching_pairs) F_touching_pairs
  have b_touching_pairs : Binds K fd_touching_pairs ["layout"] [] := FunD.bindsN F_touching_pairs fun _ _ _ _ _ _ us hl => match us, hl with | [_], _ => rfl
  obtain ⟨fd_check_layout, F_check_layout⟩ := D.def_ 2 (d := d_check_layout) rfl
  have g_check_layout := He.glo_ok X G (x := "check_layout") (D.fact 2 rfl)
  have Fu_check_layout := fun_of (st := s_check_layout) F_check_layout
  have b_check_layout : Binds K fd_check_layout ["layout"] [] := FunD.bindsN F_check_layout fun _ _ _ _ _ _ us hl => match us, hl with | [_], _ => rfl
  obtain ⟨fd_is_list_of_items, F_is_list_of_items⟩ := D.def_ 3 (d := d_is_list_of_items) rfl
  have g_is_list_of_items := He.glo_ok X G (x := "is_list_of_items") (D.fact 3 rfl)
  have Fu_is_list_of_items := fun_of (st := s_is_list_of_items) F_is_list_of_items
  have b_is_list_of_items : Binds K fd_is_list_of_items ["thing"] [] := FunD.bindsN F_is_list_of_items fun _ _ _ _ _ _ us hl => match us, hl with | [_], _ => rfl
  obtain ⟨fd_is_pane, F_is_pane⟩ := D.def_ 4 (d := d_is_pane) rfl
  have g_is_pane := He.glo_ok X G (x := "is_pane") (D.fact 4 rfl)
  have Fu_is_pane := fun_of (st := s_is_pane) F_is_pane
  have b_is_pane : Binds K fd_is_pane ["thing"] [] := FunD.bindsN F_is_pane fun _ _ _ _ _ _ us hl => match us, hl with | [_], _ => rfl
  obtain ⟨fd_tiles_desk, F_tiles_desk⟩ := D.def_ 5 (d := d_tiles_desk) rfl
  have g_tiles_desk := He.glo_ok X G (x := "tiles_desk") (D.fact 5 rfl)
  have Fu_tiles_desk := fun_of (st := s_tiles_desk) F_tiles_desk
  have b_tiles_desk : Binds K fd_tiles_desk ["panes"] [] := FunD.bindsN F_tiles_desk fun _ _ _ _ _ _ us hl => match us, hl with | [_], _ => rfl
  obtain ⟨fd_find_bad_item, F_find_bad_item⟩ := D.def_ 6 (d := d_find_bad_item) rfl
  have g_find_bad_item := He.glo_ok X G (x := "find_bad_item") (D.fact 6 rfl)
  have Fu_find_bad_item := fun_of (st := s_find_bad_item) F_find_bad_item
  have b_find_bad_item : Binds K fd_find_bad_item ["items"] [] := FunD.bindsN F_find_bad_item fun _ _ _ _ _ _ us hl => match us, hl with | [_], _ => rfl
  obtain ⟨fd_overlap, F_overlap⟩ := D.def_ 7 (d := d_overlap) rfl
  have g_overlap := He.glo_ok X G (x := "overlap") (D.fact 7 rfl)
  have Fu_overlap := fun_of (st := s_overlap) F_overlap
  have b_overlap : Binds K fd_overlap ["corners", "others"] [] := FunD.bindsN F_overlap fun _ _ _ _ _ _ us hl => match us, hl with | [_, _], _ => rfl
  obtain ⟨fd_find_desk, F_find_desk⟩ := D.def_ 8 (d := d_find_desk) rfl
  have g_find_desk := He.glo_ok X G (x := "find_desk") (D.fact 8 rfl)
  have Fu_find_desk := fun_of (st := s_find_desk) F_find_desk
  have b_find_desk : Binds K fd_find_desk ["panes"] [] := FunD.bindsN F_find_desk fun _ _ _ _ _ _ us hl => match us, hl with | [_], _ => rfl
  obtain ⟨fd_find_all_sides, F_find_all_sides⟩ := D.def_ 9 (d := d_find_all_sides) rfl
  have g_find_all_sides := He.glo_ok X G (x := "find_all_sides") (D.fact 9 rfl)
  have Fu_find_all_sides := fun_of (st := s_find_all_sides) F_find_all_sides
  have b_find_all_sides : Binds K fd_find_all_sides ["layout"] [] := FunD.bindsN F_find_all_sides fun _ _ _ _ _ _ us hl => match us, hl with | [_], _ => rfl
  obtain ⟨fd_find_sides, F_find_sides⟩ := D.def_ 10 (d := d_find_sides) rfl
  have g_find_sides := He.glo_ok X G (x := "find_sides") (D.fact 10 rfl)
  have Fu_find_sides := fun_of (st := s_find_sides) F_find_sides
  have b_find_sides : Binds K fd_find_sides ["layout", "kind"] [] := FunD.bindsN F_find_sides fun _ _ _ _ _ _ us hl => match us, hl with | [_, _], _ => rfl
  obtain ⟨fd_join_stretches, F_join_stretches⟩ := D.def_ 11 (d := d_join_stretches) rfl
  have g_join_stretches := He.glo_ok X G (x := "join_stretches") (D.fact 11 rfl)
  have Fu_join_stretches := fun_of (st := s_join_stretches) F_join_stretches
  have b_join_stretches : Binds K fd_join_stretches ["stretches"] [] := FunD.bindsN F_join_stretches fun _ _ _ _ _ _ us hl => match us, hl with | [_], _ => rfl
  obtain ⟨fd_find_touching, F_find_touching⟩ := D.def_ 12 (d := d_find_touching) rfl
  have g_find_touching := He.glo_ok X G (x := "find_touching") (D.fact 12 rfl)
  have Fu_find_touching := fun_of (st := s_find_touching) F_find_touching
  have b_find_touching : Binds K fd_find_touching ["layout"] [] := FunD.bindsN F_find_touching fun _ _ _ _ _ _ us hl => match us, hl with | [_], _ => rfl
  obtain ⟨fd_find_pairs_at, F_find_pairs_at⟩ := D.def_ 13 (d := d_find_pairs_at) rfl
  have g_find_pairs_at := He.glo_ok X G (x := "find_pairs_at") (D.fact 13 rfl)
  have Fu_find_pairs_at := fun_of (st := s_find_pairs_at) F_find_pairs_at
  have b_find_pairs_at : Binds K fd_find_pairs_at ["layout", "kind", "ahead", "behind"] [] := FunD.bindsN F_find_pairs_at fun _ _ _ _ _ _ us hl => match us, hl with | [_, _, _, _], _ => rfl
  obtain ⟨fd__law_jar, F__law_jar⟩ := D.def_ 14 (d := d__law_jar) rfl
  have g__law_jar := He.glo_ok X G (x := "_law_jar") (D.fact 14 rfl)
  have Fu__law_jar := fun_of (st := s__law_jar) F__law_jar
  have b__law_jar : Binds K fd__law_jar ["script", "k"] [] := FunD.bindsN F__law_jar fun _ _ _ _ _ _ us hl => match us, hl with | [_, _], _ => rfl
  obtain ⟨fd__law_dip, F__law_dip⟩ := D.def_ 15 (d := d__law_dip) rfl
  have g__law_dip := He.glo_ok X G (x := "_law_dip") (D.fact 15 rfl)
  have Fu__law_dip := fun_of (st := s__law_dip) F__law_dip
  have b__law_dip : Binds K fd__law_dip ["jar", "many"] [] := FunD.bindsN F__law_dip fun _ _ _ _ _ _ us hl => match us, hl with | [_, _], _ => rfl
  obtain ⟨fd__law_crossed, F__law_crossed⟩ := D.def_ 16 (d := d__law_crossed) rfl
  have g__law_crossed := He.glo_ok X G (x := "_law_crossed") (D.fact 16 rfl)
  have Fu__law_crossed := fun_of (st := s__law_crossed) F__law_crossed
  have b__law_crossed : Binds K fd__law_crossed ["panes"] [] := FunD.bindsN F__law_crossed fun _ _ _ _ _ _ us hl => match us, hl with | [_], _ => rfl
  obtain ⟨fd__law_pushed, F__law_pushed⟩ := D.def_ 17 (d := d__law_pushed) rfl
  have g__law_pushed := He.glo_ok X G (x := "_law_pushed") (D.fact 17 rfl)
  have Fu__law_pushed := fun_of (st := s__law_pushed) F__law_pushed
  have b__law_pushed : Binds K fd__law_pushed ["panes", "entry"] [] := FunD.bindsN F__law_pushed fun _ _ _ _ _ _ us hl => match us, hl with | [_, _], _ => rfl
  obtain ⟨fd__law_border, F__law_border⟩ := D.def_ 18 (d := d__law_border) rfl
  have g__law_border := He.glo_ok X G (x := "_law_border") (D.fact 18 rfl)
  have Fu__law_border := fun_of (st := s__law_border) F__law_border
  have b__law_border : Binds K fd__law_border ["panes", "axis"] [] := FunD.bindsN F__law_border fun _ _ _ _ _ _ us hl => match us, hl with | [_, _], _ => rfl
  obtain ⟨fd__law_grown, F__law_grown⟩ := D.def_ 19 (d := d__law_grown) rfl
  have g__law_grown := He.glo_ok X G (x := "_law_grown") (D.fact 19 rfl)
  have Fu__law_grown := fun_of (st := s__law_grown) F__law_grown
  have b__law_grown : Binds K fd__law_grown ["jar", "many"] [] := FunD.bindsN F__law_grown fun _ _ _ _ _ _ us hl => match us, hl with | [_, _], _ => rfl
  obtain ⟨fd__law_shaken, F__law_shaken⟩ := D.def_ 20 (d := d__law_shaken) rfl
  have g__law_shaken := He.glo_ok X G (x := "_law_shaken") (D.fact 20 rfl)
  have Fu__law_shaken := fun_of (st := s__law_shaken) F__law_shaken
  have b__law_shaken : Binds K fd__law_shaken ["jar", "panes", "size"] [] := FunD.bindsN F__law_shaken fun _ _ _ _ _ _ us hl => match us, hl with | [_, _, _], _ => rfl
  obtain ⟨fd__law_named, F__law_named⟩ := D.def_ 21 (d := d__law_named) rfl
  have g__law_named := He.glo_ok X G (x := "_law_named") (D.fact 21 rfl)
  have Fu__law_named := fun_of (st := s__law_named) F__law_named
  have b__law_named : Binds K fd__law_named ["jar", "panes"] [] := FunD.bindsN F__law_named fun _ _ _ _ _ _ us hl => match us, hl with | [_, _], _ => rfl
  obtain ⟨fd__law_split, F__law_split⟩ := D.def_ 22 (d := d__law_split) rfl
  have g__law_split := He.glo_ok X G (x := "_law_split") (D.fact 22 rfl)
  have Fu__law_split := fun_of (st := s__law_split) F__law_split
  have b__law_split : Binds K fd__law_split ["jar", "panes", "turns"] [] := FunD.bindsN F__law_split fun _ _ _ _ _ _ us hl => match us, hl with | [_, _, _], _ => rfl
  obtain ⟨fd__law_layout, F__law_layout⟩ := D.def_ 23 (d := d__law_layout) rfl
  have g__law_layout := He.glo_ok X G (x := "_law_layout") (D.fact 23 rfl)
  have Fu__law_layout := fun_of (st := s__law_layout) F__law_layout
  have b__law_layout : Binds K fd__law_layout ["jar", "most", "size"] [] := FunD.bindsN F__law_layout fun _ _ _ _ _ _ us hl => match us, hl with | [_, _, _], _ => rfl
  obtain ⟨fd__law_cut, F__law_cut⟩ := D.def_ 24 (d := d__law_cut) rfl
  have g__law_cut := He.glo_ok X G (x := "_law_cut") (D.fact 24 rfl)
  have Fu__law_cut := fun_of (st := s__law_cut) F__law_cut
  have b__law_cut : Binds K fd__law_cut ["jar", "turns", "size"] [] := FunD.bindsN F__law_cut fun _ _ _ _ _ _ us hl => match us, hl with | [_, _, _], _ => rfl
  obtain ⟨fd__law_touch, F__law_touch⟩ := D.def_ 25 (d := d__law_touch) rfl
  have g__law_touch := He.glo_ok X G (x := "_law_touch") (D.fact 25 rfl)
  have Fu__law_touch := fun_of (st := s__law_touch) F__law_touch
  have b__law_touch : Binds K fd__law_touch ["one", "two"] [] := FunD.bindsN F__law_touch fun _ _ _ _ _ _ us hl => match us, hl with | [_, _], _ => rfl
  obtain ⟨fd__law_right, F__law_right⟩ := D.def_ 26 (d := d__law_right) rfl
  have g__law_right := He.glo_ok X G (x := "_law_right") (D.fact 26 rfl)
  have Fu__law_right := fun_of (st := s__law_right) F__law_right
  have b__law_right : Binds K fd__law_right ["panes"] [] := FunD.bindsN F__law_right fun _ _ _ _ _ _ us hl => match us, hl with | [_], _ => rfl
  obtain ⟨fd_law, F_law⟩ := D.def_ 27 (d := d_law) rfl
  have g_law := He.glo_ok X G (x := "law") (D.fact 27 rfl)
  have Fu_law := fun_of (st := s_law) F_law
  have b_law : Binds K fd_law ["script"] [] := FunD.bindsN F_law fun _ _ _ _ _ _ us hl => match us, hl with | [_], _ => rfl
  have z_len := He.free_ok X G (x := "len") (D.fact 28 rfl)
  have z_list := He.free_ok X G (x := "list") (D.fact 29 rfl)
  have z_tuple := He.free_ok X G (x := "tuple") (D.fact 30 rfl)
  have z_range := He.free_ok X G (x := "range") (D.fact 31 rfl)
  have z_enumerate := He.free_ok X G (x := "enumerate") (D.fact 32 rfl)
  have z_abs := He.free_ok X G (x := "abs") (D.fact 33 rfl)
  have z_int := He.free_ok X G (x := "int") (D.fact 34 rfl)
  have z_sum := He.free_ok X G (x := "sum") (D.fact 35 rfl)
  have z_zip := He.free_ok X G (x := "zip") (D.fact 36 rfl)
  have z_max := He.free_ok X G (x := "max") (D.fact 37 rfl)
  have z_min := He.free_ok X G (x := "min") (D.fact 38 rfl)
  have z_sorted := He.free_ok X G (x := "sorted") (D.fact 39 rfl)
  have z_type := He.free_ok X G (x := "type") (D.fact 40 rfl)
  have z_all := He.free_ok X G (x := "all") (D.fact 41 rfl)
  have z_isinstance := He.free_ok X G (x := "isinstance") (D.fact 42 rfl)
  have z_bool := He.free_ok X G (x := "bool") (D.fact 43 rfl)
  have z_str := He.free_ok X G (x := "str") (D.fact 44 rfl)
  have z_set := He.free_ok X G (x := "set") (D.fact 45 rfl)
  have z_repr := He.free_ok X G (x := "repr") (D.fact 46 rfl)
  obtain ⟨_, v_MOST_PANES⟩ := He.int_ok X G (x := "MOST_PANES") (D.fact 47 rfl)
  have BI_ : BI mg := ⟨z_max, z_sorted, z_enumerate, z_len, z_abs, z_list, z_tuple⟩
  have BR_ : BRL mg := { toBP := ⟨⟨z_max, z_min, z_sorted, z_len, z_list, z_tuple, z_range, z_enumerate, z_abs, z_int, z_sum, z_zip⟩, z_type, z_all, z_isinstance⟩, repr_ := z_repr }
  have B : BP mg := ⟨⟨z_max, z_min, z_sorted, z_len, z_list, z_tuple, z_range, z_enumerate, z_abs, z_int, z_sum, z_zip⟩, z_type, z_all, z_isinstance⟩
  have B_touching_pairs : KB0 fd_touching_pairs ["layout"] ["layout"] (fun ws => ws) (fun zs => zs) := kb0 Fu_touching_pairs (fun _ _ _ _ _ _ ws hl => match ws, hl with | [_], _ => rfl) fun r => r
  have e := hfa.symm.trans g_law
  cases e
  refine ⟨fd_law, fun s u => FunD.bindsA (ps := ["script"]) F_law (fun _ _ _ _ _ _ us hl => match us, hl with | [_], _ => rfl) s [u] rfl, fun base hK hN hT => ?_⟩
  have go : Gd.FnG P w K mg base CX0 7 (He.ga K "law") fd_law ["script"] (spLaw03 K) := by
    have C_is_list_of_items : Cal P w K mg base "is_list_of_items" 1 (He.fAd K d_is_list_of_items.at_) _ ["thing"] spIsItems := ⟨ok_is_items Fu_is_list_of_items B ⟨_, v_MOST_PANES⟩, g_is_list_of_items, F_is_list_of_items.kp, b_is_list_of_items⟩
    have C_is_pane : Cal P w K mg base "is_pane" 1 (He.fAd K d_is_pane.at_) _ ["thing"] spIsPaneT := ⟨ok_is_pane Fu_is_pane B, g_is_pane, F_is_pane.kp, b_is_pane⟩
    have C_find_desk : Cal P w K mg base "find_desk" 1 (He.fAd K d_find_desk.at_) _ ["panes"] spFDesk := ⟨ok_find_desk Fu_find_desk B, g_find_desk, F_find_desk.kp, b_find_desk⟩
    have C_tiles_desk : Cal P w K mg base "tiles_desk" 2 (He.fAd K d_tiles_desk.at_) _ ["panes"] spTiles := ⟨ok_tiles Fu_tiles_desk B z_set C_find_desk, g_tiles_desk, F_tiles_desk.kp, b_tiles_desk⟩
    have C_is_layout : Cal P w K mg base "is_layout" 3 (He.fAd K d_is_layout.at_) _ ["thing"] spIsLay := ⟨ok_is_layout Fu_is_layout B C_is_list_of_items C_is_pane C_tiles_desk, g_is_layout, F_is_layout.kp, b_is_layout⟩
    have C_check_layout : Cal P w K mg base "check_layout" 4 (He.fAd K d_check_layout.at_) _ ["layout"] spCkLay := ⟨ok_check_layout Fu_check_layout C_is_layout, g_check_layout, F_check_layout.kp, b_check_layout⟩
    have C_join_stretches : Cal P w K mg base "join_stretches" 1 (He.fAd K d_join_stretches.at_) _ ["stretches"] spJoin := ⟨ok_join Fu_join_stretches B, g_join_stretches, F_join_stretches.kp, b_join_stretches⟩
    have C_find_sides : Cal P w K mg base "find_sides" 2 (He.fAd K d_find_sides.at_) _ ["layout", "kind"] spSides2 := ⟨ok_sides Fu_find_sides B C_join_stretches, g_find_sides, F_find_sides.kp, b_find_sides⟩
    have C_find_all_sides : Cal P w K mg base "find_all_sides" 3 (He.fAd K d_find_all_sides.at_) _ ["layout"] spAllSides := ⟨ok_all_sides Fu_find_all_sides C_find_sides, g_find_all_sides, F_find_all_sides.kp, b_find_all_sides⟩
    have C_find_pairs_at : Cal P w K mg base "find_pairs_at" 1 (He.fAd K d_find_pairs_at.at_) _ ["layout", "kind", "ahead", "behind"] spPairsAt := ⟨ok_pairs_at Fu_find_pairs_at B, g_find_pairs_at, F_find_pairs_at.kp, b_find_pairs_at⟩
    have C_find_touching : Cal P w K mg base "find_touching" 4 (He.fAd K d_find_touching.at_) _ ["layout"] spTouching := ⟨ok_find_touching Fu_find_touching B C_find_all_sides C_find_pairs_at, g_find_touching, F_find_touching.kp, b_find_touching⟩
    have C_touching_pairs : Cal P w K mg base "touching_pairs" 5 (He.fAd K d_touching_pairs.at_) _ ["layout"] spTouchingP := ⟨ok_touching_pairs Fu_touching_pairs C_check_layout C_find_touching, g_touching_pairs, F_touching_pairs.kp, b_touching_pairs⟩
    have C__law_jar : Cal P w K mg base "_law_jar" 1 (He.fAd K d__law_jar.at_) _ ["script", "k"] (spJar K) := ⟨ok_jar Fu__law_jar z_len z_abs z_max z_int, g__law_jar, F__law_jar.kp, b__law_jar⟩
    have C__law_dip : Cal P w K mg base "_law_dip" 1 (He.fAd K d__law_dip.at_) _ ["jar", "many"] spDip := ⟨ok_dip Fu__law_dip z_int, g__law_dip, F__law_dip.kp, b__law_dip⟩
    have C__law_border : Cal P w K mg base "_law_border" 1 (He.fAd K d__law_border.at_) _ ["panes", "axis"] spBorder := ⟨ok_border Fu__law_border z_max z_len, g__law_border, F__law_border.kp, b__law_border⟩
    have C__law_pushed : Cal P w K mg base "_law_pushed" 1 (He.fAd K d__law_pushed.at_) _ ["panes", "entry"] spPushed := ⟨ok_pushed Fu__law_pushed BI_, g__law_pushed, F__law_pushed.kp, b__law_pushed⟩
    have C__law_grown : Cal P w K mg base "_law_grown" 2 (He.fAd K d__law_grown.at_) _ ["jar", "many"] spGrown := ⟨ok_grownC Fu__law_grown C__law_dip C__law_border C__law_pushed BI_, g__law_grown, F__law_grown.kp, b__law_grown⟩
    have C__law_shaken : Cal P w K mg base "_law_shaken" 2 (He.fAd K d__law_shaken.at_) _ ["jar", "panes", "size"] spShaken := ⟨ok_shakenC Fu__law_shaken C__law_dip BI_ z_range z_set, g__law_shaken, F__law_shaken.kp, b__law_shaken⟩
    have C__law_crossed : Cal P w K mg base "_law_crossed" 1 (He.fAd K d__law_crossed.at_) _ ["panes"] spCrossed := ⟨ok_crossed Fu__law_crossed, g__law_crossed, F__law_crossed.kp, b__law_crossed⟩
    have C__law_split : Cal P w K mg base "_law_split" 2 (He.fAd K d__law_split.at_) _ ["jar", "panes", "turns"] spSplit := ⟨ok_splitC Fu__law_split C__law_dip C__law_crossed BI_ z_range, g__law_split, F__law_split.kp, b__law_split⟩
    have C__law_named : Cal P w K mg base "_law_named" 2 (He.fAd K d__law_named.at_) _ ["jar", "panes"] spNamed := ⟨ok_namedC Fu__law_named C__law_dip BI_ z_range, g__law_named, F__law_named.kp, b__law_named⟩
    have C__law_layout : Cal P w K mg base "_law_layout" 3 (He.fAd K d__law_layout.at_) _ ["jar", "most", "size"] spLayout := ⟨ok_layoutC Fu__law_layout C__law_dip C__law_grown C__law_shaken C__law_split C__law_named BI_ z_min, g__law_layout, F__law_layout.kp, b__law_layout⟩
    have C__law_cut : Cal P w K mg base "_law_cut" 3 (He.fAd K d__law_cut.at_) _ ["jar", "turns", "size"] spCut := ⟨ok_cutC Fu__law_cut C__law_dip C__law_split, g__law_cut, F__law_cut.kp, b__law_cut⟩
    have C__law_touch : Cal P w K mg base "_law_touch" 1 (He.fAd K d__law_touch.at_) _ ["one", "two"] spTouch := ⟨ok_touch Fu__law_touch B, g__law_touch, F__law_touch.kp, b__law_touch⟩
    have C__law_right : CalG P w K mg base "_law_right" 6 (He.fAd K d__law_right.at_) _ ["panes"] spRight := ⟨ok_right Fu__law_right BR_ C__law_touch C_touching_pairs B_touching_pairs, g__law_right, F__law_right.kp, b__law_right⟩
    exact ok_law03 Fu_law BR_ C__law_jar C__law_dip C__law_layout C__law_cut C__law_named C__law_shaken C__law_grown C__law_right C_touching_pairs
  exact go
end HdZ
open PySem PySem.W PySem.Calls PyProof.Rows
theorem PySem.Challenge.cw_paneplans_k03_panes_that_touch_holds : PySem.Challenge.rw_paneplans_k03_panes_that_touch.Holds := by
  w_on; o_law
  refine HandSHeadRun.head_imp (r := OpenLaw.row PySem.Challenge.rw_paneplans_k03_panes_that_touch) (q := HdZ.vw) (H := HdZ.hk) (ob := HdZ.ob) (M := 6000) (loose := HdZ.loose) (d := HandSHeadRun.topDef (OpenLaw.row PySem.Challenge.rw_paneplans_k03_panes_that_touch).prog 33) (kwd := []) HdZ.ob_eq
    HdZ.run (by kernel_rfl) (by kernel_rfl) (by kernel_rfl) (by rfl) (by first | assumption | decide +kernel) (by decide +kernel) ⟨rfl, rfl, rfl, rfl, rfl, by decide +kernel⟩ ?hw ?hc
  case hw => w_witness2
  case hc =>
    refine Gd.walk_ofGE (l := PySem.Challenge.rw_paneplans_k03_panes_that_touch) (n := 63) (k := 7) (x := "script") (CX := L2.CX0) rfl (by decide) (by kernel_rfl) ⟨rfl, by decide, by decide⟩ ?F (fun _ _ _ _ z => z)
    intro w mg fa h Y G hmg0
    obtain ⟨K, KX, c⟩ := Y
    have hmg : mg ("law" : PySem.Str) = some (.ref fa) := by
      have e : (HandSHeadRun.topDef (OpenLaw.row PySem.Challenge.rw_paneplans_k03_panes_that_touch).prog 33).name = ("law" : PySem.Str) := by kernel_rfl
      rw [← e]
      exact hmg0
    obtain ⟨fd, hb, hF⟩ := HdZ.facts (P := (PySem.Challenge.rw_paneplans_k03_panes_that_touch).prog) (w := w) KX G hmg c
    refine ⟨K, KX, fd, HdZ.tf.map (He.cT K), _, ?_, ?_, ?_, hb, ?_, hF⟩
    · intro p hp
      obtain ⟨d, hd, rfl⟩ := List.mem_map.mp hp
      exact c.empty d hd
    · intro p hp
      obtain ⟨d, hd, rfl⟩ := List.mem_map.mp hp
      exact c.out d hd
    · intro p hp
      obtain ⟨d, hd, rfl⟩ := List.mem_map.mp hp
      exact PySem.W.codeHd_of_K KX (c.hd d hd)
    · intro H a ns hl hT hS
      exact ⟨a, ns, rfl, hS, hl, fun H' e => ⟨rfl, fun p hp => e _ _ (hT p hp)⟩⟩
