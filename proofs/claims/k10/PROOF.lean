import PyProof.Rows.All
import Wide.All
import OpenK.AllK
import Wide.FinOn
import HandS.ForMost
import HandS.Evl
import HandS.Walk
import HandS.WideBits
import HandS.SortRule
import HandS.Head0
import HandS.Head1
import HandS.Head2
import HandS.Head3
import HandS.HeadHook1
import HandS.HeadHook2
import HandS.HeadHook3
import HandS.HeadHook4
import HandS.Defaults
import HandS.NamedTupSort
import HandS.Style
import HandS.Flow
import HandS.Small
import HandS.AnyAll
import HandS.Zip
import HandS.More
import HandS.IsInst
import HandS.TryOnly
import HandS.Conv
import HandS.SortInts
import PyProof.ReprRoads
import HandS.EndTab
import KE.DataMinMax
import HandS.SortKw
import HandS.List
import KE.GoesEnumKw
import HandS.Iter
import PyProof.DelItemList
import HandS.Base
import HandS.Call
import KE.KMathG
import HandS.Gcd
import PyProof.SumAny
import PyProof.ListNew
import HandS.MapObj
import PyProof.Rows.SumGenD
import KE.DatumMoreOrd
import HandS.ForExc
import HandS.ExcOwn
import KE.SortData
import KE.DataCmp
import PySem.Challenge.RW_paneplans_k10_plans_by_trying
set_option Elab.async false
set_option linter.all false
set_option maxRecDepth 100000
set_option maxHeartbeats 4000000
/-! # what evaluates to a value of which a relation holds; comprehensions whose items are new objects -/
namespace Rel
open PySem L2 Evl
/-- te gives some v of which R holds; where v is an object, it is a new one, or one that H knows -/
def EvN (te : TE) (σ : L2.St) (H : Hp) (R : V → Hp → Prop) : Prop := ∀ H1, Ex H H1 → ∀ Q : VK, (∀ v H2, Ex H1 H2 → (∀ p, v = .ref p → H1 p = none ∨ H p ≠ none) → R v H2 → Q v H2) → te σ H1 Q
/-- R speaks of the object v alone -/
abbrev Mono {α : Type} (R : α → V → Hp → Prop) : Prop := ∀ z v H H' (D : Addr), v ≠ .ref D → (∀ a o, a ≠ D → H a = some o → H' a = some o) → R z v H → R z v H'
section
variable {K : PySem.W.Frag} {σ : L2.St} {H H' : Hp} {te tb tl : TE} {ta : TA} {t : TT} {v : V}
theorem en_val {R : V → Hp → Prop} (h : Ev te σ H v) (hv : ∀ p, v = .ref p → H p ≠ none) (hr : ∀ H1, Ex H H1 → R v H1) : EvN te σ H R := fun H1 e Q q => h H1 e Q fun H2 e2 => q v H2 e2 (fun p hp => .inr (hv p hp)) (hr H2 (e.trans e2))
theorem en_tup {vs : List V} (h : EvA ta σ H vs) (hl : vs.length ≤ 100000) : EvN (tTup ta) σ H (fun v H1 => ∃ p, v = .ref p ∧ H1 p = some (.tup vs)) := fun H1 e Q q =>
  eu_tup h hl H1 e Q fun p H2 np e2 h2 => q _ H2 e2 (fun p' hp => .inl (by cases hp; exact np)) ⟨p, rfl, h2⟩
theorem en_lst {xs : List V} (h : EvL te σ H xs) : EvN te σ H (fun v H1 => ∃ p, v = .ref p ∧ H1 p = some (.lst xs)) := fun H1 e Q q =>
  h H1 e Q fun p H2 np e2 h2 => q _ H2 e2 (fun p' hp => .inl (by cases hp; exact np)) ⟨p, rfl, h2⟩
theorem en_tupU {xs : List V} (h : EvU te σ H xs) : EvN te σ H (fun v H1 => ∃ p, v = .ref p ∧ H1 p = some (.tup xs)) := fun H1 e Q q =>
  h H1 e Q fun p H2 np e2 h2 => q _ H2 e2 (fun p' hp => .inl (by cases hp; exact np)) ⟨p, rfl, h2⟩
theorem mono_val {α : Type} (g : α → V) : Mono fun (z : α) v (_ : Hp) => v = g z := fun _ _ _ _ _ _ _ h => h
theorem mono_obj {α : Type} (g : α → HO) : Mono fun (z : α) v (H : Hp) => ∃ p, v = .ref p ∧ H p = some (g z) := fun z v H H' D n k ⟨p, h1, h2⟩ => ⟨p, h1, k p _ (fun e => n (by rw [h1, e])) h2⟩
theorem pr_mono {α : Type} {R : α → V → Hp → Prop} (m : Mono R) {D : Addr} (k : ∀ a o, a ≠ D → H a = some o → H' a = some o) : ∀ {ys : List V} {zs : List α}, (∀ y ∈ ys, y ≠ .ref D) → Paired (fun y z => R z y H) ys zs → Paired (fun y z => R z y H') ys zs
  | _, _, _, .nil => .nil
  | _, _, n, .cons h t => .cons (m _ _ _ _ _ (n _ List.mem_cons_self) k h) (pr_mono m k (fun y hy => n y (List.mem_cons_of_mem _ hy)) t)
theorem pr_app {α β : Type} {R : α → β → Prop} : ∀ {xs ys : List α} {us ws : List β}, Paired R xs us → Paired R ys ws → Paired R (xs ++ ys) (us ++ ws)
  | _, _, _, _, .nil, h => h
  | _, _, _, _, .cons h t, k => .cons h (pr_app t k)
theorem pr_len {α β : Type} {R : α → β → Prop} : ∀ {xs : List α} {us : List β}, Paired R xs us → xs.length = us.length
  | _, _, .nil => rfl
  | _, _, .cons _ t => congrArg Nat.succ (pr_len t)
theorem pr_val {α : Type} {g : α → V} {H : Hp} : ∀ {ys : List V} {zs : List α}, Paired (fun y z => (fun (z : α) v (_ : Hp) => v = g z) z y H) ys zs → ys = zs.map g
  | _, _, .nil => rfl
  | _, _, .cons h t => by
    have e := pr_val (H := H) t
    have e2 := h
    dsimp only at e2
    rw [List.map_cons, e, e2]
/-- a comprehension over what walks through zs -/
theorem lc_rel {α : Type} {J : It} {zs : List α} {n : Nat} {G : Hp → Prop} {Y : Nat → Hp → V → Hp → Prop} (w : Walk J n G Y) (hn : n = zs.length) (hG : ∀ H1, Ex H H1 → G H1) (f : α → Bool) (R : α → V → Hp → Prop) (m : Mono R) (hz : zs.length ≤ 40000) {g : TG} {vs : List Nat}
    (step : ∀ i z x H1 H2, zs[i]? = some z → Ex H H1 → Y i H1 x H2 → Ex H1 H2 ∧ ∀ Q' : L2.St → Hp → Prop, (∀ σ2, wipe σ2 vs = wipe σ vs → EvT t σ2 H (f z) → (f z = true → EvN te σ2 H (R z)) → Q' σ2 H2) → g x (wipe σ vs) H2 Q')
    {D : Addr} (nD : H D = none) {Qd : Hp → Prop} (q : ∀ ys H', Ex H H' → H' D = some (.lst ys) → Paired (fun y z => R z y H') ys (zs.filter f) → Qd H') :
    ∃ W : Nat → Nat → Hp → Prop, (∃ m, W 0 m (upd H D (.lst []))) ∧ ∀ i m H, W i m H →
      (J.stop i H ∧ Qd H) ∨ (J.go i H ∧ ∃ Nx : Hp → Prop, (∀ H', Nx H' → ∃ m', m' < m ∧ W (i + 1) m' H') ∧ ∀ x H', J.yld i H x H' → g x (wipe σ vs) H' fun σ2 H2 => wipe σ2 vs = wipe σ vs ∧ t σ2 H2 fun b H3 =>
        if b = true then te σ2 H3 fun y H4 => ∃ acc, H4 D = some (.lst acc) ∧ acc.length < sizeLine ∧ Nx (upd H4 D (.lst (acc ++ [y]))) else Nx H3) := by
  subst hn
  refine lc_it w (fun i H1 => Ex H H1 ∧ ∃ ys, H1 D = some (.lst ys) ∧ (∀ y ∈ ys, y ≠ .ref D) ∧ Paired (fun y z => R z y H1) ys ((zs.take i).filter f)) ⟨Ex.new nD, [], upd_same, by simp, .nil⟩ (fun i H1 _ p => hG H1 p.1) ?_ ?_
  · rintro i x H1 H2 hi ⟨e1, ys, hD, hnd, hp⟩ hy
    have hzi : zs[i]? = some zs[i] := List.getElem?_eq_getElem hi
    obtain ⟨e2, st⟩ := step i zs[i] x H1 H2 hzi e1 hy
    have tk : zs.take (i + 1) = zs.take i ++ [zs[i]] := by
      rw [List.take_add_one, hzi]
      rfl
    have yl : ys.length ≤ i := by
      rw [pr_len hp]
      exact Nat.le_trans (List.length_filter_le _ _) (by rw [List.length_take]; omega)
    refine st _ fun σ2 hw ht he => ⟨hw, ht H2 (e1.trans e2) _ fun H3 e3 => ?_⟩
    have e03 := (e1.trans e2).trans e3
    have D3 : H3 D = some (.lst ys) := e3 _ _ (e2 _ _ hD)
    cases hf : f zs[i] with
    | true =>
      show te σ2 H3 _
      refine he hf H3 e03 _ fun y H4 e4 hv hr => ?_
      have yD : y ≠ .ref D := fun z => by
        rcases hv D z with h | h
        · rw [D3] at h
          cases h
        · exact h nD
      refine ⟨ys, e4 _ _ D3, Nat.lt_of_lt_of_le (show ys.length < 100000 by omega) (by decide), (e03.trans e4).mut nD, ys ++ [y], upd_same, ?_, ?_⟩
      · intro u hu
        rcases List.mem_append.mp hu with hu | hu
        · exact hnd u hu
        · rw [List.mem_singleton.mp hu]
          exact yD
      · have keep : ∀ {H5 : Hp}, Ex H5 H4 → ∀ a o, a ≠ D → H5 a = some o → upd H4 D (.lst (ys ++ [y])) a = some o := fun e a o n h => by
          rw [upd_ne n]
          exact e a o h
        rw [tk, List.filter_append, List.filter_cons, if_pos hf, List.filter_nil]
        exact pr_app (pr_mono m (keep ((e2.trans e3).trans e4)) hnd hp) (.cons (m _ _ _ _ D yD (keep (Ex.refl H4)) hr) .nil)
    | false =>
      show Ex H H3 ∧ _
      refine ⟨e03, ys, D3, hnd, ?_⟩
      rw [tk, List.filter_append, List.filter_cons, if_neg (by rw [hf]; decide), List.filter_nil, List.append_nil]
      exact pr_mono m (D := D) (fun a o _ h => (e2.trans e3) a o h) hnd hp
  · rintro H1 ⟨e1, ys, hD, hnd, hp⟩
    rw [List.take_length] at hp
    exact q ys H1 e1 hD hp
/-- .. over a list whose items are val of zs -/
theorem er_lcL {α : Type} {zs : List α} {val : α → V} {a : Addr} {j : Nat} {vs : List Nat} (f : α → Bool) (R : α → V → Hp → Prop) (m : Mono R) (h : Ev tl σ H (.ref a)) (hx : SqL K H a (zs.map val)) (hz : zs.length ≤ 40000) (hw : ∀ x, wipe ((wipe σ vs).set j (some x)) vs = wipe σ vs)
    (ht : ∀ z ∈ zs, ∀ H1, Ex H H1 → EvT t ((wipe σ vs).set j (some (val z))) H1 (f z)) (he : ∀ z ∈ zs, ∀ H1, Ex H H1 → f z = true → EvN te ((wipe σ vs).set j (some (val z))) H1 (R z)) :
    ∀ H1, Ex H H1 → ∀ Q : VK, (∀ p ys H2, H1 p = none → Ex H1 H2 → H2 p = some (.lst ys) → Paired (fun y z => R z y H2) ys (zs.filter f) → Q (.ref p) H2) → tLc (iList K tl) (gName j) t te vs σ H1 Q := fun H0 e Q q => by
  refine h H0 e _ fun H1 e1 => ⟨a, rfl, ⟨_, ex_l (e.trans e1) hx⟩, fun D nD => ?_⟩
  refine lc_rel (H := H1) (walk_list (K := K) (a := a) (xs := zs.map val)) (List.length_map _) (fun H2 e2 => ex_l ((e.trans e1).trans e2) hx) f R m hz (fun i z x H2 H3 hz hH hy => ?_) nD fun ys H' e2 hD hp => q D ys H' (fresh_back e1 nD) (e1.trans e2) hD hp
  obtain ⟨rfl, hy⟩ := hy
  rw [List.getElem?_map, hz] at hy
  have ex : x = val z := (Option.some.inj hy).symm
  have hm := List.mem_of_getElem? hz
  subst ex
  exact ⟨Ex.refl _, fun Q' k => k _ (hw _) (ht z hm H1 (e.trans e1)) fun hf => he z hm H1 (e.trans e1) hf⟩
/-- .. over enumerate(a list): the places in slot j, the items in slot l -/
theorem er_lcE {α : Type} {zs : List α} {val : α → V} {a : Addr} {j l : Nat} {vs : List Nat} (f : Nat × α → Bool) (R : Nat × α → V → Hp → Prop) (m : Mono R) (h : Ev tl σ H (.ref a)) (hx : SqL K H a (zs.map val)) (hz : zs.length ≤ 40000)
    (hw : ∀ x y, wipe (((wipe σ vs).set j (some x)).set l (some y)) vs = wipe σ vs)
    (ht : ∀ i z, zs[i]? = some z → ∀ H1, Ex H H1 → EvT t (((wipe σ vs).set j (some (.int (i : Nat)))).set l (some (val z))) H1 (f (i, z))) (he : ∀ i z, zs[i]? = some z → ∀ H1, Ex H H1 → f (i, z) = true → EvN te (((wipe σ vs).set j (some (.int (i : Nat)))).set l (some (val z))) H1 (R (i, z))) :
    ∀ H1, Ex H H1 → ∀ Q : VK, (∀ p ys H2, H1 p = none → Ex H1 H2 → H2 p = some (.lst ys) → Paired (fun y z => R z y H2) ys ((zs.zipIdx.map fun p => (p.2, p.1)).filter f) → Q (.ref p) H2) →
      tLc (iEnum K (tCons tl tNil)) (gTup K 2 (gCons (gName j) (gCons (gName l) gNil))) t te vs σ H1 Q := fun H0 e Q q => by
  refine h H0 e _ fun H1 e1 => ⟨a, _, rfl, ex_l (e.trans e1) hx, fun D nD => ?_⟩
  refine lc_rel (H := H1) (zs := zs.zipIdx.map fun p => (p.2, p.1)) (walk_enum (K := K) (a := a) (xs := zs.map val)) (by simp) (fun H2 e2 => ex_l ((e.trans e1).trans e2) hx) f R m (by simpa using hz) (fun i z x H2 H3 hzi hH hy => ?_) nD fun ys H' e2 hD hp => q D ys H' (fresh_back e1 nD) (e1.trans e2) hD hp
  obtain ⟨T, x1, x2, rfl, nT, rfl, h1, h2⟩ := hy
  have hzi' : zs[i]? = some z.2 ∧ z.1 = i := by
    rw [List.getElem?_map, List.getElem?_zipIdx] at hzi
    cases hq : zs[i]? with
    | none =>
      rw [hq] at hzi
      simp at hzi
    | some u =>
      rw [hq] at hzi
      simp at hzi
      rw [← hzi]
      exact ⟨rfl, rfl⟩
  obtain ⟨hz2, hz1⟩ := hzi'
  obtain ⟨z1, z2⟩ := z
  dsimp only at hz2 hz1
  subst hz1
  have ex1 : x1 = .int (z1 : Nat) := (Option.some.inj h1).symm
  have ex2 : x2 = val z2 := by
    have h2' : (zs.map val)[z1]? = some x2 := h2
    rw [List.getElem?_map, hz2] at h2'
    exact (Option.some.inj h2').symm
  subst ex1 ex2
  refine ⟨Ex.new nT, fun Q' k => ?_⟩
  exact ⟨T, [_, _], rfl, .inl (.inl upd_same), rfl, _, _, rfl, _, _, rfl, rfl, k _ (hw _ _) (ht z1 z2 hz2 H1 (e.trans e1)) fun hf => he z1 z2 hz2 H1 (e.trans e1) hf⟩
/-- .. where the items made are values: a list of them -/
theorem el_lcV {α : Type} {zs : List α} {val g : α → V} {a : Addr} {j : Nat} {vs : List Nat} (f : α → Bool) (h : Ev tl σ H (.ref a)) (hx : SqL K H a (zs.map val)) (hz : zs.length ≤ 40000) (hw : ∀ x, wipe ((wipe σ vs).set j (some x)) vs = wipe σ vs)
    (ht : ∀ z ∈ zs, ∀ H1, Ex H H1 → EvT t ((wipe σ vs).set j (some (val z))) H1 (f z)) (he : ∀ z ∈ zs, ∀ H1, Ex H H1 → f z = true → Ev te ((wipe σ vs).set j (some (val z))) H1 (g z)) (hg : ∀ z ∈ zs, ∀ p, g z = .ref p → H p ≠ none) :
    EvL (tLc (iList K tl) (gName j) t te vs) σ H ((zs.filter f).map g) := fun H1 e Q q =>
  er_lcL f (fun z v _ => v = g z) (mono_val g) h hx hz hw ht (fun z hm H2 e2 hf => en_val (he z hm H2 e2 hf) (fun p hp n => by
      have o := hg z hm p hp
      cases ho : H p with
      | none => exact o ho
      | some u =>
        rw [e2 _ _ ho] at n
        cases n) fun _ _ => rfl) H1 e Q fun p ys H2 np e2 hp hr => q p H2 np e2 (by rw [hp, pr_val (H := H2) hr])
/-- max of a new list of numbers -/
theorem ev_maxN {ns : List Int} (h : EvL te σ H (ns.map V.int)) (hn : 0 < ns.length) : ∀ H1, Ex H H1 → ∀ Q : VK, (∀ m H2, Ex H1 H2 → m ∈ ns → (∀ y ∈ ns, y ≤ m) → Q (.int m) H2) → tCB (rMax K) (tCons te tNil) σ H1 Q := fun H1 e Q q =>
  h H1 e _ fun p H2 _ e2 hp => ⟨p, ns, rfl, SqL.of hp, hn, fun m h1 h2 => q m H2 e2 h1 h2⟩
theorem q_maxN {ns : List Int} {i : Nat} {D : Ends} {tz : TS} (h : EvL te σ H (ns.map V.int)) (hn : 0 < ns.length) (k : ∀ m H1, Ex H H1 → m ∈ ns → (∀ y ∈ ns, y ≤ m) → tz D (σ.set i (some (.int m))) H1) : tSeq (tAsg (tCB (rMax K) (tCons te tNil)) (gName i)) tz D σ H :=
  ev_maxN h hn H (Ex.refl H) _ fun m H1 e h1 h2 => k m H1 e h1 h2
end
end Rel
/-! # layouts that grow at a corner: what holds of them, whatever their places are moved to -/
set_option linter.all false
namespace Geo
structure Pn where
  x0 : Int
  y0 : Int
  x1 : Int
  y1 : Int
deriving DecidableEq, Repr
def Pn.swap (p : Pn) : Pn := ⟨p.y0, p.x0, p.y1, p.x1⟩
def Pn.img (X Y : Int → Int) (p : Pn) : Pn := ⟨X p.x0, Y p.y0, X p.x1, Y p.y1⟩
def Pn.area (p : Pn) : Int := (p.x1 - p.x0) * (p.y1 - p.y0)
def Pn.ok (p : Pn) : Prop := p.x0 < p.x1 ∧ p.y0 < p.y1
/-- two panes lie over one another -/
def Ov (p q : Pn) : Prop := p.x0 < q.x1 ∧ q.x0 < p.x1 ∧ p.y0 < q.y1 ∧ q.y0 < p.y1
/-- (x, y) is a corner of p -/
def Cor (x y : Int) (p : Pn) : Bool := (decide (x = p.x0) || decide (x = p.x1)) && (decide (y = p.y0) || decide (y = p.y1))
def areas (ps : List Pn) : Int := (ps.map Pn.area).sum

/-- a row of panes, each of which begins where the one ahead ends, from a to b -/
inductive ChX : Int → List Pn → Int → Prop where
  | nil {a : Int} : ChX a [] a
  | cons {p : Pn} {r : List Pn} {b : Int} : ChX p.x1 r b → ChX p.x0 (p :: r) b

theorem ChX.cast {a a' b b' : Int} {r : List Pn} (h : ChX a r b) (e1 : a = a') (e2 : b = b') : ChX a' r b' := by
  subst e1 e2
  exact h
theorem ChX.app {a b c : Int} : ∀ {r s : List Pn}, ChX a r b → ChX b s c → ChX a (r ++ s) c
  | [], _, .nil, h => h
  | _ :: _, _, .cons h, k => .cons (h.app k)
theorem ChX.cut {a c : Int} : ∀ {r s : List Pn}, ChX a (r ++ s) c → ∃ b, ChX a r b ∧ ChX b s c
  | [], _, h => ⟨a, .nil, h⟩
  | p :: r, s, .cons h => by
    obtain ⟨b, h1, h2⟩ := h.cut
    exact ⟨b, .cons h1, h2⟩
theorem ChX.head {a b : Int} {p : Pn} {r : List Pn} (h : ChX a (p :: r) b) : p.x0 = a := by
  cases h
  rfl
theorem ChX.inv {a b : Int} {p : Pn} {r : List Pn} (h : ChX a (p :: r) b) : p.x0 = a ∧ ChX p.x1 r b := by
  cases h with
  | cons h => exact ⟨rfl, h⟩
theorem ChX.inv0 {a b : Int} (h : ChX a [] b) : a = b := by
  cases h
  rfl
theorem ChX.sum (X : Int → Int) {a b : Int} : ∀ {r : List Pn}, ChX a r b → (r.map fun p => X p.x1 - X p.x0).sum = X b - X a
  | [], .nil => by simp
  | p :: r, .cons h => by
    rw [List.map_cons, List.sum_cons, h.sum]
    omega
/-- the ends go up, if each pane of the row has a width -/
theorem ChX.le (X : Int → Int) {a b : Int} : ∀ {r : List Pn}, ChX a r b → (∀ p ∈ r, X p.x0 < X p.x1) → X a ≤ X b
  | [], .nil, _ => Int.le_refl _
  | p :: r, .cons h, v => by
    have h1 := v p List.mem_cons_self
    have h2 := h.le X fun q hq => v q (List.mem_cons_of_mem _ hq)
    omega
theorem ChX.mem (X : Int → Int) {a b : Int} : ∀ {r : List Pn}, ChX a r b → (∀ p ∈ r, X p.x0 < X p.x1) → ∀ p ∈ r, X a ≤ X p.x0 ∧ X p.x1 ≤ X b
  | [], .nil, _, p, hp => by simp at hp
  | q :: r, .cons h, v, p, hp => by
    have v2 : ∀ p ∈ r, X p.x0 < X p.x1 := fun z hz => v z (List.mem_cons_of_mem _ hz)
    have h1 := v q List.mem_cons_self
    rcases List.mem_cons.mp hp with rfl | hp
    · exact ⟨Int.le_refl _, h.le X v2⟩
    · have z := h.mem X v2 p hp
      omega
/-- each place of the row lies in one of its panes -/
theorem ChX.cover (X : Int → Int) {a b : Int} : ∀ {r : List Pn}, ChX a r b → ∀ t, X a ≤ t → t < X b → ∃ p ∈ r, X p.x0 ≤ t ∧ t < X p.x1
  | [], .nil, t, h1, h2 => by omega
  | p :: r, .cons h, t, h1, h2 => by
    by_cases c : t < X p.x1
    · exact ⟨p, List.mem_cons_self, h1, c⟩
    · obtain ⟨q, hq, z⟩ := h.cover X t (by omega) h2
      exact ⟨q, List.mem_cons_of_mem _ hq, z⟩
/-- how often a place is an end of a pane in the row: once at its ends, twice at most within -/
def ends (x : Int) (r : List Pn) : Nat := r.countP fun p => decide (x = p.x0) || decide (x = p.x1)
theorem ChX.out {a b x : Int} : ∀ {r : List Pn}, ChX a r b → (∀ p ∈ r, p.x0 < p.x1) → x < a → ends x r = 0
  | [], .nil, _, _ => rfl
  | p :: r, .cons h, v, hx => by
    have h1 := v p List.mem_cons_self
    have h2 := h.out (x := x) (fun q hq => v q (List.mem_cons_of_mem _ hq)) (by omega)
    unfold ends at h2 ⊢
    rw [List.countP_cons, h2]
    have e1 : ¬ x = p.x0 := by omega
    have e2 : ¬ x = p.x1 := by omega
    simp [e1, e2]
theorem ChX.first {a b : Int} {r : List Pn} (h : ChX a r b) (v : ∀ p ∈ r, p.x0 < p.x1) : ends a r ≤ 1 := by
  cases h with
  | nil => exact Nat.zero_le _
  | @cons p r b h =>
    have h1 := v p List.mem_cons_self
    have h2 := h.out (x := p.x0) (fun q hq => v q (List.mem_cons_of_mem _ hq)) h1
    unfold ends at h2 ⊢
    rw [List.countP_cons, h2]
    split <;> omega
theorem ChX.two {a b : Int} (x : Int) : ∀ {r : List Pn}, ChX a r b → (∀ p ∈ r, p.x0 < p.x1) → ends x r ≤ 2
  | [], .nil, _ => Nat.zero_le _
  | p :: r, .cons h, v => by
    have v2 : ∀ p ∈ r, p.x0 < p.x1 := fun q hq => v q (List.mem_cons_of_mem _ hq)
    have h1 := v p List.mem_cons_self
    have h2 := h.two x v2
    unfold ends at h2 ⊢
    rw [List.countP_cons]
    by_cases c : x = p.x1
    · have h3 := h.first v2
      rw [← c] at h3
      unfold ends at h3
      split <;> omega
    · by_cases d : x = p.x0
      · have h3 := h.out (x := x) v2 (by omega)
        unfold ends at h3
        rw [h3]
        split <;> omega
      · simp [c, d]
        exact h2
/-- beyond the row's end nothing ends, and at it one pane at most -/
theorem ChX.over {a b x : Int} : ∀ {r : List Pn}, ChX a r b → (∀ p ∈ r, p.x0 < p.x1) → b < x → ends x r = 0
  | [], .nil, _, _ => rfl
  | p :: r, .cons h, v, hx => by
    have v2 : ∀ p ∈ r, p.x0 < p.x1 := fun q hq => v q (List.mem_cons_of_mem _ hq)
    have h1 := v p List.mem_cons_self
    have h2 := h.over (x := x) v2 hx
    have h3 := h.le id v2
    simp only [id] at h3
    unfold ends at h2 ⊢
    rw [List.countP_cons, h2]
    have e1 : ¬ x = p.x0 := by omega
    have e2 : ¬ x = p.x1 := by omega
    simp [e1, e2]
theorem ChX.last {b : Int} : ∀ {r : List Pn} {a : Int}, ChX a r b → (∀ p ∈ r, p.x0 < p.x1) → ends b r ≤ 1
  | [], a, _, _ => Nat.zero_le _
  | p :: r, a, h, v => by
    obtain ⟨ea, h⟩ := h.inv
    have h1 := v p List.mem_cons_self
    have v2 : ∀ z ∈ r, z.x0 < z.x1 := fun z hz => v z (List.mem_cons_of_mem _ hz)
    cases r with
    | nil =>
      unfold ends
      rw [List.countP_cons, List.countP_nil]
      split <;> omega
    | cons q r =>
      have h2 := h.last v2
      have h4 := v2 q List.mem_cons_self
      obtain ⟨h6, h7⟩ := h.inv
      have h5 := h7.le id fun z hz => v2 z (List.mem_cons_of_mem _ hz)
      simp only [id] at h5
      unfold ends at h2 ⊢
      rw [List.countP_cons]
      have e1 : ¬ b = p.x0 := by omega
      have e2 : ¬ b = p.x1 := by omega
      simp only [e1, e2, decide_false, Bool.or_false, Bool.false_eq_true, if_false]
      exact h2
end Geo
set_option linter.all false
namespace Geo
theorem ChX.mapx {f : Pn → Pn} (hf : ∀ p, (f p).x0 = p.x0 ∧ (f p).x1 = p.x1) {b : Int} : ∀ {r : List Pn} {a : Int}, ChX a r b → ChX a (r.map f) b
  | [], _, h => h
  | p :: r, a, h => by
    obtain ⟨e, h⟩ := h.inv
    have z : ChX (f p).x1 (r.map f) b := (h.mapx hf).cast (hf p).2.symm rfl
    exact (ChX.cons z).cast ((hf p).1.trans e) rfl
theorem ChX.tail {b : Int} : ∀ {r : List Pn} {a : Int}, ChX a r b → a = b ∨ ∃ q ∈ r, q.x1 = b
  | [], _, h => .inl h.inv0
  | p :: r, a, h => by
    obtain ⟨e, h⟩ := h.inv
    rcases h.tail with z | ⟨q, hq, z⟩
    · exact .inr ⟨p, List.mem_cons_self, z⟩
    · exact .inr ⟨q, List.mem_cons_of_mem _ hq, z⟩
theorem Ov.symm {p q : Pn} (h : Ov p q) : Ov q p := ⟨h.2.1, h.1, h.2.2.2, h.2.2.1⟩
theorem pw_mem {α : Type} {R : α → α → Prop} (hs : ∀ a b, R a b → R b a) : ∀ {l : List α}, l.Pairwise R → ∀ a ∈ l, ∀ b ∈ l, a ≠ b → R a b
  | [], _, a, ha, _, _, _ => by simp at ha
  | c :: l, h, a, ha, b, hb, n => by
    obtain ⟨h1, h2⟩ := List.pairwise_cons.mp h
    rcases List.mem_cons.mp ha with ea | ha1
    · rcases List.mem_cons.mp hb with eb | hb1
      · exact absurd (ea.trans eb.symm) n
      · rw [ea]
        exact h1 b hb1
    · rcases List.mem_cons.mp hb with eb | hb1
      · rw [eb]
        exact hs _ _ (h1 a ha1)
      · exact pw_mem hs h2 a ha1 b hb1 n
/-- a layout that grows, W wide and H high: all that is asked of it, at any places X, Y of its sides -/
structure Gr (ps : List Pn) (W H : Int) : Prop where
  w : 0 < W
  h : 0 < H
  pos : ∀ p ∈ ps, 0 ≤ p.x0 ∧ p.x0 < p.x1 ∧ p.x1 ≤ W ∧ 0 ≤ p.y0 ∧ p.y0 < p.y1 ∧ p.y1 ≤ H
  bot : ∃ B : List Pn, B.Perm (ps.filter fun p => decide (p.y1 = H)) ∧ ChX 0 B W
  rig : ∃ R : List Pn, R.Perm (ps.filter fun p => decide (p.x1 = W)) ∧ ChX 0 (R.map Pn.swap) H
  cnt : ∀ x y, ps.countP (Cor x y) ≤ 2
  area : ∀ X Y : Int → Int, (ps.map fun p => (p.img X Y).area).sum = (X W - X 0) * (Y H - Y 0)
  sep : ∀ X Y : Int → Int, (∀ p ∈ ps, (p.img X Y).ok) → ps.Pairwise (fun p q => ¬ Ov (p.img X Y) (q.img X Y)) ∧
    ∀ p ∈ ps, X 0 ≤ X p.x0 ∧ X p.x1 ≤ X W ∧ Y 0 ≤ Y p.y0 ∧ Y p.y1 ≤ Y H
  cx : ∀ p ∈ ps, p.x0 = 0 ∨ ∃ q ∈ ps, q.x1 = p.x0
  cy : ∀ p ∈ ps, p.y0 = 0 ∨ ∃ q ∈ ps, q.y1 = p.y0

theorem swap_swap (p : Pn) : p.swap.swap = p := rfl
theorem map_swap2 (ps : List Pn) : (ps.map Pn.swap).map Pn.swap = ps := by
  rw [List.map_map]
  exact List.map_id' ps
theorem cor_swap (x y : Int) (p : Pn) : Cor x y p.swap = Cor y x p := by
  show ((decide (x = p.y0) || decide (x = p.y1)) && (decide (y = p.x0) || decide (y = p.x1))) = ((decide (y = p.x0) || decide (y = p.x1)) && (decide (x = p.y0) || decide (x = p.y1)))
  exact Bool.and_comm _ _
theorem ov_swap {p q : Pn} (h : Ov p.swap q.swap) : Ov p q := ⟨h.2.2.1, h.2.2.2, h.1, h.2.1⟩
theorem area_swap (p : Pn) : p.swap.area = p.area := Int.mul_comm _ _
theorem Gr.swap {ps : List Pn} {W H : Int} (g : Gr ps W H) : Gr (ps.map Pn.swap) H W where
  w := g.h
  h := g.w
  pos := fun p hp => by
    obtain ⟨q, hq, rfl⟩ := List.mem_map.mp hp
    obtain ⟨a, b, c, d, e, f⟩ := g.pos q hq
    exact ⟨d, e, f, a, b, c⟩
  bot := by
    obtain ⟨R, h1, h2⟩ := g.rig
    refine ⟨R.map Pn.swap, ?_, h2⟩
    rw [List.filter_map]
    exact h1.map _
  rig := by
    obtain ⟨B, h1, h2⟩ := g.bot
    refine ⟨B.map Pn.swap, ?_, ?_⟩
    · rw [List.filter_map]
      exact h1.map _
    · rw [map_swap2]
      exact h2
  cnt := fun x y => by
    rw [List.countP_map]
    have e : (Cor x y ∘ Pn.swap) = Cor y x := funext fun p => cor_swap x y p
    rw [e]
    exact g.cnt y x
  area := fun X Y => by
    rw [List.map_map]
    have e : ((fun p => (Pn.img X Y p).area) ∘ Pn.swap) = fun p => (Pn.img Y X p).area := funext fun p => Int.mul_comm _ _
    rw [e, g.area Y X]
    exact Int.mul_comm _ _
  sep := fun X Y v => by
    have v2 : ∀ p ∈ ps, (p.img Y X).ok := fun p hp => (v p.swap (List.mem_map_of_mem hp)).symm
    obtain ⟨h1, h2⟩ := g.sep Y X v2
    refine ⟨?_, fun p hp => ?_⟩
    · rw [List.pairwise_map]
      exact h1.imp fun n z => n ⟨z.2.2.1, z.2.2.2, z.1, z.2.1⟩
    · obtain ⟨q, hq, rfl⟩ := List.mem_map.mp hp
      obtain ⟨a, b, c, d⟩ := h2 q hq
      exact ⟨c, d, a, b⟩
  cx := fun p hp => by
    obtain ⟨q, hq, rfl⟩ := List.mem_map.mp hp
    rcases g.cy q hq with z | ⟨r, hr, z⟩
    · exact .inl z
    · exact .inr ⟨r.swap, List.mem_map_of_mem hr, z⟩
  cy := fun p hp => by
    obtain ⟨q, hq, rfl⟩ := List.mem_map.mp hp
    rcases g.cx q hq with z | ⟨r, hr, z⟩
    · exact .inl z
    · exact .inr ⟨r.swap, List.mem_map_of_mem hr, z⟩
theorem gr_one : Gr [⟨0, 0, 1, 1⟩] 1 1 where
  w := by decide
  h := by decide
  pos := fun p hp => by
    obtain rfl := List.mem_singleton.mp hp
    decide
  bot := ⟨[⟨0, 0, 1, 1⟩], by rfl, (ChX.cons (p := ⟨0, 0, 1, 1⟩) .nil)⟩
  rig := ⟨[⟨0, 0, 1, 1⟩], by rfl, (ChX.cons (p := ⟨0, 0, 1, 1⟩) .nil)⟩
  cnt := fun x y => by
    rw [List.countP_cons, List.countP_nil]
    split <;> omega
  area := fun X Y => by simp [Pn.area, Pn.img]
  sep := fun X Y v => by
    refine ⟨List.pairwise_singleton _ _, fun p hp => ?_⟩
    obtain rfl := List.mem_singleton.mp hp
    exact ⟨Int.le_refl _, Int.le_refl _, Int.le_refl _, Int.le_refl _⟩
  cx := fun p hp => by
    obtain rfl := List.mem_singleton.mp hp
    exact .inl rfl
  cy := fun p hp => by
    obtain rfl := List.mem_singleton.mp hp
    exact .inl rfl
end Geo
set_option linter.all false
namespace Geo
/-- drawn out below by one, if it lies at the lower border ahead of k -/
def ext (H k : Int) (p : Pn) : Pn := if p.y1 = H ∧ p.x0 < k then { p with y1 := H + 1 } else p
def push (ps : List Pn) (W H k : Int) : List Pn := ps.map (ext H k) ++ [⟨k, H, W, H + 1⟩]
section
variable {ps B1 B2 : List Pn} {W H k : Int}
theorem ext_x (p : Pn) : (ext H k p).x0 = p.x0 ∧ (ext H k p).x1 = p.x1 ∧ (ext H k p).y0 = p.y0 := by
  unfold ext
  split <;> exact ⟨rfl, rfl, rfl⟩
theorem ext_yes {p : Pn} (h : p.y1 = H ∧ p.x0 < k) : (ext H k p).y1 = H + 1 := by
  unfold ext
  rw [if_pos h]
theorem ext_no {p : Pn} (h : ¬ (p.y1 = H ∧ p.x0 < k)) : ext H k p = p := by
  unfold ext
  rw [if_neg h]
theorem sum_map_add {α : Type} (f g : α → Int) : ∀ l : List α, (l.map fun a => f a + g a).sum = (l.map f).sum + (l.map g).sum
  | [] => rfl
  | a :: l => by
    rw [List.map_cons, List.sum_cons, sum_map_add f g l, List.map_cons, List.sum_cons, List.map_cons, List.sum_cons]
    omega
theorem sum_map_ite {α : Type} (c : α → Bool) (f : α → Int) : ∀ l : List α, (l.map fun a => if c a = true then f a else 0).sum = ((l.filter c).map f).sum
  | [] => rfl
  | a :: l => by
    rw [List.map_cons, List.sum_cons, sum_map_ite c f l, List.filter_cons]
    split
    · rw [List.map_cons, List.sum_cons]
    · omega
theorem sum_map_mul {α : Type} (f : α → Int) (z : Int) : ∀ l : List α, (l.map fun a => f a * z).sum = (l.map f).sum * z
  | [] => by simp
  | a :: l => by
    rw [List.map_cons, List.sum_cons, sum_map_mul f z l, List.map_cons, List.sum_cons, Int.add_mul]
theorem sum_perm {l m : List Int} (h : l.Perm m) : l.sum = m.sum := by
  induction h with
  | nil => rfl
  | cons a _ ih => rw [List.sum_cons, List.sum_cons, ih]
  | swap a b l =>
    rw [List.sum_cons, List.sum_cons, List.sum_cons, List.sum_cons]
    omega
  | trans _ _ h1 h2 => rw [h1, h2]
/-- the lower border in two parts, at k -/
structure Cut (ps B1 B2 : List Pn) (W H k : Int) : Prop where
  p : (B1 ++ B2).Perm (ps.filter fun p => decide (p.y1 = H))
  a : ChX 0 B1 k
  b : ChX k B2 W
  ne : B2 ≠ []
theorem Cut.mem (c : Cut ps B1 B2 W H k) {p : Pn} (h : p ∈ B1 ++ B2) : p ∈ ps ∧ p.y1 = H := by
  have z := c.p.mem_iff.mp h
  rw [List.mem_filter] at z
  exact ⟨z.1, of_decide_eq_true z.2⟩
theorem Cut.v1 (c : Cut ps B1 B2 W H k) (g : Gr ps W H) : ∀ p ∈ B1, p.x0 < p.x1 := fun p hp => (g.pos p (c.mem (List.mem_append_left _ hp)).1).2.1
theorem Cut.v2 (c : Cut ps B1 B2 W H k) (g : Gr ps W H) : ∀ p ∈ B2, p.x0 < p.x1 := fun p hp => (g.pos p (c.mem (List.mem_append_right _ hp)).1).2.1
theorem Cut.lt (c : Cut ps B1 B2 W H k) (g : Gr ps W H) : ∀ p ∈ B1, p.x0 < k := fun p hp => by
  have z := (c.a.mem id (c.v1 g) p hp).2
  have v := c.v1 g p hp
  simp only [id] at z
  omega
theorem Cut.ge (c : Cut ps B1 B2 W H k) (g : Gr ps W H) : ∀ p ∈ B2, k ≤ p.x0 := fun p hp => (c.b.mem id (c.v2 g) p hp).1
theorem Cut.kW (c : Cut ps B1 B2 W H k) (g : Gr ps W H) : k < W := by
  cases hB : B2 with
  | nil => exact absurd hB c.ne
  | cons q r =>
    have hq : q ∈ B2 := by rw [hB]; exact List.mem_cons_self
    have z := c.b.mem id (c.v2 g) q hq
    have v := c.v2 g q hq
    simp only [id] at z
    omega
theorem Cut.k0 (c : Cut ps B1 B2 W H k) (g : Gr ps W H) : 0 ≤ k := c.a.le id (c.v1 g)
theorem Cut.f1 (c : Cut ps B1 B2 W H k) (g : Gr ps W H) : B1.Perm (ps.filter fun p => decide (p.y1 = H ∧ p.x0 < k)) := by
  have z := c.p.filter fun p => decide (p.x0 < k)
  rw [List.filter_append, List.filter_eq_self.mpr (fun p hp => decide_eq_true (c.lt g p hp)), List.filter_eq_nil_iff.mpr (fun p hp => by
    have := c.ge g p hp
    simp only [decide_eq_true_eq]
    omega), List.append_nil, List.filter_filter] at z
  have e : (fun p : Pn => decide (p.x0 < k) && decide (p.y1 = H)) = fun p => decide (p.y1 = H ∧ p.x0 < k) := funext fun p => by
    rw [Bool.and_comm, Bool.decide_and]
  rw [e] at z
  exact z
theorem Cut.f2 (c : Cut ps B1 B2 W H k) (g : Gr ps W H) : B2.Perm (ps.filter fun p => decide (p.y1 = H ∧ ¬ p.x0 < k)) := by
  have z := c.p.filter fun p => decide (¬ p.x0 < k)
  rw [List.filter_append, List.filter_eq_nil_iff.mpr (fun p hp => by
    have := c.lt g p hp
    simp only [decide_eq_true_eq]
    omega), List.filter_eq_self.mpr (fun p hp => decide_eq_true (by have := c.ge g p hp; omega)), List.nil_append, List.filter_filter] at z
  have e : (fun p : Pn => decide (¬ p.x0 < k) && decide (p.y1 = H)) = fun p => decide (p.y1 = H ∧ ¬ p.x0 < k) := funext fun p => by
    rw [Bool.and_comm, Bool.decide_and]
  rw [e] at z
  exact z
theorem ends_perm {x : Int} {l m : List Pn} (h : l.Perm m) : ends x l = ends x m := h.countP_eq _
theorem push_area (g : Gr ps W H) (c : Cut ps B1 B2 W H k) (X Y : Int → Int) : ((push ps W H k).map fun p => (p.img X Y).area).sum = (X W - X 0) * (Y (H + 1) - Y 0) := by
  unfold push
  rw [List.map_append, List.sum_append, List.map_map]
  have e : ((fun p => (Pn.img X Y p).area) ∘ ext H k) = fun p => (p.img X Y).area + (if decide (p.y1 = H ∧ p.x0 < k) = true then (X p.x1 - X p.x0) * (Y (H + 1) - Y H) else 0) := funext fun p => by
    show (Pn.img X Y (ext H k p)).area = _
    by_cases h : p.y1 = H ∧ p.x0 < k
    · rw [if_pos (decide_eq_true h)]
      unfold ext
      rw [if_pos h]
      show (X p.x1 - X p.x0) * (Y (H + 1) - Y p.y0) = (X p.x1 - X p.x0) * (Y p.y1 - Y p.y0) + _
      rw [h.1, ← Int.mul_add]
      congr 1
      omega
    · rw [if_neg (by simpa using h), ext_no h, Int.add_zero]
  rw [e, sum_map_add, g.area X Y, sum_map_ite (fun p : Pn => decide (p.y1 = H ∧ p.x0 < k)) fun p => (X p.x1 - X p.x0) * (Y (H + 1) - Y H), sum_map_mul (fun p : Pn => X p.x1 - X p.x0),
    ← sum_perm ((c.f1 g).map fun p => X p.x1 - X p.x0), c.a.sum X]
  show (X W - X 0) * (Y H - Y 0) + (X k - X 0) * (Y (H + 1) - Y H) + ((X W - X k) * (Y (H + 1) - Y H) + 0) = _
  have e2 : X W - X 0 = (X k - X 0) + (X W - X k) := by omega
  have e3 : Y (H + 1) - Y 0 = (Y H - Y 0) + (Y (H + 1) - Y H) := by omega
  rw [e3, Int.mul_add, Int.add_zero, Int.add_assoc, ← Int.add_mul, ← e2]
theorem push_sep (g : Gr ps W H) (c : Cut ps B1 B2 W H k) (X Y : Int → Int) (v : ∀ p ∈ push ps W H k, (p.img X Y).ok) :
    (push ps W H k).Pairwise (fun p q => ¬ Ov (p.img X Y) (q.img X Y)) ∧ ∀ p ∈ push ps W H k, X 0 ≤ X p.x0 ∧ X p.x1 ≤ X W ∧ Y 0 ≤ Y p.y0 ∧ Y p.y1 ≤ Y (H + 1) := by
  have vn : X k < X W ∧ Y H < Y (H + 1) := v ⟨k, H, W, H + 1⟩ (List.mem_append_right _ List.mem_cons_self)
  have ve : ∀ p ∈ ps, ((ext H k p).img X Y).ok := fun p hp => v _ (List.mem_append_left _ (List.mem_map_of_mem hp))
  -- the old places, the lower border at the new one
  obtain ⟨Z, hZ⟩ : ∃ Z : Int → Int, ∀ t, Z t = if t = H then Y (H + 1) else Y t := ⟨fun t => if t = H then Y (H + 1) else Y t, fun _ => rfl⟩
  have Zne : ∀ t, t ≠ H → Z t = Y t := fun t n => by rw [hZ, if_neg n]
  have ZH : Z H = Y (H + 1) := by rw [hZ, if_pos rfl]
  have zy0 : ∀ p ∈ ps, Z p.y0 = Y p.y0 := fun p hp => Zne _ (by have := g.pos p hp; omega)
  have zy1 : ∀ p ∈ ps, Y (ext H k p).y1 ≤ Z p.y1 := fun p hp => by
    by_cases h : p.y1 = H ∧ p.x0 < k
    · rw [ext_yes h, h.1, ZH]
      exact Int.le_refl _
    · rw [ext_no h]
      by_cases h2 : p.y1 = H
      · rw [h2, ZH]
        omega
      · rw [Zne _ h2]
        exact Int.le_refl _
  have vx : ∀ p ∈ ps, X p.x0 < X p.x1 := fun p hp => by
    have z := (ve p hp).1
    show X p.x0 < X p.x1
    have e := ext_x (H := H) (k := k) p
    have z2 : X (ext H k p).x0 < X (ext H k p).x1 := z
    rw [e.1, e.2.1] at z2
    exact z2
  have vy : ∀ p ∈ ps, Y p.y0 < Y (ext H k p).y1 := fun p hp => by
    have z : Y (ext H k p).y0 < Y (ext H k p).y1 := (ve p hp).2
    rw [(ext_x p).2.2] at z
    exact z
  have vo : ∀ p ∈ ps, (p.img X Z).ok := fun p hp => ⟨vx p hp, by
    show Z p.y0 < Z p.y1
    have h1 := zy0 p hp
    have h2 := zy1 p hp
    have h3 := vy p hp
    omega⟩
  obtain ⟨so, bo⟩ := g.sep X Z vo
  have up : ∀ p ∈ ps, ∀ q ∈ ps, Ov ((ext H k p).img X Y) ((ext H k q).img X Y) → Ov (p.img X Z) (q.img X Z) := fun p hp q hq h => by
    obtain ⟨h1, h2, h3, h4⟩ := h
    have ep := ext_x (H := H) (k := k) p
    have eq := ext_x (H := H) (k := k) q
    have a1 : X (ext H k p).x0 < X (ext H k q).x1 := h1
    have a2 : X (ext H k q).x0 < X (ext H k p).x1 := h2
    have a3 : Y (ext H k p).y0 < Y (ext H k q).y1 := h3
    have a4 : Y (ext H k q).y0 < Y (ext H k p).y1 := h4
    rw [ep.1, eq.2.1] at a1
    rw [eq.1, ep.2.1] at a2
    rw [ep.2.2] at a3
    rw [eq.2.2] at a4
    have b1 := zy1 p hp
    have b2 := zy1 q hq
    have b3 := zy0 p hp
    have b4 := zy0 q hq
    refine ⟨a1, a2, ?_, ?_⟩
    · show Z p.y0 < Z q.y1
      omega
    · show Z q.y0 < Z p.y1
      omega
  have hB2 : ∀ q ∈ B2, q ∈ ps ∧ q.y1 = H ∧ ext H k q = q := fun q hq => by
    have m := c.mem (List.mem_append_right B1 hq)
    exact ⟨m.1, m.2, ext_no fun z => by have := c.ge g q hq; omega⟩
  refine ⟨?_, ?_⟩
  · unfold push
    rw [List.pairwise_append]
    refine ⟨?_, List.pairwise_singleton _ _, ?_⟩
    · rw [List.pairwise_map]
      exact so.imp_of_mem fun hp hq n z => n (up _ hp _ hq z)
    · intro p' hp' n' hn'
      obtain rfl := List.mem_singleton.mp hn'
      obtain ⟨p, hp, rfl⟩ := List.mem_map.mp hp'
      intro h
      obtain ⟨h1, h2, h3, h4⟩ := h
      have ep := ext_x (H := H) (k := k) p
      have a1 : X (ext H k p).x0 < X W := h1
      have a2 : X k < X (ext H k p).x1 := h2
      have a4 : Y H < Y (ext H k p).y1 := h4
      rw [ep.1] at a1
      rw [ep.2.1] at a2
      have vxp := vx p hp
      obtain ⟨q, hq, t1, t2⟩ := c.b.cover X (max (X p.x0) (X k)) (by omega) (by omega)
      obtain ⟨q1, q2, q3⟩ := hB2 q hq
      by_cases e : p = q
      · subst e
        rw [q3, q2] at a4
        omega
      · have no := pw_mem (R := fun p q => ¬ Ov (p.img X Z) (q.img X Z)) (fun a b n z => n z.symm) so p hp q q1 e
        refine no ⟨?_, ?_, ?_, ?_⟩
        · show X p.x0 < X q.x1
          omega
        · show X q.x0 < X p.x1
          omega
        · show Z p.y0 < Z q.y1
          rw [q2, ZH, zy0 p hp]
          have : Y (ext H k p).y0 < Y (H + 1) := h3
          rw [ep.2.2] at this
          exact this
        · show Z q.y0 < Z p.y1
          have b1 := zy1 p hp
          have b2 := vy q q1
          rw [q3, q2] at b2
          rw [zy0 q q1]
          omega
  · intro p' hp'
    unfold push at hp'
    have Z0 : Z 0 = Y 0 := Zne 0 (by have := g.h; omega)
    rcases List.mem_append.mp hp' with h | h
    · obtain ⟨p, hp, rfl⟩ := List.mem_map.mp h
      have ep := ext_x (H := H) (k := k) p
      obtain ⟨b1, b2, b3, b4⟩ := bo p hp
      have b5 := zy1 p hp
      have b6 := zy0 p hp
      rw [ep.1, ep.2.1, ep.2.2]
      rw [ZH] at b4
      omega
    · obtain rfl := List.mem_singleton.mp h
      obtain ⟨q, r, hq⟩ : ∃ q r, B2 = q :: r := by
        cases hB : B2 with
        | nil => exact absurd hB c.ne
        | cons q r => exact ⟨q, r, rfl⟩
      have hq' : q ∈ B2 := by rw [hq]; exact List.mem_cons_self
      obtain ⟨q1, q2, q3⟩ := hB2 q hq'
      obtain ⟨b1, b2, b3, b4⟩ := bo q q1
      have b5 := vy q q1
      have b6 := zy0 q q1
      rw [q3, q2] at b5
      have b7 := c.a.le X fun p hp => vx p (c.mem (List.mem_append_left _ hp)).1
      refine ⟨b7, Int.le_refl _, ?_, Int.le_refl _⟩
      show Y 0 ≤ Y H
      omega
end
end Geo
set_option linter.all false
namespace Geo
section
variable {ps B1 B2 : List Pn} {W H k : Int}
theorem push_cnt (g : Gr ps W H) (c : Cut ps B1 B2 W H k) (x y : Int) : (push ps W H k).countP (Cor x y) ≤ 2 := by
  have hW := c.kW g
  unfold push
  rw [List.countP_append, List.countP_map, List.countP_cons, List.countP_nil]
  by_cases h1 : y = H + 1
  · -- the new lower border
    subst h1
    have e : ps.countP (Cor x (H + 1) ∘ ext H k) = ends x B1 := by
      rw [ends_perm (c.f1 g)]
      unfold ends
      rw [List.countP_filter]
      refine List.countP_congr fun p hp => ?_
      have z := g.pos p hp
      show Cor x (H + 1) (ext H k p) = true ↔ _
      by_cases d : p.y1 = H ∧ p.x0 < k
      · unfold ext
        rw [if_pos d]
        show ((decide (x = p.x0) || decide (x = p.x1)) && (decide (H + 1 = p.y0) || decide (H + 1 = H + 1))) = true ↔ _
        simp [d.1, d.2]
      · rw [ext_no d]
        have n0 : ¬ H + 1 = p.y0 := by omega
        have n1 : ¬ H + 1 = p.y1 := by omega
        unfold Cor
        simp only [n0, n1, decide_false, Bool.or_false, Bool.and_false, d]
    rw [e]
    have two := c.a.two x (c.v1 g)
    by_cases a1 : x = k
    · subst a1
      have l := c.a.last (c.v1 g)
      split <;> omega
    · by_cases a2 : x < k
      · have n : Cor x (H + 1) ⟨k, H, W, H + 1⟩ = false := by
          unfold Cor
          have n1 : ¬ x = W := by omega
          simp [a1, n1]
        rw [n]
        simp only [Bool.false_eq_true, if_false]
        omega
      · have l := c.a.over (x := x) (c.v1 g) (by omega)
        split <;> omega
  · by_cases h2 : y = H
    · -- the new segment
      subst h2
      have e : ps.countP (Cor x y ∘ ext y k) = ends x B2 := by
        rw [ends_perm (c.f2 g)]
        unfold ends
        rw [List.countP_filter]
        refine List.countP_congr fun p hp => ?_
        have z := g.pos p hp
        show Cor x y (ext y k p) = true ↔ _
        have n0 : ¬ y = p.y0 := by omega
        by_cases d : p.y1 = y ∧ p.x0 < k
        · unfold ext
          rw [if_pos d]
          have n1 : ¬ y = y + 1 := by omega
          show ((decide (x = p.x0) || decide (x = p.x1)) && (decide (y = p.y0) || decide (y = y + 1))) = true ↔ _
          simp only [n0, n1, decide_false, Bool.or_false, Bool.and_false, d.1, d.2, not_true, and_false]
        · rw [ext_no d]
          unfold Cor
          by_cases d1 : p.y1 = y
          · have d2 : ¬ p.x0 < k := fun t => d ⟨d1, t⟩
            simp [d1, d2, n0]
          · have n1 : ¬ y = p.y1 := fun t => d1 t.symm
            simp [d1, n1, n0]
      rw [e]
      have two := c.b.two x (c.v2 g)
      by_cases a1 : x = k
      · subst a1
        have l := c.b.first (c.v2 g)
        split <;> omega
      · by_cases a2 : x = W
        · subst a2
          have l := c.b.last (c.v2 g)
          split <;> omega
        · have n : Cor x y ⟨k, y, W, y + 1⟩ = false := by
            unfold Cor
            simp [a1, a2]
          rw [n]
          simp only [Bool.false_eq_true, if_false]
          omega
    · -- anywhere else nothing has changed
      have e : ps.countP (Cor x y ∘ ext H k) = ps.countP (Cor x y) := by
        refine List.countP_congr fun p hp => ?_
        show Cor x y (ext H k p) = true ↔ _
        by_cases d : p.y1 = H ∧ p.x0 < k
        · unfold ext
          rw [if_pos d]
          unfold Cor
          have n1 : ¬ y = p.y1 := by omega
          simp only [h1, n1]
        · rw [ext_no d]
      have n : Cor x y ⟨k, H, W, H + 1⟩ = false := by
        unfold Cor
        simp [h1, h2]
      rw [e, n]
      have z := g.cnt x y
      simp only [Bool.false_eq_true, if_false]
      omega
theorem push_gr (g : Gr ps W H) (c : Cut ps B1 B2 W H k) : Gr (push ps W H k) W (H + 1) := by
  have hW := c.kW g
  have hk := c.k0 g
  have hw := g.w
  have hh := g.h
  have new : (⟨k, H, W, H + 1⟩ : Pn) ∈ push ps W H k := List.mem_append_right _ List.mem_cons_self
  refine ⟨g.w, by omega, fun p' hp' => ?_, ?_, ?_, push_cnt g c, push_area g c, push_sep g c, fun p' hp' => ?_, fun p' hp' => ?_⟩
  · rcases List.mem_append.mp hp' with h | h
    · obtain ⟨p, hp, rfl⟩ := List.mem_map.mp h
      have z := g.pos p hp
      have e := ext_x (H := H) (k := k) p
      by_cases d : p.y1 = H ∧ p.x0 < k
      · have f := ext_yes d
        omega
      · rw [ext_no d]
        omega
    · obtain rfl := List.mem_singleton.mp h
      show 0 ≤ k ∧ k < W ∧ W ≤ W ∧ 0 ≤ H ∧ H < H + 1 ∧ H + 1 ≤ H + 1
      omega
  · refine ⟨B1.map (ext H k) ++ [⟨k, H, W, H + 1⟩], ?_, (c.a.mapx fun p => ⟨(ext_x p).1, (ext_x p).2.1⟩).app (ChX.cons (p := ⟨k, H, W, H + 1⟩) .nil)⟩
    unfold push
    rw [List.filter_append, List.filter_map]
    have e1 : ps.filter ((fun p => decide (p.y1 = H + 1)) ∘ ext H k) = ps.filter fun p => decide (p.y1 = H ∧ p.x0 < k) := by
      refine List.filter_congr fun p hp => ?_
      have z := g.pos p hp
      show decide ((ext H k p).y1 = H + 1) = _
      by_cases d : p.y1 = H ∧ p.x0 < k
      · rw [ext_yes d]
        simp [d.1, d.2]
      · rw [ext_no d]
        have n : ¬ p.y1 = H + 1 := by omega
        simp only [n, d, decide_false]
    have e2 : [(⟨k, H, W, H + 1⟩ : Pn)].filter (fun p => decide (p.y1 = H + 1)) = [⟨k, H, W, H + 1⟩] := by simp
    rw [e1, e2]
    exact ((c.f1 g).map _).append_right _
  · obtain ⟨R, r1, r2⟩ := g.rig
    refine ⟨R ++ [⟨k, H, W, H + 1⟩], ?_, ?_⟩
    · unfold push
      rw [List.filter_append, List.filter_map]
      have e1 : ps.filter ((fun p => decide (p.x1 = W)) ∘ ext H k) = ps.filter fun p => decide (p.x1 = W) := by
        refine List.filter_congr fun p hp => ?_
        show decide ((ext H k p).x1 = W) = _
        rw [(ext_x p).2.1]
      have e2 : [(⟨k, H, W, H + 1⟩ : Pn)].filter (fun p => decide (p.x1 = W)) = [⟨k, H, W, H + 1⟩] := by simp
      have e3 : (ps.filter fun p => decide (p.x1 = W)).map (ext H k) = ps.filter fun p => decide (p.x1 = W) := by
        refine (List.map_congr_left fun p hp => ?_).trans (List.map_id _)
        rw [List.mem_filter] at hp
        have hx : p.x1 = W := of_decide_eq_true hp.2
        refine ext_no fun d => ?_
        have m : p ∈ B1 := (c.f1 g).mem_iff.mpr (List.mem_filter.mpr ⟨hp.1, decide_eq_true d⟩)
        have z := (c.a.mem id (c.v1 g) p m).2
        simp only [id] at z
        omega
      rw [e1, e2, e3]
      exact r1.append_right _
    · rw [List.map_append]
      exact r2.app (ChX.cons (p := ⟨H, k, H + 1, W⟩) .nil)
  · -- where upright sides begin
    rcases List.mem_append.mp hp' with h | h
    · obtain ⟨p, hp, rfl⟩ := List.mem_map.mp h
      rw [(ext_x p).1]
      rcases g.cx p hp with z | ⟨q, hq, z⟩
      · exact .inl z
      · exact .inr ⟨ext H k q, List.mem_append_left _ (List.mem_map_of_mem hq), by rw [(ext_x q).2.1]; exact z⟩
    · obtain rfl := List.mem_singleton.mp h
      rcases c.a.tail with z | ⟨q, hq, z⟩
      · exact .inl z.symm
      · exact .inr ⟨ext H k q, List.mem_append_left _ (List.mem_map_of_mem (c.mem (List.mem_append_left _ hq)).1), by rw [(ext_x q).2.1]; exact z⟩
  · rcases List.mem_append.mp hp' with h | h
    · obtain ⟨p, hp, rfl⟩ := List.mem_map.mp h
      rw [(ext_x p).2.2]
      have z := g.pos p hp
      rcases g.cy p hp with z | ⟨q, hq, z2⟩
      · exact .inl z
      · refine .inr ⟨ext H k q, List.mem_append_left _ (List.mem_map_of_mem hq), ?_⟩
        rw [ext_no fun d => by omega]
        exact z2
    · obtain rfl := List.mem_singleton.mp h
      obtain ⟨q, r, hq⟩ : ∃ q r, B2 = q :: r := by
        cases hB : B2 with
        | nil => exact absurd hB c.ne
        | cons q r => exact ⟨q, r, rfl⟩
      have hq' : q ∈ B2 := by rw [hq]; exact List.mem_cons_self
      have m := c.mem (List.mem_append_right B1 hq')
      refine .inr ⟨ext H k q, List.mem_append_left _ (List.mem_map_of_mem m.1), ?_⟩
      rw [ext_no fun d => by have := c.ge g q hq'; omega]
      exact m.2
end
end Geo
set_option linter.all false
namespace Geo
/-- a layout: what is asked of a list of panes -/
structure Valid (ps : List Pn) : Prop where
  len : ps.length ≤ 60
  pos : ∀ p ∈ ps, 0 ≤ p.x0 ∧ p.x0 < p.x1 ∧ 0 ≤ p.y0 ∧ p.y0 < p.y1
  sep : ps.Pairwise fun p q => ¬ Ov p q
  full : ∃ W H : Int, (∀ p ∈ ps, p.x1 ≤ W ∧ p.y1 ≤ H) ∧ (∃ p ∈ ps, p.x1 = W) ∧ (∃ p ∈ ps, p.y1 = H) ∧ areas ps = W * H
  cnt : ∀ x y, ps.countP (Cor x y) ≤ 3
theorem pw_perm {α : Type} {R : α → α → Prop} (hs : ∀ a b, R a b → R b a) {l m : List α} (h : l.Perm m) : l.Pairwise R → m.Pairwise R := by
  induction h with
  | nil => exact fun h => h
  | cons a p ih =>
    intro h
    obtain ⟨h1, h2⟩ := List.pairwise_cons.mp h
    exact List.pairwise_cons.mpr ⟨fun b hb => h1 b (p.mem_iff.mpr hb), ih h2⟩
  | swap a b l =>
    intro h
    obtain ⟨h1, h2⟩ := List.pairwise_cons.mp h
    obtain ⟨h3, h4⟩ := List.pairwise_cons.mp h2
    refine List.pairwise_cons.mpr ⟨fun c hc => ?_, List.pairwise_cons.mpr ⟨fun c hc => h1 c (List.mem_cons_of_mem _ hc), h4⟩⟩
    rcases List.mem_cons.mp hc with rfl | hc
    · exact hs _ _ (h1 _ List.mem_cons_self)
    · exact h3 c hc
  | trans _ _ i1 i2 => exact fun h => i2 (i1 h)
theorem Valid.perm {ps qs : List Pn} (v : Valid ps) (h : ps.Perm qs) : Valid qs where
  len := h.length_eq ▸ v.len
  pos := fun p hp => v.pos p (h.mem_iff.mpr hp)
  sep := pw_perm (fun _ _ n z => n z.symm) h v.sep
  full := by
    obtain ⟨W, H, h1, ⟨p, hp, ep⟩, ⟨q, hq, eq⟩, h4⟩ := v.full
    refine ⟨W, H, fun r hr => h1 r (h.mem_iff.mpr hr), ⟨p, h.mem_iff.mp hp, ep⟩, ⟨q, h.mem_iff.mp hq, eq⟩, ?_⟩
    rw [← h4]
    exact (sum_perm (h.map _)).symm
  cnt := fun x y => by
    rw [← h.countP_eq]
    exact v.cnt x y
/-- a grown layout with its sides at other places -/
theorem Gr.valid {ps : List Pn} {W H : Int} (g : Gr ps W H) (hl : ps.length ≤ 60) {X Y : Int → Int} (v : ∀ p ∈ ps, (p.img X Y).ok) (x0 : X 0 = 0) (y0 : Y 0 = 0)
    (ix : ∀ p ∈ ps, ∀ q ∈ ps, ∀ a ∈ [p.x0, p.x1], ∀ b ∈ [q.x0, q.x1], X a = X b → a = b) (iy : ∀ p ∈ ps, ∀ q ∈ ps, ∀ a ∈ [p.y0, p.y1], ∀ b ∈ [q.y0, q.y1], Y a = Y b → a = b) :
    Valid (ps.map (Pn.img X Y)) := by
  obtain ⟨s, b⟩ := g.sep X Y v
  refine ⟨by rw [List.length_map]; exact hl, fun p' hp' => ?_, ?_, ?_, fun a c => ?_⟩
  · obtain ⟨p, hp, rfl⟩ := List.mem_map.mp hp'
    obtain ⟨b1, b2, b3, b4⟩ := b p hp
    obtain ⟨v1, v2⟩ := v p hp
    rw [x0] at b1
    rw [y0] at b3
    exact ⟨b1, v1, b3, v2⟩
  · rw [List.pairwise_map]
    exact s
  · refine ⟨X W, Y H, fun p' hp' => ?_, ?_, ?_, ?_⟩
    · obtain ⟨p, hp, rfl⟩ := List.mem_map.mp hp'
      obtain ⟨b1, b2, b3, b4⟩ := b p hp
      exact ⟨b2, b4⟩
    · obtain ⟨B, h1, h2⟩ := g.bot
      rcases h2.tail with z | ⟨q, hq, z⟩
      · have := g.w
        omega
      · have m := h1.mem_iff.mp hq
        rw [List.mem_filter] at m
        exact ⟨q.img X Y, List.mem_map_of_mem m.1, by show X q.x1 = X W; rw [z]⟩
    · obtain ⟨R, h1, h2⟩ := g.rig
      rcases h2.tail with z | ⟨q', hq', z⟩
      · have := g.h
        omega
      · obtain ⟨q, hq, rfl⟩ := List.mem_map.mp hq'
        have m := h1.mem_iff.mp hq
        rw [List.mem_filter] at m
        exact ⟨q.img X Y, List.mem_map_of_mem m.1, by
          show Y q.y1 = Y H
          have z2 : q.y1 = H := z
          rw [z2]⟩
    · have z := g.area X Y
      rw [x0, y0, Int.sub_zero, Int.sub_zero] at z
      unfold areas
      rw [List.map_map]
      exact z
  · rw [List.countP_map]
    by_cases e : ∃ p ∈ ps, Cor a c (p.img X Y) = true
    · obtain ⟨p, hp, hc⟩ := e
      obtain ⟨x, hx, ex, y, hy, ey⟩ : ∃ x ∈ [p.x0, p.x1], a = X x ∧ ∃ y ∈ [p.y0, p.y1], c = Y y := by
        unfold Cor at hc
        rw [Bool.and_eq_true, Bool.or_eq_true, Bool.or_eq_true, decide_eq_true_eq, decide_eq_true_eq, decide_eq_true_eq, decide_eq_true_eq] at hc
        obtain ⟨h1, h2⟩ := hc
        have hh1 : ∃ x ∈ [p.x0, p.x1], a = X x := by
          rcases h1 with h | h
          · exact ⟨p.x0, by simp, h⟩
          · exact ⟨p.x1, by simp, h⟩
        have hh2 : ∃ y ∈ [p.y0, p.y1], c = Y y := by
          rcases h2 with h | h
          · exact ⟨p.y0, by simp, h⟩
          · exact ⟨p.y1, by simp, h⟩
        obtain ⟨x, q1, q2⟩ := hh1
        obtain ⟨y, q3, q4⟩ := hh2
        exact ⟨x, q1, q2, y, q3, q4⟩
      refine Nat.le_trans ?_ (Nat.le_succ_of_le (g.cnt x y))
      refine List.countP_mono_left fun q hq h => ?_
      have h' : Cor a c (q.img X Y) = true := h
      unfold Cor at h'
      rw [Bool.and_eq_true, Bool.or_eq_true, Bool.or_eq_true, decide_eq_true_eq, decide_eq_true_eq, decide_eq_true_eq, decide_eq_true_eq] at h'
      obtain ⟨h1, h2⟩ := h'
      have k1 : x = q.x0 ∨ x = q.x1 := by
        rcases h1 with h | h
        · exact .inl (ix p hp q hq x hx q.x0 (by simp) (ex.symm.trans h))
        · exact .inr (ix p hp q hq x hx q.x1 (by simp) (ex.symm.trans h))
      have k2 : y = q.y0 ∨ y = q.y1 := by
        rcases h2 with h | h
        · exact .inl (iy p hp q hq y hy q.y0 (by simp) (ey.symm.trans h))
        · exact .inr (iy p hp q hq y hy q.y1 (by simp) (ey.symm.trans h))
      unfold Cor
      rw [Bool.and_eq_true, Bool.or_eq_true, Bool.or_eq_true, decide_eq_true_eq, decide_eq_true_eq, decide_eq_true_eq, decide_eq_true_eq]
      exact ⟨k1, k2⟩
    · have z : ps.countP (Cor a c ∘ Pn.img X Y) = 0 := List.countP_eq_zero.mpr fun p hp h => e ⟨p, hp, h⟩
      rw [z]
      omega
/-! ## at most four panes that do not lie over one another have a corner at a point -/
theorem countP_one {α : Type} {R : α → α → Prop} {f : α → Bool} (h : ∀ a b, f a = true → f b = true → ¬ R a b) : ∀ {l : List α}, l.Pairwise R → l.countP f ≤ 1
  | [], _ => Nat.zero_le _
  | a :: l, p => by
    obtain ⟨p1, p2⟩ := List.pairwise_cons.mp p
    rw [List.countP_cons]
    by_cases c : f a = true
    · have z : l.countP f = 0 := List.countP_eq_zero.mpr fun b hb hf => h a b c hf (p1 b hb)
      rw [z, if_pos c]
      omega
    · rw [if_neg c]
      exact countP_one h p2
theorem countP_or {α : Type} (f g : α → Bool) : ∀ l : List α, l.countP (fun a => f a || g a) ≤ l.countP f + l.countP g
  | [] => Nat.zero_le _
  | a :: l => by
    have ih := countP_or f g l
    rw [List.countP_cons, List.countP_cons, List.countP_cons]
    cases f a <;> cases g a <;> simp <;> omega
theorem four_most {ps : List Pn} (pos : ∀ p ∈ ps, p.x0 < p.x1 ∧ p.y0 < p.y1) (sep : ps.Pairwise fun p q => ¬ Ov p q) (x y : Int) : ps.countP (Cor x y) ≤ 4 := by
  have sep2 : ps.Pairwise fun p q => (p.x0 < p.x1 ∧ p.y0 < p.y1) ∧ (q.x0 < q.x1 ∧ q.y0 < q.y1) ∧ ¬ Ov p q := sep.imp_of_mem fun hp hq n => ⟨pos _ hp, pos _ hq, n⟩
  have one : ∀ (f : Pn → Bool), (∀ p q : Pn, f p = true → f q = true → (p.x0 < p.x1 ∧ p.y0 < p.y1) → (q.x0 < q.x1 ∧ q.y0 < q.y1) → Ov p q) → ps.countP f ≤ 1 := fun f h =>
    countP_one (fun p q a b z => z.2.2 (h p q a b z.1 z.2.1)) sep2
  have c1 := one (fun p => decide (x = p.x0 ∧ y = p.y0)) fun p q a b u v => by
    have a' := of_decide_eq_true a
    have b' := of_decide_eq_true b
    exact ⟨by omega, by omega, by omega, by omega⟩
  have c2 := one (fun p => decide (x = p.x0 ∧ y = p.y1)) fun p q a b u v => by
    have a' := of_decide_eq_true a
    have b' := of_decide_eq_true b
    exact ⟨by omega, by omega, by omega, by omega⟩
  have c3 := one (fun p => decide (x = p.x1 ∧ y = p.y0)) fun p q a b u v => by
    have a' := of_decide_eq_true a
    have b' := of_decide_eq_true b
    exact ⟨by omega, by omega, by omega, by omega⟩
  have c4 := one (fun p => decide (x = p.x1 ∧ y = p.y1)) fun p q a b u v => by
    have a' := of_decide_eq_true a
    have b' := of_decide_eq_true b
    exact ⟨by omega, by omega, by omega, by omega⟩
  have e : (Cor x y) = fun p => ((decide (x = p.x0 ∧ y = p.y0) || decide (x = p.x0 ∧ y = p.y1)) || (decide (x = p.x1 ∧ y = p.y0) || decide (x = p.x1 ∧ y = p.y1))) := funext fun p => by
    unfold Cor
    by_cases a : x = p.x0 <;> by_cases b : x = p.x1 <;> by_cases c : y = p.y0 <;> by_cases d : y = p.y1 <;> simp [a, b, c, d]
  rw [e]
  have t1 := countP_or (fun p : Pn => decide (x = p.x0 ∧ y = p.y0) || decide (x = p.x0 ∧ y = p.y1)) (fun p => decide (x = p.x1 ∧ y = p.y0) || decide (x = p.x1 ∧ y = p.y1)) ps
  have t2 := countP_or (fun p : Pn => decide (x = p.x0 ∧ y = p.y0)) (fun p => decide (x = p.x0 ∧ y = p.y1)) ps
  have t3 := countP_or (fun p : Pn => decide (x = p.x1 ∧ y = p.y0)) (fun p => decide (x = p.x1 ∧ y = p.y1)) ps
  omega
/-! ## a pane cut in two -/
theorem cut_sep {A B : List Pn} {p q r : Pn} (h : (A ++ p :: B).Pairwise fun p q => ¬ Ov p q) (hq : ∀ z, Ov q z → Ov p z) (hr : ∀ z, Ov r z → Ov p z) (n : ¬ Ov q r) :
    (A ++ q :: B ++ [r]).Pairwise fun p q => ¬ Ov p q := by
  obtain ⟨h1, h2, h3⟩ := List.pairwise_append.mp h
  obtain ⟨h4, h5⟩ := List.pairwise_cons.mp h2
  refine List.pairwise_append.mpr ⟨List.pairwise_append.mpr ⟨h1, List.pairwise_cons.mpr ⟨fun z hz o => h4 z hz (hq z o), h5⟩, fun a ha b hb o => ?_⟩, List.pairwise_singleton _ _, fun a ha b hb o => ?_⟩
  · rcases List.mem_cons.mp hb with rfl | hb
    · exact h3 a ha p List.mem_cons_self (hq a o.symm).symm
    · exact h3 a ha b (List.mem_cons_of_mem _ hb) o
  · obtain rfl := List.mem_singleton.mp hb
    rcases List.mem_append.mp ha with ha | ha
    · exact h3 a ha p List.mem_cons_self (hr a o.symm).symm
    · rcases List.mem_cons.mp ha with rfl | ha
      · exact n o
      · exact h4 a ha (hr a o.symm)
theorem areas_app (A B : List Pn) : areas (A ++ B) = areas A + areas B := by
  unfold areas
  rw [List.map_append, List.sum_append]
theorem areas_cons (p : Pn) (B : List Pn) : areas (p :: B) = p.area + areas B := by
  unfold areas
  rw [List.map_cons, List.sum_cons]
/-- the two parts at m: side by side, or one over the other -/
def cutX (p : Pn) (m : Int) : Pn × Pn := ({ p with x1 := m }, { p with x0 := m })
def cutY (p : Pn) (m : Int) : Pn × Pn := ({ p with y1 := m }, { p with y0 := m })
theorem cut_valid {A B : List Pn} {p : Pn} {m : Int} {two : Pn × Pn} (v : Valid (A ++ p :: B)) (h : (two = cutX p m ∧ p.x0 < m ∧ m < p.x1) ∨ (two = cutY p m ∧ p.y0 < m ∧ m < p.y1))
    (hl : (A ++ p :: B).length < 60) (nc : ∀ x y, (A ++ two.1 :: B ++ [two.2]).countP (Cor x y) ≠ 4) : Valid (A ++ two.1 :: B ++ [two.2]) := by
  have hp : p ∈ A ++ p :: B := List.mem_append_right _ List.mem_cons_self
  have vp := v.pos p hp
  have pos2 : ∀ z ∈ A ++ two.1 :: B ++ [two.2], 0 ≤ z.x0 ∧ z.x0 < z.x1 ∧ 0 ≤ z.y0 ∧ z.y0 < z.y1 := fun z hz => by
    rcases List.mem_append.mp hz with hz | hz
    · rcases List.mem_append.mp hz with hz | hz
      · exact v.pos z (List.mem_append_left _ hz)
      · rcases List.mem_cons.mp hz with rfl | hz
        · rcases h with ⟨rfl, a, b⟩ | ⟨rfl, a, b⟩
          · exact ⟨vp.1, a, vp.2.2⟩
          · exact ⟨vp.1, vp.2.1, vp.2.2.1, a⟩
        · exact v.pos z (List.mem_append_right _ (List.mem_cons_of_mem _ hz))
    · obtain rfl := List.mem_singleton.mp hz
      rcases h with ⟨rfl, a, b⟩ | ⟨rfl, a, b⟩
      · show 0 ≤ m ∧ m < p.x1 ∧ 0 ≤ p.y0 ∧ p.y0 < p.y1
        omega
      · show 0 ≤ p.x0 ∧ p.x0 < p.x1 ∧ 0 ≤ m ∧ m < p.y1
        omega
  have sep2 : (A ++ two.1 :: B ++ [two.2]).Pairwise fun p q => ¬ Ov p q := by
    rcases h with ⟨rfl, a, b⟩ | ⟨rfl, a, b⟩
    · refine cut_sep v.sep (fun z o => ?_) (fun z o => ?_) fun o => ?_
      · obtain ⟨o1, o2, o3⟩ := o
        have o2' : z.x0 < m := o2
        exact ⟨o1, by omega, o3⟩
      · obtain ⟨o1, o2, o3⟩ := o
        have o1' : m < z.x1 := o1
        exact ⟨by omega, o2, o3⟩
      · have o2 : m < m := o.2.1
        omega
    · refine cut_sep v.sep (fun z o => ?_) (fun z o => ?_) fun o => ?_
      · obtain ⟨o1, o2, o3, o4⟩ := o
        have o4' : z.y0 < m := o4
        exact ⟨o1, o2, o3, by omega⟩
      · obtain ⟨o1, o2, o3, o4⟩ := o
        have o3' : m < z.y1 := o3
        exact ⟨o1, o2, by omega, o4⟩
      · have o2 : m < m := o.2.2.2
        omega
  refine ⟨?_, pos2, sep2, ?_, fun x y => ?_⟩
  · simp only [List.length_append, List.length_cons, List.length_nil] at hl ⊢
    omega
  · obtain ⟨W, H, h1, ⟨q, hq, eq⟩, ⟨r, hr, er⟩, h4⟩ := v.full
    have mv : ∀ z ∈ A ++ p :: B, z ≠ p → z ∈ A ++ two.1 :: B ++ [two.2] := fun z hz n => by
      rcases List.mem_append.mp hz with hz | hz
      · exact List.mem_append_left _ (List.mem_append_left _ hz)
      · rcases List.mem_cons.mp hz with e | hz
        · exact absurd e n
        · exact List.mem_append_left _ (List.mem_append_right _ (List.mem_cons_of_mem _ hz))
    have m1 : two.1 ∈ A ++ two.1 :: B ++ [two.2] := List.mem_append_left _ (List.mem_append_right _ List.mem_cons_self)
    have m2 : two.2 ∈ A ++ two.1 :: B ++ [two.2] := List.mem_append_right _ List.mem_cons_self
    have hpb := h1 p hp
    refine ⟨W, H, fun z hz => ?_, ?_, ?_, ?_⟩
    · rcases List.mem_append.mp hz with hz | hz
      · rcases List.mem_append.mp hz with hz | hz
        · exact h1 z (List.mem_append_left _ hz)
        · rcases List.mem_cons.mp hz with rfl | hz
          · rcases h with ⟨rfl, a, b⟩ | ⟨rfl, a, b⟩
            · show m ≤ W ∧ p.y1 ≤ H
              omega
            · show p.x1 ≤ W ∧ m ≤ H
              omega
          · exact h1 z (List.mem_append_right _ (List.mem_cons_of_mem _ hz))
      · obtain rfl := List.mem_singleton.mp hz
        rcases h with ⟨rfl, a, b⟩ | ⟨rfl, a, b⟩
        · exact hpb
        · exact hpb
    · by_cases e : q = p
      · subst e
        rcases h with ⟨rfl, a, b⟩ | ⟨rfl, a, b⟩
        · exact ⟨_, m2, eq⟩
        · exact ⟨_, m2, eq⟩
      · exact ⟨q, mv q hq e, eq⟩
    · by_cases e : r = p
      · subst e
        rcases h with ⟨rfl, a, b⟩ | ⟨rfl, a, b⟩
        · exact ⟨_, m2, er⟩
        · exact ⟨_, m2, er⟩
      · exact ⟨r, mv r hr e, er⟩
    · rw [← h4, areas_app, areas_app, areas_app, areas_cons, areas_cons, areas_cons]
      have en : areas ([] : List Pn) = 0 := rfl
      have ea : p.area = two.1.area + two.2.area := by
        rcases h with ⟨rfl, a, b⟩ | ⟨rfl, a, b⟩
        · show (p.x1 - p.x0) * (p.y1 - p.y0) = (m - p.x0) * (p.y1 - p.y0) + (p.x1 - m) * (p.y1 - p.y0)
          rw [← Int.add_mul]
          congr 1
          omega
        · show (p.x1 - p.x0) * (p.y1 - p.y0) = (p.x1 - p.x0) * (m - p.y0) + (p.x1 - p.x0) * (p.y1 - m)
          rw [← Int.mul_add]
          congr 1
          omega
      rw [en]
      omega
  · have z := four_most (fun p hp => ⟨(pos2 p hp).2.1, (pos2 p hp).2.2.2⟩) sep2 x y
    have n := nc x y
    omega
end Geo
set_option Elab.async false
set_option linter.all false
set_option maxRecDepth 100000
set_option maxHeartbeats 4000000
/-! # where the defs stand -/
namespace GL
open PySem PySem.Spec PyProof.Rows L2
def topS (i : Nat) : Stmt := PySem.Challenge.pw_paneplans_k10_plans_by_trying.main.body.getD i (.Pass ⟨0, 0, 0, 0⟩)
abbrev s_is_number : Stmt := topS 4
abbrev n_is_number : List Str := ["thing"]
theorem sc_is_number : FnScope n_is_number ["thing"] (defScope s_is_number) := ⟨rfl, rfl, rfl, by decide +kernel, rfl, by decide +kernel, by decide +kernel⟩
abbrev s_is_plan : Stmt := topS 7
abbrev n_is_plan : List Str := ["thing"]
theorem sc_is_plan : FnScope n_is_plan ["thing"] (defScope s_is_plan) := ⟨rfl, rfl, rfl, by decide +kernel, rfl, by decide +kernel, by decide +kernel⟩
abbrev s_pattern_in : Stmt := topS 8
abbrev n_pattern_in : List Str := ["row"]
theorem sc_pattern_in : FnScope n_pattern_in ["row"] (defScope s_pattern_in) := ⟨rfl, rfl, rfl, by decide +kernel, rfl, by decide +kernel, by decide +kernel⟩
abbrev s_is_row : Stmt := topS 9
abbrev n_is_row : List Str := ["thing"]
theorem sc_is_row : FnScope n_is_row ["thing"] (defScope s_is_row) := ⟨rfl, rfl, rfl, by decide +kernel, rfl, by decide +kernel, by decide +kernel⟩
abbrev s_find_places : Stmt := topS 10
abbrev n_find_places : List Str := ["row", "places", "place", "pane", "_"]
theorem sc_find_places : FnScope n_find_places ["row"] (defScope s_find_places) := ⟨rfl, rfl, rfl, by decide +kernel, rfl, by decide +kernel, by decide +kernel⟩
abbrev s_find_pattern : Stmt := topS 11
abbrev n_find_pattern : List Str := ["row", "places", "found", "middle", "pattern"]
theorem sc_find_pattern : FnScope n_find_pattern ["row"] (defScope s_find_pattern) := ⟨rfl, rfl, rfl, by decide +kernel, rfl, by decide +kernel, by decide +kernel⟩
abbrev s_find_pattern_at : Stmt := topS 12
abbrev n_find_pattern_at : List Str := ["row", "places", "middle", "high", "low", "step", "spots", "first", "later", "pane", "spot"]
theorem sc_find_pattern_at : FnScope n_find_pattern_at ["row", "places", "middle"] (defScope s_find_pattern_at) := ⟨rfl, rfl, rfl, by decide +kernel, rfl, by decide +kernel, by decide +kernel⟩
abbrev s__law_jar : Stmt := topS 14
abbrev n__law_jar : List Str := ["script", "k", "cell_here"]
theorem sc__law_jar : FnScope n__law_jar ["script", "k"] (defScope s__law_jar) := ⟨rfl, rfl, rfl, by decide +kernel, rfl, by decide +kernel, by decide +kernel⟩
abbrev s__law_dip : Stmt := topS 15
abbrev n__law_dip : List Str := ["jar", "many", "digit", "mixed"]
theorem sc__law_dip : FnScope n__law_dip ["jar", "many"] (defScope s__law_dip) := ⟨rfl, rfl, rfl, by decide +kernel, rfl, by decide +kernel, by decide +kernel⟩
abbrev s__law_pushed : Stmt := topS 16
abbrev n__law_pushed : List Str := ["panes", "entry", "axis", "one", "edge", "wide", "spot", "row_here", "kept", "names_here", "found", "corners", "last", "begin"]
theorem sc__law_pushed : FnScope n__law_pushed ["panes", "entry"] (defScope s__law_pushed) := ⟨rfl, rfl, rfl, by decide +kernel, rfl, by decide +kernel, by decide +kernel⟩
abbrev s__law_border : Stmt := topS 17
abbrev n__law_border : List Str := ["panes", "axis", "edge", "one"]
theorem sc__law_border : FnScope n__law_border ["panes", "axis"] (defScope s__law_border) := ⟨rfl, rfl, rfl, by decide +kernel, rfl, by decide +kernel, by decide +kernel⟩
abbrev s__law_grown : Stmt := topS 18
abbrev n__law_grown : List Str := ["jar", "many", "panes", "entries_here", "axis", "entry"]
theorem sc__law_grown : FnScope n__law_grown ["jar", "many"] (defScope s__law_grown) := ⟨rfl, rfl, rfl, by decide +kernel, rfl, by decide +kernel, by decide +kernel⟩
abbrev s__law_lines : Stmt := topS 19
abbrev n__law_lines : List Str := ["panes", "axis", "one", "edge", "sides_here", "found", "place_here", "begin", "end"]
theorem sc__law_lines : FnScope n__law_lines ["panes", "axis"] (defScope s__law_lines) := ⟨rfl, rfl, rfl, by decide +kernel, rfl, by decide +kernel, by decide +kernel⟩
abbrev s__law_at : Stmt := topS 20
abbrev n__law_at : List Str := ["panes", "line", "axis", "place_here", "begin", "end", "near", "ahead", "behind", "spot", "one", "here"]
theorem sc__law_at : FnScope n__law_at ["panes", "line", "axis"] (defScope s__law_at) := ⟨rfl, rfl, rfl, by decide +kernel, rfl, by decide +kernel, by decide +kernel⟩
abbrev s__law_steps : Stmt := topS 21
abbrev n__law_steps : List Str := ["panes", "axis", "found", "lines_here", "one", "later", "line"]
theorem sc__law_steps : FnScope n__law_steps ["panes", "axis"] (defScope s__law_steps) := ⟨rfl, rfl, rfl, by decide +kernel, rfl, by decide +kernel, by decide +kernel⟩
abbrev s__law_behind : Stmt := topS 22
abbrev n__law_behind : List Str := ["panes", "axis", "steps", "found", "spot", "begin", "later", "further", "one"]
theorem sc__law_behind : FnScope n__law_behind ["panes", "axis"] (defScope s__law_behind) := ⟨rfl, rfl, rfl, by decide +kernel, rfl, by decide +kernel, by decide +kernel⟩
abbrev s__law_rows : Stmt := topS 23
abbrev n__law_rows : List Str := ["panes", "right", "under", "many", "falling", "rising", "spot", "over", "here", "other_spot"]
theorem sc__law_rows : FnScope n__law_rows ["panes"] (defScope s__law_rows) := ⟨rfl, rfl, rfl, by decide +kernel, rfl, by decide +kernel, by decide +kernel⟩
abbrev s__law_plan : Stmt := topS 24
abbrev n__law_plan : List Str := ["panes", "falling", "rising", "spot"]
theorem sc__law_plan : FnScope n__law_plan ["panes"] (defScope s__law_plan) := ⟨rfl, rfl, rfl, by decide +kernel, rfl, by decide +kernel, by decide +kernel⟩
abbrev s__law_lists : Stmt := topS 25
abbrev n__law_lists : List Str := ["many", "found", "turn", "longer", "one", "spot"]
theorem sc__law_lists : FnScope n__law_lists ["many"] (defScope s__law_lists) := ⟨rfl, rfl, rfl, by decide +kernel, rfl, by decide +kernel, by decide +kernel⟩
abbrev s__law_pattern : Stmt := topS 26
abbrev n__law_pattern : List Str := ["row_here", "many", "one", "two", "three", "here", "there", "low", "high"]
theorem sc__law_pattern : FnScope n__law_pattern ["row_here"] (defScope s__law_pattern) := ⟨rfl, rfl, rfl, by decide +kernel, rfl, by decide +kernel, by decide +kernel⟩
abbrev s__law_all_grown : Stmt := topS 27
abbrev n__law_all_grown : List Str := ["many", "found", "turn", "longer", "panes", "entry"]
theorem sc__law_all_grown : FnScope n__law_all_grown ["many"] (defScope s__law_all_grown) := ⟨rfl, rfl, rfl, by decide +kernel, rfl, by decide +kernel, by decide +kernel⟩
abbrev s__law_all_right : Stmt := topS 28
abbrev n__law_all_right : List Str := ["many", "plans_here", "found", "one", "due", "panes"]
theorem sc__law_all_right : FnScope n__law_all_right ["many"] (defScope s__law_all_right) := ⟨rfl, rfl, rfl, by decide +kernel, rfl, by decide +kernel, by decide +kernel⟩
abbrev s__law_long_right : Stmt := topS 29
abbrev n__law_long_right : List Str := ["jar", "many", "panes", "entries_here", "one", "turn", "spot", "there", "two", "due", "odd", "told", "thing_here"]
theorem sc__law_long_right : FnScope n__law_long_right ["jar", "many"] (defScope s__law_long_right) := ⟨rfl, rfl, rfl, by decide +kernel, rfl, by decide +kernel, by decide +kernel⟩
abbrev s_law : Stmt := topS 30
abbrev n_law : List Str := ["script", "k", "jar", "told", "many"]
theorem sc_law : FnScope n_law ["script"] (defScope s_law) := ⟨rfl, rfl, rfl, by decide +kernel, rfl, by decide +kernel, by decide +kernel⟩
abbrev sJar : Stmt := topS 14
abbrev sDip : Stmt := topS 15
abbrev sBorder : Stmt := topS 17
abbrev sPushed : Stmt := topS 16
abbrev sGrown : Stmt := topS 18
end GL
set_option Elab.async false
set_option linter.all false
set_option maxRecDepth 100000
set_option maxHeartbeats 0
/-! # the head -/
namespace HdZ
open PySem PySem.Spec PyProof.Rows L2 GL
def d_is_number : He.DefD := ⟨("is_number", none), "is_number", "is_number", defArgs s_is_number, defBody s_is_number, defScope s_is_number, [], []⟩
def d_is_plan : He.DefD := ⟨("is_plan", none), "is_plan", "is_plan", defArgs s_is_plan, defBody s_is_plan, defScope s_is_plan, [], []⟩
def d_pattern_in : He.DefD := ⟨("pattern_in", none), "pattern_in", "pattern_in", defArgs s_pattern_in, defBody s_pattern_in, defScope s_pattern_in, [], []⟩
def d_is_row : He.DefD := ⟨("is_row", none), "is_row", "is_row", defArgs s_is_row, defBody s_is_row, defScope s_is_row, [], []⟩
def d_find_places : He.DefD := ⟨("find_places", none), "find_places", "find_places", defArgs s_find_places, defBody s_find_places, defScope s_find_places, [], []⟩
def d_find_pattern : He.DefD := ⟨("find_pattern", none), "find_pattern", "find_pattern", defArgs s_find_pattern, defBody s_find_pattern, defScope s_find_pattern, [], []⟩
def d_find_pattern_at : He.DefD := ⟨("find_pattern_at", none), "find_pattern_at", "find_pattern_at", defArgs s_find_pattern_at, defBody s_find_pattern_at, defScope s_find_pattern_at, [], []⟩
def d__law_jar : He.DefD := ⟨("_law_jar", none), "_law_jar", "_law_jar", defArgs s__law_jar, defBody s__law_jar, defScope s__law_jar, [], []⟩
def d__law_dip : He.DefD := ⟨("_law_dip", none), "_law_dip", "_law_dip", defArgs s__law_dip, defBody s__law_dip, defScope s__law_dip, [], []⟩
def d__law_pushed : He.DefD := ⟨("_law_pushed", none), "_law_pushed", "_law_pushed", defArgs s__law_pushed, defBody s__law_pushed, defScope s__law_pushed, [], []⟩
def d__law_border : He.DefD := ⟨("_law_border", none), "_law_border", "_law_border", defArgs s__law_border, defBody s__law_border, defScope s__law_border, [], []⟩
def d__law_grown : He.DefD := ⟨("_law_grown", none), "_law_grown", "_law_grown", defArgs s__law_grown, defBody s__law_grown, defScope s__law_grown, [], []⟩
def d__law_lines : He.DefD := ⟨("_law_lines", none), "_law_lines", "_law_lines", defArgs s__law_lines, defBody s__law_lines, defScope s__law_lines, [], []⟩
def d__law_at : He.DefD := ⟨("_law_at", none), "_law_at", "_law_at", defArgs s__law_at, defBody s__law_at, defScope s__law_at, [], []⟩
def d__law_steps : He.DefD := ⟨("_law_steps", none), "_law_steps", "_law_steps", defArgs s__law_steps, defBody s__law_steps, defScope s__law_steps, [], []⟩
def d__law_behind : He.DefD := ⟨("_law_behind", none), "_law_behind", "_law_behind", defArgs s__law_behind, defBody s__law_behind, defScope s__law_behind, [], []⟩
def d__law_rows : He.DefD := ⟨("_law_rows", none), "_law_rows", "_law_rows", defArgs s__law_rows, defBody s__law_rows, defScope s__law_rows, [], []⟩
def d__law_plan : He.DefD := ⟨("_law_plan", none), "_law_plan", "_law_plan", defArgs s__law_plan, defBody s__law_plan, defScope s__law_plan, [], []⟩
def d__law_lists : He.DefD := ⟨("_law_lists", none), "_law_lists", "_law_lists", defArgs s__law_lists, defBody s__law_lists, defScope s__law_lists, [], []⟩
def d__law_pattern : He.DefD := ⟨("_law_pattern", none), "_law_pattern", "_law_pattern", defArgs s__law_pattern, defBody s__law_pattern, defScope s__law_pattern, [], []⟩
def d__law_all_grown : He.DefD := ⟨("_law_all_grown", none), "_law_all_grown", "_law_all_grown", defArgs s__law_all_grown, defBody s__law_all_grown, defScope s__law_all_grown, [], []⟩
def d__law_all_right : He.DefD := ⟨("_law_all_right", none), "_law_all_right", "_law_all_right", defArgs s__law_all_right, defBody s__law_all_right, defScope s__law_all_right, [], []⟩
def d__law_long_right : He.DefD := ⟨("_law_long_right", none), "_law_long_right", "_law_long_right", defArgs s__law_long_right, defBody s__law_long_right, defScope s__law_long_right, [], []⟩
def d_law : He.DefD := ⟨("law", none), "law", "law", defArgs s_law, defBody s_law, defScope s_law, [], []⟩
def fn : List He.DefD := [d_is_number, d_is_plan, d_pattern_in, d_is_row, d_find_places, d_find_pattern, d_find_pattern_at, d__law_jar, d__law_dip, d__law_pushed, d__law_border, d__law_grown, d__law_lines, d__law_at, d__law_steps, d__law_behind, d__law_rows, d__law_plan, d__law_lists, d__law_pattern, d__law_all_grown, d__law_all_right, d__law_long_right, d_law]
def fa0 : List He.Fa := [.glo "is_number", .glo "is_plan", .glo "pattern_in", .glo "is_row", .glo "find_places", .glo "find_pattern", .glo "find_pattern_at", .glo "_law_jar", .glo "_law_dip", .glo "_law_pushed", .glo "_law_border", .glo "_law_grown", .glo "_law_lines", .glo "_law_at", .glo "_law_steps", .glo "_law_behind", .glo "_law_rows", .glo "_law_plan", .glo "_law_lists", .glo "_law_pattern", .glo "_law_all_grown", .glo "_law_all_right", .glo "_law_long_right", .glo "law", .free "len"]
def fa1 : List He.Fa := [.free "list", .free "tuple", .free "range", .free "enumerate", .free "abs", .free "int", .free "sum", .free "zip", .free "max", .free "min", .free "sorted", .free "type", .free "all", .free "isinstance", .free "repr", .int "MOST_PANES" 60]
def fa : List He.Fa := fa0 ++ fa1
def ex (K : PySem.W.Frag) : Bool := true
def tf : List He.Defn := [("is_row", none)]
def lo0 : List Str := ["PaneError", "InvalidPlan", "is_number", "MOST_PANES", "is_plan", "pattern_in", "is_row", "find_places", "find_pattern", "find_pattern_at", "_law_jar", "_law_dip", "_law_pushed", "_law_border", "_law_grown", "_law_lines", "_law_at", "_law_steps", "_law_behind", "_law_rows", "_law_plan", "_law_lists", "_law_pattern", "_law_all_grown", "_law_all_right"]
def lo1 : List Str := ["_law_long_right"]
def loose : List Str := lo0 ++ lo1
abbrev R : PySem.W.OpenRow := PySem.W.OpenLaw.row PySem.Challenge.rw_paneplans_k10_plans_by_trying
abbrev vw : Program := PySem.W.view R.prog [30]
abbrev hk : PySem.W.Hook := He.hookX 5 fa fn [] tf ex
def ob (s : PySem.W.SharedT) : He.AlX := He.obsX 5 fa fn [] tf ex (HandSHeadRun.getT s)
theorem ob_eq (s : PySem.W.SharedT) : ob s = hk.obs s.abs := He.obsX_eq (HandSHeadRun.getT_eq s)
theorem run (w : World) : HandSHeadRun.RunEqI R vw hk ob 6000 loose w := by
  unfold HandSHeadRun.RunEqI
  kernel_rfl
end HdZ
set_option Elab.async false
set_option linter.all false
set_option maxRecDepth 100000
set_option maxHeartbeats 4000000
/-! # pairs of numbers, sorted -/
namespace Rel
open PySem L2 Evl
def PrV (p : Int × Int) : HO := .tup [.int p.1, .int p.2]
def LeP (x y : Int × Int) : Prop := x.1 < y.1 ∨ (x.1 = y.1 ∧ x.2 ≤ y.2)
abbrev PrR (H : Hp) : List V → List (Int × Int) → Prop := Paired fun v p => ∃ a, v = .ref a ∧ H a = some (PrV p)
/-- a list at l of tuples of these pairs -/
def Pairs (H : Hp) (l : Addr) (ps : List (Int × Int)) : Prop := ∃ ys, H l = some (.lst ys) ∧ PrR H ys ps
theorem PrR.ex {H H' : Hp} (e : Ex H H') : ∀ {ys : List V} {ps : List (Int × Int)}, PrR H ys ps → PrR H' ys ps
  | _, _, .nil => .nil
  | _, _, .cons ⟨a, h1, h2⟩ t => .cons ⟨a, h1, e _ _ h2⟩ (PrR.ex e t)
theorem Pairs.ex {H H' : Hp} {l : Addr} {ps : List (Int × Int)} (h : Pairs H l ps) (e : Ex H H') : Pairs H' l ps := by
  obtain ⟨ys, h1, h2⟩ := h
  exact ⟨ys, e _ _ h1, h2.ex e⟩
/-- the numbers of a tuple of two -/
def pk (H : Hp) (v : V) : Int × Int := match v with
  | .ref a => (match H a with
    | some (.tup [.int i, .int j]) => (i, j)
    | _ => (0, 0))
  | _ => (0, 0)
theorem pk_of {H : Hp} {a : Addr} {p : Int × Int} (h : H a = some (PrV p)) : pk H (.ref a) = p := by
  simp only [pk, h, PrV]
theorem PrR.map {H : Hp} : ∀ {ys : List V} {ps : List (Int × Int)}, PrR H ys ps → ys.map (pk H) = ps
  | _, _, .nil => rfl
  | _, _, .cons ⟨a, h1, h2⟩ t => by
    rw [List.map_cons, PrR.map t, h1, pk_of h2]
theorem PrR.all {H : Hp} : ∀ {ys : List V} {ps : List (Int × Int)}, PrR H ys ps → ∀ y ∈ ys, ∃ a, y = .ref a ∧ H a = some (PrV (pk H y))
  | _, _, .nil, y, hy => by simp at hy
  | _, _, .cons ⟨a, h1, h2⟩ t, y, hy => by
    rcases List.mem_cons.mp hy with e | hy
    · subst e
      exact ⟨a, h1, by rw [h1, pk_of h2]; exact h2⟩
    · exact PrR.all t y hy
theorem PrR.mk {H : Hp} : ∀ {ys : List V}, (∀ y ∈ ys, ∃ a, y = .ref a ∧ H a = some (PrV (pk H y))) → PrR H ys (ys.map (pk H))
  | [], _ => .nil
  | y :: r, h => .cons (h y List.mem_cons_self) (PrR.mk fun z hz => h z (List.mem_cons_of_mem _ hz))
theorem PrR.drop {H : Hp} : ∀ {ys : List V} {ps : List (Int × Int)} (n : Nat), PrR H ys ps → PrR H (ys.drop n) (ps.drop n)
  | _, _, 0, h => h
  | _, _, _ + 1, .nil => .nil
  | _, _, n + 1, .cons _ t => PrR.drop n t
theorem PrR.at {H : Hp} : ∀ {ys : List V} {ps : List (Int × Int)} {i : Nat} {z : Int × Int} {x : V}, PrR H ys ps → ps[i]? = some z → ys[i]? = some x → ∃ b, x = .ref b ∧ H b = some (PrV z)
  | _, _, _, _, _, .nil, h, _ => by simp at h
  | _, _, 0, _, _, .cons hb _, h, k => by
    simp at h k
    subst h k
    exact hb
  | _, _, i + 1, _, _, .cons _ t, h, k => PrR.at (i := i) t (by simpa using h) (by simpa using k)
theorem PrR.len {H : Hp} {ys : List V} {ps : List (Int × Int)} (h : PrR H ys ps) : ys.length = ps.length := pr_len h
theorem PrR.of {α : Type} {H : Hp} {g : α → Int × Int} : ∀ {ys : List V} {zs : List α}, Paired (fun y z => ∃ p, y = .ref p ∧ H p = some (PrV (g z))) ys zs → PrR H ys (zs.map g)
  | _, _, .nil => .nil
  | _, _, .cons h t => .cons h (PrR.of t)
section
variable {K : PySem.W.Frag} {σ : L2.St} {H : Hp} {te : TE}
/-- what makes a new list of new pairs -/
def EvP (te : TE) (σ : L2.St) (H : Hp) (ps : List (Int × Int)) : Prop := ∀ H1, Ex H H1 → ∀ Q : VK, (∀ p H2, H1 p = none → Ex H1 H2 → Pairs H2 p ps → Q (.ref p) H2) → te σ H1 Q
/-- sorted of it -/
theorem ep_sorted {ps : List (Int × Int)} (h : EvP te σ H ps) : ∀ H1, Ex H H1 → ∀ Q : VK, (∀ p qs H2, H1 p = none → Ex H1 H2 → Pairs H2 p qs → qs.Perm ps → qs.Pairwise LeP → Q (.ref p) H2) → tCB (rSortedPO K) (tCons te tNil) σ H1 Q := fun H1 e Q q =>
  h H1 e _ fun a H2 na e2 hp => by
    obtain ⟨ys, h1, h2⟩ := hp
    refine ⟨a, ys, pk H2, rfl, SqL.of h1, fun y hy => ?_, fun zs p hs hb np => ?_⟩
    · obtain ⟨t, ht, hv⟩ := h2.all y hy
      exact ⟨t, ht, hv⟩
    · have hz : PrR H2 zs (zs.map (pk H2)) := PrR.mk fun y hy => h2.all y (hb.perm.mem_iff.mp hy)
      refine q p (zs.map (pk H2)) _ (fresh_back e2 np) (e2.trans (Ex.new np)) ⟨zs, upd_same, hz.ex (Ex.new np)⟩ ?_ ?_
      · rw [← h2.map]
        exact hb.perm.map _
      · rw [List.pairwise_map]
        refine hs.imp fun {x y} hxy => ?_
        have z := SrtO.lexB_no.mp hxy
        unfold LeP
        omega
theorem q_sortedP {ps : List (Int × Int)} {i : Nat} {D : Ends} {tz : TS} (h : EvP te σ H ps) (k : ∀ p qs H1, H p = none → Ex H H1 → Pairs H1 p qs → qs.Perm ps → qs.Pairwise LeP → tz D (σ.set i (some (.ref p))) H1) :
    tSeq (tAsg (tCB (rSortedPO K) (tCons te tNil)) (gName i)) tz D σ H := ep_sorted h H (Ex.refl H) _ fun p qs H1 np e hp h1 h2 => k p qs H1 np e hp h1 h2
/-- [e for a, b in a list of pairs], the items made values -/
theorem el_lcPr {tl : TE} {a : Addr} {ps : List (Int × Int)} {g : Int × Int → V} {j l : Nat} {vs : List Nat} (h : Ev tl σ H (.ref a)) (hp : Pairs H a ps) (hz : ps.length ≤ 40000) (hw : ∀ x y, wipe (((wipe σ vs).set j (some x)).set l (some y)) vs = wipe σ vs)
    (he : ∀ p ∈ ps, ∀ H1, Ex H H1 → Ev te (((wipe σ vs).set j (some (.int p.1))).set l (some (.int p.2))) H1 (g p)) (hg : ∀ p q, g p ≠ .ref q) : EvL (tLc (iList K tl) (gTup K 2 (gCons (gName j) (gCons (gName l) gNil))) tYes te vs) σ H (ps.map g) := fun H0 e Q q => by
  obtain ⟨ys, h1, h2⟩ := hp
  refine h H0 e _ fun H1 e1 => ⟨a, rfl, ⟨ys, SqL.of (e1 _ _ (e _ _ h1))⟩, fun D nD => ?_⟩
  have hall : (ps.filter fun _ => true) = ps := List.filter_eq_self.mpr fun _ _ => rfl
  refine lc_rel (H := H1) (zs := ps) (walk_list (K := K) (a := a) (xs := ys)) h2.len (fun H2 e2 => SqL.of (e2 _ _ (e1 _ _ (e _ _ h1)))) (fun _ => true) (fun (z : Int × Int) v (_ : Hp) => v = g z) (mono_val g) hz (fun i z x H2 H3 hzi hH hy => ?_) nD fun zs' H' e2 hD hr => q D H' (fresh_back e1 nD) (e1.trans e2) (by
    rw [hD, pr_val (H := H') hr, hall])
  obtain ⟨rfl, hy⟩ := hy
  have hm := List.mem_of_getElem? hzi
  -- the tuple at this place
  have hx := PrR.at (h2.ex ((e.trans e1).trans hH)) hzi hy
  obtain ⟨b, rfl, hb⟩ := hx
  exact ⟨Ex.refl _, fun Q' k => ⟨b, [_, _], rfl, .inl (.inl hb), rfl, _, _, rfl, _, _, rfl, rfl, k _ (hw _ _) (fun H4 e4 Q q => q H4 (Ex.refl _)) fun _ => en_val (he z hm H1 (e.trans e1)) (fun p hp => absurd hp (hg z p)) fun _ _ => rfl⟩⟩
/-- a, b = [..], [..] -/
theorem q_parL {t1 t2 : TE} {xs ys : List V} {i j : Nat} {D : Ends} {tz : TS} (h1 : EvL t1 σ H xs) (h2 : EvL t2 σ H ys)
    (k : ∀ p q H2, H p = none → H q = none → p ≠ q → Ex H H2 → H2 p = some (.lst xs) → H2 q = some (.lst ys) → tz D ((σ.set i (some (.ref p))).set j (some (.ref q))) H2) : tSeq (tPar i j (tCons t1 (tCons t2 tNil))) tz D σ H :=
  h1 H (Ex.refl H) _ fun p H1 np e1 hp => h2 H1 e1 _ fun q H2 nq e2 hq => ⟨_, _, rfl, k p q H2 np (fresh_back e1 nq) (fun z => by
    rw [← z, hp] at nq
    cases nq) (e1.trans e2) (e2 _ _ hp) hq⟩
end
end Rel
set_option Elab.async false
set_option linter.all false
set_option maxRecDepth 100000
set_option maxHeartbeats 4000000
/-! # sorted(a list of tuples of m + 1 whole numbers), any length -/
namespace SoT
open PySem PySem.Spec PyProof.Rows SrtO
/-- v is a tuple of the numbers ns -/
def IsTup (h : Heap) (v : Value) (ns : List Int) : Prop := ∃ a o items n, v = .ref a ∧ h.get? a = some o ∧ o.cls = .type "tuple" ∧ o.data = .seq items n ∧ IntsAre items.toList ns
theorem IsTup.keeps {h h' : Heap} {v : Value} {ns : List Int} (p : IsTup h v ns) (k : ∀ b o, h.get? b = some o → o.cls = .type "tuple" → h'.get? b = some o) : IsTup h' v ns := by
  obtain ⟨a, o, its, n, e, ho, hc, hd⟩ := p
  exact ⟨a, o, its, n, e, k _ _ ho hc, hc, hd⟩
section
variable {prog : Program} {w : World} {A : Around} {E : Value → Shared → Prop} {s : Shared}
theorem lex_run {Q : Bool → Shared → Prop} : ∀ (vs ws : List Value) (ns ms : List Int) (i : Nat), IntsAre vs ns → IntsAre ws ms → vs.length = ws.length → Q (HT.lexLt ns ms) s → PySem.W.KatLex prog w A true false Q (vs.zip ws) i s
  | [], [], _, _, i, .nil, .nil, _, q => PySem.W.kat_nil (by rw [HT.lexLt_nil_nil] at q; exact q)
  | [], _ :: _, _, _, _, _, _, h, _ => by cases h
  | _ :: _, [], _, _, _, _, _, h, _ => by cases h
  | _ :: vs, _ :: ws, _, _, i, .cons x t hv, .cons y u hw, h, q => by
    show PySem.W.KatLex prog w A true false Q ((.int x t, .int y u) :: vs.zip ws) i s
    rw [HT.lexLt_cons] at q
    refine PySem.W.kat_cons (SeqAt.EqAt.int_int x t y u prog w _ _ ?_)
    refine PySem.W.kat_go (fun e1 => ?_) (fun e1 => ?_)
    · have ex : x = y := by simpa using e1
      rw [if_pos ex] at q
      exact PySem.W.kat_yes (lex_run vs ws _ _ (i + 1) hv hw (Nat.succ.inj h) q)
    · have ex : ¬ x = y := by simpa using e1
      rw [if_neg ex] at q
      cases i with
      | zero => exact PySem.W.kat_no (oneLt_int q)
      | succ j => exact PySem.W.kat_no (PySem.W.kat_one _ _ (PyProof.Rows.lt_int q))
theorem tup_cmp {m : Nat} {vs : List Value} {k : Value → List Int} (hp : ∀ v ∈ vs, IsTup s.heap v (k v) ∧ (k v).length = m) : Cmp prog w A s (tuples' true) (fun p => p.1 ∈ vs) (lt2 fun v u => HT.lexLt (k v) (k u)) := by
  intro p q hm hm'
  obtain ⟨⟨a, o, its, n, e, ho, hc, hd, hi⟩, l1⟩ := hp _ hm
  obtain ⟨⟨a', o', its', n', e', ho', hc', hd', hi'⟩, l2⟩ := hp _ hm'
  show wpAny (model prog w) A (keyLt' (tuples' true) p.1 q.1) (fun r s' => s' = s ∧ r = HT.lexLt (k p.1) (k q.1)) (fun _ _ => False) s
  have z1 : its.size = m := by rw [← l1, ← hi.length]; simp
  have z2 : its'.size = m := by rw [← l2, ← hi'.length]; simp
  revert hi hi'
  generalize k p.1 = ns
  generalize k q.1 = ms
  intro hi hi'
  rw [e, e']
  refine PySem.W.kat_lt ho hd ho' hd' ?_
  have ef : decide (its.size < its'.size) = false := decide_eq_false (by omega)
  rw [ef]
  exact lex_run _ _ _ _ 0 hi hi' (by simp only [Array.length_toList]; omega) ⟨rfl, rfl⟩
theorem firsts {h : Heap} {m : Nat} {k : Value → List Int} : ∀ {vs : List Value}, (∀ v ∈ vs, IsTup h v (k v) ∧ (k v).length = m + 1) → ∃ fs : List Value, PySem.W.KatTups h vs fs ∧ fs.length = vs.length ∧ ∀ f ∈ fs, ∃ x t, f = Value.int x t
  | [], _ => ⟨[], PySem.W.KatTups.nil, rfl, fun _ hm => by simp at hm⟩
  | v :: vs, hp => by
    obtain ⟨fs, h1, h2, h3⟩ := firsts (vs := vs) fun v' hm => hp v' (List.mem_cons_of_mem _ hm)
    obtain ⟨⟨a, o, its, n, e, ho, hc, hd, hi⟩, l1⟩ := hp v (List.mem_cons_self ..)
    subst e
    obtain ⟨l⟩ := its
    revert hi l1
    generalize k (Value.ref a) = ks
    intro l1 hi
    cases hi with
    | nil => cases l1
    | cons x t hr =>
      refine ⟨.int x t :: fs, PySem.W.KatTups.cons ho hc hd rfl h1, by rw [List.length_cons, List.length_cons, h2], fun f hm => ?_⟩
      rcases List.mem_cons.mp hm with rfl | hm
      · exact ⟨x, t, rfl⟩
      · exact h3 f hm
theorem tup_sortable {m : Nat} {a : Addr} {vs : List Value} {k : Value → List Int} (h0 : 0 < vs.length) (hp : ∀ v ∈ vs, IsTup s.heap v (k v) ∧ (k v).length = m + 1) (ha : ∀ o, s.heap.get? a = some o → o.cls ≠ .type "tuple") : SortableO prog w A s a vs fun v u => HT.lexLt (k v) (k u) := by
  intro h' keep
  have hp' : ∀ v ∈ vs, IsTup h' v (k v) ∧ (k v).length = m + 1 := fun v hm => ⟨(hp v hm).1.keeps fun b o e c => keep b o (fun z => by subst z; exact ha o e c) e, (hp v hm).2⟩
  obtain ⟨fs, h1, h2, h3⟩ := firsts hp'
  refine ⟨tuples' true, fun Q E hq => ?_, tup_cmp hp'⟩
  refine PySem.W.kat_kind (T := .type "int") h1 (by omega) (fun f hm => ?_) (by rfl) ?_
  · obtain ⟨x, t, rfl⟩ := h3 f hm
    exact PySem.W.Looks.now
  · have e : (Value.type "int" != Value.type "tuple") = true := by first | decide +kernel | rfl | decide
    rw [e]
    exact hq
theorem sorted_tups {m : Nat} {l : Addr} {vs : List Value} {k : Value → List Int} {Q : Value → Shared → Prop} (hl : s.heap.IsList l vs.toArray) (hz : vs.length ≤ sizeLine) (hp : ∀ v ∈ vs, IsTup s.heap v (k v) ∧ (k v).length = m + 1)
    (h : ∀ (h' : Heap) (d : Addr) (out : List Value), Srtd (fun v u => HT.lexLt (k v) (k u)) out → Stb (fun v u => HT.lexLt (k v) (k u)) out vs → (∀ b o, s.heap.get? b = some o → h'.get? b = some o) → s.heap.objs.size ≤ d → (∃ n, h'.get? d = some (seqObj "list" out.toArray n)) → Q (.ref d) { s with heap := h' }) :
    wpAny (model prog w) A (call (.builtin "sorted") [.ref l]) Q E s := by
  refine sorted_ord (NtL.swo_lexL k) hl hz (fun h2 h₁ a ha kk => ?_) fun out hs hb => ?_
  · refine tup_sortable (s := { s with heap := h₁ }) (by omega) (fun v hm => ⟨(hp v hm).1.keeps fun b o e _ => (kk b o e).2, (hp v hm).2⟩) fun o e => ?_
    have e' : some o = some (seqObj "list" vs.toArray 0) := e.symm.trans ha
    cases e'
    intro c
    exact absurd (Value.type.inj c) (by decide)
  · exact h _ _ out hs hb (fun b o e => sortedAll_old e) (Nat.le_succ _) (sortedAll_at s.heap vs out.toArray)
end
end SoT
namespace SoT
open PySem PySem.Spec PyProof.Rows L2
/-- x before y, by their numbers -/
abbrev ltL (k : V → List Int) (x y : V) : Bool := HT.lexLt (k x) (k y)
theorem ltL_swo (k : V → List Int) : SrtO.Swo (ltL k) := NtL.swo_lexL k
def rSortedT (K : PySem.W.Frag) (m : Nat) : List V → Hp → VK → Prop := fun vs H Q => ∃ (a : Addr) (xs : List V) (k : V → List Int), vs = [V.ref a] ∧ SqL K H a xs ∧ (∀ x ∈ xs, (∃ t, x = V.ref t ∧ H t = some (.tup ((k x).map V.int))) ∧ (k x).length = m + 1) ∧
  ∀ ys p, SrtO.Srtd (ltL k) ys → SrtO.Stb (ltL k) ys xs → H p = none → Q (.ref p) (upd H p (.lst ys))
theorem cr_sortedT {X : Cx} {m : Nat} : CallR X (.builtin "sorted") (rSortedT X.K m) := by
  intro pins s σ H vs us Q I r h
  obtain ⟨a, xs, k, rfl, hs, hx, q⟩ := h
  obtain ⟨its, rv, hl, hz⟩ := I.list hs
  obtain ⟨u, rfl, ru⟩ := vals1 r
  obtain rfl : u = Value.ref a := ru
  obtain ⟨e1, e2⟩ := refs_back rv fun x hm => by
    obtain ⟨⟨t, e, _⟩, _⟩ := hx x hm
    exact ⟨t, e⟩
  refine sorted_tups (m := m) (k := fun u => k (backV u)) hl.isList (by rw [← rv.length]; exact hz) (fun v hv => ?_) fun h' d out h1 h2 kp hd hn => ?_
  · obtain ⟨t, rfl⟩ := e2 v hv
    have hm : V.ref t ∈ xs := by rw [e1]; exact List.mem_map.mpr ⟨_, hv, rfl⟩
    obtain ⟨⟨t', e, ht⟩, hk⟩ := hx _ hm
    cases e
    obtain ⟨_, its2, r2, o, ho, hc, n, hd⟩ := I.hok _ _ ht
    exact ⟨⟨t, o, its2.toArray, n, rfl, ho, hc, hd, intsAre_of r2⟩, hk⟩
  · have h3 : ∀ u ∈ out, ∃ a, u = Value.ref a := fun u hu => e2 u (h2.perm.mem_iff.mp hu)
    obtain ⟨n, hn⟩ := hn
    have hb : SrtO.Stb (ltL k) (out.map backV) xs := by
      rw [e1]
      exact SrtO.Stb.map (ltL_swo k) backV h2
    refine ⟨.ref d, upd H d (.lst (out.map backV)), I.laid (t' := s.toks) kp hd ⟨?_, out, n, vals_back h3, hn⟩, rfl, q _ d (SrtO.srtd_map h1) hb (I.hok.fresh hd)⟩
    rw [hb.len]
    exact hz
end SoT
set_option Elab.async false
set_option linter.all false
set_option maxRecDepth 100000
set_option maxHeartbeats 4000000
/-! # lists of objects of which a relation holds: walked, made, asked -/
namespace Rel
open PySem L2 Evl
/-- R stays where the heap only grows -/
abbrev MonoE {α : Type} (R : α → V → Hp → Prop) : Prop := ∀ z v H H', Ex H H' → R z v H → R z v H'
/-- a list at l, R of each item -/
def RL {α : Type} (R : α → V → Hp → Prop) (H : Hp) (l : Addr) (zs : List α) : Prop := ∃ ys, H l = some (.lst ys) ∧ Paired (fun y z => R z y H) ys zs
def tupI (r : List Int) (v : V) (H : Hp) : Prop := ∃ p, v = .ref p ∧ H p = some (.tup (r.map V.int))
def lstI (r : List Int) (v : V) (H : Hp) : Prop := ∃ p, v = .ref p ∧ H p = some (.lst (r.map V.int))
theorem tupI_e : MonoE tupI := fun _ _ _ _ e ⟨p, h1, h2⟩ => ⟨p, h1, e _ _ h2⟩
theorem lstI_e : MonoE lstI := fun _ _ _ _ e ⟨p, h1, h2⟩ => ⟨p, h1, e _ _ h2⟩
theorem tupI_m : Mono tupI := fun z v H H' D n k ⟨p, h1, h2⟩ => ⟨p, h1, k p _ (fun e => n (by rw [h1, e])) h2⟩
theorem lstI_m : Mono lstI := fun z v H H' D n k ⟨p, h1, h2⟩ => ⟨p, h1, k p _ (fun e => n (by rw [h1, e])) h2⟩
theorem pr_e {α : Type} {R : α → V → Hp → Prop} (m : MonoE R) {H H' : Hp} (e : Ex H H') : ∀ {ys : List V} {zs : List α}, Paired (fun y z => R z y H) ys zs → Paired (fun y z => R z y H') ys zs
  | _, _, .nil => .nil
  | _, _, .cons h t => .cons (m _ _ _ _ e h) (pr_e m e t)
theorem pr_map {α β : Type} {R : α → V → Hp → Prop} {S : β → V → Hp → Prop} {g : α → β} {H : Hp} (k : ∀ z y, R z y H → S (g z) y H) : ∀ {ys : List V} {zs : List α}, Paired (fun y z => R z y H) ys zs → Paired (fun y z => S z y H) ys (zs.map g)
  | _, _, .nil => .nil
  | _, _, .cons h t => .cons (k _ _ h) (pr_map k t)
theorem pr_at {α : Type} {R : α → V → Hp → Prop} {H : Hp} : ∀ {ys : List V} {zs : List α}, Paired (fun y z => R z y H) ys zs → ∀ {i : Nat} {z : α}, zs[i]? = some z → ∃ y, ys[i]? = some y ∧ R z y H
  | _, _, .nil, i, z, h => by simp at h
  | _, _, .cons h t, 0, z, q => by
    obtain rfl := Option.some.inj q
    exact ⟨_, rfl, h⟩
  | _, _, .cons h t, i + 1, z, q => pr_at t (i := i) q
theorem pr_at' {α : Type} {R : α → V → Hp → Prop} {H : Hp} : ∀ {ys : List V} {zs : List α}, Paired (fun y z => R z y H) ys zs → ∀ {i : Nat} {y : V}, ys[i]? = some y → ∃ z, zs[i]? = some z ∧ R z y H
  | _, _, .nil, i, z, h => by simp at h
  | _, _, .cons h t, 0, z, q => by
    obtain rfl := Option.some.inj q
    exact ⟨_, rfl, h⟩
  | _, _, .cons h t, i + 1, z, q => pr_at' t (i := i) q
theorem RL.ex {α : Type} {R : α → V → Hp → Prop} (m : MonoE R) {H H' : Hp} {l : Addr} {zs : List α} (h : RL R H l zs) (e : Ex H H') : RL R H' l zs := by
  obtain ⟨ys, h1, h2⟩ := h
  exact ⟨ys, e _ _ h1, pr_e m e h2⟩
theorem RL.map {α β : Type} {R : α → V → Hp → Prop} {S : β → V → Hp → Prop} {g : α → β} {H : Hp} {l : Addr} {zs : List α} (k : ∀ z y, R z y H → S (g z) y H) (h : RL R H l zs) : RL S H l (zs.map g) := by
  obtain ⟨ys, h1, h2⟩ := h
  exact ⟨ys, h1, pr_map k h2⟩
theorem RL.of_map {α β : Type} {R : α → V → Hp → Prop} {S : β → V → Hp → Prop} {g : α → β} {H : Hp} {l : Addr} {zs : List α} (h : RL S H l (zs.map g)) (k : ∀ z y, S (g z) y H → R z y H) : RL R H l zs := by
  obtain ⟨ys, h1, h2⟩ := h
  refine ⟨ys, h1, ?_⟩
  clear h1
  induction zs generalizing ys with
  | nil => cases h2; exact .nil
  | cons z zs ih =>
    cases h2 with
    | cons h t => exact .cons (k _ _ h) (ih _ t)
/-- te makes a new list of which R holds item by item -/
def EvRL {α : Type} (te : TE) (σ : L2.St) (H : Hp) (R : α → V → Hp → Prop) (zs : List α) : Prop := ∀ H1, Ex H H1 → ∀ Q : VK, (∀ p H2, H1 p = none → Ex H1 H2 → RL R H2 p zs → Q (.ref p) H2) → te σ H1 Q
section
variable {α β : Type} {K : PySem.W.Frag} {σ : L2.St} {H H' : Hp} {te tb tl : TE} {ta : TA} {t : TT} {v : V} {D : Ends} {tz : TS}
theorem EvRL.mono {R : α → V → Hp → Prop} {zs : List α} (e : Ex H H') (h : EvRL te σ H R zs) : EvRL te σ H' R zs := fun H1 a Q q => h H1 (e.trans a) Q q
theorem EvN.monoE {R : V → Hp → Prop} (e : Ex H H') (h : EvN te σ H R) (hH : ∀ p, H p ≠ none → H' p ≠ none) : EvN te σ H' R := fun H1 a Q q => h H1 (e.trans a) Q fun v H2 e2 hv hr => q v H2 e2 (fun p hp => (hv p hp).imp id (hH p)) hr
theorem ex_ne {p : Addr} (e : Ex H H') (h : H p ≠ none) : H' p ≠ none := fun n => by
  cases q : H p with
  | none => exact h q
  | some u =>
    rw [e _ _ q] at n
    cases n
/-- a comprehension over a list of objects; the object stands in slot j -/
theorem er_lcRL {R : α → V → Hp → Prop} (mR : MonoE R) {S : α → V → Hp → Prop} (mS : Mono S) {zs : List α} {a : Addr} {j : Nat} {vs : List Nat} (f : α → Bool) (h : Ev tl σ H (.ref a)) (hx : RL R H a zs) (hz : zs.length ≤ 40000) (hw : ∀ x, wipe ((wipe σ vs).set j (some x)) vs = wipe σ vs)
    (ht : ∀ z ∈ zs, ∀ y H1, Ex H H1 → R z y H1 → EvT t ((wipe σ vs).set j (some y)) H1 (f z)) (he : ∀ z ∈ zs, ∀ y H1, Ex H H1 → R z y H1 → f z = true → EvN te ((wipe σ vs).set j (some y)) H1 (S z)) :
    EvRL (tLc (iList K tl) (gName j) t te vs) σ H S (zs.filter f) := by
  obtain ⟨ys, hl, hp⟩ := hx
  intro H1 e Q q
  refine h H1 e _ fun H2 e1 => ⟨a, rfl, ⟨ys, sq_of ((e.trans e1) _ _ hl)⟩, fun Dl hD => ?_⟩
  refine lc_rel (H := H2) (walk_list (K := K) (a := a) (xs := ys)) (pr_len hp) (fun H3 e2 => sq_of (((e.trans e1).trans e2) _ _ hl)) f S mS hz (fun i z x H3 H4 hzi hH hy => ?_) hD fun us H3 e2 h3 hq => q Dl H3 (fresh_back e1 hD) (e1.trans e2) ⟨us, h3, hq⟩
  obtain ⟨rfl, hy⟩ := hy
  obtain ⟨y, hy2, hr⟩ := pr_at hp hzi
  obtain rfl : y = x := Option.some.inj (hy2.symm.trans hy)
  have hm := List.mem_of_getElem? hzi
  refine ⟨Ex.refl _, fun Q' k => k _ (hw _) (ht z hm y H2 (e.trans e1) (mR _ _ _ _ (e.trans e1) hr)) fun hf => ?_⟩
  exact he z hm y H2 (e.trans e1) (mR _ _ _ _ (e.trans e1) hr) hf
/-- .. over a range; the number stands in slot j -/
theorem er_lcRg {S : Int → V → Hp → Prop} (mS : Mono S) {lo hi : Int} {j : Nat} {vs : List Nat} (f : Int → Bool) (h : EvA ta σ H [.int lo, .int hi]) (hb : -100000 ≤ lo ∧ lo ≤ 100000 ∧ -100000 ≤ hi ∧ hi ≤ 100000 ∧ hi - lo ≤ 40000) (hw : ∀ x, wipe ((wipe σ vs).set j (some x)) vs = wipe σ vs)
    (ht : ∀ i : Int, lo ≤ i → i < hi → ∀ H1, Ex H H1 → EvT t ((wipe σ vs).set j (some (.int i))) H1 (f i)) (he : ∀ i : Int, lo ≤ i → i < hi → ∀ H1, Ex H H1 → f i = true → EvN te ((wipe σ vs).set j (some (.int i))) H1 (S i)) :
    EvRL (tLc (iRng2 ta) (gName j) t te vs) σ H S (((List.range (hi - lo).toNat).map fun i : Nat => lo + (i : Int)).filter f) := by
  intro H1 e Q q
  refine h H1 e _ fun H2 e1 => ⟨lo, hi, rfl, by omega, fun Dl hD => ?_⟩
  refine lc_rel (H := H2) (walk_range (lo := lo) (n := (hi - lo).toNat)) (by simp) (fun H3 e2 => trivial) f S mS (by simp; omega) (fun i z x H3 H4 hzi hH hy => ?_) hD fun us H3 e2 h3 hq => q Dl H3 (fresh_back e1 hD) (e1.trans e2) ⟨us, h3, hq⟩
  obtain ⟨rfl, rfl⟩ := hy
  have hzi2 : z = lo + (i : Int) ∧ i < (hi - lo).toNat := by
    rw [List.getElem?_map] at hzi
    cases c : (List.range (hi - lo).toNat)[i]? with
    | none => rw [c] at hzi; cases hzi
    | some u =>
      rw [c] at hzi
      obtain ⟨h1, h2⟩ := List.getElem?_eq_some_iff.mp c
      rw [List.getElem_range] at h2
      rw [List.length_range] at h1
      subst h2
      exact ⟨(Option.some.inj hzi).symm, h1⟩
  obtain ⟨rfl, hi2⟩ := hzi2
  exact ⟨Ex.refl _, fun Q' k => k _ (hw _) (ht _ (by omega) (by omega) H2 (e.trans e1)) fun hf => he _ (by omega) (by omega) H2 (e.trans e1) hf⟩
theorem er_lcRg1 {S : Int → V → Hp → Prop} (mS : Mono S) {hi : Int} {j : Nat} {vs : List Nat} (f : Int → Bool) (h : EvA ta σ H [.int hi]) (hb : -100000 ≤ hi ∧ hi ≤ 40000) (hw : ∀ x, wipe ((wipe σ vs).set j (some x)) vs = wipe σ vs)
    (ht : ∀ i : Int, 0 ≤ i → i < hi → ∀ H1, Ex H H1 → EvT t ((wipe σ vs).set j (some (.int i))) H1 (f i)) (he : ∀ i : Int, 0 ≤ i → i < hi → ∀ H1, Ex H H1 → f i = true → EvN te ((wipe σ vs).set j (some (.int i))) H1 (S i)) :
    EvRL (tLc (iRng1 ta) (gName j) t te vs) σ H S (((List.range hi.toNat).map fun i : Nat => (i : Int)).filter f) := by
  intro H1 e Q q
  refine h H1 e _ fun H2 e1 => ⟨hi, rfl, by omega, by omega, fun Dl hD => ?_⟩
  refine lc_rel (H := H2) (walk_range (lo := 0) (n := hi.toNat)) (by simp) (fun H3 e2 => trivial) f S mS (by simp; omega) (fun i z x H3 H4 hzi hH hy => ?_) hD fun us H3 e2 h3 hq => q Dl H3 (fresh_back e1 hD) (e1.trans e2) ⟨us, h3, hq⟩
  obtain ⟨rfl, rfl⟩ := hy
  have hzi2 : z = 0 + (i : Int) ∧ i < hi.toNat := by
    rw [List.getElem?_map] at hzi
    cases c : (List.range hi.toNat)[i]? with
    | none => rw [c] at hzi; cases hzi
    | some u =>
      rw [c] at hzi
      obtain ⟨h1, h2⟩ := List.getElem?_eq_some_iff.mp c
      rw [List.getElem_range] at h2
      rw [List.length_range] at h1
      subst h2
      exact ⟨(Option.some.inj hzi).symm.trans (Int.zero_add _).symm, h1⟩
  obtain ⟨rfl, hi2⟩ := hzi2
  exact ⟨Ex.refl _, fun Q' k => k _ (hw _) (ht _ (by omega) (by omega) H2 (e.trans e1)) fun hf => he _ (by omega) (by omega) H2 (e.trans e1) hf⟩
/-- a list of values, as a list made -/
theorem el_ofRL {g : α → V} {zs : List α} (h : EvRL te σ H (fun z v _ => v = g z) zs) : EvL te σ H (zs.map g) := fun H1 e Q q => h H1 e Q fun p H2 np e2 ⟨ys, h1, h2⟩ => q p H2 np e2 (by rw [h1, pr_val (H := H2) h2])
theorem val_m (g : α → V) : Mono fun (z : α) v (_ : Hp) => v = g z := mono_val g
theorem en_int {i : Int} (h : Ev te σ H (.int i)) : EvN te σ H (fun v _ => v = .int i) := en_val h (fun p hp => by cases hp) fun _ _ => rfl
theorem en_tupI {ns : List Int} (h : EvA ta σ H (ns.map V.int)) (hl : ns.length ≤ 1000) : EvN (tTup ta) σ H (tupI ns) := en_tup h (by rw [List.length_map]; omega)
theorem en_lstI {ns : List Int} (h : EvL te σ H (ns.map V.int)) : EvN te σ H (lstI ns) := en_lst h
theorem et_yes {σ : L2.St} {H : Hp} : EvT tYes σ H true := fun H2 _ Q q => q H2 (Ex.refl H2)
theorem fil_yes (zs : List α) : zs.filter (fun _ => true) = zs := List.filter_eq_self.mpr fun _ _ => rfl
/-- without a test -/
theorem er_lc0 {R : α → V → Hp → Prop} (mR : MonoE R) {S : α → V → Hp → Prop} (mS : Mono S) {zs : List α} {a : Addr} {j : Nat} {vs : List Nat} (h : Ev tl σ H (.ref a)) (hx : RL R H a zs) (hz : zs.length ≤ 40000) (hw : ∀ x, wipe ((wipe σ vs).set j (some x)) vs = wipe σ vs)
    (he : ∀ z ∈ zs, ∀ y H1, Ex H H1 → R z y H1 → EvN te ((wipe σ vs).set j (some y)) H1 (S z)) : EvRL (tLc (iList K tl) (gName j) tYes te vs) σ H S zs := by
  have z := er_lcRL (K := K) (te := te) mR mS (fun _ => true) h hx hz hw (fun _ _ _ _ _ _ => et_yes) (fun z hz y H1 e hr _ => he z hz y H1 e hr)
  rw [fil_yes] at z
  exact z
/-- .. whole numbers -/
theorem el_lcI {R : α → V → Hp → Prop} (mR : MonoE R) {f : α → Int} {zs : List α} {a : Addr} {j : Nat} {vs : List Nat} (h : Ev tl σ H (.ref a)) (hx : RL R H a zs) (hz : zs.length ≤ 40000) (hw : ∀ x, wipe ((wipe σ vs).set j (some x)) vs = wipe σ vs)
    (he : ∀ z ∈ zs, ∀ y H1, Ex H H1 → R z y H1 → Ev te ((wipe σ vs).set j (some y)) H1 (.int (f z))) : EvL (tLc (iList K tl) (gName j) tYes te vs) σ H ((zs.map f).map V.int) := by
  have z := el_ofRL (er_lc0 (K := K) (te := te) mR (val_m fun z => .int (f z)) h hx hz hw fun z hz y H1 e hr => en_int (he z hz y H1 e hr))
  rw [List.map_map]
  exact z
end
end Rel
set_option Elab.async false
set_option linter.all false
set_option maxRecDepth 100000
set_option maxHeartbeats 4000000
/-! # loops over such lists; lists that grow -/
namespace Rel
open PySem L2 Evl
/-- all but j is as it was -/
def But1 (j : Addr) (H H' : Hp) : Prop := ∀ a o, a ≠ j → H a = some o → H' a = some o
theorem But1.ex {j : Addr} {H H1 H2 : Hp} (n : H j = none) (e : Ex H H1) (b : But1 j H1 H2) : Ex H H2 := fun a o h => b a o (fun z => by
  subst z
  rw [n] at h
  cases h) (e a o h)
theorem But1.of {j : Addr} {H H' : Hp} (e : Ex H H') : But1 j H H' := fun a o _ h => e a o h
theorem But1.tr {j : Addr} {H H1 H2 : Hp} (x : But1 j H H1) (y : But1 j H1 H2) : But1 j H H2 := fun a o n h => y a o n (x a o n h)
theorem But1.upd {j : Addr} {H H1 : Hp} {o : HO} (x : But1 j H H1) : But1 j H (upd H1 j o) := fun a u n h => by
  rw [upd_ne n]
  exact x a u n h
theorem ne_lt {H : Hp} {a b : Addr} {xs ys : List V} (h1 : H a = some (.tup xs)) (h2 : H b = some (.lst ys)) : a ≠ b := fun e => by
  rw [e, h2] at h1
  cases h1
theorem ne_no {H : Hp} {a b : Addr} {o : HO} (h1 : H a = some o) (h2 : H b = none) : a ≠ b := fun e => by
  rw [e, h2] at h1
  cases h1
section
variable {α : Type} {g : α → List Int}
/-- tuples are not touched where a list is changed -/
theorem rl_but {H H' : Hp} {l F : Addr} {zs : List α} {xs : List V} (h : RL (fun z => tupI (g z)) H l zs) (hF : H F = some (.lst xs)) (n : l ≠ F) (b : But1 F H H') : RL (fun z => tupI (g z)) H' l zs := by
  obtain ⟨ys, h1, h2⟩ := h
  refine ⟨ys, b _ _ n h1, ?_⟩
  clear h1 n
  induction h2 with
  | nil => exact .nil
  | cons h t ih =>
    obtain ⟨p, e, hp⟩ := h
    exact .cons ⟨p, e, b _ _ (ne_lt hp hF) hp⟩ ih
theorem pr_but {H H' : Hp} {F : Addr} {zs : List α} {xs ys : List V} (h2 : Paired (fun y z => tupI (g z) y H) ys zs) (hF : H F = some (.lst xs)) (b : But1 F H H') : Paired (fun y z => tupI (g z) y H') ys zs := by
  induction h2 with
  | nil => exact .nil
  | cons h t ih =>
    obtain ⟨p, e, hp⟩ := h
    exact .cons ⟨p, e, b _ _ (ne_lt hp hF) hp⟩ ih
theorem rl_nil {R : α → V → Hp → Prop} {H : Hp} {l : Addr} (h : H l = some (.lst [])) : RL R H l [] := ⟨[], h, .nil⟩
theorem rl_len {R : α → V → Hp → Prop} {H : Hp} {l : Addr} {zs : List α} (h : RL R H l zs) : ∃ ys, H l = some (.lst ys) ∧ ys.length = zs.length := by
  obtain ⟨ys, h1, h2⟩ := h
  exact ⟨ys, h1, pr_len h2⟩
end
section
variable {α : Type} {K : PySem.W.Frag} {R : α → V → Hp → Prop} {p : Addr} {zs : List α}
theorem walk_RL : Walk (Itl K p) zs.length (fun H => RL R H p zs) (fun i H x H' => H' = H ∧ ∃ z, zs[i]? = some z ∧ R z x H) := by
  refine ⟨fun i H hi h => ?_, fun H h => ?_, fun i H x H' hi h y => ?_⟩
  · obtain ⟨ys, h1, h2⟩ := h
    have hl := pr_len h2
    exact ⟨ys, ys[i], sq_of h1, List.getElem?_eq_getElem (show i < ys.length by omega)⟩
  · obtain ⟨ys, h1, h2⟩ := h
    exact ⟨ys, sq_of h1, Nat.le_of_eq (pr_len h2)⟩
  · obtain ⟨ys, h1, h2⟩ := h
    exact ⟨y.1, pr_at' h2 (y.2 ys (sq_of h1))⟩
theorem walk_enumRL : Walk (Ite K p) zs.length (fun H => RL R H p zs) (fun i H x H' => ∃ T y z, x = .ref T ∧ H T = none ∧ H' = upd H T (.tup [.int (i : Nat), y]) ∧ zs[i]? = some z ∧ R z y H) := by
  refine ⟨fun i H hi h => ?_, fun H h => ?_, fun i H x H' hi h y => ?_⟩
  · obtain ⟨ys, h1, h2⟩ := h
    have hl := pr_len h2
    exact ⟨ys, ys[i], sq_of h1, List.getElem?_eq_getElem (show i < ys.length by omega)⟩
  · obtain ⟨ys, h1, h2⟩ := h
    exact ⟨ys, sq_of h1, Nat.le_of_eq (pr_len h2)⟩
  · obtain ⟨T, w, e1, e2, e3, e4⟩ := y
    obtain ⟨ys, h1, h2⟩ := h
    obtain ⟨z, q1, q2⟩ := pr_at' h2 (e4 ys (sq_of h1))
    exact ⟨T, w, z, e1, e2, e3, q1, q2⟩
variable {σ : L2.St} {H : Hp} {tl : TE} {g : TG} {tb : TS} {D : Ends}
/-- for .. in l -/
theorem s_forRL (h : Ev tl σ H (.ref p)) (Pv : Nat → L2.St → Hp → Prop) (h0 : ∀ H1, Ex H H1 → Pv 0 σ H1) (hk : ∀ i σ' H', i ≤ zs.length → Pv i σ' H' → RL R H' p zs)
    (hs : ∀ i z y σ' H', zs[i]? = some z → R z y H' → Pv i σ' H' → g y σ' H' fun σ2 H2 => tb { D with nx := Pv (i + 1), ct := Pv (i + 1), bk := D.nx } σ2 H2) (hd : ∀ σ' H', Pv zs.length σ' H' → D.nx σ' H') : tFor (iList K tl) g tb D σ H := by
  refine h H (Ex.refl H) _ fun H1 e1 => ?_
  obtain ⟨ys, h1, h2⟩ := hk 0 _ _ (Nat.zero_le _) (h0 H1 e1)
  refine ⟨p, rfl, ⟨ys, sq_of h1⟩, for_it (walk_RL (K := K) (R := R) (p := p) (zs := zs)) Pv (h0 H1 e1) (fun i σ' H' hi q => hk i σ' H' hi q) (fun i x σ' H' H2 hi q y => ?_) hd⟩
  obtain ⟨rfl, z, hz, hr⟩ := y
  exact hs i z x σ' _ hz hr q
/-- .. in a list made there -/
theorem s_forNRL (h : EvRL tl σ H R zs) (Pv : Addr → Nat → L2.St → Hp → Prop) (h0 : ∀ p H1, H p = none → Ex H H1 → RL R H1 p zs → Pv p 0 σ H1) (hk : ∀ p i σ' H', i ≤ zs.length → Pv p i σ' H' → RL R H' p zs)
    (hs : ∀ p i z y σ' H', zs[i]? = some z → R z y H' → Pv p i σ' H' → g y σ' H' fun σ2 H2 => tb { D with nx := Pv p (i + 1), ct := Pv p (i + 1), bk := D.nx } σ2 H2) (hd : ∀ p σ' H', Pv p zs.length σ' H' → D.nx σ' H') : tFor (iList K tl) g tb D σ H := by
  refine h H (Ex.refl H) _ fun p H1 np e1 hp => ?_
  have q0 := h0 p H1 np e1 hp
  obtain ⟨ys, h1, h2⟩ := hp
  refine ⟨p, rfl, ⟨ys, sq_of h1⟩, for_it (walk_RL (K := K) (R := R) (p := p) (zs := zs)) (Pv p) q0 (fun i σ' H' hi q => hk p i σ' H' hi q) (fun i x σ' H' H2 hi q y => ?_) (hd p)⟩
  obtain ⟨rfl, z, hz, hr⟩ := y
  exact hs p i z x σ' _ hz hr q
/-- for i, y in enumerate(l): the pair is a new tuple T -/
theorem s_forERL (h : Ev tl σ H (.ref p)) (Pv : Nat → L2.St → Hp → Prop) (h0 : ∀ H1, Ex H H1 → Pv 0 σ H1) (hk : ∀ i σ' H', i ≤ zs.length → Pv i σ' H' → RL R H' p zs)
    (hs : ∀ i z y T σ' H', zs[i]? = some z → R z y H' → Pv i σ' H' → H' T = none → g (.ref T) σ' (upd H' T (.tup [.int (i : Nat), y])) fun σ2 H2 => tb { D with nx := Pv (i + 1), ct := Pv (i + 1), bk := D.nx } σ2 H2) (hd : ∀ σ' H', Pv zs.length σ' H' → D.nx σ' H') :
    tFor (iEnum K (tCons tl tNil)) g tb D σ H := by
  refine h H (Ex.refl H) _ fun H1 e1 => ?_
  obtain ⟨ys, h1, h2⟩ := hk 0 _ _ (Nat.zero_le _) (h0 H1 e1)
  refine ⟨p, ys, rfl, sq_of h1, for_it (walk_enumRL (K := K) (R := R) (p := p) (zs := zs)) Pv (h0 H1 e1) (fun i σ' H' hi q => hk i σ' H' hi q) (fun i x σ' H' H2 hi q y => ?_) hd⟩
  obtain ⟨T, w, z, rfl, nT, rfl, hz, hr⟩ := y
  exact hs i z w T σ' H' hz hr q nT
variable {tz : TS}
theorem q_forRL (h : Ev tl σ H (.ref p)) (Pv : Nat → L2.St → Hp → Prop) (h0 : ∀ H1, Ex H H1 → Pv 0 σ H1) (hk : ∀ i σ' H', i ≤ zs.length → Pv i σ' H' → RL R H' p zs)
    (hs : ∀ i z y σ' H', zs[i]? = some z → R z y H' → Pv i σ' H' → g y σ' H' fun σ2 H2 => tb { D with nx := Pv (i + 1), ct := Pv (i + 1), bk := tz D } σ2 H2) (hd : ∀ σ' H', Pv zs.length σ' H' → tz D σ' H') : tSeq (tFor (iList K tl) g tb) tz D σ H :=
  s_forRL (D := { D with nx := tz D }) h Pv h0 hk hs hd
theorem q_forNRL (h : EvRL tl σ H R zs) (Pv : Addr → Nat → L2.St → Hp → Prop) (h0 : ∀ p H1, H p = none → Ex H H1 → RL R H1 p zs → Pv p 0 σ H1) (hk : ∀ p i σ' H', i ≤ zs.length → Pv p i σ' H' → RL R H' p zs)
    (hs : ∀ p i z y σ' H', zs[i]? = some z → R z y H' → Pv p i σ' H' → g y σ' H' fun σ2 H2 => tb { D with nx := Pv p (i + 1), ct := Pv p (i + 1), bk := tz D } σ2 H2) (hd : ∀ p σ' H', Pv p zs.length σ' H' → tz D σ' H') : tSeq (tFor (iList K tl) g tb) tz D σ H :=
  s_forNRL (D := { D with nx := tz D }) h Pv h0 hk hs hd
theorem q_forERL (h : Ev tl σ H (.ref p)) (Pv : Nat → L2.St → Hp → Prop) (h0 : ∀ H1, Ex H H1 → Pv 0 σ H1) (hk : ∀ i σ' H', i ≤ zs.length → Pv i σ' H' → RL R H' p zs)
    (hs : ∀ i z y T σ' H', zs[i]? = some z → R z y H' → Pv i σ' H' → H' T = none → g (.ref T) σ' (upd H' T (.tup [.int (i : Nat), y])) fun σ2 H2 => tb { D with nx := Pv (i + 1), ct := Pv (i + 1), bk := tz D } σ2 H2) (hd : ∀ σ' H', Pv zs.length σ' H' → tz D σ' H') :
    tSeq (tFor (iEnum K (tCons tl tNil)) g tb) tz D σ H :=
  s_forERL (D := { D with nx := tz D }) h Pv h0 hk hs hd
/-- the same, the target a name -/
theorem s_forRLn {j : Nat} (h : Ev tl σ H (.ref p)) (Pv : Nat → L2.St → Hp → Prop) (h0 : ∀ H1, Ex H H1 → Pv 0 σ H1) (hk : ∀ i σ' H', i ≤ zs.length → Pv i σ' H' → RL R H' p zs)
    (hs : ∀ i z y σ' H', zs[i]? = some z → R z y H' → Pv i σ' H' → tb { D with nx := Pv (i + 1), ct := Pv (i + 1), bk := D.nx } (σ'.set j (some y)) H') (hd : ∀ σ' H', Pv zs.length σ' H' → D.nx σ' H') : tFor (iList K tl) (gName j) tb D σ H := s_forRL h Pv h0 hk hs hd
theorem q_forRLn {j : Nat} (h : Ev tl σ H (.ref p)) (Pv : Nat → L2.St → Hp → Prop) (h0 : ∀ H1, Ex H H1 → Pv 0 σ H1) (hk : ∀ i σ' H', i ≤ zs.length → Pv i σ' H' → RL R H' p zs)
    (hs : ∀ i z y σ' H', zs[i]? = some z → R z y H' → Pv i σ' H' → tb { D with nx := Pv (i + 1), ct := Pv (i + 1), bk := tz D } (σ'.set j (some y)) H') (hd : ∀ σ' H', Pv zs.length σ' H' → tz D σ' H') : tSeq (tFor (iList K tl) (gName j) tb) tz D σ H := q_forRL h Pv h0 hk hs hd
/-- l.append(a tuple of numbers) -/
theorem s_appT {α : Type} {zs : List α} {gg : α → List Int} {z : α} {l : Addr} {ta te : TE} (hl : RL (fun z => tupI (gg z)) H l zs) (ha : Ev ta σ H (.ref l)) (h : EvU te σ H ((gg z).map V.int)) (hz : zs.length < 50000)
    (k : ∀ H2, But1 l H H2 → RL (fun z => tupI (gg z)) H2 l (zs ++ [z]) → D.nx σ H2) : tDrop (tBM K "list" rAppend ta (tCons te tNil)) D σ H := by
  obtain ⟨ys, h1, h2⟩ := hl
  have hlen := pr_len h2
  refine s_appU h1 ha h (by omega) fun p H1 np e1 hp => k _ ((But1.of e1).upd) ⟨ys ++ [.ref p], upd_same, ?_⟩
  have hl1 := e1 _ _ h1
  have b : But1 l H1 (upd H1 l (.lst (ys ++ [.ref p]))) := (But1.of (Ex.refl H1)).upd
  exact pr_app (pr_but (pr_e (fun z v H H' e h => tupI_e (gg z) v H H' e h) e1 h2) hl1 b) (.cons ⟨p, rfl, b _ _ (ne_lt hp hl1) hp⟩ .nil)
theorem tupI_but {r : List Int} {y : V} {H H' : Hp} {F : Addr} {xs : List V} (h : tupI r y H) (hF : H F = some (.lst xs)) (b : But1 F H H') : tupI r y H' := by
  obtain ⟨p, e, hp⟩ := h
  exact ⟨p, e, b _ _ (ne_lt hp hF) hp⟩
/-- if c: l.append(a tuple of numbers) -/
theorem s_ifAppT {α : Type} {zs : List α} {gg : α → List Int} {z : α} {l : Addr} {ta te : TE} {t : TT} {b : Bool} (ht : EvT t σ H b) (hl : RL (fun z => tupI (gg z)) H l zs) (ha : Ev ta σ H (.ref l)) (h : b = true → EvU te σ H ((gg z).map V.int)) (hz : zs.length < 50000)
    (k : ∀ H2, But1 l H H2 → RL (fun z => tupI (gg z)) H2 l (zs ++ if b = true then [z] else []) → D.nx σ H2) : tIfS t (tDrop (tBM K "list" rAppend ta (tCons te tNil))) tNext D σ H := by
  have e0 : MonoE fun z => tupI (gg z) := fun z v H H' e h => tupI_e (gg z) v H H' e h
  refine s_when ht (fun hb H1 e1 => ?_) (fun hb H1 e1 => ?_)
  · subst hb
    exact s_appT (hl.ex e0 e1) (ha.mono e1) (fun H2 e2 Q q => h rfl H2 (e1.trans e2) Q q) hz fun H2 b2 h2 => k H2 ((But1.of e1).tr b2) h2
  · subst hb
    refine k H1 (But1.of e1) ?_
    rw [if_neg Bool.false_ne_true, List.append_nil]
    exact hl.ex e0 e1
theorem q_ifAppT {α : Type} {zs : List α} {gg : α → List Int} {z : α} {l : Addr} {ta te : TE} {t : TT} {b : Bool} {tz : TS} (ht : EvT t σ H b) (hl : RL (fun z => tupI (gg z)) H l zs) (ha : Ev ta σ H (.ref l)) (h : b = true → EvU te σ H ((gg z).map V.int)) (hz : zs.length < 50000)
    (k : ∀ H2, But1 l H H2 → RL (fun z => tupI (gg z)) H2 l (zs ++ if b = true then [z] else []) → tz D σ H2) : tSeq (tIfS t (tDrop (tBM K "list" rAppend ta (tCons te tNil))) tNext) tz D σ H :=
  s_ifAppT (D := { D with nx := tz D }) ht hl ha h hz k
/-- l.append(a whole number) -/
theorem s_appI {ns : List Int} {n : Int} {l : Addr} {ta te : TE} (hl : H l = some (.lst (ns.map V.int))) (ha : Ev ta σ H (.ref l)) (h : Ev te σ H (.int n)) (hz : ns.length < 50000)
    (k : ∀ H2, But1 l H H2 → H2 l = some (.lst ((ns ++ [n]).map V.int)) → D.nx σ H2) : tDrop (tBM K "list" rAppend ta (tCons te tNil)) D σ H :=
  s_app hl ha h (by rw [List.length_map]; omega) fun H1 e1 => k _ ((But1.of e1).upd) (by rw [upd_same, List.map_append]; rfl)
end
/-- l.append(x), lists of numbers in l -/
theorem lst_but {r : List Int} {y : V} {H H' : Hp} {F : Addr} (h : lstI r y H) (hF : y ≠ .ref F) (b : But1 F H H') : lstI r y H' := by
  obtain ⟨p, e, hp⟩ := h
  exact ⟨p, e, b _ _ (fun z => hF (by rw [e, z])) hp⟩
/-- the target a, b, c of a tuple of three numbers -/
theorem g_tup3 {K : PySem.W.Frag} {σ : L2.St} {H : Hp} {i j k : Nat} {a b c : Int} {y : V} {Q : L2.St → Hp → Prop} (h : tupI [a, b, c] y H) (q : Q (((σ.set i (some (.int a))).set j (some (.int b))).set k (some (.int c))) H) :
    gTup K 3 (gCons (gName i) (gCons (gName j) (gCons (gName k) gNil))) y σ H Q := by
  obtain ⟨p, rfl, hp⟩ := h
  exact ⟨p, _, rfl, SqT.of hp, rfl, _, _, rfl, _, _, rfl, _, _, rfl, rfl, q⟩
theorem g_tup2 {K : PySem.W.Frag} {σ : L2.St} {H : Hp} {i j : Nat} {a b : Int} {y : V} {Q : L2.St → Hp → Prop} (h : tupI [a, b] y H) (q : Q ((σ.set i (some (.int a))).set j (some (.int b))) H) :
    gTup K 2 (gCons (gName i) (gCons (gName j) gNil)) y σ H Q := by
  obtain ⟨p, rfl, hp⟩ := h
  exact ⟨p, _, rfl, SqT.of hp, rfl, _, _, rfl, _, _, rfl, rfl, q⟩
theorem g_tup2v {K : PySem.W.Frag} {σ : L2.St} {H : Hp} {i j : Nat} {a b : V} {p : Addr} {Q : L2.St → Hp → Prop} (hp : H p = some (.tup [a, b])) (q : Q ((σ.set i (some a)).set j (some b)) H) :
    gTup K 2 (gCons (gName i) (gCons (gName j) gNil)) (.ref p) σ H Q := ⟨p, _, rfl, SqT.of hp, rfl, _, _, rfl, _, _, rfl, rfl, q⟩
end Rel
set_option Elab.async false
set_option linter.all false
set_option maxRecDepth 100000
set_option maxHeartbeats 4000000
/-! # sorted, told by a function -/
namespace Rel
open PySem L2 Evl
section
variable {α : Type} (g : α → List Int)
def ins (z : α) : List α → List α
  | [] => [z]
  | y :: ys => if HT.lexLt (g z) (g y) = true then z :: y :: ys else y :: ins z ys
def isort : List α → List α
  | [] => []
  | z :: zs => ins g z (isort zs)
theorem ins_perm (z : α) : ∀ ys : List α, (ins g z ys).Perm (z :: ys)
  | [] => List.Perm.refl _
  | y :: ys => by
    unfold ins
    split
    · exact List.Perm.refl _
    · exact ((ins_perm z ys).cons y).trans (List.Perm.swap z y ys)
theorem isort_perm : ∀ zs : List α, (isort g zs).Perm zs
  | [] => List.Perm.refl _
  | z :: zs => (ins_perm g z _).trans ((isort_perm zs).cons z)
theorem lex_ns (x y : List Int) (h : HT.lexLt x y = true) : HT.lexLt y x = false := NtL.lex_asym x y h
theorem ins_srt (z : α) : ∀ ys : List α, (ys.Pairwise fun x y => HT.lexLt (g y) (g x) = false) → (ins g z ys).Pairwise fun x y => HT.lexLt (g y) (g x) = false
  | [], _ => List.pairwise_singleton _ _
  | y :: ys, h => by
    obtain ⟨h1, h2⟩ := List.pairwise_cons.mp h
    unfold ins
    split
    · rename_i c
      refine List.pairwise_cons.mpr ⟨fun u hu => ?_, h⟩
      rcases List.mem_cons.mp hu with rfl | hu
      · exact lex_ns _ _ c
      · exact NtL.lex_tr _ _ _ (lex_ns _ _ c) (h1 u hu)
    · rename_i c
      refine List.pairwise_cons.mpr ⟨fun u hu => ?_, ins_srt z ys h2⟩
      rcases List.mem_cons.mp ((ins_perm g z ys).mem_iff.mp hu) with rfl | hu
      · cases q : HT.lexLt (g u) (g y) with
        | true => exact absurd q c
        | false => rfl
      · exact h1 u hu
theorem isort_srt : ∀ zs : List α, (isort g zs).Pairwise fun x y => HT.lexLt (g y) (g x) = false
  | [] => List.Pairwise.nil
  | z :: zs => ins_srt g z _ (isort_srt zs)
end
theorem kNum {H2 : Hp} : ∃ k : V → List Int, ∀ r y, tupI r y H2 → k y = r := by
  refine ⟨fun v => match v with
    | .ref a => match H2 a with
      | some (.tup xs) => xs.map (fun x => (match x with | .int i => i | _ => 0))
      | _ => []
    | _ => [], ?_⟩
  rintro r y ⟨b, rfl, hb⟩
  show (match H2 b with | some (.tup xs) => xs.map (fun x => (match x with | .int i => i | _ => 0)) | _ => []) = r
  rw [hb]
  show (r.map V.int).map _ = r
  rw [List.map_map]
  exact List.map_id' r
section
variable {α : Type} {g : α → List Int} {K : PySem.W.Frag} {σ : L2.St} {H : Hp} {te : TE}
theorem lex_anti : ∀ x y : List Int, HT.lexLt x y = false → HT.lexLt y x = false → x = y := by
  intro x
  induction x with
  | nil =>
    intro y h1 h2
    cases y with
    | nil => rfl
    | cons b y => rw [HT.lexLt_nil_cons] at h1; cases h1
  | cons a x ih =>
    intro y h1 h2
    cases y with
    | nil => rw [HT.lexLt_nil_cons] at h2; cases h2
    | cons b y =>
      rw [HT.lexLt_cons] at h1 h2
      by_cases c : a = b
      · subst c
        rw [if_pos rfl] at h1 h2
        rw [ih y h1 h2]
      · rw [if_neg c] at h1
        rw [if_neg (Ne.symm c)] at h2
        have := of_decide_eq_false h1
        have := of_decide_eq_false h2
        omega
/-- what sorted makes of the list at p -/
theorem sortT_at {m : Nat} {H2 : Hp} {p : Addr} {zs : List α} (hz : ∀ z ∈ zs, (g z).length = m + 1) (hl : RL (fun z => tupI (g z)) H2 p zs) {Q : VK} (q : ∀ d H3, H2 d = none → Ex H2 H3 → RL (fun z => tupI (g z)) H3 d (isort g zs) → Q (.ref d) H3) : SoT.rSortedT K m [.ref p] H2 Q := by
  obtain ⟨ys, hl, hq⟩ := hl
  obtain ⟨k, kk⟩ := kNum (H2 := H2)
  have kmap : ∀ {ys : List V} {zs : List α}, Paired (fun y z => tupI (g z) y H2) ys zs → ys.map k = zs.map g := by
    intro ys zs hq
    induction hq with
    | nil => rfl
    | cons h t ih => rw [List.map_cons, List.map_cons, ih, kk _ _ h]
  have mem : ∀ x ∈ ys, ∃ z ∈ zs, tupI (g z) x H2 := by
    intro x hx
    obtain ⟨i, hi⟩ := List.getElem?_of_mem hx
    obtain ⟨z, h1, h2⟩ := pr_at' hq hi
    exact ⟨z, List.mem_of_getElem? h1, h2⟩
  refine ⟨p, ys, k, rfl, sq_of hl, fun x hx => ?_, fun us d h1 h2 nd => ?_⟩
  · obtain ⟨z, hz2, ht⟩ := mem x hx
    rw [kk _ _ ht]
    exact ⟨ht, hz z hz2⟩
  · refine q d _ nd (Ex.new nd) ⟨us, upd_same, ?_⟩
    have hus : us.Perm ys := h2.perm
    have e3 : us.map k = (isort g zs).map g := by
      have p1 : (us.map k).Perm ((isort g zs).map g) := (hus.map k).trans (by rw [kmap hq]; exact ((isort_perm g zs).map g).symm)
      have s1 : (us.map k).Pairwise fun x y => HT.lexLt y x = false := List.pairwise_map.mpr h1
      have s2 : ((isort g zs).map g).Pairwise fun x y => HT.lexLt y x = false := List.pairwise_map.mpr (isort_srt g zs)
      exact List.Perm.eq_of_pairwise (fun a b _ _ h1 h2 => lex_anti a b h2 h1) s1 s2 p1
    have all : ∀ x ∈ us, tupI (k x) x (upd H2 d (.lst us)) := by
      intro x hx
      obtain ⟨z, _, ht⟩ := mem x (hus.mem_iff.mp hx)
      rw [kk _ _ ht]
      exact tupI_e _ _ _ _ (Ex.new nd) ht
    clear h1 h2 hus
    generalize upd H2 d (.lst us) = H3 at all
    generalize isort g zs = out at e3
    induction us generalizing out with
    | nil =>
      cases out with
      | nil => exact .nil
      | cons _ _ => cases e3
    | cons x us ih =>
      cases out with
      | nil => cases e3
      | cons z out =>
        rw [List.map_cons, List.map_cons] at e3
        injection e3 with h3 h4
        have hx := all x List.mem_cons_self
        rw [h3] at hx
        exact .cons hx (ih (fun y hy => all y (List.mem_cons_of_mem _ hy)) out h4)
theorem er_sortV {m : Nat} {p : Addr} {zs : List α} (h : Ev te σ H (.ref p)) (hz : ∀ z ∈ zs, (g z).length = m + 1) (hl : RL (fun z => tupI (g z)) H p zs) : EvRL (tCB (SoT.rSortedT K m) (tCons te tNil)) σ H (fun z => tupI (g z)) (isort g zs) := fun H1 e Q q =>
  h H1 e _ fun H2 e2 => sortT_at hz (hl.ex (fun z v H H' e h => tupI_e (g z) v H H' e h) (e.trans e2)) fun d H3 nd e3 h3 => q d H3 (fresh_back e2 nd) (e2.trans e3) h3
theorem er_sortN {m : Nat} {zs : List α} (h : EvRL te σ H (fun z => tupI (g z)) zs) (hz : ∀ z ∈ zs, (g z).length = m + 1) : EvRL (tCB (SoT.rSortedT K m) (tCons te tNil)) σ H (fun z => tupI (g z)) (isort g zs) := fun H1 e Q q =>
  h H1 e _ fun p H2 np e2 hl => sortT_at hz hl fun d H3 nd e3 h3 => q d H3 (fresh_back e2 nd) (e2.trans e3) h3
end
end Rel
set_option Elab.async false
set_option linter.all false
set_option maxRecDepth 100000
set_option maxHeartbeats 4000000
/-! # what of which a relation holds, as data: it is compared, and shown -/
namespace Rel
open PySem L2 Evl
structure Dat {α : Type} [DecidableEq α] (R : α → V → Hp → Prop) (d : α → PyData) (n : Nat) : Prop where
  dp : ∀ (K : PySem.W.Frag) z v H, R z v H → Dp K H v (d z)
  can : ∀ z, (d z).canLay0 = true
  dep : ∀ z, (d z).depth ≤ n
  eq : ∀ z w, PyData.eqv (d z) (d w) = decide (z = w)
def intR (i : Int) (v : V) (_ : Hp) : Prop := v = .int i
def rlR {α : Type} (R : α → V → Hp → Prop) (zs : List α) (v : V) (H : Hp) : Prop := ∃ l, v = .ref l ∧ RL R H l zs
theorem intR_e : MonoE intR := fun _ _ _ _ _ h => h
theorem rlR_e {α : Type} {R : α → V → Hp → Prop} (m : MonoE R) : MonoE (rlR R) := fun _ _ _ _ e ⟨l, h1, h2⟩ => ⟨l, h1, h2.ex m e⟩
section
variable {α : Type} [DecidableEq α] {R : α → V → Hp → Prop} {d : α → PyData} {n : Nat}
theorem Dat.all (D : Dat R d n) (K : PySem.W.Frag) {H : Hp} : ∀ {ys : List V} {zs : List α}, Paired (fun y z => R z y H) ys zs → DpAll K H ys (zs.map d)
  | _, _, .nil => .nil
  | _, _, .cons h t => .cons (D.dp K _ _ _ h) (D.all K t)
theorem Dat.canAll (D : Dat R d n) : ∀ zs : List α, PyData.canLayAll0 (zs.map d) = true
  | [] => rfl
  | z :: zs => by
    rw [List.map_cons]
    unfold PyData.canLayAll0
    rw [D.can z, D.canAll zs]
    rfl
theorem Dat.depAll (D : Dat R d n) : ∀ zs : List α, PyData.depthAll (zs.map d) ≤ n
  | [] => by
    rw [List.map_nil]
    unfold PyData.depthAll
    exact Nat.zero_le _
  | z :: zs => by
    rw [List.map_cons]
    unfold PyData.depthAll
    exact Nat.max_le.mpr ⟨D.dep z, D.depAll zs⟩
theorem Dat.eqAll (D : Dat R d n) : ∀ zs ws : List α, PyData.eqvAll (zs.map d) (ws.map d) = decide (zs = ws)
  | [], [] => rfl
  | [], _ :: _ => rfl
  | _ :: _, [] => rfl
  | z :: zs, w :: ws => by
    rw [List.map_cons, List.map_cons]
    unfold PyData.eqvAll
    rw [D.eq z w, D.eqAll zs ws]
    by_cases h1 : z = w
    · by_cases h2 : zs = ws
      · simp [h1, h2]
      · simp [h1, h2]
    · simp [h1]
/-- lists of such -/
theorem Dat.list (D : Dat R d n) : Dat (rlR R) (fun zs : List α => .list (zs.map d)) (n + 1) where
  dp := fun K zs v H ⟨l, e, ys, h1, h2⟩ => by
    subst e
    exact .lst (sq_of h1) (D.all K h2)
  can := fun zs => by
    show PyData.canLay0 (.list (zs.map d)) = true
    unfold PyData.canLay0
    exact D.canAll zs
  dep := fun zs => by
    show PyData.depth (.list (zs.map d)) ≤ n + 1
    unfold PyData.depth
    exact Nat.succ_le_succ (D.depAll zs)
  eq := fun zs ws => by
    show PyData.eqv (.list (zs.map d)) (.list (ws.map d)) = _
    unfold PyData.eqv
    exact D.eqAll zs ws
theorem Dat.shaped (D : Dat R d n) (h : n ≤ 64) (z : α) : SeqAt.shaped (d z) = true := by
  unfold SeqAt.shaped
  rw [D.can z, decide_eq_true (Nat.le_trans (D.dep z) h)]
  rfl
/-- x == y, of two such -/
theorem Dat.rv_eq (D : Dat R d n) (hn : n ≤ 64) (m : MonoE R) {K : PySem.W.Frag} {H : Hp} {x y : V} {z w : α} (h1 : R z x H) (h2 : R w y H) : RV (rEqD K) x y H (.bl (decide (z = w))) := fun H1 e Q q =>
  ⟨d z, d w, D.dp K _ _ _ (m _ _ _ _ e h1), D.dp K _ _ _ (m _ _ _ _ e h2), D.shaped hn z, D.shaped hn w, by rw [D.eq]; exact q H1 (Ex.refl H1)⟩
theorem Dat.rv_ne (D : Dat R d n) (hn : n ≤ 64) (m : MonoE R) {K : PySem.W.Frag} {H : Hp} {x y : V} {z w : α} (h1 : R z x H) (h2 : R w y H) : RV (rNeD K) x y H (.bl (!decide (z = w))) := fun H1 e Q q =>
  ⟨d z, d w, D.dp K _ _ _ (m _ _ _ _ e h1), D.dp K _ _ _ (m _ _ _ _ e h2), D.shaped hn z, D.shaped hn w, by rw [D.eq]; exact q H1 (Ex.refl H1)⟩
/-- by an embedding -/
theorem Dat.comp {β : Type} [DecidableEq β] (D : Dat R d n) (g : β → α) (inj : ∀ a b, g a = g b → a = b) : Dat (fun z => R (g z)) (fun z => d (g z)) n where
  dp := fun K z v H h => D.dp K _ _ _ h
  can := fun z => D.can _
  dep := fun z => D.dep _
  eq := fun z w => by
    rw [D.eq]
    by_cases h : z = w
    · rw [h]
      simp
    · rw [decide_eq_false h, decide_eq_false (fun e => h (inj _ _ e))]
end
theorem datI : Dat intR PyData.int 0 where
  dp := fun K z v H h => by
    obtain rfl : v = V.int z := h
    exact .int z
  can := fun _ => by unfold PyData.canLay0; rfl
  dep := fun _ => by unfold PyData.depth; exact Nat.le_refl _
  eq := fun z w => by
    unfold PyData.eqv
    by_cases h : z = w
    · simp [h]
    · simp [h]
theorem dpInts (K : PySem.W.Frag) (H : Hp) : ∀ ns : List Int, DpAll K H (ns.map V.int) (ns.map PyData.int)
  | [] => .nil
  | n :: ns => .cons (.int n) (dpInts K H ns)
theorem datTup : Dat tupI (fun r => .tuple (r.map PyData.int)) 1 where
  dp := fun K z v H ⟨p, e, h⟩ => by
    subst e
    exact .tup (st_of h) (dpInts K H z)
  can := fun z => by
    show PyData.canLay0 (.tuple (z.map PyData.int)) = true
    unfold PyData.canLay0
    exact datI.canAll z
  dep := fun z => by
    show PyData.depth (.tuple (z.map PyData.int)) ≤ 1
    unfold PyData.depth
    exact Nat.succ_le_succ (datI.depAll z)
  eq := fun z w => by
    show PyData.eqv (.tuple (z.map PyData.int)) (.tuple (w.map PyData.int)) = _
    unfold PyData.eqv
    exact datI.eqAll z w
theorem datLst : Dat lstI (fun r => .list (r.map PyData.int)) 1 where
  dp := fun K z v H ⟨p, e, h⟩ => by
    subst e
    exact .lst (sq_of h) (dpInts K H z)
  can := fun z => by
    show PyData.canLay0 (.list (z.map PyData.int)) = true
    unfold PyData.canLay0
    exact datI.canAll z
  dep := fun z => by
    show PyData.depth (.list (z.map PyData.int)) ≤ 1
    unfold PyData.depth
    exact Nat.succ_le_succ (datI.depAll z)
  eq := fun z w => by
    show PyData.eqv (.list (z.map PyData.int)) (.list (w.map PyData.int)) = _
    unfold PyData.eqv
    exact datI.eqAll z w
section
variable {K : PySem.W.Frag} {σ : L2.St} {H : Hp} {ta : TE}
/-- l == [], l != [] -/
theorem ev_isNil {α : Type} [DecidableEq α] {R : α → V → Hp → Prop} {d : α → PyData} {n : Nat} (D : Dat R d n) (m : MonoE R) (hn : n + 1 ≤ 64) {l : Addr} {zs : List α} (h : Ev ta σ H (.ref l)) (hl : RL R H l zs) : Ev (tOp (rEqD K) ta (tLst tNil)) σ H (.bl (decide (zs = []))) :=
  ev_opL h (el_lst (vs := []) ea_nil (Nat.zero_le _)) fun p H1 hp e => (D.list).rv_eq hn (rlR_e m) ⟨l, rfl, hl.ex m e⟩ ⟨p, rfl, rl_nil hp⟩
theorem ev_noNil {α : Type} [DecidableEq α] {R : α → V → Hp → Prop} {d : α → PyData} {n : Nat} (D : Dat R d n) (m : MonoE R) (hn : n + 1 ≤ 64) {l : Addr} {zs : List α} (h : Ev ta σ H (.ref l)) (hl : RL R H l zs) : Ev (tOp (rNeD K) ta (tLst tNil)) σ H (.bl (!decide (zs = []))) :=
  ev_opL h (el_lst (vs := []) ea_nil (Nat.zero_le _)) fun p H1 hp e => (D.list).rv_ne hn (rlR_e m) ⟨l, rfl, hl.ex m e⟩ ⟨p, rfl, rl_nil hp⟩
end
end Rel
set_option Elab.async false
set_option linter.all false
set_option maxRecDepth 100000
set_option maxHeartbeats 4000000
/-! # the last item of a list of tuples -/
namespace Rel
open PySem L2 Evl
section
variable {α : Type} {g : α → List Int} {K : PySem.W.Frag} {σ : L2.St} {H : Hp} {D : Ends} {n : Nat} {l : Addr} {te : TE}
theorem rl_snoc {R : α → V → Hp → Prop} {init : List α} {q : α} (h : RL R H l (init ++ [q])) : ∃ us v, H l = some (.lst (us ++ [v])) ∧ Paired (fun y z => R z y H) us init ∧ R q v H := by
  obtain ⟨ys, h1, h2⟩ := h
  have go : ∀ {ys : List V} {init : List α}, Paired (fun y z => R z y H) ys (init ++ [q]) → ∃ us v, ys = us ++ [v] ∧ Paired (fun y z => R z y H) us init ∧ R q v H := by
    intro ys init
    induction init generalizing ys with
    | nil =>
      intro h
      cases h with
      | cons h t =>
        cases t
        exact ⟨[], _, rfl, .nil, h⟩
    | cons z init ih =>
      intro h
      cases h with
      | cons h t =>
        obtain ⟨us, v, rfl, h3, h4⟩ := ih t
        exact ⟨_ :: us, v, rfl, .cons h h3, h4⟩
  obtain ⟨us, v, rfl, h3, h4⟩ := go h2
  exact ⟨us, v, h1, h3, h4⟩
theorem ev_m1 : Ev (tUn (rU fun i => .int (-i)) (tC (.int 1))) σ H (.int (-1)) := ev_un ev_c ru_neg
/-- l[-1] -/
theorem ev_lastV {xs : List V} {v : V} (hn : σ[n]? = some (some (.ref l))) (h : H l = some (.lst (xs ++ [v]))) : Ev (tOp (rIxL K) (tVar n) (tUn (rU fun i => .int (-i)) (tC (.int 1)))) σ H v :=
  ev_op (ev_var hn) ev_m1 (rv_ixL (SqL.of h) (atI_last _ _))
theorem ev_lastT {init : List α} {q : α} {i : Nat} {c : Int} (hn : σ[n]? = some (some (.ref l))) (h : RL (fun z => tupI (g z)) H l (init ++ [q])) (hc : (g q)[i]? = some c) : Ev (tOp (rIxT K) (tOp (rIxL K) (tVar n) (tUn (rU fun i => .int (-i)) (tC (.int 1)))) (tC (.int (i : Int)))) σ H (.int c) := by
  obtain ⟨us, v, h1, _, p, rfl, hp⟩ := rl_snoc h
  exact ev_op (ev_lastV hn h1) ev_c (rv_ixT (SqT.of hp) (atI_nat (by rw [List.getElem?_map, hc]; rfl)))
theorem ixN_last (k : Nat) : ixN (k + 1) (-1) = some k := by
  unfold ixN
  have e : ((-1 : Int) < 0) := by decide
  simp
  try omega
/-- l[-1] = a tuple of numbers -/
theorem s_setLastT {init : List α} {q z : α} (hn : σ[n]? = some (some (.ref l))) (h : RL (fun z => tupI (g z)) H l (init ++ [q])) (ht : EvU te σ H ((g z).map V.int)) (k : ∀ H2, But1 l H H2 → RL (fun z => tupI (g z)) H2 l (init ++ [z]) → D.nx σ H2) :
    tAsg te (gSub (tVar n) (tUn (rU fun i => .int (-i)) (tC (.int 1))) rSetL) D σ H := by
  obtain ⟨us, v, h1, h2, h3⟩ := rl_snoc h
  refine ht H (Ex.refl H) _ fun p H1 np e1 hp => ?_
  refine ⟨_, hn, 1, rfl, l, us ++ [v], -1, us.length, rfl, rfl, e1 _ _ h1, by rw [List.length_append]; exact ixN_last _, ?_⟩
  have e : (us ++ [v]).set us.length (.ref p) = us ++ [.ref p] := by
    rw [List.set_append_right _ _ (Nat.le_refl _), Nat.sub_self]
    rfl
  rw [e]
  have b : But1 l H1 (upd H1 l (.lst (us ++ [.ref p]))) := (But1.of (Ex.refl H1)).upd
  refine k _ ((But1.of e1).tr b) ⟨us ++ [.ref p], upd_same, ?_⟩
  have hl1 := e1 _ _ h1
  exact pr_app (pr_but (pr_e (fun z v H H' e h => tupI_e (g z) v H H' e h) e1 h2) hl1 b) (.cons ⟨p, rfl, b _ _ (ne_lt hp hl1) hp⟩ .nil)
end
end Rel
set_option Elab.async false
set_option linter.all false
set_option maxRecDepth 100000
set_option maxHeartbeats 4000000
/-! # comprehensions over enumerate, over pairs; pairs made -/
namespace Rel
open PySem L2 Evl
/-- the items with their places -/
def enumL {α : Type} (zs : List α) : List (Nat × α) := zs.zipIdx.map fun p => (p.2, p.1)
theorem enumL_len {α : Type} (zs : List α) : (enumL zs).length = zs.length := by simp [enumL]
theorem enumL_at {α : Type} {zs : List α} {i : Nat} {u : Nat × α} (h : (enumL zs)[i]? = some u) : u.1 = i ∧ zs[i]? = some u.2 := by
  unfold enumL at h
  rw [List.getElem?_map, List.getElem?_zipIdx] at h
  cases hq : zs[i]? with
  | none =>
    rw [hq] at h
    simp at h
  | some z =>
    rw [hq] at h
    simp at h
    rw [← h]
    exact ⟨rfl, rfl⟩
theorem enumL_mem {α : Type} {zs : List α} {u : Nat × α} (h : u ∈ enumL zs) : zs[u.1]? = some u.2 := by
  obtain ⟨i, hi⟩ := List.getElem?_of_mem h
  obtain ⟨h1, h2⟩ := enumL_at hi
  rw [h1]
  exact h2
theorem mem_enumL {α : Type} {zs : List α} {i : Nat} {z : α} (h : zs[i]? = some z) : (i, z) ∈ enumL zs := by
  unfold enumL
  refine List.mem_map.mpr ⟨(z, i), ?_, rfl⟩
  exact List.mk_mem_zipIdx_iff_getElem?.mpr h
section
variable {α : Type} {K : PySem.W.Frag} {σ : L2.St} {H : Hp} {te tl : TE} {ta : TA} {t : TT}
theorem er_lcERL {R : α → V → Hp → Prop} (mR : MonoE R) {S : Nat × α → V → Hp → Prop} (mS : Mono S) {zs : List α} {a : Addr} {j l : Nat} {vs : List Nat} (f : Nat × α → Bool) (h : Ev tl σ H (.ref a)) (hx : RL R H a zs) (hz : zs.length ≤ 40000)
    (hw : ∀ x y, wipe (((wipe σ vs).set j (some x)).set l (some y)) vs = wipe σ vs)
    (ht : ∀ (i : Nat) z, zs[i]? = some z → ∀ y H1, Ex H H1 → R z y H1 → EvT t (((wipe σ vs).set j (some (.int (i : Nat)))).set l (some y)) H1 (f (i, z)))
    (he : ∀ (i : Nat) z, zs[i]? = some z → ∀ y H1, Ex H H1 → R z y H1 → f (i, z) = true → EvN te (((wipe σ vs).set j (some (.int (i : Nat)))).set l (some y)) H1 (S (i, z))) :
    EvRL (tLc (iEnum K (tCons tl tNil)) (gTup K 2 (gCons (gName j) (gCons (gName l) gNil))) t te vs) σ H S ((enumL zs).filter f) := by
  obtain ⟨ys, hl, hp⟩ := hx
  intro H1 e Q q
  refine h H1 e _ fun H2 e1 => ⟨a, ys, rfl, sq_of ((e.trans e1) _ _ hl), fun Dl hD => ?_⟩
  refine lc_rel (H := H2) (zs := enumL zs) (walk_enum (K := K) (a := a) (xs := ys)) (by rw [enumL_len]; exact pr_len hp) (fun H3 e2 => sq_of (((e.trans e1).trans e2) _ _ hl)) f S mS (by rw [enumL_len]; exact hz) (fun i u x H3 H4 hu hH hy => ?_) hD fun us H3 e2 h3 hq => q Dl H3 (fresh_back e1 hD) (e1.trans e2) ⟨us, h3, hq⟩
  obtain ⟨T, x1, x2, rfl, nT, rfl, h1, h2⟩ := hy
  obtain ⟨hi, hz2⟩ := enumL_at hu
  obtain ⟨u1, u2⟩ := u
  dsimp only at hi hz2
  subst hi
  obtain rfl : x1 = .int (u1 : Nat) := (Option.some.inj h1).symm
  obtain ⟨y, hy2, hr⟩ := pr_at hp hz2
  obtain rfl : y = x2 := Option.some.inj (hy2.symm.trans h2)
  have e4 : Ex H H2 := e.trans e1
  refine ⟨Ex.new nT, fun Q' k => ?_⟩
  refine ⟨T, [_, _], rfl, .inl (.inl upd_same), rfl, _, _, rfl, _, _, rfl, rfl, k _ (hw _ _) (ht u1 u2 hz2 y H2 e4 (mR _ _ _ _ e4 hr)) fun hf => he u1 u2 hz2 y H2 e4 (mR _ _ _ _ e4 hr) hf⟩
/-- over a list of pairs of numbers: the two names -/
theorem er_lcT2 {g : α → Int × Int} {S : α → V → Hp → Prop} (mS : Mono S) {zs : List α} {a : Addr} {j l : Nat} {vs : List Nat} (f : α → Bool) (h : Ev tl σ H (.ref a)) (hx : RL (fun z => tupI [(g z).1, (g z).2]) H a zs) (hz : zs.length ≤ 40000)
    (hw : ∀ x y, wipe (((wipe σ vs).set j (some x)).set l (some y)) vs = wipe σ vs)
    (ht : ∀ z ∈ zs, ∀ H1, Ex H H1 → EvT t (((wipe σ vs).set j (some (.int (g z).1))).set l (some (.int (g z).2))) H1 (f z))
    (he : ∀ z ∈ zs, ∀ H1, Ex H H1 → f z = true → EvN te (((wipe σ vs).set j (some (.int (g z).1))).set l (some (.int (g z).2))) H1 (S z)) :
    EvRL (tLc (iList K tl) (gTup K 2 (gCons (gName j) (gCons (gName l) gNil))) t te vs) σ H S (zs.filter f) := by
  obtain ⟨ys, hl, hp⟩ := hx
  intro H1 e Q q
  refine h H1 e _ fun H2 e1 => ⟨a, rfl, ⟨ys, sq_of ((e.trans e1) _ _ hl)⟩, fun Dl hD => ?_⟩
  refine lc_rel (H := H2) (walk_list (K := K) (a := a) (xs := ys)) (pr_len hp) (fun H3 e2 => sq_of (((e.trans e1).trans e2) _ _ hl)) f S mS hz (fun i z x H3 H4 hzi hH hy => ?_) hD fun us H3 e2 h3 hq => q Dl H3 (fresh_back e1 hD) (e1.trans e2) ⟨us, h3, hq⟩
  obtain ⟨rfl, hy⟩ := hy
  obtain ⟨y, hy2, T, hT1, hT⟩ := pr_at hp hzi
  obtain rfl : y = x := Option.some.inj (hy2.symm.trans hy)
  subst hT1
  have hm := List.mem_of_getElem? hzi
  refine ⟨Ex.refl _, fun Q' k => ⟨T, _, rfl, SqT.of (((e.trans e1).trans hH) _ _ hT), rfl, _, _, rfl, _, _, rfl, rfl, k _ (hw _ _) (ht z hm H2 (e.trans e1)) fun hf => he z hm H2 (e.trans e1) hf⟩⟩
theorem er_lcT20 {g : α → Int × Int} {S : α → V → Hp → Prop} (mS : Mono S) {zs : List α} {a : Addr} {j l : Nat} {vs : List Nat} (h : Ev tl σ H (.ref a)) (hx : RL (fun z => tupI [(g z).1, (g z).2]) H a zs) (hz : zs.length ≤ 40000)
    (hw : ∀ x y, wipe (((wipe σ vs).set j (some x)).set l (some y)) vs = wipe σ vs)
    (he : ∀ z ∈ zs, ∀ H1, Ex H H1 → EvN te (((wipe σ vs).set j (some (.int (g z).1))).set l (some (.int (g z).2))) H1 (S z)) :
    EvRL (tLc (iList K tl) (gTup K 2 (gCons (gName j) (gCons (gName l) gNil))) tYes te vs) σ H S zs := by
  have z := er_lcT2 (K := K) (te := te) mS (fun _ => true) h hx hz hw (fun _ _ _ _ => et_yes) (fun z hz H1 e _ => he z hz H1 e)
  rw [fil_yes] at z
  exact z
/-- EvRL, its rows told by a function of others -/
theorem EvRL.to {β : Type} {R : α → V → Hp → Prop} {S : β → V → Hp → Prop} {g : α → β} {zs : List α} (k : ∀ z y H, R z y H → S (g z) y H) (h : EvRL te σ H R zs) : EvRL te σ H S (zs.map g) := fun H1 e Q q =>
  h H1 e Q fun p H2 np e2 hl => q p H2 np e2 (hl.map fun z y => k z y H2)
/-- a, b, c = a tuple of three numbers -/
theorem q_asgT3 {i j k : Nat} {a b c : Int} {y : V} {D : Ends} {tz : TS} (h : Ev te σ H y) (hy : tupI [a, b, c] y H) (q : ∀ H1, Ex H H1 → tz D (((σ.set i (some (.int a))).set j (some (.int b))).set k (some (.int c))) H1) :
    tSeq (tAsg te (gTup K 3 (gCons (gName i) (gCons (gName j) (gCons (gName k) gNil))))) tz D σ H := h H (Ex.refl H) _ fun H1 e1 => g_tup3 (tupI_e _ _ _ _ e1 hy) (q H1 e1)
theorem q_asgT2 {i j : Nat} {a b : Int} {y : V} {D : Ends} {tz : TS} (h : Ev te σ H y) (hy : tupI [a, b] y H) (q : ∀ H1, Ex H H1 → tz D ((σ.set i (some (.int a))).set j (some (.int b))) H1) :
    tSeq (tAsg te (gTup K 2 (gCons (gName i) (gCons (gName j) gNil)))) tz D σ H := h H (Ex.refl H) _ fun H1 e1 => g_tup2 (tupI_e _ _ _ _ e1 hy) (q H1 e1)
/-- return two new lists -/
theorem s_retLL {t1 t2 : TE} {xs ys : List V} {D : Ends} (h1 : EvL t1 σ H xs) (h2 : EvL t2 σ H ys) (k : ∀ a b c H1, Ex H H1 → H a = none → H b = none → H c = none → H1 a = some (.lst xs) → H1 b = some (.lst ys) → H1 c = some (.tup [.ref a, .ref b]) → D.rt (.ref c) H1) :
    tRet (tTup (tCons t1 (tCons t2 tNil))) D σ H :=
  h1 H (Ex.refl H) _ fun a H1 na e1 ha => h2 H1 e1 _ fun b H2 nb e2 hb => ⟨(show 2 ≤ sizeLine by decide), fun c nc =>
    k a b c _ ((e1.trans e2).trans (Ex.new nc)) na (fresh_back e1 nb) (fresh_back (e1.trans e2) nc) (Ex.new nc _ _ (e2 _ _ ha)) (Ex.new nc _ _ hb) upd_same⟩
/-- as RL, none of the items the list itself -/
def RLx (R : α → V → Hp → Prop) (H : Hp) (l : Addr) (zs : List α) : Prop := ∃ ys, H l = some (.lst ys) ∧ Paired (fun y z => R z y H) ys zs ∧ ∀ y ∈ ys, y ≠ .ref l
theorem RLx.rl {R : α → V → Hp → Prop} {l : Addr} {zs : List α} (h : RLx R H l zs) : RL R H l zs := by
  obtain ⟨ys, h1, h2, _⟩ := h
  exact ⟨ys, h1, h2⟩
theorem RLx.ex {R : α → V → Hp → Prop} (m : MonoE R) {H' : Hp} {l : Addr} {zs : List α} (h : RLx R H l zs) (e : Ex H H') : RLx R H' l zs := by
  obtain ⟨ys, h1, h2, h3⟩ := h
  exact ⟨ys, e _ _ h1, pr_e m e h2, h3⟩
theorem rlx_nil {R : α → V → Hp → Prop} {l : Addr} (h : H l = some (.lst [])) : RLx R H l [] := ⟨[], h, .nil, by simp⟩
/-- l.append(x) -/
theorem s_appX {R : α → V → Hp → Prop} (mR : MonoE R) (mo : Mono R) {zs : List α} {z : α} {l : Addr} {v : V} {D : Ends} {t1 t2 : TE} (hl : RLx R H l zs) (ha : Ev t1 σ H (.ref l)) (h : Ev t2 σ H v) (hv : v ≠ .ref l) (hr : R z v H) (hz : zs.length < 50000)
    (k : ∀ H2, But1 l H H2 → RLx R H2 l (zs ++ [z]) → D.nx σ H2) : tDrop (tBM K "list" rAppend t1 (tCons t2 tNil)) D σ H := by
  obtain ⟨ys, h1, h2, h3⟩ := hl
  have hlen := pr_len h2
  refine s_app h1 ha h (by omega) fun H1 e1 => k _ ((But1.of e1).upd) ⟨ys ++ [v], upd_same, ?_, ?_⟩
  · have kp : ∀ a o, a ≠ l → H1 a = some o → upd H1 l (.lst (ys ++ [v])) a = some o := fun a o n h => by
      rw [upd_ne n]
      exact h
    exact pr_app (pr_mono mo kp h3 (pr_e mR e1 h2)) (.cons (mo _ _ _ _ _ hv kp (mR _ _ _ _ e1 hr)) .nil)
  · intro y hy
    rcases List.mem_append.mp hy with hy | hy
    · exact h3 y hy
    · rw [List.mem_singleton.mp hy]
      exact hv
/-- name = a new list of such -/
theorem q_asgRL {R : α → V → Hp → Prop} {zs : List α} {i : Nat} {D : Ends} {tz : TS} (h : EvRL te σ H R zs) (k : ∀ p H1, H p = none → Ex H H1 → RL R H1 p zs → tz D (σ.set i (some (.ref p))) H1) : tSeq (tAsg te (gName i)) tz D σ H := h H (Ex.refl H) _ fun p H1 np e1 hl => k p H1 np e1 hl
theorem s_retRL {R : α → V → Hp → Prop} {zs : List α} {D : Ends} (h : EvRL te σ H R zs) (k : ∀ p H1, H p = none → Ex H H1 → RL R H1 p zs → D.rt (.ref p) H1) : tRet te D σ H := h H (Ex.refl H) _ k
theorem rl_ints {g : α → Int} {zs : List α} {l : Addr} (h : RL (fun z v _ => v = .int (g z)) H l zs) : H l = some (.lst ((zs.map g).map V.int)) := by
  obtain ⟨ys, h1, h2⟩ := h
  rw [h1, pr_val (g := fun z => V.int (g z)) (H := H) h2, List.map_map]
  rfl
theorem ints_rl {ns : List Int} {l : Addr} (h : H l = some (.lst (ns.map V.int))) : RL intR H l ns := by
  refine ⟨_, h, ?_⟩
  clear h
  induction ns with
  | nil => exact .nil
  | cons n ns ih => exact .cons rfl ih
theorem ints_m {g : α → Int} : MonoE fun (z : α) v (_ : Hp) => v = V.int (g z) := fun _ _ _ _ _ h => h
end
end Rel
set_option Elab.async false
set_option linter.all false
set_option maxRecDepth 100000
set_option maxHeartbeats 4000000
/-! # the numbers that a law draws -/
namespace GL
open PySem PySem.Spec PyProof.Rows L2
theorem scJar : FnScope ["script", "k", "cell_here"] ["script", "k"] (defScope sJar) := ⟨rfl, rfl, rfl, by decide +kernel, rfl, by decide +kernel, by decide +kernel⟩
theorem scDip : FnScope ["jar", "many", "digit", "mixed"] ["jar", "many"] (defScope sDip) := ⟨rfl, rfl, rfl, by decide +kernel, rfl, by decide +kernel, by decide +kernel⟩

/-- a jar stands at j; at most m numbers were mixed so far -/
def Jar (H : Hp) (j : Addr) (m : Nat) : Prop := ∃ a b c : Int, H j = some (.lst [.int a, .int b, .int c]) ∧ 0 ≤ b ∧ b < 2 ^ 160 ∧ 0 ≤ c ∧ c ≤ m
/-- all but j is as it was -/
def But (j : Addr) (H H' : Hp) : Prop := ∀ a o, a ≠ j → H a = some o → H' a = some o
theorem But.refl (j : Addr) (H : Hp) : But j H H := fun _ _ _ h => h
theorem But.trans {j : Addr} {H H1 H2 : Hp} (x : But j H H1) (y : But j H1 H2) : But j H H2 := fun a o n h => y a o n (x a o n h)
theorem But.set {j : Addr} {H H' : Hp} {o : HO} (x : But j H H') : But j H (upd H' j o) := fun a u n h => by
  rw [upd_ne n]
  exact x a u n h
theorem But.same {j : Addr} {H H1 H2 : Hp} (x : But j H H1) (y : Same H1 H2) : But j H H2 := fun a o n h => y a o (x a o n h)
theorem Same.but {j : Addr} {H H' : Hp} (x : Same H H') : But j H H' := fun a o _ h => x a o h
theorem Jar.mono {H : Hp} {j : Addr} {m n : Nat} (h : m ≤ n) (x : Jar H j m) : Jar H j n := by
  obtain ⟨a, b, c, e, h1, h2, h3, h4⟩ := x
  exact ⟨a, b, c, e, h1, h2, h3, by omega⟩
theorem Jar.same {H H' : Hp} {j : Addr} {m : Nat} (x : Jar H j m) (y : Same H H') : Jar H' j m := by
  obtain ⟨a, b, c, e, r⟩ := x
  exact ⟨a, b, c, y _ _ e, r⟩
/-- a ** b of whole numbers, as long as the answer stays below 2 ^ 27 bits -/
def CPowW (i j : Int) : Prop := 0 ≤ j ∧ (Builtin.Int.intBits i : Int) * j ≤ 2 ^ 27
theorem op_powW {X : Cx} : OpR X (binaryOp .Pow) (rI CPowW fun i j => .int (i ^ j.toNat)) := opI fun _ _ _ _ _ _ _ hc q => pow_int hc.1 hc.2 q
theorem cube_ok {i : Int} (h : i.natAbs < 2 ^ 162) : CPowW i 3 := by
  have z := PyProof.Rows.intBits_le (k := 162) h
  have e : (2 : Int) ^ 27 = 134217728 := by decide
  refine ⟨by decide, ?_⟩
  rw [e]
  omega
theorem fmod_range {i j : Int} (h : 0 < j) : 0 ≤ i.fmod j ∧ i.fmod j < j := by
  rw [Int.fmod_eq_emod_of_nonneg _ (by omega)]
  exact ⟨Int.emod_nonneg _ (by omega), Int.emod_lt_of_pos _ h⟩
section
variable {P : Program} {w : World} {K : PySem.W.Frag} {mg : Str → Option Value} {base : Heap}
def spJar (K : PySem.W.Frag) : Sp := fun vs H Q _ => ∃ (a : Addr) (ns : List Int) (k : Int), vs = [.ref a, .int k] ∧ SqL K H a (ns.map V.int) ∧ ns.length ≤ 63 ∧ 0 ≤ k ∧ k ≤ 1000 ∧
  ∀ H' j, Same H H' → H j = none → Jar H' j 0 → Q (.ref j) H'
theorem ok_jar {f : Addr} {fd : FuncData} {l : Nat} (F : Fun K "_law_jar" "_law_jar" sJar f fd) (ml : mg "len" = none) (ma : mg "abs" = none) (mm : mg "max" = none) (mi : mg "int" = none) :
    FnOk P w K mg base CX0 (l + 1) f fd ["script", "k"] (spJar K) := by
  refine F.ok scJar (fun vs H Q E h => ?_) (fun cdv A outer s H vs Q E hr h => ?_)
  · obtain ⟨a, ns, k, rfl, _⟩ := h
    rfl
  · obtain ⟨a, ns, k, rfl, hS, hlen, hk0, hk1, q⟩ := h
    refine ⟨_, Evl.pss_cut (ps_set (i := 2) scJar.nd rfl (.inl rfl) (pe_ifExp (pt_cmpR op_lt (pv 1) (pe_callB call_len_seq (by rfl) ml PySem.boot_len (pa_cons (pv 0) pa_nil)) (nomark _))
        (pe_callB call_abs (by rfl) ma (by decide +kernel) (pa_cons (pe_ix ix_list (pv 0) (pv 1) (fun _ _ => rfl)) pa_nil)) pe_int))
      (pss_one (ps_ret (pe_lst (pa_cons (pe_callB (call_max2 rfl) (by rfl) mm (by decide +kernel) (pa_cons pe_int (pa_cons (pe_op op_sub (pv 2) (pe_op op_pow pe_int pe_int)) pa_nil)))
        (pa_cons (pe_op op_add (pe_op op_mul (pe_op op_modN (pe_callTy call_int1 (by rfl) mi (by decide +kernel) (pa_cons (pv 2) pa_nil)) (pe_op op_add (pe_op op_pow pe_int pe_int) pe_int)) pe_int) (pe_op op_mul pe_int (pv 1)))
        (pa_cons pe_int pa_nil)))))), ?_⟩
    refine ⟨fun σ H1 => H1 = H ∧ ∃ c : Int, σ = [some (.ref a), some (.int k), some (.int c)], ?_, ?_⟩
    · refine ⟨_, rfl, .ref a, rfl, a, _, rfl, .inl hS, k, _, rfl, rfl, _, rfl, ite2 (fun e => ?_) (fun e => ?_)⟩
      · have hlt : k < ns.length := by
          have z := of_decide_eq_true e
          rw [List.length_map] at z
          exact z
        obtain ⟨i, rfl⟩ : ∃ i : Nat, k = i := ⟨k.toNat, by omega⟩
        have hi : i < ns.length := by omega
        refine ⟨.ref a, rfl, _, rfl, a, _, (i : Int), .int ns[i], rfl, rfl, hS, atI_nat (by rw [List.getElem?_map, List.getElem?_eq_getElem hi]; rfl), ns[i], rfl, rfl, _, rfl⟩
      · exact ⟨rfl, 0, rfl⟩
    · rintro σ H1 ⟨rfl, c, rfl⟩
      have hbig : (10 ^ Int.toNat 43 + 57 : Int) = 10000000000000000000000000000000000000000057 := by decide +kernel
      have e160 : (2 : Int) ^ 160 = 1461501637330902918203684832716283019655932542976 := by decide +kernel
      refine ⟨_, rfl, 10, 18, rfl, rfl, ⟨by decide, by decide, by decide⟩, c, _, rfl, rfl, 0, _, rfl, ?_⟩
      refine ⟨_, rfl, .inl ⟨c, rfl, 10, 43, rfl, rfl, ⟨by decide, by decide, by decide⟩, _, 57, rfl, rfl, c, _, rfl, rfl, ?_, _, 101, rfl, rfl, .inr ⟨by decide, by decide⟩, _, rfl, 70001, k, rfl, rfl, .inl ⟨by decide, by decide⟩, _, _, rfl, rfl, ?_⟩⟩
      · show (10 ^ Int.toNat 43 + 57 : Int) ≠ 0
        rw [hbig]
        decide
      refine ⟨(show 3 ≤ sizeLine by decide), fun j nj => q _ j (Evl.Ex.new nj) nj ⟨_, _, 0, upd_same, ?_, ?_, Int.le_refl _, Int.le_refl _⟩⟩
      all_goals rw [hbig]
      all_goals have z := fmod_range (i := c) (j := 10000000000000000000000000000000000000000057) (by decide)
      · omega
      · rw [e160]
        omega
def spDip : Sp := fun vs H Q _ => ∃ (j : Addr) (n : Int) (m : Nat), vs = [.ref j, .int n] ∧ 0 < n ∧ n < 2 ^ 200 ∧ Jar H j m ∧ m ≤ 1000000 ∧
  ∀ H' r, 0 ≤ r → r < n → But j H H' → Jar H' j (m + 1) → Q (.int r) H'
theorem ok_dip {f : Addr} {fd : FuncData} {l : Nat} (F : Fun K "_law_dip" "_law_dip" sDip f fd) (mi : mg "int" = none) : FnOk P w K mg base CX0 (l + 1) f fd ["jar", "many"] spDip := by
  refine F.ok scDip (fun vs H Q E h => ?_) (fun cdv A outer s H vs Q E hr h => ?_)
  · obtain ⟨j, n, m, rfl, _⟩ := h
    rfl
  · obtain ⟨j, n, m, rfl, hn, hn2, hj, hm, q⟩ := h
    refine ⟨_, pss_cons (ps_if (pt_cmpR op_gt (pe_ix ix_list (pv 0) pe_int (fun _ _ => rfl)) pe_int (nomark _))
        (pss_cons (ps_set (i := 2) scDip.nd rfl (.inl rfl) (pe_op op_modN (pe_callTy call_int1 (by rfl) mi (by decide +kernel) (pa_cons (pe_ix ix_list (pv 0) pe_int (fun _ _ => rfl)) pa_nil)) (pv 1)))
        (pss_cons (ps_asg (pe_op op_fdivW (pe_ix ix_list (pv 0) pe_int (fun _ _ => rfl)) (pv 1)) (pg_sub (pv 0) pe_int set_list))
        (pss_one (ps_ret (pv 2))))) pss_nil)
      (pss_cons (ps_asg (pe_op op_add (pe_ix ix_list (pv 0) pe_int (fun _ _ => rfl)) pe_int) (pg_sub (pv 0) pe_int set_list))
      (Evl.pss_cut (ps_set (i := 3) scDip.nd rfl (.inl rfl) (pe_op op_modN (pe_callTy call_int1 (by rfl) mi (by decide +kernel) (pa_cons
          (pe_op op_powW (pe_op op_add (pe_ix ix_list (pv 0) pe_int (fun _ _ => rfl)) (pe_op op_mul pe_int (pe_ix ix_list (pv 0) pe_int (fun _ _ => rfl)))) pe_int) pa_nil)) (pe_op op_add (pe_op op_pow pe_int pe_int) pe_int)))
      (pss_cons (ps_set (i := 3) scDip.nd rfl (.inl rfl) (pe_op op_modN (pe_callTy call_int1 (by rfl) mi (by decide +kernel) (pa_cons
          (pe_op op_powW (pe_op op_add (pv 3) (pe_op op_mul pe_int (pe_ix ix_list (pv 0) pe_int (fun _ _ => rfl)))) pe_int) pa_nil)) (pe_op op_add (pe_op op_pow pe_int pe_int) pe_int)))
      (pss_one (ps_ret (pe_op op_modN (pe_callTy call_int1 (by rfl) mi (by decide +kernel) (pa_cons (pe_op op_fdivW (pv 3) pe_int) pa_nil)) (pv 1))))))), ?_⟩
    obtain ⟨a, b, c, e, hb0, hb1, hc0, hc1⟩ := hj
    have e160 : (2 : Int) ^ 160 = 1461501637330902918203684832716283019655932542976 := by decide +kernel
    have e162 : (2 : Nat) ^ 162 = 5846006549323611672814739330865132078623730171904 := by decide +kernel
    have e200 : (2 : Int) ^ 200 = 1606938044258990275541962092341162602522202993782792835301376 := by decide +kernel
    have n200 : (2 : Nat) ^ 200 = 1606938044258990275541962092341162602522202993782792835301376 := by decide +kernel
    have hbig : (10 ^ Int.toNat 47 + 91 : Int) = 100000000000000000000000000000000000000000000091 := by decide +kernel
    have hbig2 : (10 ^ Int.toNat 46 + 79 : Int) = 10000000000000000000000000000000000000000000079 := by decide +kernel
    refine ⟨.ref j, rfl, j, _, 0, .int a, rfl, rfl, SqL.of e, rfl, a, 0, rfl, rfl, _, rfl, ite2 (fun z => ?_) (fun z => ?_)⟩
    · refine ⟨.ref j, rfl, j, _, 0, .int a, rfl, rfl, SqL.of e, rfl, .inl ⟨a, rfl, _, rfl, a, n, rfl, rfl, (show n ≠ 0 by omega), ?_⟩⟩
      refine ⟨.ref j, rfl, j, _, 0, .int a, rfl, rfl, SqL.of e, rfl, _, rfl, a, n, rfl, rfl, wide_div hn (b := 200) (by rw [n200]; rw [e200] at hn2; omega) (by decide) (by decide), .ref j, rfl, j, _, 0, 0, rfl, rfl, e, rfl, ?_⟩
      refine ⟨_, rfl, q _ _ (fmod_range hn).1 (fmod_range hn).2 (But.refl j H).set ⟨_, b, c, upd_same, hb0, hb1, hc0, by omega⟩⟩
    · refine ⟨.ref j, rfl, j, _, 2, .int c, rfl, rfl, SqL.of e, rfl, c, 1, rfl, rfl, .ref j, rfl, j, _, 2, 2, rfl, rfl, e, rfl, ?_⟩
      -- mixed
      refine ⟨fun σ H1 => ∃ m1 : Int, 0 ≤ m1 ∧ m1 < 100000000000000000000000000000000000000000000091 ∧ σ = [some (.ref j), some (.int n), none, some (.int m1)] ∧ H1 = upd H j (.lst [.int a, .int b, .int (c + 1)]), ?_, ?_⟩
      · refine ⟨.ref j, rfl, j, _, 1, .int b, rfl, rfl, SqL.of upd_same, rfl, .ref j, rfl, j, _, 2, .int (c + 1), rfl, rfl, SqL.of upd_same, rfl, 60000049, c + 1, rfl, rfl, .inl ⟨by decide, by decide⟩, b, _, rfl, rfl, _, 3, rfl, rfl,
          cube_ok (by rw [e162]; rw [e160] at hb1; omega), .inl ⟨_, rfl, 10, 47, rfl, rfl, ⟨by decide, by decide, by decide⟩, _, 91, rfl, rfl, _, _, rfl, rfl, (by show (10 ^ Int.toNat 47 + 91 : Int) ≠ 0; rw [hbig]; decide), ?_⟩⟩
        rw [hbig]
        have r1 := fmod_range (i := (b + 60000049 * (c + 1)) ^ Int.toNat 3) (j := 100000000000000000000000000000000000000000000091) (by decide)
        exact ⟨_, r1.1, r1.2, rfl, rfl⟩
      rintro σ H1 ⟨m1, r0, r1, rfl, rfl⟩
      refine ⟨_, rfl, .ref j, rfl, j, _, 2, .int (c + 1), rfl, rfl, SqL.of upd_same, rfl, 35000021, c + 1, rfl, rfl, .inl ⟨by decide, by decide⟩, m1, _, rfl, rfl, _, 3, rfl, rfl,
        cube_ok (by rw [e162]; omega), .inl ⟨_, rfl, 10, 46, rfl, rfl, ⟨by decide, by decide, by decide⟩, _, 79, rfl, rfl, _, _, rfl, rfl, (by show (10 ^ Int.toNat 46 + 79 : Int) ≠ 0; rw [hbig2]; decide), ?_⟩⟩
      refine ⟨_, rfl, _, 1073741827, rfl, rfl, wide_div (by decide) (b := 200) (by rw [n200]; decide) (by decide) (by decide), .inl ⟨_, rfl, _, rfl, _, n, rfl, rfl, (show n ≠ 0 by omega), ?_⟩⟩
      exact q _ _ (fmod_range hn).1 (fmod_range hn).2 (But.refl j H).set ⟨a, b, c + 1, upd_same, hb0, hb1, by omega, by omega⟩
end
end GL
set_option Elab.async false
set_option linter.all false
set_option maxRecDepth 100000
set_option maxHeartbeats 4000000
/-! # panes at addresses; borders -/
namespace GL
open PySem PySem.Spec PyProof.Rows L2 Geo Rel
abbrev nBorder : List Str := ["panes", "axis", "edge", "one"]
theorem scBorder : FnScope nBorder ["panes", "axis"] (defScope sBorder) := ⟨rfl, rfl, rfl, by decide +kernel, rfl, by decide +kernel, by decide +kernel⟩
/-- a pane's corners; by their number -/
def PnV (p : Pn) : List V := [.int p.x0, .int p.y0, .int p.x1, .int p.y1]
def cm (p : Pn) (i : Int) : Int := if i = 0 then p.x0 else if i = 1 then p.y0 else if i = 2 then p.x1 else p.y1
theorem cm_at (p : Pn) {i : Int} (h : 0 ≤ i ∧ i ≤ 3) : atI (PnV p) i = some (.int (cm p i)) := by
  have e : i = 0 ∨ i = 1 ∨ i = 2 ∨ i = 3 := by omega
  rcases e with rfl | rfl | rfl | rfl <;> rfl
/-- the panes zs, each at its address, in a list at l -/
structure Lay (H : Hp) (l : Addr) (zs : List (Addr × Pn)) : Prop where
  l : H l = some (.lst (zs.map fun z => .ref z.1))
  t : ∀ z ∈ zs, H z.1 = some (.tup (PnV z.2))
theorem Lay.same {H H' : Hp} {l : Addr} {zs : List (Addr × Pn)} (h : Lay H l zs) (e : Same H H') : Lay H' l zs := ⟨e _ _ h.l, fun z hz => e _ _ (h.t z hz)⟩
theorem Lay.but {H H' : Hp} {l j : Addr} {m : Nat} {zs : List (Addr × Pn)} (h : Lay H l zs) (hj : Jar H j m) (e : But j H H') (hn : zs ≠ []) : Lay H' l zs := by
  obtain ⟨a, b, c, ej, _⟩ := hj
  refine ⟨e _ _ (fun z => ?_) h.l, fun z hz => e _ _ (fun y => ?_) (h.t z hz)⟩
  · have q := h.l
    rw [z, ej] at q
    cases zs with
    | nil => exact hn rfl
    | cons u r =>
      injection q with q
      injection q with q
      rw [List.map_cons] at q
      injection q with q _
      cases q
  · have q := h.t z hz
    rw [y, ej] at q
    cases q
theorem ixLK {K : PySem.W.Frag} {X : Cx} (e : X.K = K) : IxR X (rIxL K) := e ▸ ix_list
theorem ixTK {K : PySem.W.Frag} {X : Cx} (e : X.K = K) : IxR X (rIxT K) := e ▸ ix_tup
section
variable {K : PySem.W.Frag} {σ : L2.St} {H : Hp} {te ti : TE}
/-- one[i], one a pane -/
theorem ev_cm {a : Addr} {p : Pn} {i : Int} (h : Evl.Ev te σ H (.ref a)) (hi : Evl.Ev ti σ H (.int i)) (ht : H a = some (.tup (PnV p))) (hr : 0 ≤ i ∧ i ≤ 3) : Evl.Ev (tOp (rIxT K) te ti) σ H (.int (cm p i)) :=
  Evl.ev_op h hi (Evl.rv_ixT (SqT.of ht) (cm_at p hr))
end
section
variable {P : Program} {w : World} {K : PySem.W.Frag} {mg : Str → Option Value} {base : Heap}
/-- m is the greatest of f over zs -/
def Top {α : Type} (f : α → Int) (zs : List α) (m : Int) : Prop := (∃ z ∈ zs, f z = m) ∧ ∀ z ∈ zs, f z ≤ m
theorem top_of {α : Type} {f : α → Int} {zs : List α} {m : Int} (h1 : m ∈ zs.map f) (h2 : ∀ y ∈ zs.map f, y ≤ m) : Top f zs m := by
  obtain ⟨z, hz, e⟩ := List.mem_map.mp h1
  exact ⟨⟨z, hz, e⟩, fun z hz => h2 _ (List.mem_map_of_mem hz)⟩
theorem top_one {α : Type} {f : α → Int} {zs : List α} {m n : Int} (h : Top f zs m) (k : Top f zs n) : m = n := by
  obtain ⟨⟨a, ha, ea⟩, h2⟩ := h
  obtain ⟨⟨b, hb, eb⟩, k2⟩ := k
  have := h2 b hb
  have := k2 a ha
  omega
def spBorder : Sp := fun vs H Q _ => ∃ (l : Addr) (zs : List (Addr × Pn)) (ax : Int), vs = [.ref l, .int ax] ∧ Lay H l zs ∧ zs ≠ [] ∧ zs.length ≤ 1000 ∧ (0 ≤ ax ∧ ax ≤ 1) ∧
  ∀ H' m, Same H H' → Top (fun z : Addr × Pn => cm z.2 (ax + 2)) zs m → Q (.int (zs.filter fun z => decide (cm z.2 (ax + 2) = m)).length) H'
theorem ok_border {f : Addr} {fd : FuncData} {k : Nat} (F : Fun K "_law_border" "_law_border" sBorder f fd) (mm : mg "max" = none) (ml : mg "len" = none) :
    FnOk P w K mg base CX0 (k + 1) f fd ["panes", "axis"] spBorder := by
  refine F.ok scBorder (fun vs H Q E h => ?_) (fun cdv A outer s H vs Q E hr h => ?_)
  · obtain ⟨l, zs, ax, rfl, _⟩ := h
    rfl
  · obtain ⟨l, zs, ax, rfl, hL, hne, hlen, hax, q⟩ := h
    refine ⟨_, pss_cons (ps_set (i := 2) scBorder.nd rfl (.inr rfl) (pe_callB (cr_max rfl) (by rfl) mm (by decide +kernel) (pa_cons (pe_lc (own := [("one", 3)]) (g := gName 3) (tt := tYes) rfl scBorder.nd (pi_list (pv 0))
          (blkOk_by (N := nBorder) (sc := defScope sBorder) (by decide +kernel)) (fun _ _ _ _ _ => pg_name (i := 3) scBorder.nd rfl (Or.inl rfl)) (fun _ _ _ _ _ => pts_nil)
          (fun _ _ _ _ _ => pe_ix (ixTK (K := K) rfl) (pv 3) (pe_op op_add (pv 1) pe_int) (fun _ _ => rfl))) pa_nil)))
      (pss_one (ps_ret (pe_callB call_len_seq (by rfl) ml PySem.boot_len (pa_cons (pe_lc (own := [("one", 3)]) (g := gName 3) (tt := tTest (tOp rEq (tOp (rIxT K) (tVar 3) (tOp (rI0 fun i j => .int (i + j)) (tVar 1) (tC (.int 2)))) (tVar 2))) rfl scBorder.nd (pi_list (pv 0))
          (blkOk_by (N := nBorder) (sc := defScope sBorder) (by decide +kernel)) (fun _ _ _ _ _ => pg_name (i := 3) scBorder.nd rfl (Or.inl rfl))
          (fun _ _ _ _ _ => pts_one (pt_cmpR op_eq (pe_ix (ixTK (K := K) rfl) (pv 3) (pe_op op_add (pv 1) pe_int) (fun _ _ => rfl)) (pv 2) (nomark _)))
          (fun _ _ _ _ _ => pv 3)) pa_nil)))), ?_⟩
    have ev2 : ∀ {σ : L2.St} {H1 : Hp} {z : Addr × Pn}, σ[1]? = some (some (.int ax)) → σ[3]? = some (some (.ref z.1)) → z ∈ zs → Evl.Ex H H1 →
        Evl.Ev (tOp (rIxT K) (tVar 3) (tOp (rI0 fun i j => .int (i + j)) (tVar 1) (tC (.int 2)))) σ H1 (.int (cm z.2 (ax + 2))) := fun h1 h3 hz e =>
      ev_cm (Evl.ev_var h3) (Evl.ev_op (Evl.ev_var h1) Evl.ev_c Evl.rv_I0) (e _ _ (hL.t _ hz)) (by omega)
    have hfil : zs.filter (fun _ => true) = zs := List.filter_eq_self.mpr fun _ _ => rfl
    refine q_maxN (ns := zs.map fun z => cm z.2 (ax + 2)) ?lc ?pos fun m H1 e1 hm1 hm2 => ?_
    case pos =>
      rw [List.length_map]
      exact List.length_pos_iff.mpr hne
    case lc =>
      have z := el_lcV (K := K) (σ := [some (.ref l), some (.int ax), none, none]) (H := H) (tl := tVar 0) (j := 3) (vs := [3]) (t := tYes) (zs := zs) (val := fun z => .ref z.1) (g := fun z => .int (cm z.2 (ax + 2))) (fun _ => true) (Evl.ev_var rfl) (SqL.of hL.l) (by omega) (fun _ => rfl)
        (fun z hz H1 e H2 e2 Q q => q H2 (Evl.Ex.refl _)) (fun z hz H1 e _ => ev2 rfl rfl hz e) (fun z hz p hp => by cases hp)
      rw [hfil] at z
      rw [List.map_map]
      exact z
    have top := top_of hm1 hm2
    refine Evl.s_ret (Evl.ev_lenN (el_lcV (K := K) (σ := [some (.ref l), some (.int ax), some (.int m), none]) (H := H1) (j := 3) (vs := [3]) (zs := zs) (val := fun z => .ref z.1) (g := fun z => .ref z.1) (fun z => decide (V.int (cm z.2 (ax + 2)) = V.int m)) (Evl.ev_var rfl) (SqL.of (e1 _ _ hL.l)) (by omega) (fun _ => rfl)
      (fun z hz H2 e => Evl.et_test (Evl.ev_op (ev2 rfl rfl hz (e1.trans e)) (Evl.ev_var rfl) (Evl.rv_eq rfl))) (fun z hz H2 e _ => Evl.ev_var rfl) (fun z hz p hp => by
        cases hp
        rw [e1 _ _ (hL.t z hz)]
        exact fun h => nomatch h))) fun H2 e2 => ?_
    rw [List.length_map]
    have e : (fun z : Addr × Pn => decide (V.int (cm z.2 (ax + 2)) = V.int m)) = fun z => decide (cm z.2 (ax + 2) = m) := funext fun z => by
      simp
    rw [e]
    exact q H2 m (e1.trans e2) top
end
end GL
set_option Elab.async false
set_option linter.all false
set_option maxRecDepth 100000
set_option maxHeartbeats 8000000
/-! # one pane more -/
namespace GL
open PySem PySem.Spec PyProof.Rows L2 Geo Rel
abbrev nPushed : List Str := ["panes", "entry", "axis", "one", "edge", "wide", "spot", "row_here", "kept", "names_here", "found", "corners", "last", "begin"]
theorem scPushed : FnScope nPushed ["panes", "entry"] (defScope sPushed) := ⟨rfl, rfl, rfl, by decide +kernel, rfl, by decide +kernel, by decide +kernel⟩
/-- one corner another -/
def sc (p : Pn) (i v : Int) : Pn := if i = 0 then { p with x0 := v } else if i = 1 then { p with y0 := v } else if i = 2 then { p with x1 := v } else { p with y1 := v }
theorem sc_set (p : Pn) (v : Int) {i : Int} {k : Nat} (h : i = (k : Int)) (hk : k ≤ 3) : (PnV p).set k (.int v) = PnV (sc p i v) := by
  subst h
  have e : k = 0 ∨ k = 1 ∨ k = 2 ∨ k = 3 := by omega
  rcases e with rfl | rfl | rfl | rfl <;> rfl
section
variable {P : Program} {w : World} {K : PySem.W.Frag} {mg : Str → Option Value} {base : Heap}
/-- the pane number i, drawn out by one where it lies at the border and is not kept -/
def outp (ax E : Int) (kept : List (Int × Int)) (i : Nat) (p : Pn) : Pn := if cm p (ax + 2) = E ∧ (i : Int) ∉ kept.map (·.2) then sc p (ax + 2) (E + 1) else p
/-- how the panes of zs become one more: E, W the sides of the desk ahead, row the border, kept its last n -/
structure Made (zs : List (Addr × Pn)) (ax : Int) (n : Nat) (E W : Int) (row : List (Int × Int)) (k0 : Int × Int) (r : List (Int × Int)) (ps' : List Pn) : Prop where
  e : Top (fun z : Addr × Pn => cm z.2 (ax + 2)) zs E
  w : Top (fun z : Addr × Pn => cm z.2 (3 - ax)) zs W
  perm : row.Perm (((zs.zipIdx.map fun p => (p.2, p.1)).filter fun u : Nat × (Addr × Pn) => decide (cm u.2.2 (ax + 2) = E)).map fun u => (cm u.2.2 (1 - ax), (u.1 : Int)))
  srt : row.Pairwise LeP
  cut : row.drop (row.length - n) = k0 :: r
  out : ps' = ((zs.zipIdx.map fun p => (p.2, p.1)).map fun u : Nat × (Addr × Pn) => outp ax E (k0 :: r) u.1 u.2.2) ++ [sc (sc (sc (sc ⟨0, 0, 0, 0⟩ ax E) (ax + 2) (E + 1)) (1 - ax) k0.1) (3 - ax) W]
def spPushed : Sp := fun vs H Q _ => ∃ (l : Addr) (zs : List (Addr × Pn)) (en ax : Int), vs = [.ref l, .int en] ∧ Lay H l zs ∧ zs ≠ [] ∧ zs.length ≤ 1000 ∧ en ≠ 0 ∧ ax = (if 0 < en then 1 else 0) ∧
  (∀ E, Top (fun z : Addr × Pn => cm z.2 (ax + 2)) zs E → (en.natAbs ≤ (zs.filter fun z => decide (cm z.2 (ax + 2) = E)).length)) ∧
  ∀ H' l' zs' E W row k0 r, Same H H' → H l' = none → Lay H' l' zs' → Made zs ax en.natAbs E W row k0 r (zs'.map (·.2)) → Q (.ref l') H'
/-- the built-in names -/
structure BI (mg : Str → Option Value) : Prop where
  ma : mg "max" = none
  so : mg "sorted" = none
  en : mg "enumerate" = none
  le : mg "len" = none
  ab : mg "abs" = none
  li : mg "list" = none
  tu : mg "tuple" = none
theorem inV_ints (i : Int) : ∀ ns : List Int, inV (.int i) (ns.map V.int) = decide (i ∈ ns)
  | [] => rfl
  | n :: r => by
    have ih := inV_ints i r
    unfold inV at ih ⊢
    rw [List.map_cons, List.any_cons, ih]
    by_cases c : n = i
    · subst c
      simp [eqV]
    · have c2 : ¬ i = n := fun z => c z.symm
      simp [eqV, c, c2]
theorem sc4 (p : Pn) {i : Int} (h : 0 ≤ i ∧ i ≤ 3) (v : Int) : ∃ k : Nat, i = (k : Int) ∧ k < 4 ∧ (PnV p).set k (.int v) = PnV (sc p i v) := ⟨i.toNat, by omega, by omega, sc_set p v (by omega) (by omega)⟩
/-- xs[i], xs[j] = a, b, xs a list of four numbers -/
theorem q_two {K : PySem.W.Frag} {σ : L2.St} {H : Hp} {t1 t2 ti tj : TE} {n : Nat} {D : Ends} {tz : TS} {pl : Addr} {p : Pn} {a b i j : Int} (hs : σ[n]? = some (some (.ref pl))) (hp : H pl = some (.lst (PnV p))) (h1 : Evl.Ev t1 σ H (.int a)) (h2 : Evl.Ev t2 σ H (.int b))
    (hi : ∀ H1, But pl H H1 → Evl.Ev ti σ H1 (.int i)) (hj : ∀ H1, But pl H H1 → Evl.Ev tj σ H1 (.int j)) (ri : 0 ≤ i ∧ i ≤ 3) (rj : 0 ≤ j ∧ j ≤ 3) (k : ∀ H1, But pl H H1 → H1 pl = some (.lst (PnV (sc (sc p i a) j b))) → tz D σ H1) :
    tSeq (tAsg (tTup (tCons t1 (tCons t2 tNil))) (gTup K 2 (gCons (gSub (tVar n) ti rSetL) (gCons (gSub (tVar n) tj rSetL) gNil)))) tz D σ H := by
  refine h1 H (Evl.Ex.refl H) _ fun H1 e1 => h2 H1 e1 _ fun H2 e2 => ⟨(show 2 ≤ sizeLine by decide), fun T nT => ?_⟩
  have e3 : Evl.Ex H (upd H2 T (.tup [.int a, .int b])) := (e1.trans e2).trans (Evl.Ex.new nT)
  refine ⟨T, [.int a, .int b], rfl, .inl (.inl upd_same), rfl, .int a, [.int b], rfl, .ref pl, hs, ?_⟩
  refine hi _ (fun c o _ h => e3 _ _ h) _ (Evl.Ex.refl _) _ fun H3 e4 => ?_
  obtain ⟨ki, e5, l5, s5⟩ := sc4 p ri a
  refine ⟨pl, PnV p, i, ki, rfl, rfl, e4 _ _ (e3 _ _ hp), by rw [e5]; exact Evl.ixN_nat l5, .int b, [], rfl, .ref pl, hs, ?_⟩
  rw [s5]
  refine hj _ (fun c o n h => ?_) _ (Evl.Ex.refl _) _ fun H4 e6 => ?_
  · rw [upd_ne n]
    exact e4 _ _ (e3 _ _ h)
  obtain ⟨kj, e7, l7, s7⟩ := sc4 (sc p i a) rj b
  refine ⟨pl, PnV (sc p i a), j, kj, rfl, rfl, e6 _ _ upd_same, by rw [e7]; exact Evl.ixN_nat l7, rfl, ?_⟩
  rw [s7]
  refine k _ (fun c o n h => ?_) upd_same
  rw [upd_ne n]
  exact e6 _ _ (by rw [upd_ne n]; exact e4 _ _ (e3 _ _ h))
theorem zip_filter_len {α : Type} (l : List α) (f : α → Bool) : ((l.zipIdx.map fun p => (p.2, p.1)).filter fun u : Nat × α => f u.2).length = (l.filter f).length := by
  have e : ∀ (l : List α) (n : Nat), (((l.zipIdx n).map fun p => (p.2, p.1)).filter fun u : Nat × α => f u.2).length = (l.filter f).length := by
    intro l
    induction l with
    | nil => intro n; rfl
    | cons a l ih =>
      intro n
      rw [List.zipIdx_cons, List.map_cons, List.filter_cons, List.filter_cons]
      by_cases c : f a = true
      · rw [if_pos c, if_pos c, List.length_cons, List.length_cons, ih]
      · rw [if_neg c, if_neg c, ih]
  exact e l 0
theorem ok_pushed {f : Addr} {fd : FuncData} {k : Nat} (F : Fun K "_law_pushed" "_law_pushed" sPushed f fd) (m : BI mg) : FnOk P w K mg base CX0 (k + 1) f fd ["panes", "entry"] spPushed := by
  refine F.ok scPushed (fun vs H Q E h => ?_) (fun cdv A outer s H vs Q E hr h => ?_)
  · obtain ⟨l, zs, en, ax, rfl, _⟩ := h
    rfl
  · obtain ⟨l, zs, en, ax, rfl, hL, hne, hlen, hen, hax, hn, q⟩ := h
    refine ⟨_, pss_cons (ps_set (i := 2) scPushed.nd rfl (Or.inr rfl) (pe_ifExp (pt_cmpR op_gt (pv 1) pe_int (nomark _)) pe_int pe_int))
      (pss_cons (ps_set (i := 4) scPushed.nd rfl (Or.inr rfl) (pe_callB (cr_max rfl) (by rfl) m.ma (by decide +kernel) (pa_cons (pe_lc (own := [("one", 3)]) (g := gName 3) (tt := tYes) rfl scPushed.nd (pi_list (pv 0)) (blkOk_by (N := nPushed) (sc := defScope sPushed) (by decide +kernel)) (fun _ _ _ _ _ => (pg_name (i := 3) scPushed.nd rfl (Or.inl rfl))) (fun _ _ _ _ _ => pts_nil) (fun _ _ _ _ _ => (pe_ix (ixTK (K := K) rfl) (pv 3) (pe_op op_add (pv 2) pe_int) (fun _ _ => rfl)))) pa_nil)))
      (pss_cons (ps_set (i := 5) scPushed.nd rfl (Or.inl rfl) (pe_callB (cr_max rfl) (by rfl) m.ma (by decide +kernel) (pa_cons (pe_lc (own := [("one", 3)]) (g := gName 3) (tt := tYes) rfl scPushed.nd (pi_list (pv 0)) (blkOk_by (N := nPushed) (sc := defScope sPushed) (by decide +kernel)) (fun _ _ _ _ _ => (pg_name (i := 3) scPushed.nd rfl (Or.inl rfl))) (fun _ _ _ _ _ => pts_nil) (fun _ _ _ _ _ => (pe_ix (ixTK (K := K) rfl) (pv 3) (pe_op op_sub pe_int (pv 2)) (fun _ _ => rfl)))) pa_nil)))
      (pss_cons (ps_set (i := 7) scPushed.nd rfl (Or.inl rfl) (pe_callB cr_sortedPO (by rfl) m.so (by decide +kernel) (pa_cons (pe_lc (own := [("spot", 6), ("one", 3)]) (g := gTup K 2 (gCons (gName 6) (gCons (gName 3) gNil))) (tt := tTest (tOp rEq (tOp (rIxT K) (tVar 3) (tOp (rI0 fun i j => .int (i + j)) (tVar 2) (tC (.int 2)))) (tVar 4))) rfl scPushed.nd (pi_enum (by rfl) m.en (pa_cons (pv 0) pa_nil)) (blkOk_by (N := nPushed) (sc := defScope sPushed) (by decide +kernel)) (fun _ _ _ _ _ => pg_tup rfl (pgs_cons (pg_name (i := 6) scPushed.nd rfl (Or.inl rfl)) (pgs_cons (pg_name (i := 3) scPushed.nd rfl (Or.inl rfl)) pgs_nil))) (fun _ _ _ _ _ => pts_one (pt_cmpR op_eq (pe_ix (ixTK (K := K) rfl) (pv 3) (pe_op op_add (pv 2) pe_int) (fun _ _ => rfl)) (pv 4) (nomark _))) (fun _ _ _ _ _ => pe_tup (pa_cons (pe_ix (ixTK (K := K) rfl) (pv 3) (pe_op op_sub pe_int (pv 2)) (fun _ _ => rfl)) (pa_cons (pv 6) pa_nil)))) pa_nil)))
      (pss_cons (ps_set (i := 8) scPushed.nd rfl (Or.inl rfl) (pe_slice sl_list (pv 7) (po_some (pe_op op_sub (pe_callB call_len_seq (by rfl) m.le PySem.boot_len (pa_cons (pv 7) pa_nil)) (pe_callB call_abs (by rfl) m.ab (by decide +kernel) (pa_cons (pv 1) pa_nil)))) po_none))
      (pss_cons (ps_par (i := 9) (j := 10) rfl scPushed.nd rfl rfl (by decide) rfl rfl (pa_cons (pe_lc (own := [("begin", 13), ("spot", 6)]) (g := gTup K 2 (gCons (gName 13) (gCons (gName 6) gNil))) (tt := tYes) rfl scPushed.nd (pi_list (pv 8)) (blkOk_by (N := nPushed) (sc := defScope sPushed) (by decide +kernel)) (fun _ _ _ _ _ => pg_tup rfl (pgs_cons (pg_name (i := 13) scPushed.nd rfl (Or.inl rfl)) (pgs_cons (pg_name (i := 6) scPushed.nd rfl (Or.inl rfl)) pgs_nil))) (fun _ _ _ _ _ => pts_nil) (fun _ _ _ _ _ => pv 6)) (pa_cons (pe_lst pa_nil) pa_nil)) (by rfl))
      (Evl.pss_cut (ps_for PassesOwn.never rfl (pi_enum (by rfl) m.en (pa_cons (pv 0) pa_nil)) (pg_tup rfl (pgs_cons (pg_name (i := 6) scPushed.nd rfl (Or.inl rfl)) (pgs_cons (pg_name (i := 3) scPushed.nd rfl (Or.inl rfl)) pgs_nil)))
        (pss_cons (ps_set (i := 11) scPushed.nd rfl (Or.inl rfl) (pe_callTy call_list_of (by rfl) m.li (by decide +kernel) (pa_cons (pv 3) pa_nil)))
          (Evl.pss_cut (ps_if (PW.pt (pw_and (pt_cmpR op_eq (pe_ix ix_list (pv 11) (pe_op op_add (pv 2) pe_int) (fun _ _ => rfl)) (pv 4) (nomark _)) (pw_and1 (pt_cmpR op_notIn_seq (pv 6) (pv 9) rfl)))) (pss_one (ps_asg (pe_op op_add (pv 4) pe_int) (pg_sub (pv 11) (pe_op op_add (pv 2) pe_int) set_list))) pss_nil)
          (pss_one (ps_expr (pe_bm PySem.F.plainAttrs_list PySem.F.slot_list_append PySem.F.type_list_append mt_append (pv 10) (pa_cons (pe_callTy call_tuple_of (by rfl) m.tu (by decide +kernel) (pa_cons (pv 11) pa_nil)) pa_nil)))))))
      (pss_cons (ps_set (i := 12) scPushed.nd rfl (Or.inl rfl) (pe_lst (pa_cons pe_int (pa_cons pe_int (pa_cons pe_int (pa_cons pe_int pa_nil))))))
      (pss_cons (ps_asg (pe_tup (pa_cons (pv 4) (pa_cons (pe_op op_add (pv 4) pe_int) pa_nil))) (pg_tup rfl (pgs_cons (pg_sub (pv 12) (pv 2) set_list) (pgs_cons (pg_sub (pv 12) (pe_op op_add (pv 2) pe_int) set_list) pgs_nil))))
      (pss_cons (ps_asg (pe_tup (pa_cons (pe_ix (ixTK (K := K) rfl) (pe_ix ix_list (pv 8) pe_int (fun _ _ => rfl)) pe_int (fun _ _ => rfl)) (pa_cons (pv 5) pa_nil))) (pg_tup rfl (pgs_cons (pg_sub (pv 12) (pe_op op_sub pe_int (pv 2)) set_list) (pgs_cons (pg_sub (pv 12) (pe_op op_sub pe_int (pv 2)) set_list) pgs_nil))))
      (pss_one (ps_ret (pe_op op_cat (pv 10) (pe_lst (pa_cons (pe_callTy call_tuple_of (by rfl) m.tu (by decide +kernel) (pa_cons (pv 12) pa_nil)) pa_nil)))))))))))))), ?_⟩
    have hx01 : ax = 0 ∨ ax = 1 := by
      rw [hax]
      by_cases c : 0 < en
      · rw [if_pos c]
        exact .inr rfl
      · rw [if_neg c]
        exact .inl rfl
    have hfil : zs.filter (fun _ => true) = zs := List.filter_eq_self.mpr fun _ _ => rfl
    -- one[axis + 2], one[3 - axis], one[1 - axis]
    have cmA : ∀ {σ : L2.St} {H1 : Hp} {z : Addr × Pn}, σ[2]? = some (some (.int ax)) → σ[3]? = some (some (.ref z.1)) → H1 z.1 = some (.tup (PnV z.2)) →
        Evl.Ev (tOp (rIxT K) (tVar 3) (tOp (rI0 fun i j => .int (i + j)) (tVar 2) (tC (.int 2)))) σ H1 (.int (cm z.2 (ax + 2))) := fun h1 h3 ht =>
      ev_cm (Evl.ev_var h3) (Evl.ev_op (Evl.ev_var h1) Evl.ev_c Evl.rv_I0) ht (by omega)
    have cmS : ∀ (c : Int) {σ : L2.St} {H1 : Hp} {z : Addr × Pn}, (c = 1 ∨ c = 3) → σ[2]? = some (some (.int ax)) → σ[3]? = some (some (.ref z.1)) → H1 z.1 = some (.tup (PnV z.2)) →
        Evl.Ev (tOp (rIxT K) (tVar 3) (tOp (rI0 fun i j => .int (i - j)) (tC (.int c)) (tVar 2))) σ H1 (.int (cm z.2 (c - ax))) := fun c {σ H1 z} hc h1 h3 ht =>
      ev_cm (Evl.ev_var h3) (Evl.ev_op Evl.ev_c (Evl.ev_var h1) Evl.rv_I0) ht (by omega)
    -- axis
    refine Evl.q_asg (Evl.ev_if (v := .int ax) (Evl.et_test (Evl.ev_op (Evl.ev_var rfl) Evl.ev_c Evl.rv_I0)) (fun z => ?_) fun z => ?_) fun H1 e1 => ?_
    · have c : 0 < en := of_decide_eq_true z
      rw [hax, if_pos c]
      exact Evl.ev_c
    · have c : ¬ 0 < en := of_decide_eq_false z
      rw [hax, if_neg c]
      exact Evl.ev_c
    have L1 := hL.same e1
    -- edge
    refine q_maxN (ns := zs.map fun z => cm z.2 (ax + 2)) ?lc1 (by rw [List.length_map]; exact List.length_pos_iff.mpr hne) fun Ed H2 e2 hm1 hm2 => ?_
    case lc1 =>
      have z := el_lcV (K := K) (σ := [some (.ref l), some (.int en), some (.int ax), none, none, none, none, none, none, none, none, none, none, none]) (H := H1) (tl := tVar 0) (j := 3) (vs := [3]) (t := tYes) (zs := zs) (val := fun z => .ref z.1) (g := fun z => .int (cm z.2 (ax + 2))) (fun _ => true) (Evl.ev_var rfl) (SqL.of L1.l) (by omega) (fun _ => rfl)
        (fun z hz H1 e H2 e2 Q q => q H2 (Evl.Ex.refl _)) (fun z hz H2 e _ => cmA rfl rfl (e _ _ (L1.t z hz))) (fun z hz p hp => by cases hp)
      rw [hfil] at z
      rw [List.map_map]
      exact z
    have topE := top_of hm1 hm2
    have L2' := L1.same e2
    -- wide
    refine q_maxN (ns := zs.map fun z => cm z.2 (3 - ax)) ?lc2 (by rw [List.length_map]; exact List.length_pos_iff.mpr hne) fun Wd H3 e3 hm3 hm4 => ?_
    case lc2 =>
      have z := el_lcV (K := K) (σ := [some (.ref l), some (.int en), some (.int ax), none, some (.int Ed), none, none, none, none, none, none, none, none, none]) (H := H2) (tl := tVar 0) (j := 3) (vs := [3]) (t := tYes) (zs := zs) (val := fun z => .ref z.1) (g := fun z => .int (cm z.2 (3 - ax))) (fun _ => true) (Evl.ev_var rfl) (SqL.of L2'.l) (by omega) (fun _ => rfl)
        (fun z hz H1 e H2 e2 Q q => q H2 (Evl.Ex.refl _)) (fun z hz H2 e _ => cmS 3 (.inr rfl) rfl rfl (e _ _ (L2'.t z hz))) (fun z hz p hp => by cases hp)
      rw [hfil] at z
      rw [List.map_map]
      exact z
    have topW := top_of hm3 hm4
    have L3 := L2'.same e3
    -- row_here
    refine q_sortedP (ps := ((zs.zipIdx.map fun p => (p.2, p.1)).filter fun u : Nat × (Addr × Pn) => decide (V.int (cm u.2.2 (ax + 2)) = V.int Ed)).map fun u => (cm u.2.2 (1 - ax), (u.1 : Int))) ?lc3 fun pr row H4 n4 e4 hrow hperm hsrt => ?_
    case lc3 =>
      intro Ha ea Q q
      refine er_lcE (K := K) (σ := [some (.ref l), some (.int en), some (.int ax), none, some (.int Ed), some (.int Wd), none, none, none, none, none, none, none, none]) (H := H3) (tl := tVar 0) (j := 6) (l := 3) (vs := [6, 3]) (zs := zs) (val := fun z => .ref z.1)
        (fun u : Nat × (Addr × Pn) => decide (V.int (cm u.2.2 (ax + 2)) = V.int Ed)) (fun u v H => ∃ p, v = .ref p ∧ H p = some (PrV (cm u.2.2 (1 - ax), (u.1 : Int)))) (mono_obj fun u : Nat × (Addr × Pn) => PrV (cm u.2.2 (1 - ax), (u.1 : Int)))
        (Evl.ev_var rfl) (SqL.of L3.l) (by omega) (fun _ _ => rfl) (fun i z hz Hb eb => Evl.et_test (Evl.ev_op (cmA rfl rfl (eb _ _ (L3.t z (List.mem_of_getElem? hz)))) (Evl.ev_var rfl) (Evl.rv_eq rfl)))
        (fun i z hz Hb eb _ => en_tup (Evl.ea_cons (cmS 1 (.inl rfl) rfl rfl (eb _ _ (L3.t z (List.mem_of_getElem? hz)))) (Evl.ea_cons (Evl.ev_var rfl) Evl.ea_nil)) (Nat.le_of_ble_eq_true rfl)) Ha ea Q fun p ys Hc np ec hp hr => q p Hc np ec ⟨ys, hp, PrR.of hr⟩
    have ebord : (fun u : Nat × (Addr × Pn) => decide (V.int (cm u.2.2 (ax + 2)) = V.int Ed)) = fun u => decide (cm u.2.2 (ax + 2) = Ed) := funext fun u => by simp
    rw [ebord] at hperm
    have rlen : row.length = (zs.filter fun z => decide (cm z.2 (ax + 2) = Ed)).length := by
      rw [hperm.length_eq, List.length_map]
      exact zip_filter_len zs fun z => decide (cm z.2 (ax + 2) = Ed)
    have hnr := hn Ed topE
    rw [← rlen] at hnr
    obtain ⟨k0, r, hcut⟩ : ∃ k0 r, row.drop (row.length - en.natAbs) = k0 :: r := by
      cases hd : row.drop (row.length - en.natAbs) with
      | nil =>
        have := congrArg List.length hd
        rw [List.length_drop, List.length_nil] at this
        omega
      | cons a b => exact ⟨a, b, rfl⟩
    obtain ⟨ysr, hr1, hr2⟩ := hrow
    -- kept
    refine Evl.q_asgL (xs := ysr.drop (row.length - en.natAbs)) ?lc4 fun pk H5 n5 e5 g5 => ?_
    case lc4 =>
      have z := Evl.el_sl (K := K) (σ := [some (.ref l), some (.int en), some (.int ax), none, some (.int Ed), some (.int Wd), none, some (.ref pr), none, none, none, none, none, none]) (H := H4) (te := tVar 7) (lo := some (((row.length - en.natAbs : Nat)) : Int)) (hi := none)
        (Evl.ev_var rfl) (Evl.eo_some (Evl.ev_is (Evl.ev_op (Evl.ev_cb (r := fun xs H Q => ∃ p ys, xs = [.ref p] ∧ (SqL K H p ys ∨ SqT K H p ys) ∧ Q (.int ys.length) H) (z := .int row.length) (Evl.ea_cons (Evl.ev_var (i := 7) rfl) Evl.ea_nil) fun Ha ea Q q => ⟨pr, ysr, rfl, .inl (SqL.of (ea _ _ hr1)), by rw [hr2.len]; exact q Ha (Evl.Ex.refl _)⟩)
          (Evl.ev_cb (r := fun xs H Q => ∃ i, xs = [.int i] ∧ Q (.int (if i < 0 then -i else i)) H) (z := .int (if en < 0 then -en else en)) (Evl.ea_cons (Evl.ev_var (i := 1) rfl) Evl.ea_nil) fun Ha ea Q q => ⟨en, rfl, q Ha (Evl.Ex.refl _)⟩) (Evl.rv_I0 (g := fun i j => V.int (i - j)))) (by
            show V.int ((row.length : Int) - (if en < 0 then -en else en)) = V.int ((row.length - en.natAbs : Nat) : Int)
            congr 1
            split <;> omega))) Evl.eo_none (SqL.of hr1)
      have ec : cutV ysr (some (((row.length - en.natAbs : Nat)) : Int)) none = ysr.drop (row.length - en.natAbs) := by
        have hl := hr2.len
        unfold cutV
        rw [HT.sIx_none, show HT.sIx ysr.length 0 (some (((row.length - en.natAbs : Nat)) : Int)) = min (row.length - en.natAbs) ysr.length from HT.sIx_nat _ _ _, Nat.min_eq_left (by omega)]
        exact List.take_of_length_le (by rw [List.length_drop]; omega)
      rw [ec] at z
      exact z
    have hk : Pairs H5 pk (k0 :: r) := ⟨_, g5, by
      have z := (hr2.drop (row.length - en.natAbs)).ex e5
      rw [hcut] at z
      exact z⟩
    have L5 := (L3.same e4).same e5
    have klen : (k0 :: r).length ≤ 1000 := by
      rw [← hcut, List.length_drop]
      have : (zs.filter fun z => decide (cm z.2 (ax + 2) = Ed)).length ≤ zs.length := List.length_filter_le _ _
      omega
    -- names_here, found
    refine q_parL (xs := (k0 :: r).map fun p : Int × Int => V.int p.2) (ys := []) (el_lcPr (K := K) (σ := [some (.ref l), some (.int en), some (.int ax), none, some (.int Ed), some (.int Wd), none, some (.ref pr), some (.ref pk), none, none, none, none, none]) (H := H5) (tl := tVar 8) (te := tVar 6) (j := 13) (l := 6) (vs := [13, 6]) (g := fun p : Int × Int => .int p.2)
      (Evl.ev_var rfl) hk (by omega) (fun _ _ => rfl) (fun p hp Ha ea => Evl.ev_var rfl) (fun p q h => nomatch h)) (Evl.el_lst Evl.ea_nil (Nat.le_of_ble_eq_true rfl)) fun pn pf H6 n6 nf hne6 e6 g6 gf => ?_
    have L6 := L5.same e6
    have pnl : pn ≠ l := fun z => by
      rw [z, L5.l] at n6
      cases n6
    have pfl : pf ≠ l := fun z => by
      rw [z, L5.l] at nf
      cases nf
    have pfk : pk ≠ pf := fun z => by
      rw [← z, g5] at nf
      cases nf
    have pft : ∀ z ∈ zs, z.1 ≠ pf := fun z hz e => by
      have t := L5.t z hz
      rw [e, nf] at t
      cases t
    -- the loop
    refine ⟨fun σ H' => ∃ (y3 y6 y11 : Option V) (us : List (Addr × Pn)), σ = [some (.ref l), some (.int en), some (.int ax), y3, some (.int Ed), some (.int Wd), y6, some (.ref pr), some (.ref pk), some (.ref pn), some (.ref pf), y11, none, none] ∧ But pf H6 H' ∧
      H' pf = some (.lst (us.map fun u => .ref u.1)) ∧ (∀ u ∈ us, H' u.1 = some (.tup (PnV u.2))) ∧ us.map (·.2) = (zs.zipIdx.map fun p => (p.2, p.1)).map fun u : Nat × (Addr × Pn) => outp ax Ed (k0 :: r) u.1 u.2.2, ?_, ?_⟩
    · refine ⟨.ref l, rfl, l, _, rfl, SqL.of L6.l, ?_⟩
      refine for_it (walk_enum (K := K) (a := l) (xs := zs.map fun z => .ref z.1)) (fun i σ H' => ∃ (y3 y6 y11 : Option V) (us : List (Addr × Pn)), σ = [some (.ref l), some (.int en), some (.int ax), y3, some (.int Ed), some (.int Wd), y6, some (.ref pr), some (.ref pk), some (.ref pn), some (.ref pf), y11, none, none] ∧ But pf H6 H' ∧
        H' pf = some (.lst (us.map fun u => .ref u.1)) ∧ (∀ u ∈ us, H' u.1 = some (.tup (PnV u.2))) ∧ us.map (·.2) = ((zs.zipIdx.map fun p => (p.2, p.1)).take i).map fun u : Nat × (Addr × Pn) => outp ax Ed (k0 :: r) u.1 u.2.2)
        ⟨none, none, none, [], rfl, But.refl _ _, gf, by simp, rfl⟩ (fun i σ H' _ ⟨_, _, _, _, _, hb, _⟩ => SqL.of (hb _ _ (Ne.symm pfl) L6.l)) ?_ ?_
      · rintro i x σ H7 H8 hi ⟨y3, y6, y11, us, rfl, hb, hpf, hus, hmap⟩ ⟨T, x1, x2, rfl, nT, rfl, h1, h2⟩
        have hi' : i < zs.length := by simpa using hi
        have ex1 : x1 = .int (i : Nat) := (Option.some.inj h1).symm
        have ex2 : x2 = .ref zs[i].1 := by
          have h2' : (zs.map fun z => V.ref z.1)[i]? = some x2 := h2
          rw [List.getElem?_map, List.getElem?_eq_getElem hi'] at h2'
          exact (Option.some.inj h2').symm
        subst ex1 ex2
        have hz : zs[i] ∈ zs := List.getElem_mem hi'
        have ht7 : H7 zs[i].1 = some (.tup (PnV zs[i].2)) := hb _ _ (pft _ hz) (L6.t _ hz)
        have e8 : Evl.Ex H7 (upd H7 T (.tup [.int (i : Nat), .ref zs[i].1])) := Evl.Ex.new nT
        refine ⟨T, [_, _], rfl, .inl (.inl upd_same), rfl, _, _, rfl, _, _, rfl, rfl, ?_⟩
        -- corners = list(one)
        refine ⟨.ref zs[i].1, rfl, zs[i].1, PnV zs[i].2, rfl, .inr (SqT.of (e8 _ _ ht7)), fun c nc => ?_⟩
        have e9 : Evl.Ex H7 (upd (upd H7 T (.tup [.int (i : Nat), .ref zs[i].1])) c (.lst (PnV zs[i].2))) := e8.trans (Evl.Ex.new nc)
        have nc7 : H7 c = none := Evl.fresh_back e8 nc
        have cpf : pf ≠ c := fun z => by
          rw [← z, hpf] at nc7
          cases nc7
        obtain ⟨j, hj, hj3⟩ : ∃ j : Nat, ax + 2 = (j : Int) ∧ j ≤ 3 := ⟨(ax + 2).toNat, by omega, by omega⟩
        refine ⟨fun σ H' => σ = [some (.ref l), some (.int en), some (.int ax), some (.ref zs[i].1), some (.int Ed), some (.int Wd), some (.int (i : Nat)), some (.ref pr), some (.ref pk), some (.ref pn), some (.ref pf), some (.ref c), none, none] ∧
          But c (upd (upd H7 T (.tup [.int (i : Nat), .ref zs[i].1])) c (.lst (PnV zs[i].2))) H' ∧ H' c = some (.lst (PnV (outp ax Ed (k0 :: r) i zs[i].2))), ?_, ?_⟩
        · have g9 : SqL K (upd (upd H7 T (.tup [.int (i : Nat), .ref zs[i].1])) c (.lst (PnV zs[i].2))) c (PnV zs[i].2) := SqL.of upd_same
          have gn : SqL K (upd (upd H7 T (.tup [.int (i : Nat), .ref zs[i].1])) c (.lst (PnV zs[i].2))) pn (((k0 :: r).map fun p : Int × Int => p.2).map V.int) := SqL.of (by
            rw [List.map_map]
            exact e9 _ _ (hb _ _ hne6 g6))
          refine Evl.s_when (b := (decide (V.int (cm zs[i].2 (ax + 2)) = V.int Ed) && !inV (.int (i : Nat)) (((k0 :: r).map fun p : Int × Int => p.2).map V.int))) (Evl.et_and (Evl.et_test (Evl.ev_op (Evl.ev_op (Evl.ev_var rfl) (Evl.ev_op (Evl.ev_var rfl) Evl.ev_c Evl.rv_I0) (Evl.rv_ixL g9 (cm_at zs[i].2 (by omega)))) (Evl.ev_var rfl) (Evl.rv_eq rfl)))
            (fun _ => Evl.et_test (Evl.ev_op (Evl.ev_var rfl) (Evl.ev_var rfl) (Evl.rv_niL gn rfl (by simp [flatV]))))) (fun z Ha ea => ?_) fun z Ha ea => ?_
          · rw [inV_ints, Bool.and_eq_true] at z
            have z1 : cm zs[i].2 (ax + 2) = Ed := V.int.inj (of_decide_eq_true z.1)
            have z2 : ((i : Nat) : Int) ∉ (k0 :: r).map (·.2) := by simpa using z.2
            refine ⟨.int Ed, rfl, Ed, 1, rfl, rfl, .ref c, rfl, .int ax, rfl, ax, 2, rfl, rfl, c, PnV zs[i].2, ax + 2, j, rfl, rfl, ea _ _ upd_same, ?_, rfl, ?_, ?_⟩
            · rw [hj]
              exact Evl.ixN_nat (show j < 4 by omega)
            · intro a o n h
              rw [upd_ne n]
              exact ea _ _ h
            · rw [upd_same, sc_set _ _ hj hj3]
              unfold outp
              rw [if_pos ⟨z1, z2⟩]
          · rw [inV_ints] at z
            refine ⟨rfl, fun a o _ h => ea _ _ h, ?_⟩
            unfold outp
            rw [if_neg fun y => ?_]
            · exact ea _ _ upd_same
            · have t1 : decide (V.int (cm zs[i].2 (ax + 2)) = V.int Ed) = true := decide_eq_true (by rw [y.1])
              have t2 : decide (((i : Nat) : Int) ∈ (k0 :: r).map (·.2)) = false := decide_eq_false y.2
              rw [t1, t2] at z
              cases z
        · rintro σ H8 ⟨rfl, hb8, hc8⟩
          have b78 : ∀ a o, H7 a = some o → H8 a = some o := fun a o h => hb8 a o (ne_of_none h nc7) (e9 _ _ h)
          refine ⟨.ref pf, rfl, .inl ⟨rfl, _, SqL.of (b78 _ _ hpf)⟩, .ref c, rfl, c, _, rfl, .inl ⟨SqL.of hc8, fun t nt => ?_⟩⟩
          have nt7 : H7 t = none := by
            cases q7 : H7 t with
            | none => rfl
            | some o =>
              rw [b78 _ _ q7] at nt
              cases nt
          have tpf : t ≠ pf := fun z => by
            rw [z, hpf] at nt7
            cases nt7
          have usl : us.length ≤ i := by
            have := congrArg List.length hmap
            rw [List.length_map, List.length_map, List.length_take] at this
            omega
          refine ⟨pf, us.map fun u => .ref u.1, .ref t, rfl, rfl, ?_, ?_, some (.ref zs[i].1), some (.int (i : Nat)), some (.ref c), us ++ [(t, outp ax Ed (k0 :: r) i zs[i].2)], rfl, ?_, ?_, ?_, ?_⟩
          · rw [upd_ne (Ne.symm tpf)]
            exact b78 _ _ hpf
          · rw [List.length_map]
            exact small1000 (by omega)
          · intro a o n h
            rw [upd_ne n]
            have h7 := hb a o n h
            rw [upd_ne (ne_of_none h7 nt7)]
            exact b78 _ _ h7
          · rw [upd_same, List.map_append]
            rfl
          · intro u hu
            have fresh : ∀ {a : Addr} {p : Pn}, H7 a = some (.tup (PnV p)) → upd (upd H8 t (.tup (PnV (outp ax Ed (k0 :: r) i zs[i].2)))) pf (.lst (us.map (fun u => V.ref u.1) ++ [.ref t])) a = some (.tup (PnV p)) := fun {a p} h => by
              rw [upd_ne (fun z => by rw [z, hpf] at h; cases h), upd_ne (ne_of_none h nt7)]
              exact b78 _ _ h
            rcases List.mem_append.mp hu with hu | hu
            · exact fresh (hus u hu)
            · obtain rfl := List.mem_singleton.mp hu
              rw [upd_ne tpf, upd_same]
          · rw [List.map_append, hmap, List.take_add_one, List.map_append]
            congr 1
            have hz2 : (zs.zipIdx.map fun p => (p.2, p.1))[i]? = some (i, zs[i]) := by
              rw [List.getElem?_map, List.getElem?_zipIdx, List.getElem?_eq_getElem hi']
              simp
            rw [hz2]
            rfl
      · rintro σ H7 ⟨y3, y6, y11, us, rfl, hb, hpf, hus, hmap⟩
        refine ⟨y3, y6, y11, us, rfl, hb, hpf, hus, ?_⟩
        rw [hmap]
        congr 1
        exact List.take_of_length_le (by simp)
    · rintro σ H7 ⟨y3, y6, y11, us, rfl, hb, hpf, hus, hmap⟩
      obtain ⟨ysk, hk1, hk2⟩ := hk
      obtain ⟨a0, rk, rfl, h0⟩ : ∃ a0 rk, ysk = .ref a0 :: rk ∧ H5 a0 = some (PrV k0) := by
        cases hk2 with
        | cons hb t =>
          obtain ⟨a0, e0, h0⟩ := hb
          exact ⟨a0, _, by rw [e0], h0⟩
      have a0f : a0 ≠ pf := fun z => by
        rw [z, nf] at h0
        cases h0
      have s6 : Same H H6 := ((((e1.trans e2).trans e3).trans e4).trans e5).trans e6
      have s5' : Same H H5 := (((e1.trans e2).trans e3).trans e4).trans e5
      have pf0 : H pf = none := s5'.free nf
      have s7 : Same H H7 := fun b o h => hb _ _ (ne_of_none h pf0) (s6 _ _ h)
      have hk7 : H7 pk = some (.lst (.ref a0 :: rk)) := hb _ _ pfk (e6 _ _ hk1)
      have h07 : H7 a0 = some (PrV k0) := hb _ _ a0f (e6 _ _ h0)
      -- last
      refine Evl.q_asgL (xs := PnV ⟨0, 0, 0, 0⟩) (Evl.el_lst (Evl.ea_cons Evl.ev_c (Evl.ea_cons Evl.ev_c (Evl.ea_cons Evl.ev_c (Evl.ea_cons Evl.ev_c Evl.ea_nil)))) (Nat.le_of_ble_eq_true rfl)) fun pl H8 n8 e8 g8 => ?_
      have plf : pl ≠ pf := fun z => by
        rw [z, hpf] at n8
        cases n8
      have plk : pl ≠ pk := fun z => by
        rw [z, hk7] at n8
        cases n8
      have pla : pl ≠ a0 := fun z => by
        rw [z, h07] at n8
        cases n8
      refine q_two (n := 12) (i := ax) (j := ax + 2) (a := Ed) (b := Ed + 1) rfl g8 (Evl.ev_var rfl) (Evl.ev_op (Evl.ev_var rfl) Evl.ev_c Evl.rv_I0) (fun H1 _ => Evl.ev_var rfl) (fun H1 _ => Evl.ev_op (Evl.ev_var rfl) Evl.ev_c Evl.rv_I0) (by omega) (by omega) fun H9 b9 g9 => ?_
      have hk9 : H9 pk = some (.lst (.ref a0 :: rk)) := b9 _ _ (Ne.symm plk) (e8 _ _ hk7)
      have h09 : H9 a0 = some (PrV k0) := b9 _ _ (Ne.symm pla) (e8 _ _ h07)
      refine q_two (n := 12) (i := 1 - ax) (j := 3 - ax) (a := k0.1) (b := Wd) rfl g9 (Evl.ev_op (Evl.ev_op (Evl.ev_var rfl) Evl.ev_c (Evl.rv_ixL (SqL.of hk9) (atI_nat (j := 0) rfl))) Evl.ev_c (Evl.rv_ixT (SqT.of h09) (atI_nat (j := 0) rfl))) (Evl.ev_var rfl)
        (fun H1 _ => Evl.ev_op Evl.ev_c (Evl.ev_var rfl) Evl.rv_I0) (fun H1 _ => Evl.ev_op Evl.ev_c (Evl.ev_var rfl) Evl.rv_I0) (by omega) (by omega) fun H10 b10 g10 => ?_
      have b810 : But pl H8 H10 := b9.trans b10
      have s10 : ∀ a o, a ≠ pl → H7 a = some o → H10 a = some o := fun a o n h => b810 _ _ n (e8 _ _ h)
      have pl0 : H pl = none := s7.free n8
      have usl : us.length = zs.length := by
        have := congrArg List.length hmap
        simpa using this
      refine ⟨.ref pf, rfl, .ref pl, rfl, pl, _, rfl, .inl ⟨SqL.of g10, fun t nt => ⟨(show 1 ≤ sizeLine by decide), fun u nu => ?_⟩⟩⟩
      have k11 : ∀ a o, a ≠ pl → H7 a = some o → upd (upd H10 t (.tup (PnV (sc (sc (sc (sc ⟨0, 0, 0, 0⟩ ax Ed) (ax + 2) (Ed + 1)) (1 - ax) k0.1) (3 - ax) Wd)))) u (.lst [.ref t]) a = some o := fun a o n h => by
        have h10 := s10 a o n h
        rw [upd_ne (ne_of_none (by rw [upd_ne (ne_of_none h10 nt)]; exact h10) nu), upd_ne (ne_of_none h10 nt)]
        exact h10
      refine ⟨pf, u, us.map fun u => .ref u.1, [.ref t], rfl, rfl, k11 _ _ (Ne.symm plf) hpf, upd_same, ?_, fun v nv => ?_⟩
      · rw [List.length_map, usl, sizeLine_eq]
        show zs.length + 1 ≤ 16777216
        omega
      have tu : t ≠ u := fun z => by
        rw [← z, upd_same] at nu
        cases nu
      have s12 : Same H (upd (upd (upd H10 t (.tup (PnV (sc (sc (sc (sc ⟨0, 0, 0, 0⟩ ax Ed) (ax + 2) (Ed + 1)) (1 - ax) k0.1) (3 - ax) Wd)))) u (.lst [.ref t])) v (.lst (us.map (fun u => V.ref u.1) ++ [.ref t]))) := fun a o h => by
        have z := k11 a o (ne_of_none h pl0) (s7 _ _ h)
        rw [upd_ne (ne_of_none z nv)]
        exact z
      refine q _ v (us ++ [(t, sc (sc (sc (sc ⟨0, 0, 0, 0⟩ ax Ed) (ax + 2) (Ed + 1)) (1 - ax) k0.1) (3 - ax) Wd)]) Ed Wd row k0 r s12 ?_ ⟨?_, fun z hz => ?_⟩ ⟨topE, topW, hperm, hsrt, hcut, ?_⟩
      · cases hv : H v with
        | none => rfl
        | some o =>
          rw [k11 v o (ne_of_none hv pl0) (s7 _ _ hv)] at nv
          cases nv
      · rw [upd_same, List.map_append]
        rfl
      · rcases List.mem_append.mp hz with hz | hz
        · have z7 := hus z hz
          have z11 := k11 _ _ (ne_of_none z7 n8) z7
          rw [upd_ne (ne_of_none z11 nv)]
          exact z11
        · obtain rfl := List.mem_singleton.mp hz
          have z11 : upd (upd H10 t (.tup (PnV (sc (sc (sc (sc ⟨0, 0, 0, 0⟩ ax Ed) (ax + 2) (Ed + 1)) (1 - ax) k0.1) (3 - ax) Wd)))) u (.lst [.ref t]) t = some (.tup (PnV (sc (sc (sc (sc ⟨0, 0, 0, 0⟩ ax Ed) (ax + 2) (Ed + 1)) (1 - ax) k0.1) (3 - ax) Wd))) := by
            rw [upd_ne tu, upd_same]
          rw [upd_ne (ne_of_none z11 nv)]
          exact z11
      · rw [List.map_append, hmap]
        rfl
end
end GL
set_option Elab.async false
set_option linter.all false
set_option maxRecDepth 100000
set_option maxHeartbeats 8000000
/-! # the segments of panes, as a law finds them -/
namespace GL
open PySem PySem.Spec PyProof.Rows L2 Geo Rel
structure BN (mg : Str → Option Value) : Prop where
  max_ : mg "max" = none
  min_ : mg "min" = none
  sorted_ : mg "sorted" = none
  len_ : mg "len" = none
  list_ : mg "list" = none
  tuple_ : mg "tuple" = none
  range_ : mg "range" = none
  enumerate_ : mg "enumerate" = none
  abs_ : mg "abs" = none
  int_ : mg "int" = none
  sum_ : mg "sum" = none
  zip_ : mg "zip" = none
theorem maxK {X : Cx} {K : PySem.W.Frag} (e : X.K = K) (hc : X.calm = true) : CallR X (.builtin "max") (rMax K) := e ▸ cr_max hc
theorem minK {X : Cx} {K : PySem.W.Frag} (e : X.K = K) (hc : X.calm = true) : CallR X (.builtin "min") (rMin K) := e ▸ cr_min hc
theorem sumK {X : Cx} {K : PySem.W.Frag} (e : X.K = K) (hc : X.calm = true) : CallR X (.builtin "sum") (rSum K) := e ▸ cr_sum hc
theorem lenK {X : Cx} {K : PySem.W.Frag} (e : X.K = K) : CallR X (.builtin "len") (Evl.rLenS K) := e ▸ call_len_seq
theorem lsK {X : Cx} {K : PySem.W.Frag} (e : X.K = K) : CallR X (.type "list") (Evl.rListS K) := e ▸ call_list_of
/-- a pane's four numbers -/
abbrev f4 (p : Pn) : List Int := [p.x0, p.y0, p.x1, p.y1]
abbrev panR (p : Pn) : V → Hp → Prop := tupI (f4 p)
abbrev Pns (H : Hp) (l : Addr) (ps : List Pn) : Prop := RL panR H l ps
theorem panR_e : MonoE panR := fun z v H H' e h => tupI_e (f4 z) v H H' e h
abbrev Tr := Int × Int × Int
abbrev t3 (z : Tr) : List Int := [z.1, z.2.1, z.2.2]
abbrev trR (z : Tr) : V → Hp → Prop := tupI (t3 z)
theorem trR_e : MonoE trR := fun z v H H' e h => tupI_e (t3 z) v H H' e h
/-- the sides of a pane that are no border -/
def sidesOf (ax E : Int) (p : Pn) : List Tr := (if 0 < cm p ax then [(cm p ax, cm p (1 - ax), cm p (3 - ax))] else []) ++ (if cm p (ax + 2) < E then [(cm p (ax + 2), cm p (1 - ax), cm p (3 - ax))] else [])
def mstep (acc : List Tr) (r : Tr) : List Tr := match acc.getLast? with
  | some q => if q.1 = r.1 ∧ r.2.1 ≤ q.2.2 then acc.dropLast ++ [(r.1, q.2.1, if q.2.2 > r.2.2 then q.2.2 else r.2.2)] else acc ++ [r]
  | none => acc ++ [r]
/-- the segments across ax -/
def linesF (ps : List Pn) (ax E : Int) : List Tr := (isort t3 (ps.flatMap (sidesOf ax E))).foldl mstep []
theorem sidesOf_len (ax E : Int) (p : Pn) : (sidesOf ax E p).length ≤ 2 := by
  unfold sidesOf
  split <;> split <;> simp
theorem sides_len (ax E : Int) (ps : List Pn) : (ps.flatMap (sidesOf ax E)).length ≤ 2 * ps.length := by
  induction ps with
  | nil => simp
  | cons p ps ih =>
    rw [List.flatMap_cons, List.length_append, List.length_cons]
    have := sidesOf_len ax E p
    omega
theorem mstep_len (acc : List Tr) (r : Tr) : (mstep acc r).length ≤ acc.length + 1 := by
  unfold mstep
  split
  · split
    · rw [List.length_append, List.length_dropLast, List.length_singleton]
      omega
    · simp
  · simp
theorem foldm_len : ∀ (rs acc : List Tr), (rs.foldl mstep acc).length ≤ acc.length + rs.length
  | [], acc => by simp
  | r :: rs, acc => by
    rw [List.foldl_cons, List.length_cons]
    have := foldm_len rs (mstep acc r)
    have := mstep_len acc r
    omega
section
variable {P : Program} {w : World} {K : PySem.W.Frag} {mg : Str → Option Value} {base : Heap}
/-- y[i], y a pane that stands in slot n -/
theorem ev_pan {σ : L2.St} {H : Hp} {n : Nat} {y : V} {p : Pn} {i : Int} {ti : TE} (h : σ[n]? = some (some y)) (hp : panR p y H) (hi : Evl.Ev ti σ H (.int i)) (hr : 0 ≤ i ∧ i ≤ 3) : Evl.Ev (tOp (rIxT K) (tVar n) ti) σ H (.int (cm p i)) := by
  obtain ⟨a, rfl, ha⟩ := hp
  exact ev_cm (Evl.ev_var h) hi ha hr
theorem ev_pans {σ : L2.St} {H : Hp} {n m : Nat} {y : V} {p : Pn} {ax : Int} (h : σ[n]? = some (some y)) (hm : σ[m]? = some (some (.int ax))) (hp : panR p y H) (hr : 0 ≤ ax ∧ ax ≤ 1) :
    Evl.Ev (tOp (rIxT K) (tVar n) (tVar m)) σ H (.int (cm p ax)) ∧ Evl.Ev (tOp (rIxT K) (tVar n) (tOp (rI0 fun i j => .int (i + j)) (tVar m) (tC (.int 2)))) σ H (.int (cm p (ax + 2))) ∧
    Evl.Ev (tOp (rIxT K) (tVar n) (tOp (rI0 fun i j => .int (i - j)) (tC (.int 1)) (tVar m))) σ H (.int (cm p (1 - ax))) ∧ Evl.Ev (tOp (rIxT K) (tVar n) (tOp (rI0 fun i j => .int (i - j)) (tC (.int 3)) (tVar m))) σ H (.int (cm p (3 - ax))) :=
  ⟨ev_pan h hp (Evl.ev_var hm) (by omega), ev_pan h hp (Evl.ev_op (Evl.ev_var hm) Evl.ev_c Evl.rv_I0) (by omega), ev_pan h hp (Evl.ev_op Evl.ev_c (Evl.ev_var hm) Evl.rv_I0) (by omega), ev_pan h hp (Evl.ev_op Evl.ev_c (Evl.ev_var hm) Evl.rv_I0) (by omega)⟩
def spLines : Sp := fun vs H Q _ => ∃ (l : Addr) (ps : List Pn) (ax E : Int), vs = [.ref l, .int ax] ∧ Pns H l ps ∧ ps ≠ [] ∧ ps.length ≤ 1000 ∧ (0 ≤ ax ∧ ax ≤ 1) ∧ Top (fun p => cm p (ax + 2)) ps E ∧
  ∀ H' d, Evl.Ex H H' → H d = none → RL trR H' d (linesF ps ax E) → Q (.ref d) H'
theorem ok_lines {f : Addr} {fd : FuncData} {k : Nat} (F : Fun K "_law_lines" "_law_lines" s__law_lines f fd) (B : BN mg) : FnOk P w K mg base CX0 (k + 1) f fd ["panes", "axis"] spLines := by
  refine F.ok sc__law_lines (fun vs H Q E h => ?_) (fun cdv A outer s H vs Q E hr h => ?_)
  · obtain ⟨l, ps, ax, E, rfl, _⟩ := h
    rfl
  · obtain ⟨l, ps, ax, E, rfl, hL, hne, hlen, hax, hE, q⟩ := h
    refine ⟨_, (pss_cons (ps_par3 (i := 3) (j := 4) (l := 5) rfl sc__law_lines.nd rfl rfl rfl (by decide) (by decide) (by decide) rfl rfl rfl (pa_cons (pe_callB (maxK (K := K) rfl rfl) (by rfl) B.max_ (by decide +kernel) (pa_cons (pe_lc (own := [("one", 2)]) (g := gName 2) (tt := tYes) rfl sc__law_lines.nd (pi_list (pv 0)) (blkOk_by (N := n__law_lines) (sc := (defScope s__law_lines)) (by decide +kernel)) (fun _ _ _ _ _ => (pg_name (i := 2) sc__law_lines.nd rfl (Or.inl rfl))) (fun _ _ _ _ _ => pts_nil) (fun _ _ _ _ _ => (pe_ix (ixTK (K := K) rfl) (pv 2) (pe_op op_add (pv 1) pe_int) (fun _ _ => rfl)))) pa_nil)) (pa_cons (pe_lst pa_nil) (pa_cons (pe_lst pa_nil) pa_nil))) (by rfl))
      (pss_cons (ps_for PassesOwn.never rfl (pi_list (pv 0)) (pg_name (i := 2) sc__law_lines.nd rfl (Or.inl rfl)) (pss_cons (ps_if (pt_cmpR op_gt (pe_ix (ixTK (K := K) rfl) (pv 2) (pv 1) (fun _ _ => rfl)) pe_int (nomark _)) (pss_one (ps_expr (pe_bm PySem.F.plainAttrs_list PySem.F.slot_list_append PySem.F.type_list_append mt_append (pv 4) (pa_cons (pe_tup (pa_cons (pe_ix (ixTK (K := K) rfl) (pv 2) (pv 1) (fun _ _ => rfl)) (pa_cons (pe_ix (ixTK (K := K) rfl) (pv 2) (pe_op op_sub pe_int (pv 1)) (fun _ _ => rfl)) (pa_cons (pe_ix (ixTK (K := K) rfl) (pv 2) (pe_op op_sub pe_int (pv 1)) (fun _ _ => rfl)) pa_nil)))) pa_nil)))) pss_nil)
      (pss_one (ps_if (pt_cmpR op_lt (pe_ix (ixTK (K := K) rfl) (pv 2) (pe_op op_add (pv 1) pe_int) (fun _ _ => rfl)) (pv 3) (nomark _)) (pss_one (ps_expr (pe_bm PySem.F.plainAttrs_list PySem.F.slot_list_append PySem.F.type_list_append mt_append (pv 4) (pa_cons (pe_tup (pa_cons (pe_ix (ixTK (K := K) rfl) (pv 2) (pe_op op_add (pv 1) pe_int) (fun _ _ => rfl)) (pa_cons (pe_ix (ixTK (K := K) rfl) (pv 2) (pe_op op_sub pe_int (pv 1)) (fun _ _ => rfl)) (pa_cons (pe_ix (ixTK (K := K) rfl) (pv 2) (pe_op op_sub pe_int (pv 1)) (fun _ _ => rfl)) pa_nil)))) pa_nil)))) pss_nil))))
      (pss_cons (ps_for PassesOwn.never rfl (pi_list (pe_callB (SoT.cr_sortedT (m := 2)) (by rfl) B.sorted_ (by decide +kernel) (pa_cons (pv 4) pa_nil))) (pg_tup rfl (pgs_cons (pg_name (i := 6) sc__law_lines.nd rfl (Or.inl rfl)) (pgs_cons (pg_name (i := 7) sc__law_lines.nd rfl (Or.inl rfl)) (pgs_cons (pg_name (i := 8) sc__law_lines.nd rfl (Or.inl rfl)) pgs_nil)))) (pss_one (ps_if (PW.pt (pw_and (pt_cmpR (op_neD hr.units) (pv 5) (pe_lst pa_nil) (nomark _)) (pw_and (pt_cmpR op_eq (pe_ix (ixTK (K := K) rfl) (pe_ix (ixLK (K := K) rfl) (pv 5) (pe_un un_neg pe_int) (fun _ _ => rfl)) pe_int (fun _ _ => rfl)) (pv 6) (nomark _)) (pw_and1 (pt_cmpR op_le (pv 7) (pe_ix (ixTK (K := K) rfl) (pe_ix (ixLK (K := K) rfl) (pv 5) (pe_un un_neg pe_int) (fun _ _ => rfl)) pe_int (fun _ _ => rfl)) (nomark _)))))) (pss_one (ps_asg (pe_tup (pa_cons (pv 6) (pa_cons (pe_ix (ixTK (K := K) rfl) (pe_ix (ixLK (K := K) rfl) (pv 5) (pe_un un_neg pe_int) (fun _ _ => rfl)) pe_int (fun _ _ => rfl)) (pa_cons (pe_callB (call_max2 rfl) (by rfl) B.max_ (by decide +kernel) (pa_cons (pv 8) (pa_cons (pe_ix (ixTK (K := K) rfl) (pe_ix (ixLK (K := K) rfl) (pv 5) (pe_un un_neg pe_int) (fun _ _ => rfl)) pe_int (fun _ _ => rfl)) pa_nil))) pa_nil)))) (pg_sub (pv 5) (pe_un un_neg pe_int) set_list))) (pss_one (ps_expr (pe_bm PySem.F.plainAttrs_list PySem.F.slot_list_append PySem.F.type_list_append mt_append (pv 5) (pa_cons (pe_tup (pa_cons (pv 6) (pa_cons (pv 7) (pa_cons (pv 8) pa_nil)))) pa_nil)))))))
      (pss_one (ps_ret (pv 5)))))), ?_⟩
    obtain ⟨ys, hl, hp⟩ := id hL
    have hfil : ps.filter (fun _ => true) = ps := List.filter_eq_self.mpr fun _ _ => rfl
    -- edge, sides_here, found
    refine ev_maxN (ns := ps.map fun p => cm p (ax + 2)) ?_ (by rw [List.length_map]; exact List.length_pos_iff.mpr hne) H (Evl.Ex.refl H) _ fun m H1 e1 hm1 hm2 => ?_
    · exact el_lcI panR_e (Evl.ev_var rfl) hL (by omega) (fun _ => rfl) fun z hz y H1 e hr => (ev_pans (K := K) (n := 2) (m := 1) rfl rfl hr hax).2.1
    obtain rfl : m = E := top_one (top_of hm1 hm2) hE
    refine ⟨Nat.zero_le _, fun S nS => ⟨Nat.zero_le _, fun Fo nF => ⟨_, _, _, rfl, ?_⟩⟩⟩
    have e2 : Evl.Ex H (upd (upd H1 S (.lst [])) Fo (.lst [])) := (e1.trans (Evl.Ex.new nS)).trans (Evl.Ex.new nF)
    have nSH : H S = none := Evl.fresh_back e1 nS
    have nFH : H Fo = none := Evl.fresh_back e1 (Evl.fresh_back (Evl.Ex.new nS) nF)
    have SF : S ≠ Fo := fun z => by
      rw [z, upd_same] at nF
      cases nF
    have hS2 : upd (upd H1 S (.lst [])) Fo (.lst []) S = some (.lst []) := by rw [upd_ne SF, upd_same]
    have hF2 : upd (upd H1 S (.lst [])) Fo (.lst []) Fo = some (.lst []) := upd_same
    generalize upd (upd H1 S (.lst [])) Fo (.lst []) = H2 at e2 hS2 hF2
    -- the sides
    refine q_forRLn (R := panR) (zs := ps) (p := l) (Evl.ev_var rfl) (fun i σ H' => ∃ o2, σ = [some (.ref l), some (.int ax), o2, some (.int m), some (.ref S), some (.ref Fo), none, none, none] ∧ Evl.Ex H H' ∧ H' Fo = some (.lst []) ∧ RL trR H' S ((ps.take i).flatMap (sidesOf ax m)))
      (fun H3 e3 => ⟨none, rfl, e2.trans e3, e3 _ _ hF2, rl_nil (e3 _ _ hS2)⟩) (fun i σ H' _ hv => ?_) (fun i z y σ H' hz hy hv => ?_) (fun σ H' hv => ?_)
    · obtain ⟨o2, rfl, e3, _⟩ := hv
      exact hL.ex panR_e e3
    · obtain ⟨o2, rfl, e3, hF3, hS3⟩ := hv
      have hi : i < ps.length := (List.getElem?_eq_some_iff.mp hz).1
      have hlen3 := sides_len ax m (ps.take i)
      rw [List.length_take] at hlen3
      obtain ⟨x1, x2, x3, x4⟩ := ev_pans (K := K) (σ := [some (.ref l), some (.int ax), some y, some (.int m), some (.ref S), some (.ref Fo), none, none, none]) (n := 2) (m := 1) rfl rfl hy hax
      refine q_ifAppT (gg := t3) (z := (cm z ax, cm z (1 - ax), cm z (3 - ax))) (Evl.et_test (Evl.ev_op x1 Evl.ev_c Evl.rv_I0)) hS3 (Evl.ev_var rfl) (fun _ => Evl.eu_tup (Evl.ea_cons x1 (Evl.ea_cons x3 (Evl.ea_cons x4 Evl.ea_nil))) (by simp)) (by omega) fun H4 b4 hS4 => ?_
      obtain ⟨ys3, hS3', hS3q⟩ := hS3
      have hy4 : panR z y H4 := tupI_but hy hS3' b4
      obtain ⟨x1', x2', x3', x4'⟩ := ev_pans (K := K) (σ := [some (.ref l), some (.int ax), some y, some (.int m), some (.ref S), some (.ref Fo), none, none, none]) (n := 2) (m := 1) rfl rfl hy4 hax
      refine s_ifAppT (gg := t3) (z := (cm z (ax + 2), cm z (1 - ax), cm z (3 - ax))) (Evl.et_test (Evl.ev_op x2' (Evl.ev_var rfl) Evl.rv_I0)) hS4 (Evl.ev_var rfl) (fun _ => Evl.eu_tup (Evl.ea_cons x2' (Evl.ea_cons x3' (Evl.ea_cons x4' Evl.ea_nil))) (by simp)) ?_ fun H5 b5 hS5 => ?_
      · have one : ∀ (b : Bool) (u : Tr), (if b = true then [u] else []).length ≤ 1 := fun b u => by cases b <;> simp
        rw [List.length_append]
        have := one (decide (0 < cm z ax)) (cm z ax, cm z (1 - ax), cm z (3 - ax))
        have g0 : (if decide (cm z ax > 0) = true then [(cm z ax, cm z (1 - ax), cm z (3 - ax))] else []).length ≤ 1 := this
        omega
      · refine ⟨some y, rfl, But1.ex nSH e3 (b4.tr b5), (b4.tr b5) _ _ SF.symm hF3, ?_⟩
        rw [List.take_add_one, hz, Option.toList_some, List.flatMap_append, List.flatMap_singleton]
        show RL trR H5 S (List.flatMap (sidesOf ax m) (List.take i ps) ++ ((if 0 < cm z ax then [(cm z ax, cm z (1 - ax), cm z (3 - ax))] else []) ++ (if cm z (ax + 2) < m then [(cm z (ax + 2), cm z (1 - ax), cm z (3 - ax))] else [])))
        rw [List.append_assoc] at hS5
        simpa using hS5
    · obtain ⟨o2, rfl, e3, hF3, hS3⟩ := hv
      rw [List.take_length] at hS3
      have hlen3 := sides_len ax m ps
      have lsort : (isort t3 (ps.flatMap (sidesOf ax m))).length = (ps.flatMap (sidesOf ax m)).length := (isort_perm t3 _).length_eq
      have hlf : linesF ps ax m = (isort t3 (ps.flatMap (sidesOf ax m))).foldl mstep [] := rfl
      have hsort := er_sortV (K := K) (m := 2) (te := tVar 4) (σ := [some (.ref l), some (.int ax), o2, some (.int m), some (.ref S), some (.ref Fo), none, none, none]) (g := t3) (Evl.ev_var rfl) (fun z _ => rfl) hS3
      generalize isort t3 (ps.flatMap (sidesOf ax m)) = so at lsort hlf hsort
      show tSeq _ _ _ _ H'
      refine q_forNRL (R := trR) (zs := so) hsort (fun d i σ' H' => ∃ o6 o7 o8, σ' = [some (.ref l), some (.int ax), o2, some (.int m), some (.ref S), some (.ref Fo), o6, o7, o8] ∧ Evl.Ex H H' ∧ d ≠ Fo ∧ RL trR H' d so ∧ RL trR H' Fo ((so.take i).foldl mstep []))
        (fun d H4 nd e4 hd => ⟨_, _, _, rfl, e3.trans e4, fun z => ?_, hd, rl_nil (e4 _ _ hF3)⟩) (fun d i σ' H4 _ hv => ?_) (fun d i z y σ' H4 hz hy hv => ?_) (fun d σ' H4 hv => ?_)
      · rw [z, hF3] at nd
        cases nd
      · obtain ⟨_, _, _, _, _, _, h, _⟩ := hv
        exact h
      · obtain ⟨o6, o7, o8, rfl, e4, dF, hd, hF4⟩ := hv
        have hi : i < so.length := (List.getElem?_eq_some_iff.mp hz).1
        have hla := foldm_len (so.take i) []
        rw [List.length_take, List.length_nil] at hla
        refine g_tup3 (i := 6) (j := 7) (k := 8) hy ?_
        show tIfS _ _ _ _ [some (.ref l), some (.int ax), o2, some (.int m), some (.ref S), some (.ref Fo), some (.int z.1), some (.int z.2.1), some (.int z.2.2)] H4
        have step : (so.take (i + 1)).foldl mstep [] = mstep ((so.take i).foldl mstep []) z := by
          rw [List.take_add_one, hz, Option.toList_some, List.foldl_append]
          rfl
        generalize (so.take i).foldl mstep [] = acc at hF4 hla step
        have fin : ∀ H5, But1 Fo H4 H5 → RL trR H5 Fo (mstep acc z) → ∃ o6 o7 o8, [some (.ref l), some (.int ax), o2, some (.int m), some (.ref S), some (.ref Fo), some (.int z.1), some (.int z.2.1), some (.int z.2.2)] = [some (.ref l), some (.int ax), o2, some (.int m), some (.ref S), some (.ref Fo), o6, o7, o8] ∧ Evl.Ex H H5 ∧ d ≠ Fo ∧ RL trR H5 d so ∧ RL trR H5 Fo ((so.take (i + 1)).foldl mstep []) := by
          intro H5 b5 h5
          obtain ⟨xs, hx, _⟩ := hF4
          exact ⟨_, _, _, rfl, But1.ex nFH e4 b5, dF, rl_but hd hx dF b5, step ▸ h5⟩
        rcases (show acc = [] ∨ ∃ init u, acc = init ++ [u] by
          rcases List.eq_nil_or_concat acc with h | ⟨i, u, h⟩
          · exact .inl h
          · exact .inr ⟨i, u, by rw [h, List.concat_eq_append]⟩) with rfl | ⟨init, u, rfl⟩
        · refine Evl.s_if (b := false) (Evl.et_and (a := false) (b := false) (Evl.et_test (ev_noNil (datTup.comp t3 (fun a b h => by simpa [Prod.ext_iff] using h)) trR_e (by decide) (Evl.ev_var rfl) hF4)) (fun h => by cases h)) (fun h => by cases h) fun _ H5 e5 => ?_
          refine s_appT (gg := t3) (z := z) (hF4.ex trR_e e5) (Evl.ev_var rfl) (Evl.eu_tup (Evl.ea_cons (Evl.ev_var rfl) (Evl.ea_cons (Evl.ev_var rfl) (Evl.ea_cons (Evl.ev_var rfl) Evl.ea_nil))) (by simp)) (by simp) fun H6 b6 h6 => fin H6 ((But1.of e5).tr b6) h6
        · have ms : mstep (init ++ [u]) z = if u.1 = z.1 ∧ z.2.1 ≤ u.2.2 then init ++ [(z.1, u.2.1, if u.2.2 > z.2.2 then u.2.2 else z.2.2)] else init ++ [u] ++ [z] := by
            unfold mstep
            rw [List.getLast?_append, List.getLast?_singleton, List.dropLast_concat]
            rfl
          refine Evl.s_if (b := decide (u.1 = z.1 ∧ z.2.1 ≤ u.2.2)) ?_ (fun hb H5 e5 => ?_) (fun hb H5 e5 => ?_)
          · refine Evl.et_is (Evl.et_and (a := true) (Evl.et_test (Evl.ev_is (ev_noNil (datTup.comp t3 (fun a b h => by simpa [Prod.ext_iff] using h)) trR_e (by decide) (Evl.ev_var rfl) hF4) (by simp))) (fun _ => Evl.et_and (Evl.et_test (Evl.ev_op (ev_lastT (g := t3) (q := u) (i := 0) rfl hF4 rfl) (Evl.ev_var rfl) (Evl.rv_eq rfl))) (fun _ => Evl.et_test (Evl.ev_op (Evl.ev_var rfl) (ev_lastT (g := t3) (q := u) (i := 2) rfl hF4 rfl) Evl.rv_I0)))) ?_
            by_cases c1 : u.1 = z.1
            · simp [c1]
            · simp [c1]
          · have hb := of_decide_eq_true hb
            rw [if_pos hb] at ms
            have h5 := hF4.ex trR_e e5
            refine s_setLastT (g := t3) (z := (z.1, u.2.1, if u.2.2 > z.2.2 then u.2.2 else z.2.2)) rfl h5 (Evl.eu_tup (Evl.ea_cons (Evl.ev_var rfl) (Evl.ea_cons (ev_lastT (g := t3) (q := u) (i := 1) rfl h5 rfl) (Evl.ea_cons (Evl.ev_max2 (Evl.ev_var rfl) (ev_lastT (g := t3) (q := u) (i := 2) rfl h5 rfl)) Evl.ea_nil))) (by simp)) fun H6 b6 h6 => fin H6 ((But1.of e5).tr b6) (ms ▸ h6)
          · have hb := of_decide_eq_false hb
            rw [if_neg hb] at ms
            refine s_appT (gg := t3) (z := z) (hF4.ex trR_e e5) (Evl.ev_var rfl) (Evl.eu_tup (Evl.ea_cons (Evl.ev_var rfl) (Evl.ea_cons (Evl.ev_var rfl) (Evl.ea_cons (Evl.ev_var rfl) Evl.ea_nil))) (by simp)) (by omega) fun H6 b6 h6 => fin H6 ((But1.of e5).tr b6) (ms ▸ h6)
      · obtain ⟨o6, o7, o8, rfl, e4, dF, hd, hF4⟩ := hv
        rw [List.take_length] at hF4
        exact Evl.s_ret (Evl.ev_var rfl) fun H5 e5 => q H5 Fo (e4.trans e5) nFH (hlf ▸ hF4.ex trR_e e5)
end
end GL
set_option Elab.async false
set_option linter.all false
set_option maxRecDepth 100000
set_option maxHeartbeats 8000000
/-! # the panes along a segment -/
namespace GL
open PySem PySem.Spec PyProof.Rows L2 Geo Rel
/-- the panes along the stretch of a line -/
def nearF (ps : List Pn) (ln : Tr) (ax : Int) : List (Nat × Pn) := (enumL ps).filter fun u => decide (ln.2.1 ≤ cm u.2 (1 - ax)) && decide (cm u.2 (3 - ax) ≤ ln.2.2)
def p2 (z : Int × Int) : List Int := [z.1, z.2]
/-- those of them that lie at it with their side i, in sequence -/
def sideF (ps : List Pn) (ln : Tr) (ax i : Int) : List (Int × Int) := isort p2 (((nearF ps ln ax).filter fun u => decide (cm u.2 i = ln.1)).map fun u => (cm u.2 (1 - ax), (u.1 : Int)))
def aheadF (ps : List Pn) (ln : Tr) (ax : Int) : List Int := (sideF ps ln ax (ax + 2)).map (·.2)
def behindF (ps : List Pn) (ln : Tr) (ax : Int) : List Int := (sideF ps ln ax ax).map (·.2)
section
variable {K : PySem.W.Frag} {σ : L2.St} {H : Hp} {te ti : TE}
theorem ev_panE {y : V} {p : Pn} {i : Int} (h : Evl.Ev te σ H y) (hp : panR p y H) (hi : Evl.Ev ti σ H (.int i)) (hr : 0 ≤ i ∧ i ≤ 3) : Evl.Ev (tOp (rIxT K) te ti) σ H (.int (cm p i)) := by
  obtain ⟨a, rfl, ha⟩ := hp
  exact ev_cm h hi ha hr
/-- l[i], l a list of objects -/
theorem ev_rlIx {α : Type} {R : α → V → Hp → Prop} {l : Addr} {zs : List α} {i : Nat} {z : α} (h : Evl.Ev te σ H (.ref l)) (hl : RL R H l zs) (hz : zs[i]? = some z) (hi : Evl.Ev ti σ H (.int (i : Int))) : ∃ y, R z y H ∧ Evl.Ev (tOp (rIxL K) te ti) σ H y := by
  obtain ⟨ys, h1, h2⟩ := hl
  obtain ⟨y, hy, hr⟩ := pr_at h2 hz
  exact ⟨y, hr, Evl.ev_op h hi (Evl.rv_ixL (SqL.of h1) (atI_nat hy))⟩
end
section
variable {P : Program} {w : World} {K : PySem.W.Frag} {mg : Str → Option Value} {base : Heap}
def spAt (K : PySem.W.Frag) : Sp := fun vs H Q _ => ∃ (l : Addr) (ps : List Pn) (ln : Tr) (y : V) (ax : Int), vs = [.ref l, y, .int ax] ∧ Pns H l ps ∧ trR ln y H ∧ ps.length ≤ 1000 ∧ (0 ≤ ax ∧ ax ≤ 1) ∧
  ∀ H' a b c, Evl.Ex H H' → H' a = some (.lst ((aheadF ps ln ax).map V.int)) → H' b = some (.lst ((behindF ps ln ax).map V.int)) → H' c = some (.tup [.ref a, .ref b]) → H c = none → H b = none → Q (.ref c) H'
theorem ok_at {f : Addr} {fd : FuncData} {k : Nat} (F : Fun K "_law_at" "_law_at" s__law_at f fd) (B : BN mg) : FnOk P w K mg base CX0 (k + 1) f fd ["panes", "line", "axis"] (spAt K) := by
  refine F.ok sc__law_at (fun vs H Q E h => ?_) (fun cdv A outer s H vs Q E hr h => ?_)
  · obtain ⟨l, ps, ln, y, ax, rfl, _⟩ := h
    rfl
  · obtain ⟨l, ps, ln, y, ax, rfl, hL, hy, hlen, hax, q⟩ := h
    refine ⟨_, (pss_cons (ps_asg (pv 1) (pg_tup rfl (pgs_cons (pg_name (i := 3) sc__law_at.nd rfl (Or.inr rfl)) (pgs_cons (pg_name (i := 4) sc__law_at.nd rfl (Or.inr rfl)) (pgs_cons (pg_name (i := 5) sc__law_at.nd rfl (Or.inr rfl)) pgs_nil)))))
      (pss_cons (ps_setLc (i := 6) (own := [("spot", 9), ("one", 10)]) (g := gTup K 2 (gCons (gName 9) (gCons (gName 10) gNil))) (tt := (tAnd (tTest (tOp (rI0 fun i j => .bl (decide (i ≤ j))) (tVar 4) (tOp (rIxT K) (tVar 10) (tOp (rI0 fun i j => .int (i - j)) (tC (.int 1)) (tVar 2))))) (tTest (tOp (rI0 fun i j => .bl (decide (i ≤ j))) (tOp (rIxT K) (tVar 10) (tOp (rI0 fun i j => .int (i - j)) (tC (.int 3)) (tVar 2))) (tVar 5))))) rfl sc__law_at.nd rfl rfl (sw_true rfl rfl rfl (by decide +kernel)) (pi_enum (by rfl) B.enumerate_ (pa_cons (pv 0) pa_nil)) (blkOk_by (N := n__law_at) (sc := (defScope s__law_at)) (by decide +kernel)) (fun _ _ _ _ _ => (pg_tup rfl (pgs_cons (pg_name (i := 9) sc__law_at.nd rfl (Or.inl rfl)) (pgs_cons (pg_name (i := 10) sc__law_at.nd rfl (Or.inl rfl)) pgs_nil)))) (fun _ _ _ _ _ => pts_one (PW.pt (pw_and (pt_cmpR op_le (pv 4) (pe_ix (ixTK (K := K) rfl) (pv 10) (pe_op op_sub pe_int (pv 2)) (fun _ _ => rfl)) (nomark _)) (pw_and1 (pt_cmpR op_le (pe_ix (ixTK (K := K) rfl) (pv 10) (pe_op op_sub pe_int (pv 2)) (fun _ _ => rfl)) (pv 5) (nomark _)))))) (fun _ _ _ _ _ => (pv 9)))
      (pss_cons (ps_set (i := 7) sc__law_at.nd rfl (.inl rfl) (pe_callB (SoT.cr_sortedT (m := 1)) (by rfl) B.sorted_ (by decide +kernel) (pa_cons (pe_lc (own := [("spot", 9)]) (g := gName 9) (tt := (tTest (tOp rEq (tOp (rIxT K) (tOp (rIxL K) (tVar 0) (tVar 9)) (tOp (rI0 fun i j => .int (i + j)) (tVar 2) (tC (.int 2)))) (tVar 3)))) rfl sc__law_at.nd (pi_list (pv 6)) (blkOk_by (N := n__law_at) (sc := (defScope s__law_at)) (by decide +kernel)) (fun _ _ _ _ _ => (pg_name (i := 9) sc__law_at.nd rfl (Or.inl rfl))) (fun _ _ _ _ _ => pts_one (pt_cmpR op_eq (pe_ix (ixTK (K := K) rfl) (pe_ix (ixLK (K := K) rfl) (pv 0) (pv 9) (fun _ _ => rfl)) (pe_op op_add (pv 2) pe_int) (fun _ _ => rfl)) (pv 3) (nomark _))) (fun _ _ _ _ _ => (pe_tup (pa_cons (pe_ix (ixTK (K := K) rfl) (pe_ix (ixLK (K := K) rfl) (pv 0) (pv 9) (fun _ _ => rfl)) (pe_op op_sub pe_int (pv 2)) (fun _ _ => rfl)) (pa_cons (pv 9) pa_nil))))) pa_nil)))
      (pss_cons (ps_set (i := 8) sc__law_at.nd rfl (.inl rfl) (pe_callB (SoT.cr_sortedT (m := 1)) (by rfl) B.sorted_ (by decide +kernel) (pa_cons (pe_lc (own := [("spot", 9)]) (g := gName 9) (tt := (tTest (tOp rEq (tOp (rIxT K) (tOp (rIxL K) (tVar 0) (tVar 9)) (tVar 2)) (tVar 3)))) rfl sc__law_at.nd (pi_list (pv 6)) (blkOk_by (N := n__law_at) (sc := (defScope s__law_at)) (by decide +kernel)) (fun _ _ _ _ _ => (pg_name (i := 9) sc__law_at.nd rfl (Or.inl rfl))) (fun _ _ _ _ _ => pts_one (pt_cmpR op_eq (pe_ix (ixTK (K := K) rfl) (pe_ix (ixLK (K := K) rfl) (pv 0) (pv 9) (fun _ _ => rfl)) (pv 2) (fun _ _ => rfl)) (pv 3) (nomark _))) (fun _ _ _ _ _ => (pe_tup (pa_cons (pe_ix (ixTK (K := K) rfl) (pe_ix (ixLK (K := K) rfl) (pv 0) (pv 9) (fun _ _ => rfl)) (pe_op op_sub pe_int (pv 2)) (fun _ _ => rfl)) (pa_cons (pv 9) pa_nil))))) pa_nil)))
      (pss_one (ps_ret (pe_tup (pa_cons (pe_lc (own := [("here", 11), ("spot", 9)]) (g := gTup K 2 (gCons (gName 11) (gCons (gName 9) gNil))) (tt := tYes) rfl sc__law_at.nd (pi_list (pv 7)) (blkOk_by (N := n__law_at) (sc := (defScope s__law_at)) (by decide +kernel)) (fun _ _ _ _ _ => (pg_tup rfl (pgs_cons (pg_name (i := 11) sc__law_at.nd rfl (Or.inl rfl)) (pgs_cons (pg_name (i := 9) sc__law_at.nd rfl (Or.inl rfl)) pgs_nil)))) (fun _ _ _ _ _ => pts_nil) (fun _ _ _ _ _ => (pv 9))) (pa_cons (pe_lc (own := [("here", 11), ("spot", 9)]) (g := gTup K 2 (gCons (gName 11) (gCons (gName 9) gNil))) (tt := tYes) rfl sc__law_at.nd (pi_list (pv 8)) (blkOk_by (N := n__law_at) (sc := (defScope s__law_at)) (by decide +kernel)) (fun _ _ _ _ _ => (pg_tup rfl (pgs_cons (pg_name (i := 11) sc__law_at.nd rfl (Or.inl rfl)) (pgs_cons (pg_name (i := 9) sc__law_at.nd rfl (Or.inl rfl)) pgs_nil)))) (fun _ _ _ _ _ => pts_nil) (fun _ _ _ _ _ => (pv 9))) pa_nil))))))))), ?_⟩
    refine q_asgT3 (i := 3) (j := 4) (k := 5) (Evl.ev_var rfl) hy fun H0 e0 => ?_
    have hL := hL.ex panR_e e0
    have p2i : ∀ a b : Int × Int, p2 a = p2 b → a = b := fun a b h => by simpa [p2, Prod.ext_iff] using h
    refine q_asgRL (R := fun (u : Nat × Pn) v (_ : Hp) => v = .int (u.1 : Int)) (zs := nearF ps ln ax) ?_ fun nr H1 nn e1 hN => ?_
    · refine er_lcERL (K := K) (H := H0) (R := panR) panR_e (val_m fun u : Nat × Pn => .int (u.1 : Int)) (fun u => decide (ln.2.1 ≤ cm u.2 (1 - ax)) && decide (cm u.2 (3 - ax) ≤ ln.2.2)) (Evl.ev_var rfl) hL (by omega) (fun _ _ => rfl) (fun i z hz y H1 e hr => ?_) (fun i z hz y H1 e hr _ => en_int (Evl.ev_var rfl))
      obtain ⟨x1, x2, x3, x4⟩ := ev_pans (K := K) (σ := [some (.ref l), some y, some (.int ax), some (.int ln.1), some (.int ln.2.1), some (.int ln.2.2), none, none, none, some (.int (i : Nat)), some y, none]) (n := 10) (m := 2) rfl rfl hr hax
      exact Evl.et_and (Evl.et_test (Evl.ev_op (Evl.ev_var rfl) x3 Evl.rv_I0)) fun _ => Evl.et_test (Evl.ev_op x4 (Evl.ev_var rfl) Evl.rv_I0)
    have side : ∀ (i : Int) (ti : TE) (n : Nat) (σ : L2.St) (H2 : Hp), 0 ≤ i ∧ i ≤ 3 → Evl.Ex H1 H2 → σ = [some (.ref l), some y, some (.int ax), some (.int ln.1), some (.int ln.2.1), some (.int ln.2.2), some (.ref nr), σ.getD 7 none, none, none, none, none] →
        (∀ (σ' : L2.St) H3, σ'[2]? = some (some (.int ax)) → Evl.Ev ti σ' H3 (.int i)) →
        EvRL (tCB (SoT.rSortedT K 1) (tCons (tLc (iList K (tVar 6)) (gName 9) (tTest (tOp rEq (tOp (rIxT K) (tOp (rIxL K) (tVar 0) (tVar 9)) ti) (tVar 3)))
          (tTup (tCons (tOp (rIxT K) (tOp (rIxL K) (tVar 0) (tVar 9)) (tOp (rI0 fun i j => V.int (i - j)) (tC (V.int 1)) (tVar 2))) (tCons (tVar 9) tNil))) [9]) tNil)) σ H2 (fun z => tupI (p2 z)) (sideF ps ln ax i) := by
      intro i ti n σ H2 hi e2 hσ hti
      generalize σ.getD 7 none = o7 at hσ
      subst hσ
      refine er_sortN (m := 1) ?_ (fun z _ => rfl)
      have hL2 := hL.ex panR_e (e1.trans e2)
      have hN2 := hN.ex ints_m e2
      have z := er_lcRL (K := K) (S := fun (u : Nat × Pn) => tupI (p2 (cm u.2 (1 - ax), (u.1 : Int)))) (σ := [some (.ref l), some y, some (.int ax), some (.int ln.1), some (.int ln.2.1), some (.int ln.2.2), some (.ref nr), o7, none, none, none, none]) (H := H2) (tl := tVar 6) (j := 9) (vs := [9])
        (t := tTest (tOp rEq (tOp (rIxT K) (tOp (rIxL K) (tVar 0) (tVar 9)) ti) (tVar 3))) (te := tTup (tCons (tOp (rIxT K) (tOp (rIxL K) (tVar 0) (tVar 9)) (tOp (rI0 fun i j => V.int (i - j)) (tC (V.int 1)) (tVar 2))) (tCons (tVar 9) tNil)))
        ints_m (fun z v H H' D n k h => tupI_m _ v H H' D n k h) (fun u => decide (V.int (cm u.2 i) = V.int ln.1)) (Evl.ev_var rfl) hN2 ?_ (fun _ => rfl) (fun u hu v H3 e3 hv => ?_) (fun u hu v H3 e3 hv _ => ?_)
      · have e : (fun u : Nat × Pn => decide (V.int (cm u.2 i) = V.int ln.1)) = fun u => decide (cm u.2 i = ln.1) := funext fun u => by simp
        rw [e] at z
        exact z.to fun u v H h => h
      · unfold nearF
        have := List.length_filter_le (fun u : Nat × Pn => decide (ln.2.1 ≤ cm u.2 (1 - ax)) && decide (cm u.2 (3 - ax) ≤ ln.2.2)) (enumL ps)
        rw [enumL_len] at this
        omega
      · have hv : v = .int (u.1 : Int) := hv
        subst hv
        obtain ⟨yy, hr, hev⟩ := ev_rlIx (K := K) (σ := [some (.ref l), some y, some (.int ax), some (.int ln.1), some (.int ln.2.1), some (.int ln.2.2), some (.ref nr), o7, none, some (.int (u.1 : Int)), none, none]) (te := tVar 0) (ti := tVar 9) (Evl.ev_var rfl) (hL2.ex panR_e e3) (enumL_mem (List.mem_filter.mp hu).1) (Evl.ev_var rfl)
        exact Evl.et_test (Evl.ev_op (ev_panE hev hr (hti _ _ rfl) hi) (Evl.ev_var rfl) (Evl.rv_eq rfl))
      · have hv : v = .int (u.1 : Int) := hv
        subst hv
        obtain ⟨yy, hr, hev⟩ := ev_rlIx (K := K) (σ := [some (.ref l), some y, some (.int ax), some (.int ln.1), some (.int ln.2.1), some (.int ln.2.2), some (.ref nr), o7, none, some (.int (u.1 : Int)), none, none]) (te := tVar 0) (ti := tVar 9) (Evl.ev_var rfl) (hL2.ex panR_e e3) (enumL_mem (List.mem_filter.mp hu).1) (Evl.ev_var rfl)
        exact en_tupI (ns := [cm u.2 (1 - ax), (u.1 : Int)]) (Evl.ea_cons (ev_panE hev hr (Evl.ev_op Evl.ev_c (Evl.ev_var rfl) Evl.rv_I0) (by omega)) (Evl.ea_cons (Evl.ev_var rfl) Evl.ea_nil)) (by simp)
    have snds : ∀ (n : Nat) (i : Int) (σ : L2.St) (H2 : Hp) (d : Addr), σ[n]? = some (some (.ref d)) → (∀ x z, wipe (((wipe σ [11, 9]).set 11 (some x)).set 9 (some z)) [11, 9] = wipe σ [11, 9]) → (∀ x z, (((wipe σ [11, 9]).set 11 (some x)).set 9 (some z))[9]? = some (some z)) → RL (fun z => tupI (p2 z)) H2 d (sideF ps ln ax i) →
        Evl.EvL (tLc (iList K (tVar n)) (gTup K 2 (gCons (gName 11) (gCons (gName 9) gNil))) tYes (tVar 9) [11, 9]) σ H2 (((sideF ps ln ax i).map (·.2)).map V.int) := by
      intro n i σ H2 d hn hw h9 hd
      have z := el_ofRL (er_lcT20 (K := K) (g := fun z : Int × Int => z) (te := tVar 9) (val_m fun z : Int × Int => .int z.2) (Evl.ev_var hn) hd ?_ hw fun z hz H3 e3 => en_int (Evl.ev_var (h9 _ _)))
      · rw [List.map_map]
        exact z
      · unfold sideF
        rw [(isort_perm p2 _).length_eq, List.length_map]
        have h1 := List.length_filter_le (fun u : Nat × Pn => decide (cm u.2 i = ln.1)) (nearF ps ln ax)
        have h2 : (nearF ps ln ax).length ≤ ps.length := by
          unfold nearF
          have := List.length_filter_le (fun u : Nat × Pn => decide (ln.2.1 ≤ cm u.2 (1 - ax)) && decide (cm u.2 (3 - ax) ≤ ln.2.2)) (enumL ps)
          rw [enumL_len] at this
          exact this
        omega
    refine q_asgRL (side (ax + 2) (tOp (rI0 fun i j => .int (i + j)) (tVar 2) (tC (.int 2))) 0 _ H1 (by omega) (Evl.Ex.refl _) rfl fun σ' H3 h => Evl.ev_op (Evl.ev_var h) Evl.ev_c Evl.rv_I0) fun da H2 na e2 hA => ?_
    refine q_asgRL (side ax (tVar 2) 0 _ H2 (by omega) e2 rfl fun σ' H3 h => Evl.ev_var h) fun db H3 nb e3 hB => ?_
    have eH : Evl.Ex H H3 := ((e0.trans e1).trans e2).trans e3
    refine s_retLL (snds 7 (ax + 2) [some (.ref l), some y, some (.int ax), some (.int ln.1), some (.int ln.2.1), some (.int ln.2.2), some (.ref nr), some (.ref da), some (.ref db), none, none, none] H3 da rfl (fun _ _ => rfl) (fun _ _ => rfl) (hA.ex (fun z v H H' e h => tupI_e (p2 z) v H H' e h) e3)) (snds 8 ax [some (.ref l), some y, some (.int ax), some (.int ln.1), some (.int ln.2.1), some (.int ln.2.2), some (.ref nr), some (.ref da), some (.ref db), none, none, none] H3 db rfl (fun _ _ => rfl) (fun _ _ => rfl) hB) fun pa pb c H4 e4 na nb nc ha hb hc => ?_
    exact q H4 pa pb c (eH.trans e4) ha hb hc (Evl.fresh_back eH nc) (Evl.fresh_back eH nb)
end
end GL
set_option Elab.async false
set_option linter.all false
set_option maxRecDepth 100000
set_option maxHeartbeats 8000000
/-! # the panes behind each pane at its segment -/
namespace GL
open PySem PySem.Spec PyProof.Rows L2 Geo Rel
/-- a def that is called -/
structure Cal (P : Program) (w : World) (K : PySem.W.Frag) (mg : Str → Option Value) (base : Heap) (x : Str) (l : Nat) (f : Addr) (fd : FuncData) (ps : List Str) (sp : Sp) : Prop where
  G : FnOk P w K mg base CX0 l f fd ps sp
  g : mg x = some (.ref f)
  k : PySem.W.keepIn K (.ref f) = true
  b : Binds K fd ps []
/-- the segment lies at the side ax + 2 of the pane -/
abbrev coversF (ax : Int) (p : Pn) (ln : Tr) : Prop := ln.1 = cm p (ax + 2) ∧ ln.2.1 ≤ cm p (1 - ax) ∧ cm p (3 - ax) ≤ ln.2.2
def laterF (ps : List Pn) (ax : Int) (lns : List Tr) (p : Pn) : List Int := lns.foldl (fun acc ln => if coversF ax p ln then behindF ps ln ax else acc) []
def stepsF (ps : List Pn) (ax E : Int) : List (List Int) := ps.map (laterF ps ax (linesF ps ax E))
section
variable {P : Program} {w : World} {K : PySem.W.Frag} {mg : Str → Option Value} {base : Heap}
theorem lines_len (ps : List Pn) (ax E : Int) : (linesF ps ax E).length ≤ 2 * ps.length := by
  unfold linesF
  have := foldm_len (isort t3 (ps.flatMap (sidesOf ax E))) []
  rw [(isort_perm t3 _).length_eq] at this
  have := sides_len ax E ps
  simp at *
  omega
def spSteps : Sp := fun vs H Q _ => ∃ (l : Addr) (ps : List Pn) (ax E : Int), vs = [.ref l, .int ax] ∧ Pns H l ps ∧ ps ≠ [] ∧ ps.length ≤ 1000 ∧ (0 ≤ ax ∧ ax ≤ 1) ∧ Top (fun p => cm p (ax + 2)) ps E ∧
  ∀ H' d, Evl.Ex H H' → H d = none → RL lstI H' d (stepsF ps ax E) → Q (.ref d) H'
theorem ok_steps {f f1 f2 : Addr} {fd fd1 fd2 : FuncData} (F : Fun K "_law_steps" "_law_steps" s__law_steps f fd) (C__law_lines : Cal P w K mg base "_law_lines" 1 f1 fd1 ["panes", "axis"] spLines) (C__law_at : Cal P w K mg base "_law_at" 1 f2 fd2 ["panes", "line", "axis"] (spAt K)) :
    FnOk P w K mg base CX0 2 f fd ["panes", "axis"] spSteps := by
  refine F.ok sc__law_steps (fun vs H Q E h => ?_) (fun cdv A outer s H vs Q E hr h => ?_)
  · obtain ⟨l, ps, ax, E, rfl, _⟩ := h
    rfl
  · obtain ⟨l, ps, ax, E, rfl, hL, hne, hlen, hax, hE, q⟩ := h
    refine ⟨_, (pss_cons (ps_par (i := 2) (j := 3) rfl sc__law_steps.nd rfl rfl (by decide) rfl rfl (pa_cons (pe_lst pa_nil) (pa_cons (pe_call C__law_lines.G hr (by rfl) C__law_lines.g C__law_lines.k C__law_lines.b .nil pass0 (by exact (pa_cons (pv 0) (pa_cons (pv 1) pa_nil)))) pa_nil)) (by rfl))
      (pss_cons (ps_for PassesOwn.never rfl (pi_list (pv 0)) (pg_name (i := 4) sc__law_steps.nd rfl (Or.inl rfl)) (pss_cons (ps_set (i := 5) sc__law_steps.nd rfl (.inl rfl) (pe_lst pa_nil))
      (pss_cons (ps_for PassesOwn.never rfl (pi_list (pv 3)) (pg_name (i := 6) sc__law_steps.nd rfl (Or.inl rfl)) (pss_one (ps_if (PW.pt (pw_and (pt_cmpR op_eq (pe_ix (ixTK (K := K) rfl) (pv 6) pe_int (fun _ _ => rfl)) (pe_ix (ixTK (K := K) rfl) (pv 4) (pe_op op_add (pv 1) pe_int) (fun _ _ => rfl)) (nomark _)) (pw_and (pt_cmpR op_le (pe_ix (ixTK (K := K) rfl) (pv 6) pe_int (fun _ _ => rfl)) (pe_ix (ixTK (K := K) rfl) (pv 4) (pe_op op_sub pe_int (pv 1)) (fun _ _ => rfl)) (nomark _)) (pw_and1 (pt_cmpR op_le (pe_ix (ixTK (K := K) rfl) (pv 4) (pe_op op_sub pe_int (pv 1)) (fun _ _ => rfl)) (pe_ix (ixTK (K := K) rfl) (pv 6) pe_int (fun _ _ => rfl)) (nomark _)))))) (pss_one (ps_set (i := 5) sc__law_steps.nd rfl (.inl rfl) (pe_ix (ixTK (K := K) rfl) (pe_call C__law_at.G hr (by rfl) C__law_at.g C__law_at.k C__law_at.b .nil pass0 (by exact (pa_cons (pv 0) (pa_cons (pv 6) (pa_cons (pv 1) pa_nil))))) pe_int (fun _ _ => rfl)))) pss_nil)))
      (pss_one (ps_expr (pe_bm PySem.F.plainAttrs_list PySem.F.slot_list_append PySem.F.type_list_append mt_append (pv 2) (pa_cons (pv 5) pa_nil)))))))
      (pss_one (ps_ret (pv 2))))), ?_⟩
    refine ⟨Nat.zero_le _, fun S nS => ?_⟩
    have e1 : Evl.Ex H (upd H S (.lst [])) := Evl.Ex.new nS
    have hS1 : upd H S (.lst []) S = some (.lst []) := upd_same
    generalize upd H S (.lst []) = H1 at e1 hS1
    refine ⟨.ref l, rfl, .int ax, rfl, l, ps, ax, E, rfl, hL.ex panR_e e1, hne, hlen, hax, hE, fun H2 Ln e2 nLn hLn => ⟨_, _, rfl, ?_⟩⟩
    have SL : Ln ≠ S := fun z => by
      rw [z, hS1] at nLn
      cases nLn
    have hlnl := lines_len ps ax E
    have hst : stepsF ps ax E = ps.map (laterF ps ax (linesF ps ax E)) := rfl
    generalize linesF ps ax E = lns at hLn hlnl hst
    dsimp only
    refine q_forRLn (R := panR) (zs := ps) (p := l) (Evl.ev_var rfl) (fun i σ H' => ∃ o4 o5 o6, σ = [some (.ref l), some (.int ax), some (.ref S), some (.ref Ln), o4, o5, o6] ∧ Evl.Ex H H' ∧ RL trR H' Ln lns ∧ RLx lstI H' S ((ps.take i).map (laterF ps ax lns)))
      (fun H3 e3 => ⟨_, _, _, rfl, (e1.trans e2).trans e3, hLn.ex trR_e e3, rlx_nil (e3 _ _ (e2 _ _ hS1))⟩) (fun i σ H' _ hv => ?_) (fun i z y σ H' hz hy hv => ?_) (fun σ H' hv => ?_)
    · obtain ⟨_, _, _, rfl, e3, _⟩ := hv
      exact hL.ex panR_e e3
    · obtain ⟨o4, o5, o6, rfl, e3, hLn3, hS3⟩ := hv
      have hi : i < ps.length := (List.getElem?_eq_some_iff.mp hz).1
      have step : (ps.take (i + 1)).map (laterF ps ax lns) = (ps.take i).map (laterF ps ax lns) ++ [laterF ps ax lns z] := by
        rw [List.take_add_one, hz, Option.toList_some, List.map_append]
        rfl
      have slen : ((ps.take i).map (laterF ps ax lns)).length ≤ 1000 := by
        rw [List.length_map, List.length_take]
        omega
      generalize (ps.take i).map (laterF ps ax lns) = pre at hS3 step slen
      -- later = []
      refine Evl.q_asgL (xs := []) (Evl.el_lst (vs := []) Evl.ea_nil (Nat.zero_le _)) fun b0 H4 nb0 e4 hb0 => ?_
      have bS : b0 ≠ S := fun z => by
        obtain ⟨ys, h, _⟩ := hS3
        rw [z, h] at nb0
        cases nb0
      refine q_forRLn (R := trR) (zs := lns) (p := Ln) (Evl.ev_var rfl) (fun j σ H' => ∃ b o6, σ = [some (.ref l), some (.int ax), some (.ref S), some (.ref Ln), some y, some (.ref b), o6] ∧ b ≠ S ∧ Evl.Ex H4 H' ∧ lstI ((lns.take j).foldl (fun acc ln => if coversF ax z ln then behindF ps ln ax else acc) []) (.ref b) H')
        (fun H5 e5 => ⟨b0, _, rfl, bS, e5, b0, rfl, e5 _ _ hb0⟩) (fun j σ H' _ hv => ?_) (fun j ln v σ H5 hj hln hv => ?_) (fun σ H5 hv => ?_)
      · obtain ⟨b, _, rfl, _, e5, _⟩ := hv
        exact hLn3.ex trR_e (e4.trans e5)
      · obtain ⟨b, _, rfl, bS, e5, hb⟩ := hv
        have st : (lns.take (j + 1)).foldl (fun acc ln => if coversF ax z ln then behindF ps ln ax else acc) [] = if coversF ax z ln then behindF ps ln ax else (lns.take j).foldl (fun acc ln => if coversF ax z ln then behindF ps ln ax else acc) [] := by
          rw [List.take_add_one, hj, Option.toList_some, List.foldl_append]
          rfl
        rw [st]
        generalize (lns.take j).foldl (fun acc ln => if coversF ax z ln then behindF ps ln ax else acc) [] = acc at hb
        have hy5 : panR z y H5 := panR_e _ _ _ _ (e4.trans e5) hy
        obtain ⟨x1, x2, x3, x4⟩ := ev_pans (K := K) (σ := [some (.ref l), some (.int ax), some (.ref S), some (.ref Ln), some y, some (.ref b), some v]) (n := 4) (m := 1) rfl rfl hy5 hax
        have lnx : ∀ (i : Nat) (c : Int), (t3 ln)[i]? = some c → Evl.Ev (tOp (rIxT K) (tVar 6) (tC (.int (i : Int)))) [some (.ref l), some (.int ax), some (.ref S), some (.ref Ln), some y, some (.ref b), some v] H5 (.int c) := fun i c hc => by
          obtain ⟨pp, rfl, hp⟩ := hln
          exact Evl.ev_op (Evl.ev_var rfl) Evl.ev_c (Evl.rv_ixT (SqT.of hp) (atI_nat (by rw [List.getElem?_map, hc]; rfl)))
        refine Evl.s_when (b := decide (coversF ax z ln)) ?_ (fun hb1 H6 e6 => ?_) (fun hb1 H6 e6 => ?_)
        · refine Evl.et_is (Evl.et_and (Evl.et_test (Evl.ev_op (lnx 0 ln.1 rfl) x2 (Evl.rv_eq rfl))) fun _ => Evl.et_and (Evl.et_test (Evl.ev_op (lnx 1 ln.2.1 rfl) x3 Evl.rv_I0)) fun _ => Evl.et_test (Evl.ev_op x4 (lnx 2 ln.2.2 rfl) Evl.rv_I0)) ?_
          by_cases c1 : ln.1 = cm z (ax + 2) <;> simp [coversF, c1]
        · rw [if_pos (of_decide_eq_true hb1)]
          have e06 : Evl.Ex H H6 := ((e3.trans e4).trans e5).trans e6
          refine ⟨.ref l, rfl, v, rfl, .int ax, rfl, l, ps, ln, v, ax, rfl, hL.ex panR_e e06, trR_e _ _ _ _ e6 hln, hlen, hax, fun H7 a b c e7 ha hb hc nc nb => ⟨c, _, 1, .ref b, rfl, rfl, SqT.of hc, rfl, b, _, rfl, fun z => ?_, (e5.trans e6).trans e7, b, rfl, hb⟩⟩
          obtain ⟨ys, h, _⟩ := hS3
          rw [z, e6 _ _ (e5 _ _ (e4 _ _ h))] at nb
          cases nb
        · rw [if_neg (of_decide_eq_false hb1)]
          exact ⟨b, _, rfl, bS, e5.trans e6, lstI_e _ _ _ _ e6 hb⟩
      · obtain ⟨b, o6, rfl, bS, e5, hb⟩ := hv
        rw [List.take_length] at hb
        refine s_appX (z := laterF ps ax lns z) lstI_e lstI_m (hS3.ex lstI_e (e4.trans e5)) (Evl.ev_var rfl) (Evl.ev_var rfl) (fun z => bS (V.ref.inj z)) hb (by omega) fun H6 b6 h6 => ⟨_, _, _, rfl, But1.ex nS ((e3.trans e4).trans e5) b6, ?_, step ▸ h6⟩
        obtain ⟨ys, h, _⟩ := hS3
        exact rl_but (hLn3.ex trR_e (e4.trans e5)) (e5 _ _ (e4 _ _ h)) SL b6
    · obtain ⟨o4, o5, o6, rfl, e3, hLn3, hS3⟩ := hv
      rw [List.take_length] at hS3
      exact Evl.s_ret (Evl.ev_var rfl) fun H5 e5 => q H5 S (e3.trans e5) nS (hst ▸ hS3.rl.ex lstI_e e5)
end
end GL
set_option Elab.async false
set_option linter.all false
set_option maxRecDepth 100000
set_option maxHeartbeats 4000000
/-! # comprehensions whose items are new objects, apart; dicts of numbers -/
namespace Rel
open PySem L2 Evl
/-- te gives a new object o -/
def EvNew (te : TE) (σ : L2.St) (H : Hp) (o : HO) : Prop := ∀ H1, Ex H H1 → ∀ Q : VK, (∀ p H2, H1 p = none → Ex H1 H2 → H2 p = some o → Q (.ref p) H2) → te σ H1 Q
section
variable {α : Type} {K : PySem.W.Frag} {σ : L2.St} {H : Hp} {te tl : TE} {ta : TA}
/-- over what walks through zs -/
theorem lc_new {J : It} {zs : List α} {n : Nat} {G : Hp → Prop} {Y : Nat → Hp → V → Hp → Prop} (w : Walk J n G Y) (hn : n = zs.length) (hG : ∀ H1, Ex H H1 → G H1) (o : α → HO) (hz : zs.length ≤ 40000) {g : TG} {vs : List Nat}
    (step : ∀ i z x H1 H2, zs[i]? = some z → Ex H H1 → Y i H1 x H2 → Ex H1 H2 ∧ ∀ Q' : L2.St → Hp → Prop, (∀ σ2, wipe σ2 vs = wipe σ vs → EvNew te σ2 H2 (o z) → Q' σ2 H2) → g x (wipe σ vs) H2 Q')
    {D : Addr} (nD : H D = none) {Qd : Hp → Prop} (q : ∀ (as : List Addr) H', Ex H H' → H' D = some (.lst (as.map V.ref)) → as.Nodup → (∀ b ∈ as, H b = none ∧ b ≠ D) → as.length = zs.length → (∀ (i : Nat) (b : Addr) (z : α), as[i]? = some b → zs[i]? = some z → H' b = some (o z)) → Qd H') :
    ∃ W : Nat → Nat → Hp → Prop, (∃ m, W 0 m (upd H D (.lst []))) ∧ ∀ i m H, W i m H →
      (J.stop i H ∧ Qd H) ∨ (J.go i H ∧ ∃ Nx : Hp → Prop, (∀ H', Nx H' → ∃ m', m' < m ∧ W (i + 1) m' H') ∧ ∀ x H', J.yld i H x H' → g x (wipe σ vs) H' fun σ2 H2 => wipe σ2 vs = wipe σ vs ∧ tYes σ2 H2 fun b H3 =>
        if b = true then te σ2 H3 fun y H4 => ∃ acc, H4 D = some (.lst acc) ∧ acc.length < sizeLine ∧ Nx (upd H4 D (.lst (acc ++ [y]))) else Nx H3) := by
  subst hn
  refine lc_it w (fun i H1 => Ex H H1 ∧ ∃ as : List Addr, H1 D = some (.lst (as.map V.ref)) ∧ as.Nodup ∧ (∀ b ∈ as, H b = none ∧ b ≠ D) ∧ as.length = i ∧ ∀ (k : Nat) (b : Addr) (z : α), as[k]? = some b → zs[k]? = some z → H1 b = some (o z)) ⟨Ex.new nD, [], upd_same, .nil, by simp, rfl, by simp⟩ (fun i H1 _ p => hG H1 p.1) ?_ ?_
  · rintro i x H1 H2 hi ⟨e1, as, hD, hnd, hf, hl, hc⟩ hy
    have hzi : zs[i]? = some zs[i] := List.getElem?_eq_getElem hi
    obtain ⟨e2, st⟩ := step i zs[i] x H1 H2 hzi e1 hy
    refine st _ fun σ2 hw he => ⟨hw, ?_⟩
    show te σ2 H2 _
    refine he H2 (Ex.refl _) _ fun b H4 nb e4 gb => ?_
    have D4 : H4 D = some (.lst (as.map V.ref)) := e4 _ _ (e2 _ _ hD)
    have bD : b ≠ D := fun z => by
      rw [z, e2 _ _ hD] at nb
      cases nb
    have nb1 : H b = none := fresh_back (e1.trans e2) nb
    have bas : b ∉ as := fun hb => by
      obtain ⟨k, hk, ek⟩ := List.getElem_of_mem hb
      have g := e2 _ _ (hc k b (zs[k]'(by omega)) (by rw [List.getElem?_eq_getElem hk, ek]) (List.getElem?_eq_getElem (by omega)))
      rw [nb] at g
      cases g
    refine ⟨as.map V.ref, D4, ?_, ((e1.trans e2).trans e4).mut nD, as ++ [b], by rw [upd_same, List.map_append]; rfl, ?_, ?_, by rw [List.length_append, hl]; rfl, ?_⟩
    · rw [List.length_map]
      exact Nat.lt_of_lt_of_le (show as.length < 100000 by omega) (by decide)
    · refine List.nodup_append.mpr ⟨hnd, List.nodup_cons.mpr ⟨List.not_mem_nil, .nil⟩, fun u hu v hv euv => ?_⟩
      obtain rfl := List.mem_singleton.mp hv
      exact bas (euv ▸ hu)
    · intro u hu
      rcases List.mem_append.mp hu with hu | hu
      · exact hf u hu
      · rw [List.mem_singleton.mp hu]
        exact ⟨nb1, bD⟩
    · intro k u z hk hz2
      rcases Nat.lt_or_ge k as.length with hlt | hge
      · rw [List.getElem?_append_left hlt] at hk
        rw [upd_ne (hf u (List.mem_of_getElem? hk)).2]
        exact e4 _ _ (e2 _ _ (hc k u z hk hz2))
      · rw [List.getElem?_append_right hge] at hk
        have ek : k = i := by
          have := (List.getElem?_eq_some_iff.mp hk).1
          rw [List.length_singleton] at this
          omega
        subst ek
        rw [hl, Nat.sub_self] at hk
        obtain rfl : b = u := Option.some.inj hk
        rw [upd_ne bD, Option.some.inj (hz2.symm.trans hzi)]
        exact gb
  · rintro H1 ⟨e1, as, hD, hnd, hf, hl, hc⟩
    exact q as H1 e1 hD hnd hf hl hc
/-- a list of new objects -/
def EvNews (te : TE) (σ : L2.St) (H : Hp) (os : List HO) : Prop := ∀ H1, Ex H H1 → ∀ Q : VK, (∀ (p : Addr) (as : List Addr) (H2 : Hp), H1 p = none → Ex H1 H2 → H2 p = some (.lst (as.map V.ref)) → as.Nodup → (∀ b ∈ as, H1 b = none ∧ b ≠ p) → as.length = os.length →
  (∀ (i : Nat) (b : Addr) (o : HO), as[i]? = some b → os[i]? = some o → H2 b = some o) → Q (.ref p) H2) → te σ H1 Q
theorem en_lcRL {R : α → V → Hp → Prop} (mR : MonoE R) {zs : List α} {a : Addr} {j : Nat} {vs : List Nat} (o : α → HO) (h : Ev tl σ H (.ref a)) (hx : RL R H a zs) (hz : zs.length ≤ 40000) (hw : ∀ x, wipe ((wipe σ vs).set j (some x)) vs = wipe σ vs)
    (he : ∀ z ∈ zs, ∀ y H1, Ex H H1 → R z y H1 → EvNew te ((wipe σ vs).set j (some y)) H1 (o z)) : EvNews (tLc (iList K tl) (gName j) tYes te vs) σ H (zs.map o) := by
  obtain ⟨ys, hl, hp⟩ := hx
  intro H1 e Q q
  refine h H1 e _ fun H2 e1 => ⟨a, rfl, ⟨ys, sq_of ((e.trans e1) _ _ hl)⟩, fun Dl hD => ?_⟩
  refine lc_new (H := H2) (walk_list (K := K) (a := a) (xs := ys)) (pr_len hp) (fun H3 e2 => sq_of (((e.trans e1).trans e2) _ _ hl)) o hz (fun i z x H3 H4 hzi hH hy => ?_) hD fun as H3 e2 h3 hnd hf hl2 hc => q Dl as H3 (fresh_back e1 hD) (e1.trans e2) h3 hnd (fun b hb => ⟨fresh_back e1 (hf b hb).1, (hf b hb).2⟩) (by rw [List.length_map]; exact hl2) (fun i b ob h1 h2 => ?_)
  · obtain ⟨rfl, hy⟩ := hy
    obtain ⟨y, hy2, hr⟩ := pr_at hp hzi
    obtain rfl : y = x := Option.some.inj (hy2.symm.trans hy)
    exact ⟨Ex.refl _, fun Q' k => k _ (hw _) fun H5 e5 Q q => he z (List.mem_of_getElem? hzi) y H2 (e.trans e1) (mR _ _ _ _ (e.trans e1) hr) H5 (hH.trans e5) Q q⟩
  · rw [List.getElem?_map] at h2
    cases c : zs[i]? with
    | none => rw [c] at h2; cases h2
    | some z =>
      rw [c] at h2
      rw [hc i b z h1 c]
      exact h2
end
/-- a dict whose keys are the numbers ks, in that sequence, all True -/
def dkv (ks : List Int) : List (L2.Key × V) := ks.map fun k => (.inl k, .bl true)
def addKey (ks : List Int) (k : Int) : List Int := if k ∈ ks then ks else ks ++ [k]
theorem dkv_any (ks : List Int) (k : Int) : ((dkv ks).any fun kv => decide (kv.1 = (.inl k : L2.Key))) = decide (k ∈ ks) := by
  induction ks with
  | nil => rfl
  | cons x ks ih =>
    show (decide ((.inl x : L2.Key) = .inl k) || _) = _
    rw [show (List.map (fun k => ((.inl k : L2.Key), V.bl true)) ks) = dkv ks from rfl, ih]
    by_cases c : x = k
    · simp [c]
    · have c2 : ¬ k = x := fun e => c e.symm
      by_cases d : k ∈ ks
      · simp [d]
      · simp [c, c2, d]
theorem putK_dkv (ks : List Int) (k : Int) : putK (dkv ks) (.inl k) (.bl true) = dkv (addKey ks k) := by
  unfold putK addKey
  rw [dkv_any]
  by_cases c : k ∈ ks
  · rw [if_pos (decide_eq_true c), if_pos c]
    unfold dkv
    rw [List.map_map]
    refine List.map_congr_left fun x hx => ?_
    show (if (Sum.inl x : L2.Key) = .inl k then ((Sum.inl x : L2.Key), V.bl true) else (Sum.inl x, V.bl true)) = _
    split <;> rfl
  · rw [if_neg (by rw [decide_eq_false c]; decide), if_neg c]
    unfold dkv
    rw [List.map_append]
    rfl
theorem dkv_len (ks : List Int) : (dkv ks).length = ks.length := List.length_map _
theorem addKey_len (ks : List Int) (k : Int) : (addKey ks k).length ≤ ks.length + 1 := by
  unfold addKey
  split <;> simp
theorem valV_dkv (ks : List Int) (k : Int) : (valV (dkv ks) (.inl k)).isSome = decide (k ∈ ks) := by rw [← valV_any, dkv_any]
end Rel
set_option Elab.async false
set_option linter.all false
set_option maxRecDepth 100000
set_option maxHeartbeats 8000000
/-! # all the panes behind each pane -/
namespace GL
open PySem PySem.Spec PyProof.Rows L2 Geo Rel
/-- at F a list of dicts, apart, whose keys are the numbers of acc -/
structure Found (H : Hp) (F : Addr) (ds : List Addr) (acc : List (List Int)) : Prop where
  l : H F = some (.lst (ds.map V.ref))
  nd : ds.Nodup
  len : ds.length = acc.length
  at_ : ∀ (i : Nat) (d : Addr) (ks : List Int), ds[i]? = some d → acc[i]? = some ks → H d = some (.dK (dkv ks))
def addAll (ks l : List Int) : List Int := l.foldl addKey ks
def bLater (s : Nat) (acc : List (List Int)) (t : Int) : List (List Int) := acc.set s (addAll (addKey (acc.getD s []) t) (acc.getD t.toNat []))
def bSpot (steps : List (List Int)) (acc : List (List Int)) (s : Nat) : List (List Int) := (steps.getD s []).foldl (bLater s) acc
/-- from the last pane to the first -/
def orderF (ps : List Pn) (ax : Int) : List (Int × Int) := isort p2 ((enumL ps).map fun u => (0 - cm u.2 ax, (u.1 : Int)))
def behindsF (ps : List Pn) (ax E : Int) : List (List Int) := (orderF ps ax).foldl (fun acc z => bSpot (stepsF ps ax E) acc z.2.toNat) (ps.map fun _ => [])
theorem Found.ex {H H' : Hp} {F : Addr} {ds : List Addr} {acc : List (List Int)} (h : Found H F ds acc) (e : Evl.Ex H H') : Found H' F ds acc := ⟨e _ _ h.l, h.nd, h.len, fun i d ks h1 h2 => e _ _ (h.at_ i d ks h1 h2)⟩
theorem Found.get {H : Hp} {F : Addr} {ds : List Addr} {acc : List (List Int)} (h : Found H F ds acc) {i : Nat} (hi : i < acc.length) : ∃ d, ds[i]? = some d ∧ H d = some (.dK (dkv (acc.getD i []))) := by
  have h2 : i < ds.length := by
    rw [h.len]
    exact hi
  refine ⟨ds[i], List.getElem?_eq_getElem h2, h.at_ i _ _ (List.getElem?_eq_getElem h2) ?_⟩
  rw [List.getD_eq_getElem?_getD, List.getElem?_eq_getElem hi]
  rfl
theorem Found.put {H : Hp} {F d : Addr} {ds : List Addr} {acc : List (List Int)} {s : Nat} {ks : List Int} (h : Found H F ds acc) (hd : ds[s]? = some d) : Found (upd H d (.dK (dkv ks))) F ds (acc.set s ks) := by
  have hs : s < acc.length := by
    rw [← h.len]
    exact (List.getElem?_eq_some_iff.mp hd).1
  obtain ⟨d', hd', hk⟩ := h.get hs
  obtain rfl : d' = d := Option.some.inj (hd'.symm.trans hd)
  have Fd : F ≠ d' := fun z => by
    rw [← z, h.l] at hk
    cases hk
  refine ⟨by rw [upd_ne Fd]; exact h.l, h.nd, by rw [List.length_set]; exact h.len, fun i b u h1 h2 => ?_⟩
  by_cases c : s = i
  · subst c
    rw [List.getElem?_set_self hs] at h2
    obtain rfl := Option.some.inj h2
    obtain rfl : d' = b := Option.some.inj (hd.symm.trans h1)
    exact upd_same
  · rw [List.getElem?_set_ne c] at h2
    have bd : b ≠ d' := fun z => by
      subst z
      obtain ⟨i1, e1⟩ := List.getElem?_eq_some_iff.mp hd
      obtain ⟨i2, e2⟩ := List.getElem?_eq_some_iff.mp h1
      exact c ((List.getElem_inj h.nd).mp (e1.trans e2.symm))
    rw [upd_ne bd]
    exact h.at_ i b u h1 h2
/-- all but the dicts is as it was -/
def ButD (ds : List Addr) (H H' : Hp) : Prop := ∀ a o, a ∉ ds → H a = some o → H' a = some o
theorem ButD.refl (ds : List Addr) (H : Hp) : ButD ds H H := fun _ _ _ h => h
theorem ButD.tr {ds : List Addr} {H H1 H2 : Hp} (x : ButD ds H H1) (y : ButD ds H1 H2) : ButD ds H H2 := fun a o n h => y a o n (x a o n h)
theorem ButD.ex {ds : List Addr} {H H1 : Hp} (e : Evl.Ex H H1) : ButD ds H H1 := fun a o _ h => e a o h
theorem ButD.upd {ds : List Addr} {H : Hp} {d : Addr} {s : Nat} {o : HO} (h : ds[s]? = some d) : ButD ds H (upd H d o) := fun a u n e => by
  rw [upd_ne (fun z => n (by rw [z]; exact List.mem_of_getElem? h))]
  exact e
theorem Found.no_lst {H : Hp} {F a : Addr} {ds : List Addr} {acc : List (List Int)} (h : Found H F ds acc) {xs : List V} (ha : H a = some (.lst xs)) : a ∉ ds := fun m => by
  obtain ⟨i, hi⟩ := List.getElem?_of_mem m
  have hl : i < acc.length := by
    rw [← h.len]
    exact (List.getElem?_eq_some_iff.mp hi).1
  obtain ⟨d, hd, hk⟩ := h.get hl
  obtain rfl : d = a := Option.some.inj (hd.symm.trans hi)
  rw [ha] at hk
  cases hk
theorem Found.no_tup {H : Hp} {F a : Addr} {ds : List Addr} {acc : List (List Int)} (h : Found H F ds acc) {xs : List V} (ha : H a = some (.tup xs)) : a ∉ ds := fun m => by
  obtain ⟨i, hi⟩ := List.getElem?_of_mem m
  have hl : i < acc.length := by
    rw [← h.len]
    exact (List.getElem?_eq_some_iff.mp hi).1
  obtain ⟨d, hd, hk⟩ := h.get hl
  obtain rfl : d = a := Option.some.inj (hd.symm.trans hi)
  rw [ha] at hk
  cases hk
theorem Found.lists {H H' : Hp} {F l : Addr} {ds : List Addr} {acc rs : List (List Int)} (h : Found H F ds acc) (b : ButD ds H H') (hl : RL lstI H l rs) : RL lstI H' l rs := by
  obtain ⟨ys, h1, h2⟩ := hl
  refine ⟨ys, b _ _ (h.no_lst h1) h1, ?_⟩
  clear h1
  induction h2 with
  | nil => exact .nil
  | cons q t ih =>
    obtain ⟨p, e, hp⟩ := q
    exact .cons ⟨p, e, b _ _ (h.no_lst hp) hp⟩ ih
theorem Found.tups {α : Type} {g : α → List Int} {zs : List α} {H H' : Hp} {F l : Addr} {ds : List Addr} {acc : List (List Int)} (h : Found H F ds acc) (b : ButD ds H H') (hl : RL (fun z => tupI (g z)) H l zs) : RL (fun z => tupI (g z)) H' l zs := by
  obtain ⟨ys, h1, h2⟩ := hl
  refine ⟨ys, b _ _ (h.no_lst h1) h1, ?_⟩
  clear h1
  induction h2 with
  | nil => exact .nil
  | cons q t ih =>
    obtain ⟨p, e, hp⟩ := q
    exact .cons ⟨p, e, b _ _ (h.no_tup hp) hp⟩ ih
theorem upd_self {H : Hp} {d : Addr} {o : HO} (h : H d = some o) : upd H d o = H := funext fun a => by
  by_cases c : a = d
  · rw [c, upd_same, h]
  · rw [upd_ne c]
theorem upd_upd {H : Hp} {d : Addr} {o u : HO} : upd (upd H d o) d u = upd H d u := funext fun a => by
  by_cases c : a = d
  · rw [c, upd_same, upd_same]
  · rw [upd_ne c, upd_ne c, upd_ne c]
theorem upd_comm {H : Hp} {d e : Addr} {o u : HO} (n : d ≠ e) : upd (upd H d o) e u = upd (upd H e u) d o := funext fun a => by
  by_cases c : a = d
  · subst c
    rw [upd_ne n, upd_same, upd_same]
  · by_cases c2 : a = e
    · subst c2
      rw [upd_same, upd_ne c, upd_same]
    · rw [upd_ne c2, upd_ne c, upd_ne c, upd_ne c2]
/-- what stands behind a pane are panes whose side ax is its side ax + 2 -/
theorem mem_later {ps : List Pn} {ax : Int} {lns : List Tr} {p : Pn} {t : Int} (h : t ∈ laterF ps ax lns p) : ∃ (j : Nat) (q : Pn), t = (j : Int) ∧ ps[j]? = some q ∧ cm q ax = cm p (ax + 2) := by
  have go : ∀ (lns : List Tr) (acc : List Int), (∀ t ∈ acc, ∃ (j : Nat) (q : Pn), t = (j : Int) ∧ ps[j]? = some q ∧ cm q ax = cm p (ax + 2)) → ∀ t ∈ lns.foldl (fun acc ln => if coversF ax p ln then behindF ps ln ax else acc) acc, ∃ (j : Nat) (q : Pn), t = (j : Int) ∧ ps[j]? = some q ∧ cm q ax = cm p (ax + 2) := by
    intro lns
    induction lns with
    | nil => exact fun acc h => h
    | cons ln lns ih =>
      intro acc hacc
      rw [List.foldl_cons]
      refine ih _ ?_
      by_cases c : coversF ax p ln
      · rw [if_pos c]
        intro t ht
        obtain ⟨z, hz, rfl⟩ := List.mem_map.mp ht
        have hz := (isort_perm p2 _).mem_iff.mp hz
        obtain ⟨u, hu, rfl⟩ := List.mem_map.mp hz
        obtain ⟨h1, h2⟩ := List.mem_filter.mp hu
        exact ⟨u.1, u.2, rfl, enumL_mem (List.mem_filter.mp h1).1, (of_decide_eq_true h2).trans c.1⟩
      · rw [if_neg c]
        exact hacc
  exact go lns [] (by simp) t h
theorem addAll_len (l : List Int) : ∀ ks : List Int, (addAll ks l).length ≤ ks.length + l.length := by
  induction l with
  | nil => exact fun ks => Nat.le_refl _
  | cons x l ih =>
    intro ks
    have := ih (addKey ks x)
    have := addKey_len ks x
    show (addAll (addKey ks x) l).length ≤ _
    rw [List.length_cons]
    omega
theorem nodup_len {α : Type} [DecidableEq α] : ∀ (l m : List α), l.Nodup → (∀ x ∈ l, x ∈ m) → l.length ≤ m.length
  | [], _, _, _ => Nat.zero_le _
  | x :: l, m, h, k => by
    obtain ⟨h1, h2⟩ := List.nodup_cons.mp h
    have hx := k x List.mem_cons_self
    have ih := nodup_len l (m.erase x) h2 fun y hy => (List.mem_erase_of_ne (fun e : y = x => h1 (by rw [← e]; exact hy))).mpr (k y (List.mem_cons_of_mem _ hy))
    rw [List.length_erase_of_mem hx] at ih
    have := List.length_pos_of_mem hx
    rw [List.length_cons]
    omega
/-- keys are panes, each once -/
def KeysOk (n : Nat) (ks : List Int) : Prop := ks.Nodup ∧ ∀ k ∈ ks, 0 ≤ k ∧ k < n
theorem KeysOk.len {n : Nat} {ks : List Int} (h : KeysOk n ks) : ks.length ≤ n := by
  have nd : (ks.map Int.toNat).Nodup := by
    refine List.pairwise_map.mpr (List.Pairwise.imp_of_mem ?_ h.1)
    intro a b ha hb hab e
    have := h.2 a ha
    have := h.2 b hb
    exact hab (by omega)
  have sub : ks.map Int.toNat ⊆ List.range n := by
    intro x hx
    obtain ⟨k, hk, rfl⟩ := List.mem_map.mp hx
    have := h.2 k hk
    exact List.mem_range.mpr (by omega)
  have := nodup_len _ _ nd fun x hx => sub hx
  rw [List.length_map, List.length_range] at this
  exact this
theorem KeysOk.add {n : Nat} {ks : List Int} {k : Int} (h : KeysOk n ks) (hk : 0 ≤ k ∧ k < n) : KeysOk n (addKey ks k) := by
  unfold addKey
  split
  · exact h
  · rename_i c
    refine ⟨List.nodup_append.mpr ⟨h.1, List.nodup_cons.mpr ⟨List.not_mem_nil, .nil⟩, fun u hu v hv e => ?_⟩, fun x hx => ?_⟩
    · obtain rfl := List.mem_singleton.mp hv
      exact c (e ▸ hu)
    · rcases List.mem_append.mp hx with hx | hx
      · exact h.2 x hx
      · obtain rfl := List.mem_singleton.mp hx
        exact hk
theorem KeysOk.all {n : Nat} : ∀ {l ks : List Int}, KeysOk n ks → (∀ k ∈ l, 0 ≤ k ∧ k < n) → KeysOk n (addAll ks l)
  | [], _, h, _ => h
  | k :: l, ks, h, hl => KeysOk.all (l := l) (h.add (hl k List.mem_cons_self)) fun x hx => hl x (List.mem_cons_of_mem _ hx)
end GL
set_option Elab.async false
set_option linter.all false
set_option maxRecDepth 100000
set_option maxHeartbeats 8000000
namespace GL
open PySem PySem.Spec PyProof.Rows L2 Geo Rel
section
variable {K : PySem.W.Frag} {σ : L2.St} {H : Hp} {D : Ends} {F : Addr} {ds : List Addr} {acc : List (List Int)} {n s : Nat} {t : Int}
/-- found[spot][t] = True -/
theorem s_putF {m : Nat} (hF : Found H F ds acc) (h3 : σ[3]? = some (some (.ref F))) (h4 : σ[4]? = some (some (.int (s : Int)))) (hx : σ[m]? = some (some (.int t))) (hs : s < acc.length) (hlen : (acc.getD s []).length ≤ 1000)
    (k : ∀ d, ds[s]? = some d → D.nx σ (upd H d (.dK (dkv (addKey (acc.getD s []) t))))) : tAsg (tC (.bl true)) (gSub (tOp (rIxL K) (tVar 3) (tVar 4)) (tVar m) rSetD) D σ H := by
  obtain ⟨d, hd, hk⟩ := hF.get hs
  refine ⟨.ref F, h3, .int (s : Int), h4, F, _, (s : Int), .ref d, rfl, rfl, SqL.of hF.l, atI_nat (by rw [List.getElem?_map, hd]; rfl), .int t, hx, ?_⟩
  refine ⟨d, _, rfl, DPut.k (k := .inl t) hk ?_, ?_⟩
  · rw [dkv_len]
    exact small1000 hlen
  · rw [putK_dkv]
    exact k d hd
/-- for further in found[t]: found[spot][further] = True -/
theorem s_allF {σ0 : V → L2.St} (hF : Found H F ds acc) (h3 : ∀ v, (σ0 v)[3]? = some (some (.ref F))) (h4 : ∀ v, (σ0 v)[4]? = some (some (.int (s : Int)))) (h6 : ∀ v, (σ0 v)[6]? = some (some (.int t))) (h7 : ∀ v, (σ0 v)[7]? = some (some v)) (hset : ∀ v v', (σ0 v).set 7 (some v') = σ0 v')
    {σi : L2.St} (i3 : σi[3]? = some (some (.ref F))) (i4 : σi[4]? = some (some (.int (s : Int)))) (i6 : σi[6]? = some (some (.int t))) (iset : ∀ v', σi.set 7 (some v') = σ0 v') {j : Nat} (ht : t = (j : Int)) (hj : j < acc.length) (hs : s < acc.length) (hne : j ≠ s)
    (ok : KeysOk acc.length (acc.getD s [])) (ok2 : KeysOk acc.length (acc.getD j [])) (hl : acc.length ≤ 1000)
    (k : ∀ d σ', ds[s]? = some d → (σ' = σi ∨ ∃ v, σ' = σ0 v) → D.nx σ' (upd H d (.dK (dkv (addAll (acc.getD s []) (acc.getD j [])))))) :
    tLock (tFor (iKeys (tOp (rIxL K) (tVar 3) (tVar 6))) (gName 7) (tAsg (tC (.bl true)) (gSub (tOp (rIxL K) (tVar 3) (tVar 4)) (tVar 7) rSetD))) D σi H := by
  obtain ⟨d, hd, hk⟩ := hF.get hs
  obtain ⟨d2, hd2, hk2⟩ := hF.get hj
  have dd : d ≠ d2 := fun z => by
    subst z
    obtain ⟨i1, e1⟩ := List.getElem?_eq_some_iff.mp hd
    obtain ⟨i2, e2⟩ := List.getElem?_eq_some_iff.mp hd2
    exact hne ((List.getElem_inj hF.nd).mp (e2.trans e1.symm))
  have Fd : F ≠ d := fun z => by
    rw [← z, hF.l] at hk
    cases hk
  have Fd2 : F ≠ d2 := fun z => by
    rw [← z, hF.l] at hk2
    cases hk2
  generalize acc.getD s [] = ks at hk ok k
  generalize acc.getD j [] = k2 at hk2 ok2 k
  refine ⟨d2, _, hk2, trivial, fun od => ?_⟩
  have hl2 : (upd H d2 (.frz od (.dK (dkv k2)))) F = some (.lst (ds.map V.ref)) := by
    rw [upd_ne Fd2]
    exact hF.l
  have hkd : (upd H d2 (.frz od (.dK (dkv k2)))) d = some (.dK (dkv ks)) := by
    rw [upd_ne dd]
    exact hk
  have e6 : ∃ w, σi[6]? = some (some w) ∧ w = .int (j : Int) := ⟨_, i6, by rw [ht]⟩
  obtain ⟨w, e6a, e6b⟩ := e6
  subst e6b
  refine ⟨.ref F, i3, .int (j : Int), e6a, F, _, (j : Int), .ref d2, rfl, rfl, SqL.of hl2, atI_nat (by rw [List.getElem?_map, hd2]; rfl), d2, od, rfl, .inl ⟨dkv k2, upd_same, ?_⟩⟩
  refine for_it walk_keys (fun i σ' H' => (σ' = σi ∨ ∃ v, σ' = σ0 v) ∧ H' = upd (upd H d2 (.frz od (.dK (dkv k2)))) d (.dK (dkv (addAll ks (k2.take i))))) ⟨.inl rfl, ?_⟩ (fun i σ' H' hi q => ?_) (fun i x σ' H' H2 hi q y => ?_) (fun σ' H' q => ?_)
  · exact (upd_self hkd).symm
  · obtain ⟨_, rfl⟩ := q
    rw [upd_ne dd.symm, upd_same]
  · obtain ⟨hσ, rfl⟩ := q
    obtain ⟨rfl, key, v, hy, rfl⟩ := y
    rw [dkv_len] at hi
    have hk2i : k2[i]? = some k2[i] := List.getElem?_eq_getElem hi
    have ek : key = .inl k2[i] := by
      unfold dkv at hy
      rw [List.getElem?_map, hk2i] at hy
      cases hy
      rfl
    subst ek
    show tAsg _ _ _ (σ'.set 7 (some (.int k2[i]))) _
    have es : σ'.set 7 (some (.int k2[i])) = σ0 (.int k2[i]) := by
      rcases hσ with rfl | ⟨v, rfl⟩
      · exact iset _
      · exact hset _ _
    rw [es]
    have okp : KeysOk acc.length (addAll ks (k2.take i)) := ok.all fun x hx => ok2.2 x (List.mem_of_mem_take hx)
    have step : addAll ks (k2.take (i + 1)) = addKey (addAll ks (k2.take i)) k2[i] := by
      unfold addAll
      rw [List.take_add_one, hk2i, Option.toList_some, List.foldl_append]
      rfl
    rw [step]
    generalize addAll ks (k2.take i) = kp at okp
    refine ⟨.ref F, h3 _, .int (s : Int), h4 _, F, _, (s : Int), .ref d, rfl, rfl, SqL.of (by rw [upd_ne Fd]; exact hl2), atI_nat (by rw [List.getElem?_map, hd]; rfl), .int k2[i], h7 _, d, _, rfl, DPut.k (k := .inl k2[i]) upd_same ?_, .inr ⟨_, rfl⟩, ?_⟩
    · rw [dkv_len]
      exact small1000 (Nat.le_trans okp.len hl)
    · rw [putK_dkv, upd_upd]
  · obtain ⟨hσ, rfl⟩ := q
    rw [dkv_len, List.take_length]
    refine ⟨by rw [upd_ne dd.symm, upd_same], ?_⟩
    rw [upd_comm dd, upd_upd, upd_self hk2]
    exact k d σ' hd hσ
end
end GL
set_option Elab.async false
set_option linter.all false
set_option maxRecDepth 100000
set_option maxHeartbeats 8000000
namespace GL
open PySem PySem.Spec PyProof.Rows L2 Geo Rel
structure AccOk (n : Nat) (acc : List (List Int)) : Prop where
  len : acc.length = n
  ok : ∀ i, KeysOk n (acc.getD i [])
theorem AccOk.set {n s : Nat} {acc : List (List Int)} {ks : List Int} (h : AccOk n acc) (k : KeysOk n ks) : AccOk n (acc.set s ks) := by
  refine ⟨by rw [List.length_set]; exact h.len, fun i => ?_⟩
  by_cases c : i = s
  · subst c
    by_cases hl : i < acc.length
    · rw [List.getD_eq_getElem?_getD, List.getElem?_set_self hl]
      exact k
    · have := h.ok i
      rw [List.set_eq_of_length_le (by omega)]
      exact this
  · rw [List.getD_eq_getElem?_getD, List.getElem?_set_ne (Ne.symm c), ← List.getD_eq_getElem?_getD]
    exact h.ok i
theorem getD_set {acc : List (List Int)} {s : Nat} {ks : List Int} (h : s < acc.length) : (acc.set s ks).getD s [] = ks := by
  rw [List.getD_eq_getElem?_getD, List.getElem?_set_self h]
  rfl
theorem getD_setne {acc : List (List Int)} {s i : Nat} {ks : List Int} (h : i ≠ s) : (acc.set s ks).getD i [] = acc.getD i [] := by
  rw [List.getD_eq_getElem?_getD, List.getElem?_set_ne (Ne.symm h), ← List.getD_eq_getElem?_getD]
theorem ButD.ex' {ds : List Addr} {H H2 H' : Hp} (n : ∀ d ∈ ds, H d = none) (e : Evl.Ex H H2) (b : ButD ds H2 H') : Evl.Ex H H' := fun a o h => b a o (fun m => by
  rw [n a m] at h
  cases h) (e a o h)
theorem p2_e : MonoE fun z : Int × Int => tupI (p2 z) := fun z v H H' e h => tupI_e (p2 z) v H H' e h
theorem order_mem {ps : List Pn} {ax : Int} {z : Int × Int} (h : z ∈ orderF ps ax) : ∃ (s : Nat) (p : Pn), z.2 = (s : Int) ∧ ps[s]? = some p ∧ z.1 = 0 - cm p ax := by
  have h := (isort_perm p2 _).mem_iff.mp h
  obtain ⟨u, hu, rfl⟩ := List.mem_map.mp h
  exact ⟨u.1, u.2, rfl, enumL_mem hu, rfl⟩
theorem order_len (ps : List Pn) (ax : Int) : (orderF ps ax).length = ps.length := by
  unfold orderF
  rw [(isort_perm p2 _).length_eq, List.length_map, enumL_len]
section
variable {P : Program} {w : World} {K : PySem.W.Frag} {mg : Str → Option Value} {base : Heap}
def spBehind : Sp := fun vs H Q _ => ∃ (l : Addr) (ps : List Pn) (ax E : Int), vs = [.ref l, .int ax] ∧ Pns H l ps ∧ ps ≠ [] ∧ ps.length ≤ 1000 ∧ (0 ≤ ax ∧ ax ≤ 1) ∧ Top (fun p => cm p (ax + 2)) ps E ∧ (∀ p ∈ ps, cm p ax < cm p (ax + 2)) ∧
  ∀ H' d ds, Evl.Ex H H' → H d = none → Found H' d ds (behindsF ps ax E) → AccOk ps.length (behindsF ps ax E) → Q (.ref d) H'
theorem ok_behind {f f1 : Addr} {fd fd1 : FuncData} (F : Fun K "_law_behind" "_law_behind" s__law_behind f fd) (B : BN mg) (C__law_steps : Cal P w K mg base "_law_steps" 2 f1 fd1 ["panes", "axis"] spSteps) :
    FnOk P w K mg base CX0 3 f fd ["panes", "axis"] spBehind := by
  refine F.ok sc__law_behind (fun vs H Q E h => ?_) (fun cdv A outer s H vs Q E hr h => ?_)
  · obtain ⟨l, ps, ax, E, rfl, _⟩ := h
    rfl
  · obtain ⟨l, ps, ax, E, rfl, hL, hne, hlen, hax, hE, hpos, q⟩ := h
    refine ⟨_, (pss_cons (ps_par (i := 2) (j := 3) rfl sc__law_behind.nd rfl rfl (by decide) rfl rfl (pa_cons (pe_call C__law_steps.G hr (by rfl) C__law_steps.g C__law_steps.k C__law_steps.b .nil pass0 (by exact (pa_cons (pv 0) (pa_cons (pv 1) pa_nil)))) (pa_cons (pe_lc (own := [("one", 8)]) (g := gName 8) (tt := tYes) rfl sc__law_behind.nd (pi_list (pv 0)) (blkOk_by (N := n__law_behind) (sc := (defScope s__law_behind)) (by decide +kernel)) (fun _ _ _ _ _ => (pg_name (i := 8) sc__law_behind.nd rfl (Or.inl rfl))) (fun _ _ _ _ _ => pts_nil) (fun _ _ _ _ _ => pe_dnewK)) pa_nil)) (by rfl))
      (pss_cons (ps_for PassesOwn.never rfl (pi_list (pe_callB (SoT.cr_sortedT (m := 1)) (by rfl) B.sorted_ (by decide +kernel) (pa_cons (pe_lc (own := [("spot", 4), ("one", 8)]) (g := gTup K 2 (gCons (gName 4) (gCons (gName 8) gNil))) (tt := tYes) rfl sc__law_behind.nd (pi_enum (by rfl) B.enumerate_ (pa_cons (pv 0) pa_nil)) (blkOk_by (N := n__law_behind) (sc := (defScope s__law_behind)) (by decide +kernel)) (fun _ _ _ _ _ => (pg_tup rfl (pgs_cons (pg_name (i := 4) sc__law_behind.nd rfl (Or.inl rfl)) (pgs_cons (pg_name (i := 8) sc__law_behind.nd rfl (Or.inl rfl)) pgs_nil)))) (fun _ _ _ _ _ => pts_nil) (fun _ _ _ _ _ => (pe_tup (pa_cons (pe_op op_sub pe_int (pe_ix (ixTK (K := K) rfl) (pv 8) (pv 1) (fun _ _ => rfl))) (pa_cons (pv 4) pa_nil))))) pa_nil))) (pg_tup rfl (pgs_cons (pg_name (i := 5) sc__law_behind.nd rfl (Or.inl rfl)) (pgs_cons (pg_name (i := 4) sc__law_behind.nd rfl (Or.inl rfl)) pgs_nil))) (pss_one (ps_for PassesOwn.never rfl (pi_list (pe_ix (ixLK (K := K) rfl) (pv 2) (pv 4) (fun _ _ => rfl))) (pg_name (i := 6) sc__law_behind.nd rfl (Or.inl rfl)) (pss_cons (ps_asg pe_bl (pg_sub (pe_ix (ixLK (K := K) rfl) (pv 3) (pv 4) (fun _ _ => rfl)) (pv 6) (set_dict (hu_of hr))))
      (pss_one (ps_lock (ps_for PassesOwn.never rfl (pi_keys (pe_ix (ixLK (K := K) rfl) (pv 3) (pv 6) (fun _ _ => rfl))) (pg_name (i := 7) sc__law_behind.nd rfl (Or.inl rfl)) (pss_one (ps_asg pe_bl (pg_sub (pe_ix (ixLK (K := K) rfl) (pv 3) (pv 4) (fun _ _ => rfl)) (pv 7) (set_dict (hu_of hr))))))))))))
      (pss_one (ps_ret (pv 3))))), ?_⟩
    -- steps, found
    refine ⟨.ref l, rfl, .int ax, rfl, l, ps, ax, E, rfl, hL, hne, hlen, hax, hE, fun H1 St e1 nSt hSt => ?_⟩
    have hL1 := hL.ex panR_e e1
    refine en_lcRL (K := K) (R := panR) panR_e (H := H1) (σ := start n__law_behind [.ref l, .int ax]) (zs := ps) (a := l) (j := 8) (vs := [8]) (fun _ => HO.dK []) (Evl.ev_var rfl) hL1 (by omega) (fun _ => rfl) (fun _ _ _ _ _ _ => fun H2 _ Q q => fun p np => q p _ np (Evl.Ex.new np) upd_same) H1 (Evl.Ex.refl H1) _ fun Fo ds H2 nF e2 hFl hnd hfr hdl hdat => ⟨_, _, rfl, ?_⟩
    have fnd : Found H2 Fo ds (ps.map fun _ => []) := by
      refine ⟨hFl, hnd, by rw [hdl, List.length_map, List.length_map], fun i d ks h1 h2 => ?_⟩
      have hi : i < ps.length := by
        have := (List.getElem?_eq_some_iff.mp h2).1
        rw [List.length_map] at this
        exact this
      rw [List.getElem?_map, List.getElem?_eq_getElem hi] at h2
      obtain rfl := Option.some.inj h2
      exact hdat i d _ h1 (by rw [List.getElem?_map, List.getElem?_eq_getElem hi]; rfl)
    have nds : ∀ d ∈ ds, H d = none := fun d hd => Evl.fresh_back e1 (hfr d hd).1
    have nFH : H Fo = none := Evl.fresh_back e1 nF
    have ok0 : AccOk ps.length (ps.map fun _ => ([] : List Int)) := ⟨List.length_map _, fun i => by
      have e : (ps.map fun _ => ([] : List Int)).getD i [] = [] := by
        rw [List.getD_eq_getElem?_getD, List.getElem?_map]
        cases ps[i]? <;> rfl
      rw [e]
      exact ⟨.nil, by simp⟩⟩
    have bdef : behindsF ps ax E = (orderF ps ax).foldl (fun acc z => bSpot (stepsF ps ax E) acc z.2.toNat) (ps.map fun _ => []) := rfl
    have stm : ∀ (s : Nat) (p : Pn), ps[s]? = some p → (stepsF ps ax E)[s]? = some (laterF ps ax (linesF ps ax E) p) := fun s p h => by
      unfold stepsF
      rw [List.getElem?_map, h]
      rfl
    generalize stepsF ps ax E = steps at hSt bdef stm
    generalize hini : (ps.map fun _ => ([] : List Int)) = ini at fnd ok0 bdef
    -- the order
    have hsort : EvRL (tCB (SoT.rSortedT K 1) (tCons (tLc (iEnum K (tCons (tVar 0) tNil)) (gTup K 2 (gCons (gName 4) (gCons (gName 8) gNil))) tYes (tTup (tCons (tOp (rI0 fun i j => .int (i - j)) (tC (.int 0)) (tOp (rIxT K) (tVar 8) (tVar 1))) (tCons (tVar 4) tNil))) [4, 8]) tNil))
        [some (.ref l), some (.int ax), some (.ref St), some (.ref Fo), none, none, none, none, none] H2 (fun z => tupI (p2 z)) (orderF ps ax) := by
      refine er_sortN (m := 1) ?_ (fun z _ => rfl)
      have z := er_lcERL (K := K) (R := panR) panR_e (S := fun u : Nat × Pn => tupI (p2 (0 - cm u.2 ax, (u.1 : Int)))) (σ := [some (.ref l), some (.int ax), some (.ref St), some (.ref Fo), none, none, none, none, none]) (H := H2) (tl := tVar 0) (zs := ps) (a := l) (j := 4) (l := 8) (vs := [4, 8]) (t := tYes)
        (te := tTup (tCons (tOp (rI0 fun i j => .int (i - j)) (tC (.int 0)) (tOp (rIxT K) (tVar 8) (tVar 1))) (tCons (tVar 4) tNil))) (fun z v H H' D n k h => tupI_m _ v H H' D n k h) (fun _ => true) (Evl.ev_var rfl) (hL1.ex panR_e e2) (by omega) (fun _ _ => rfl) (fun _ _ _ _ _ _ _ => et_yes)
        (fun i z hz y H3 e3 hr _ => en_tupI (ns := [0 - cm z ax, (i : Int)]) (Evl.ea_cons (Evl.ev_op Evl.ev_c (ev_pan (n := 8) rfl hr (Evl.ev_var rfl) (by omega)) Evl.rv_I0) (Evl.ea_cons (Evl.ev_var rfl) Evl.ea_nil)) (by simp))
      rw [fil_yes] at z
      exact z.to fun u v H h => h
    have olen := order_len ps ax
    have omem : ∀ z ∈ orderF ps ax, ∃ (s : Nat) (p : Pn), z.2 = (s : Int) ∧ ps[s]? = some p := fun z hz => by
      obtain ⟨s, p, h1, h2, _⟩ := order_mem hz
      exact ⟨s, p, h1, h2⟩
    generalize orderF ps ax = od at hsort bdef olen omem
    dsimp only
    refine q_forNRL (R := fun z => tupI (p2 z)) hsort (fun p i σ H' => ∃ o4 o5 o6 o7 o8, σ = [some (.ref l), some (.int ax), some (.ref St), some (.ref Fo), o4, o5, o6, o7, o8] ∧ Evl.Ex H H' ∧ RL lstI H' St steps ∧ RL (fun z => tupI (p2 z)) H' p od ∧
        Found H' Fo ds ((od.take i).foldl (fun acc z => bSpot steps acc z.2.toNat) ini) ∧ AccOk ps.length ((od.take i).foldl (fun acc z => bSpot steps acc z.2.toNat) ini))
      (fun p H3 np e3 hp => ⟨_, _, _, _, _, rfl, (e1.trans e2).trans e3, (hSt.ex lstI_e e2).ex lstI_e e3, hp, fnd.ex e3, ok0⟩) (fun p i σ H' _ hv => ?_) (fun p i z y σ H' hz hy hv => ?_) (fun p σ H' hv => ?_)
    · obtain ⟨_, _, _, _, _, _, _, _, h, _⟩ := hv
      exact h
    · obtain ⟨o4, o5, o6, o7, o8, rfl, e3, hSt3, hp3, hF3, ok3⟩ := hv
      have hi : i < od.length := (List.getElem?_eq_some_iff.mp hz).1
      obtain ⟨s, pn, hzs, hs⟩ := omem z (List.mem_of_getElem? hz)
      have hsl : s < ps.length := (List.getElem?_eq_some_iff.mp hs).1
      have step : (od.take (i + 1)).foldl (fun acc z => bSpot steps acc z.2.toNat) ini = bSpot steps ((od.take i).foldl (fun acc z => bSpot steps acc z.2.toNat) ini) s := by
        rw [List.take_add_one, hz, Option.toList_some, List.foldl_append]
        show bSpot steps _ z.2.toNat = _
        rw [hzs, Int.toNat_natCast]
      rw [step]
      generalize (od.take i).foldl (fun acc z => bSpot steps acc z.2.toNat) ini = acc at hF3 ok3
      refine g_tup2 (i := 5) (j := 4) (a := z.1) (b := z.2) hy ?_
      rw [hzs]
      have hts := stm s pn hs
      have tmem : ∀ t ∈ laterF ps ax (linesF ps ax E) pn, ∃ j : Nat, t = (j : Int) ∧ j < ps.length ∧ j ≠ s := fun t ht => by
        obtain ⟨j, qn, h1, h2, h3⟩ := mem_later ht
        refine ⟨j, h1, (List.getElem?_eq_some_iff.mp h2).1, fun e => ?_⟩
        subst e
        obtain rfl : pn = qn := Option.some.inj (hs.symm.trans h2)
        have := hpos pn (List.mem_of_getElem? hs)
        omega
      have bs : bSpot steps acc s = (laterF ps ax (linesF ps ax E) pn).foldl (bLater s) acc := by
        unfold bSpot
        rw [List.getD_eq_getElem?_getD, hts]
        rfl
      rw [bs]
      generalize laterF ps ax (linesF ps ax E) pn = ts at hts tmem
      show tFor _ _ _ _ [some (.ref l), some (.int ax), some (.ref St), some (.ref Fo), some (.int (s : Int)), some (.int z.1), o6, o7, o8] H'
      obtain ⟨yy, ⟨qa, rfl, hqa⟩, hev⟩ := ev_rlIx (K := K) (σ := [some (.ref l), some (.int ax), some (.ref St), some (.ref Fo), some (.int (s : Int)), some (.int z.1), o6, o7, o8]) (te := tVar 2) (ti := tVar 4) (Evl.ev_var rfl) hSt3 hts (Evl.ev_var rfl)
      refine Evl.s_forLn hev (SqL.of hqa) (fun j σ H'' => ∃ o6 o7, σ = [some (.ref l), some (.int ax), some (.ref St), some (.ref Fo), some (.int (s : Int)), some (.int z.1), o6, o7, o8] ∧ Evl.Ex H H'' ∧ ButD ds H' H'' ∧ Found H'' Fo ds ((ts.take j).foldl (bLater s) acc) ∧ AccOk ps.length ((ts.take j).foldl (bLater s) acc))
        (fun H4 e4 => ⟨_, _, rfl, e3.trans e4, ButD.ex e4, hF3.ex e4, ok3⟩) (fun j σ H4 _ hv => ?_) (fun j x σ H4 hx hv => ?_) (fun σ H4 hv => ?_)
      · obtain ⟨_, _, _, _, b4, _⟩ := hv
        exact SqL.of (b4 _ _ (hF3.no_lst hqa) hqa)
      · obtain ⟨o6, o7, rfl, e4, b4, hF4, ok4⟩ := hv
        rw [List.getElem?_map] at hx
        cases hc : ts[j]? with
        | none => rw [hc] at hx; cases hx
        | some t =>
          rw [hc] at hx
          obtain rfl : V.int t = x := Option.some.inj hx
          obtain ⟨jt, htj, hjl, hjs⟩ := tmem t (List.mem_of_getElem? hc)
          have st2 : (ts.take (j + 1)).foldl (bLater s) acc = bLater s ((ts.take j).foldl (bLater s) acc) t := by
            rw [List.take_add_one, hc, Option.toList_some, List.foldl_append]
            rfl
          rw [st2]
          generalize (ts.take j).foldl (bLater s) acc = ac at hF4 ok4
          have hsa : s < ac.length := by rw [ok4.len]; exact hsl
          have hja : jt < ac.length := by rw [ok4.len]; exact hjl
          have okt : 0 ≤ t ∧ t < ps.length := by omega
          have hb : bLater s ac t = ac.set s (addAll (addKey (ac.getD s []) t) (ac.getD jt [])) := by
            unfold bLater
            rw [htj, Int.toNat_natCast]
          have okb : AccOk ps.length (bLater s ac t) := by
            rw [hb]
            exact ok4.set (((ok4.ok s).add okt).all (ok4.ok jt).2)
          refine s_putF (D := { (_ : Ends) with nx := _ }) (t := t) (m := 6) hF4 rfl rfl rfl hsa (Nat.le_trans (ok4.ok s).len hlen) fun d hd => ?_
          have hF5 := hF4.put (ks := addKey (ac.getD s []) t) hd
          have ok5 := ok4.set (s := s) ((ok4.ok s).add okt)
          have g1 := getD_set (ks := addKey (ac.getD s []) t) hsa
          have g2 := getD_setne (acc := ac) (ks := addKey (ac.getD s []) t) hjs
          refine s_allF (σ0 := fun v => [some (.ref l), some (.int ax), some (.ref St), some (.ref Fo), some (.int (s : Int)), some (.int z.1), some (.int t), some v, o8]) hF5 (fun _ => rfl) (fun _ => rfl) (fun _ => rfl) (fun _ => rfl) (fun _ _ => rfl) rfl rfl rfl (fun _ => rfl) htj (by rw [List.length_set]; exact hja) (by rw [List.length_set]; exact hsa) hjs
            (by rw [List.length_set, ok4.len]; exact ok5.ok s) (by rw [List.length_set, ok4.len]; exact ok5.ok jt) (by rw [List.length_set, ok4.len]; exact hlen) fun d' σ' hd' hσ => ?_
          obtain rfl : d = d' := Option.some.inj (hd.symm.trans hd')
          rw [g1, g2, upd_upd]
          have bd : ButD ds H' (upd H4 d (.dK (dkv (addAll (addKey (ac.getD s []) t) (ac.getD jt []))))) := b4.tr (ButD.upd hd)
          have ee : Evl.Ex H (upd H4 d (.dK (dkv (addAll (addKey (ac.getD s []) t) (ac.getD jt []))))) := ButD.ex' nds e4 (ButD.upd hd)
          have hF6 := hF4.put (ks := addAll (addKey (ac.getD s []) t) (ac.getD jt [])) hd
          rw [hb]
          rw [hb] at okb
          rcases hσ with rfl | ⟨v, rfl⟩
          · exact ⟨_, _, rfl, ee, bd, hF6, okb⟩
          · exact ⟨_, _, rfl, ee, bd, hF6, okb⟩
      · obtain ⟨o6, o7, rfl, e4, b4, hF4, ok4⟩ := hv
        rw [List.length_map, List.take_length] at hF4 ok4
        exact ⟨_, _, _, _, _, rfl, e4, hF3.lists b4 hSt3, hF3.tups b4 hp3, hF4, ok4⟩
    · obtain ⟨o4, o5, o6, o7, o8, rfl, e3, hSt3, hp3, hF3, ok3⟩ := hv
      rw [List.take_length, ← bdef] at hF3 ok3
      exact Evl.s_ret (Evl.ev_var rfl) fun H5 e5 => q H5 Fo ds (e3.trans e5) nFH (hF3.ex e5) ok3
end
end GL
set_option Elab.async false
set_option linter.all false
set_option maxRecDepth 100000
set_option maxHeartbeats 8000000
/-! # the rows of panes, their plan -/
namespace GL
open PySem PySem.Spec PyProof.Rows L2 Geo Rel
theorem indexK {X : Cx} {K : PySem.W.Frag} (e : X.K = K) : MtR X "list.index" (rIndex K) := e ▸ mt_index
theorem pe_bmK {X : Cx} {K : PySem.W.Frag} (eK : X.K = K) {o e : Expr} {es : List Expr} {to : TE} {t : TA} {name : Str} {apos cpos : Pos} {T id : String} {r : V → List V → Hp → VK → Prop} (pa : PlainAttrs T) (slot : Slot T name id) (hty : typeOf (.builtin id) = pure (.type "method_descriptor")) (hm : MtR X id r) (ho : PE X o to) (ha : PA X (e :: es) t)
    (hbase : attributeBase o name X.env (eval o X.env) = eval o X.env := by rfl)
    (hfew : ((backTo cpos (starEach (e :: es) X.env)).all (fun x => !x.1) && (backToKw cpos (keywordEach [] X.env)).all (fun x => x.1.isSome)
      && decide ((e :: es).length + ([] : List Keyword).length + (if ([] : List Keyword).isEmpty then 0 else 1) < 30)) = true := by rfl)
    (hline : (apos.endLine == cpos.line) = true := by rfl) (hs : starEach (e :: es) X.env = (false, eval e X.env) :: starEach es X.env := by rfl) (hplain : (backTo cpos (starEach es X.env)).any (·.1) = false := by rfl) :
    PE X (.Call (.Attribute o name apos) (e :: es) [] cpos) (tBM K T r to t) := eK ▸ pe_bm pa slot hty hm ho ha hbase hfew hline hs hplain
def overF (under : List (List Int)) (n s : Nat) : Nat := ((List.range n).filter fun o => decide ((s : Int) ∈ under.getD o [])).length
def fallP (right under : List (List Int)) (i n : Nat) : List (Int × Int) := (List.range i).map fun s => ((n : Int) - ((right.getD s []).length : Int) - ((under.getD s []).length : Int), (s : Int))
def riseP (right under : List (List Int)) (i n : Nat) : List (Int × Int) := (List.range i).map fun s => ((n : Int) - ((right.getD s []).length : Int) - (overF under n s : Int), (s : Int))
def fallF (ps : List Pn) (E0 E1 : Int) : List Int := (isort p2 (fallP (behindsF ps 0 E0) (behindsF ps 1 E1) ps.length ps.length)).map (·.2)
def riseF (ps : List Pn) (E0 E1 : Int) : List Int := (isort p2 (riseP (behindsF ps 0 E0) (behindsF ps 1 E1) ps.length ps.length)).map (·.2)
theorem fall_perm (ps : List Pn) (E0 E1 : Int) : (fallF ps E0 E1).Perm ((List.range ps.length).map fun s : Nat => (s : Int)) := by
  refine ((isort_perm p2 _).map _).trans ?_
  unfold fallP
  rw [List.map_map]
  exact List.Perm.refl _
theorem rise_perm (ps : List Pn) (E0 E1 : Int) : (riseF ps E0 E1).Perm ((List.range ps.length).map fun s : Nat => (s : Int)) := by
  refine ((isort_perm p2 _).map _).trans ?_
  unfold riseP
  rw [List.map_map]
  exact List.Perm.refl _
/-- the plan: the rising row's places in the falling row -/
def planF (ps : List Pn) (E0 E1 : Int) : List Int := (riseF ps E0 E1).map fun s => ((fallF ps E0 E1).idxOf s : Int)
/-- what the law's own functions want of panes -/
structure PsOk (ps : List Pn) (E0 E1 : Int) : Prop where
  ne : ps ≠ []
  len : ps.length ≤ 1000
  e0 : Top (fun p => cm p 2) ps E0
  e1 : Top (fun p => cm p 3) ps E1
  pos : ∀ p ∈ ps, p.x0 < p.x1 ∧ p.y0 < p.y1
section
variable {P : Program} {w : World} {K : PySem.W.Frag} {mg : Str → Option Value} {base : Heap}
/-- len(found[s]) -/
theorem ev_lenF {σ : L2.St} {H : Hp} {F : Addr} {ds : List Addr} {acc : List (List Int)} {n m s : Nat} (hF : Found H F ds acc) (hn : σ[n]? = some (some (.ref F))) (hm : σ[m]? = some (some (.int (s : Int)))) (hs : s < acc.length) :
    Evl.Ev (tCB (fun xs H Q => ∃ a kvs, xs = [V.ref a] ∧ H a = some (.dK kvs) ∧ Q (.int kvs.length) H) (tCons (tOp (rIxL K) (tVar n) (tVar m)) tNil)) σ H (.int ((acc.getD s []).length : Int)) := fun H1 e Q q => by
  obtain ⟨d, hd, hk⟩ := hF.get hs
  refine ⟨.ref F, hn, .int (s : Int), hm, F, _, (s : Int), .ref d, rfl, rfl, SqL.of (e _ _ hF.l), atI_nat (by rw [List.getElem?_map, hd]; rfl), d, _, rfl, e _ _ hk, ?_⟩
  rw [dkv_len]
  exact q H1 (Evl.Ex.refl _)
/-- s in found[o] -/
theorem ev_inF {σ : L2.St} {H : Hp} {F : Addr} {ds : List Addr} {acc : List (List Int)} {n m j o : Nat} {t : Int} (hF : Found H F ds acc) (hn : σ[n]? = some (some (.ref F))) (hm : σ[m]? = some (some (.int (o : Int)))) (hj : σ[j]? = some (some (.int t))) (ho : o < acc.length) :
    Evl.Ev (tDIn (tVar j) (tOp (rIxL K) (tVar n) (tVar m))) σ H (.bl (decide (t ∈ acc.getD o []))) := fun H1 e Q q => by
  obtain ⟨d, hd, hk⟩ := hF.get ho
  refine ⟨.int t, hj, .ref F, hn, .int (o : Int), hm, F, _, (o : Int), .ref d, rfl, rfl, SqL.of (e _ _ hF.l), atI_nat (by rw [List.getElem?_map, hd]; rfl), d, _, rfl, DGet.k (k := .inl t) (e _ _ hk), ?_⟩
  rw [valV_dkv]
  exact q H1 (Evl.Ex.refl _)
theorem Found.but {H H' : Hp} {F G : Addr} {ds : List Addr} {acc : List (List Int)} {xs : List V} (h : Found H F ds acc) (hG : H G = some (.lst xs)) (n : F ≠ G) (b : But1 G H H') : Found H' F ds acc :=
  ⟨b F _ n h.l, h.nd, h.len, fun i d ks h1 h2 => b d _ (fun e => by
    have := h.at_ i d ks h1 h2
    rw [e, hG] at this
    cases this) (h.at_ i d ks h1 h2)⟩
theorem q_appT {α : Type} {zs : List α} {gg : α → List Int} {z : α} {l : Addr} {ta te : TE} {σ : L2.St} {H : Hp} {tz : TS} {D : Ends} (hl : RL (fun z => tupI (gg z)) H l zs) (ha : Evl.Ev ta σ H (.ref l)) (h : Evl.EvU te σ H ((gg z).map V.int)) (hz : zs.length < 50000)
    (k : ∀ H2, But1 l H H2 → RL (fun z => tupI (gg z)) H2 l (zs ++ [z]) → tz D σ H2) : tSeq (tDrop (tBM K "list" rAppend ta (tCons te tNil))) tz D σ H := s_appT (D := { D with nx := tz D }) hl ha h hz k
/-- over a new list of pairs of numbers -/
theorem er_lcT20N {α : Type} {σ : L2.St} {H : Hp} {tl te : TE} {g : α → Int × Int} {S : α → V → Hp → Prop} (mS : Mono S) {zs : List α} {j l : Nat} {vs : List Nat} (h : EvRL tl σ H (fun z => tupI [(g z).1, (g z).2]) zs) (hz : zs.length ≤ 40000)
    (hw : ∀ x y, wipe (((wipe σ vs).set j (some x)).set l (some y)) vs = wipe σ vs)
    (he : ∀ z ∈ zs, ∀ H1, Evl.Ex H H1 → EvN te (((wipe σ vs).set j (some (.int (g z).1))).set l (some (.int (g z).2))) H1 (S z)) :
    EvRL (tLc (iList K tl) (gTup K 2 (gCons (gName j) (gCons (gName l) gNil))) tYes te vs) σ H S zs := fun H1 e Q q =>
  h H1 e _ fun p H2 np e2 hl => er_lcT20 (K := K) (tl := tC (.ref p)) (σ := σ) (H := H2) mS Evl.ev_c hl hz hw (fun z hz H3 e3 => he z hz H3 ((e.trans e2).trans e3)) H2 (Evl.Ex.refl _) Q fun p' H3 np' e3 hl' => q p' H3 (Evl.fresh_back e2 np') (e2.trans e3) hl'
def spRows : Sp := fun vs H Q _ => ∃ (l : Addr) (ps : List Pn) (E0 E1 : Int), vs = [.ref l] ∧ Pns H l ps ∧ PsOk ps E0 E1 ∧
  ∀ H' a b c, Evl.Ex H H' → H' a = some (.lst ((fallF ps E0 E1).map V.int)) → H' b = some (.lst ((riseF ps E0 E1).map V.int)) → H' c = some (.tup [.ref a, .ref b]) → H a = none → H b = none → H c = none → Q (.ref c) H'
theorem ok_rows {f f1 : Addr} {fd fd1 : FuncData} (F : Fun K "_law_rows" "_law_rows" s__law_rows f fd) (B : BN mg) (C__law_behind : Cal P w K mg base "_law_behind" 3 f1 fd1 ["panes", "axis"] spBehind) : FnOk P w K mg base CX0 4 f fd ["panes"] spRows := by
  refine F.ok sc__law_rows (fun vs H Q E h => ?_) (fun cdv A outer s H vs Q E hr h => ?_)
  · obtain ⟨l, ps, E0, E1, rfl, _⟩ := h
    rfl
  · obtain ⟨l, ps, E0, E1, rfl, hL, ok, q⟩ := h
    refine ⟨_, (pss_cons (ps_asg (pe_tup (pa_cons (pe_call C__law_behind.G hr (by rfl) C__law_behind.g C__law_behind.k C__law_behind.b .nil pass0 (by exact (pa_cons (pv 0) (pa_cons pe_int pa_nil)))) (pa_cons (pe_call C__law_behind.G hr (by rfl) C__law_behind.g C__law_behind.k C__law_behind.b .nil pass0 (by exact (pa_cons (pv 0) (pa_cons pe_int pa_nil)))) (pa_cons (pe_callB (lenK (K := K) rfl) (by rfl) B.len_ (by decide +kernel) (pa_cons (pv 0) pa_nil)) pa_nil)))) (pg_tup rfl (pgs_cons (pg_name (i := 1) sc__law_rows.nd rfl (Or.inl rfl)) (pgs_cons (pg_name (i := 2) sc__law_rows.nd rfl (Or.inr rfl)) (pgs_cons (pg_name (i := 3) sc__law_rows.nd rfl (Or.inl rfl)) pgs_nil)))))
      (pss_cons (ps_par (i := 4) (j := 5) rfl sc__law_rows.nd rfl rfl (by decide) rfl rfl (pa_cons (pe_lst pa_nil) (pa_cons (pe_lst pa_nil) pa_nil)) (by rfl))
      (pss_cons (ps_for PassesOwn.never rfl (pi_range1 (by rfl) B.range_ (pa_cons (pv 3) pa_nil)) (pg_name (i := 6) sc__law_rows.nd rfl (Or.inr rfl)) (pss_cons (ps_expr (pe_bm PySem.F.plainAttrs_list PySem.F.slot_list_append PySem.F.type_list_append mt_append (pv 4) (pa_cons (pe_tup (pa_cons (pe_op op_sub (pe_op op_sub (pv 3) (pe_callB call_lenD (by rfl) B.len_ (by decide +kernel) (pa_cons (pe_ix (ixLK (K := K) rfl) (pv 1) (pv 6) (fun _ _ => rfl)) pa_nil))) (pe_callB call_lenD (by rfl) B.len_ (by decide +kernel) (pa_cons (pe_ix (ixLK (K := K) rfl) (pv 2) (pv 6) (fun _ _ => rfl)) pa_nil))) (pa_cons (pv 6) pa_nil))) pa_nil)))
      (pss_cons (ps_set (i := 7) sc__law_rows.nd rfl (.inl rfl) (pe_callB (lenK (K := K) rfl) (by rfl) B.len_ (by decide +kernel) (pa_cons (pe_lc (own := [("other_spot", 9)]) (g := gName 9) (tt := (tB (tDIn (tVar 6) (tOp (rIxL K) (tVar 2) (tVar 9))))) rfl sc__law_rows.nd (pi_range1 (by rfl) B.range_ (pa_cons (pv 3) pa_nil)) (blkOk_by (N := n__law_rows) (sc := (defScope s__law_rows)) (by decide +kernel)) (fun _ _ _ _ _ => (pg_name (i := 9) sc__law_rows.nd rfl (Or.inl rfl))) (fun _ _ _ _ _ => pts_one (pt_cmp (pc_din (hu_of hr) (pv 6) (pe_ix (ixLK (K := K) rfl) (pv 2) (pv 9) (fun _ _ => rfl))) (by rfl))) (fun _ _ _ _ _ => (pv 9))) pa_nil)))
      (pss_one (ps_expr (pe_bm PySem.F.plainAttrs_list PySem.F.slot_list_append PySem.F.type_list_append mt_append (pv 5) (pa_cons (pe_tup (pa_cons (pe_op op_sub (pe_op op_sub (pv 3) (pe_callB call_lenD (by rfl) B.len_ (by decide +kernel) (pa_cons (pe_ix (ixLK (K := K) rfl) (pv 1) (pv 6) (fun _ _ => rfl)) pa_nil))) (pv 7)) (pa_cons (pv 6) pa_nil))) pa_nil)))))))
      (pss_one (ps_ret (pe_tup (pa_cons (pe_lc (own := [("here", 8), ("spot", 6)]) (g := gTup K 2 (gCons (gName 8) (gCons (gName 6) gNil))) (tt := tYes) rfl sc__law_rows.nd (pi_list (pe_callB (SoT.cr_sortedT (m := 1)) (by rfl) B.sorted_ (by decide +kernel) (pa_cons (pv 4) pa_nil))) (blkOk_by (N := n__law_rows) (sc := (defScope s__law_rows)) (by decide +kernel)) (fun _ _ _ _ _ => (pg_tup rfl (pgs_cons (pg_name (i := 8) sc__law_rows.nd rfl (Or.inl rfl)) (pgs_cons (pg_name (i := 6) sc__law_rows.nd rfl (Or.inl rfl)) pgs_nil)))) (fun _ _ _ _ _ => pts_nil) (fun _ _ _ _ _ => (pv 6))) (pa_cons (pe_lc (own := [("here", 8), ("spot", 6)]) (g := gTup K 2 (gCons (gName 8) (gCons (gName 6) gNil))) (tt := tYes) rfl sc__law_rows.nd (pi_list (pe_callB (SoT.cr_sortedT (m := 1)) (by rfl) B.sorted_ (by decide +kernel) (pa_cons (pv 5) pa_nil))) (blkOk_by (N := n__law_rows) (sc := (defScope s__law_rows)) (by decide +kernel)) (fun _ _ _ _ _ => (pg_tup rfl (pgs_cons (pg_name (i := 8) sc__law_rows.nd rfl (Or.inl rfl)) (pgs_cons (pg_name (i := 6) sc__law_rows.nd rfl (Or.inl rfl)) pgs_nil)))) (fun _ _ _ _ _ => pts_nil) (fun _ _ _ _ _ => (pv 6))) pa_nil)))))))), ?_⟩
    refine ⟨.ref l, rfl, l, ps, 0, E0, rfl, hL, ok.ne, ok.len, by omega, ok.e0, fun p hp => (ok.pos p hp).1, fun H1 R dr e1 nR hR okR => ?_⟩
    refine ⟨.ref l, rfl, l, ps, 1, E1, rfl, hL.ex panR_e e1, ok.ne, ok.len, by omega, ok.e1, fun p hp => (ok.pos p hp).2, fun H2 U du e2 nU hU okU => ?_⟩
    have fdef : fallF ps E0 E1 = (isort p2 (fallP (behindsF ps 0 E0) (behindsF ps 1 E1) ps.length ps.length)).map (·.2) := rfl
    have rdef : riseF ps E0 E1 = (isort p2 (riseP (behindsF ps 0 E0) (behindsF ps 1 E1) ps.length ps.length)).map (·.2) := rfl
    generalize behindsF ps 0 E0 = right at hR okR fdef rdef
    generalize behindsF ps 1 E1 = under at hU okU fdef rdef
    obtain ⟨ys, hys, hyp⟩ := hL.ex panR_e (e1.trans e2)
    have hlen := ok.len
    refine ⟨.ref l, rfl, l, ys, rfl, .inl (SqL.of hys), ?_⟩
    rw [pr_len hyp]
    refine ⟨(show 3 ≤ sizeLine by decide), fun T nT => ⟨T, _, rfl, SqT.of upd_same, rfl, _, _, rfl, _, _, rfl, _, _, rfl, rfl, ?_⟩⟩
    have e3 : Evl.Ex H (upd H2 T (.tup [.ref R, .ref U, .int (ps.length : Int)])) := (e1.trans e2).trans (Evl.Ex.new nT)
    have hR3 := (hR.ex e2).ex (Evl.Ex.new (o := .tup [.ref R, .ref U, .int (ps.length : Int)]) nT)
    have hU3 := hU.ex (Evl.Ex.new (o := .tup [.ref R, .ref U, .int (ps.length : Int)]) nT)
    generalize upd H2 T (.tup [.ref R, .ref U, .int (ps.length : Int)]) = H3 at e3 hR3 hU3
    generalize ps.length = n at hlen okR okU e3 hR3 hU3 fdef rdef ⊢
    refine Rel.q_parL (xs := []) (ys := []) (Evl.el_lst Evl.ea_nil (by simp)) (Evl.el_lst Evl.ea_nil (by simp)) fun Fa Ri H4 nF nR2 hne e4 hF4 hR4 => ?_
    have hR5 := hR3.ex e4
    have hU5 := hU3.ex e4
    dsimp only
    refine Evl.q_forR1 (n := (n : Int)) (Evl.ea_cons (Evl.ev_var rfl) Evl.ea_nil) (by omega) (fun i σ H' => ∃ o6 o7, σ = [some (.ref l), some (.ref R), some (.ref U), some (.int (n : Int)), some (.ref Fa), some (.ref Ri), o6, o7, none, none] ∧ Evl.Ex H H' ∧
        Found H' R dr right ∧ Found H' U du under ∧ RL (fun z => tupI (p2 z)) H' Fa (fallP right under i n) ∧ RL (fun z => tupI (p2 z)) H' Ri (riseP right under i n))
      (fun H5 e5 => ⟨_, _, rfl, (e3.trans e4).trans e5, hR5.ex e5, hU5.ex e5, rl_nil (e5 _ _ hF4), rl_nil (e5 _ _ hR4)⟩) (fun i σ H5 hi hv => ?_) (fun σ H5 hv => ?_)
    · obtain ⟨o6, o7, rfl, e5, kR, kU, kF, kRi⟩ := hv
      have hi2 : i < n := by omega
      have hir : i < right.length := by rw [okR.len]; exact hi2
      have hiu : i < under.length := by rw [okU.len]; exact hi2
      show tSeq _ _ _ [some (.ref l), some (.ref R), some (.ref U), some (.int (n : Int)), some (.ref Fa), some (.ref Ri), some (.int (i : Int)), o7, none, none] H5
      refine q_appT (gg := p2) (z := ((n : Int) - ((right.getD i []).length : Int) - ((under.getD i []).length : Int), (i : Int))) kF (Evl.ev_var rfl)
        (Evl.eu_tup (Evl.ea_cons (Evl.ev_op (Evl.ev_op (Evl.ev_var rfl) (ev_lenF kR rfl rfl hir) Evl.rv_I0) (ev_lenF kU rfl rfl hiu) Evl.rv_I0) (Evl.ea_cons (Evl.ev_var rfl) Evl.ea_nil)) (by simp [p2])) (by simp [fallP]; omega) fun H6 b6 k6 => ?_
      obtain ⟨fy, hfy, _⟩ := id kF
      obtain ⟨ry, hry, _⟩ := id kRi
      have nFH : H Fa = none := Evl.fresh_back e3 nF
      have nRH : H Ri = none := Evl.fresh_back e3 nR2
      have e6 : Evl.Ex H H6 := b6.ex nFH e5
      have nRF : R ≠ Fa := fun z => by
        have := hR3.l
        rw [z, nF] at this
        cases this
      have nUF : U ≠ Fa := fun z => by
        have := hU3.l
        rw [z, nF] at this
        cases this
      have nRR : R ≠ Ri := fun z => by
        have := hR3.l
        rw [z, nR2] at this
        cases this
      have nUR : U ≠ Ri := fun z => by
        have := hU3.l
        rw [z, nR2] at this
        cases this
      have kR6 := kR.but hfy nRF b6
      have kU6 := kU.but hfy nUF b6
      have kRi6 : RL (fun z => tupI (p2 z)) H6 Ri (riseP right under i n) := rl_but kRi hfy (fun z => hne z.symm) b6
      refine Evl.q_asg (v := .int (overF under n i : Int)) (Evl.ev_is (Evl.ev_lenN (K := K) (el_ofRL (g := V.int) (zs := ((List.range n).map fun o : Nat => (o : Int)).filter fun t => decide ((i : Int) ∈ under.getD t.toNat [])) ?_)) ?_) fun H7 e7 => ?_
      · have z := er_lcRg1 (σ := [some (.ref l), some (.ref R), some (.ref U), some (.int (n : Int)), some (.ref Fa), some (.ref Ri), some (.int (i : Int)), o7, none, none]) (H := H6) (S := fun t v _ => v = V.int t) (hi := (n : Int)) (j := 9) (vs := [9])
          (ta := tCons (tVar 3) tNil) (t := tB (tDIn (tVar 6) (tOp (rIxL K) (tVar 2) (tVar 9)))) (te := tVar 9) (val_m V.int) (fun t => decide ((i : Int) ∈ under.getD t.toNat [])) (Evl.ea_cons (Evl.ev_var rfl) Evl.ea_nil) (by omega) (fun _ => rfl)
          (fun t h0 h1 H8 e8 => ?_) (fun t h0 h1 H8 e8 _ => en_int (Evl.ev_var rfl))
        · rw [Int.toNat_natCast] at z
          exact z
        · have ht : t = ((t.toNat : Nat) : Int) := (Int.toNat_of_nonneg h0).symm
          refine Evl.et_B (ev_inF (kU6.ex e8) rfl ?_ rfl (by rw [okU.len]; omega))
          rw [← ht]
          rfl
      · rw [List.length_map]
        unfold overF
        rw [List.filter_map, List.length_map]
        rfl
      · dsimp only
        refine s_appT (gg := p2) (z := ((n : Int) - ((right.getD i []).length : Int) - (overF under n i : Int), (i : Int))) (kRi6.ex (fun z => tupI_e (p2 z)) e7) (Evl.ev_var rfl)
          (Evl.eu_tup (Evl.ea_cons (Evl.ev_op (Evl.ev_op (Evl.ev_var rfl) (ev_lenF (kR6.ex e7) rfl rfl hir) Evl.rv_I0) (Evl.ev_var rfl) Evl.rv_I0) (Evl.ea_cons (Evl.ev_var rfl) Evl.ea_nil)) (by simp [p2])) (by simp [riseP]; omega) fun H8 b8 k8 => ?_
        obtain ⟨ry7, hry7, _⟩ := id (kRi6.ex (fun z => tupI_e (p2 z)) e7)
        refine ⟨_, _, rfl, b8.ex nRH (e6.trans e7), (kR6.ex e7).but hry7 nRR b8, (kU6.ex e7).but hry7 nUR b8, ?_, ?_⟩
        · have k9 := rl_but (k6.ex (fun z => tupI_e (p2 z)) e7) hry7 hne b8
          unfold fallP at k9 ⊢
          rw [List.range_succ, List.map_append]
          exact k9
        · unfold riseP at k8 ⊢
          rw [List.range_succ, List.map_append]
          exact k8
    · obtain ⟨o6, o7, rfl, e5, kR, kU, kF, kRi⟩ := hv
      rw [Int.toNat_natCast] at kF kRi
      refine s_retLL (xs := (fallF ps E0 E1).map V.int) (ys := (riseF ps E0 E1).map V.int) ?_ ?_ fun a b c H6 e6 na nb nc ha hb hc => by exact q H6 a b c (e5.trans e6) ha hb hc (Evl.fresh_back e5 na) (Evl.fresh_back e5 nb) (Evl.fresh_back e5 nc)
      · rw [fdef, List.map_map]
        refine el_ofRL (g := fun z : Int × Int => V.int z.2) ?_
        exact er_lcT20N (g := id) (val_m fun z : Int × Int => V.int z.2) (er_sortV (m := 1) (g := p2) (Evl.ev_var rfl) (fun z _ => rfl) kF) (by rw [(isort_perm p2 _).length_eq]; simp [fallP]; omega) (fun _ _ => rfl) fun z _ H6 e6 => en_int (Evl.ev_var rfl)
      · rw [rdef, List.map_map]
        refine el_ofRL (g := fun z : Int × Int => V.int z.2) ?_
        exact er_lcT20N (g := id) (val_m fun z : Int × Int => V.int z.2) (er_sortV (m := 1) (g := p2) (Evl.ev_var rfl) (fun z _ => rfl) kRi) (by rw [(isort_perm p2 _).length_eq]; simp [riseP]; omega) (fun _ _ => rfl) fun z _ H6 e6 => en_int (Evl.ev_var rfl)
def spPlan : Sp := fun vs H Q _ => ∃ (l : Addr) (ps : List Pn) (E0 E1 : Int), vs = [.ref l] ∧ Pns H l ps ∧ PsOk ps E0 E1 ∧
  ∀ H' a, Evl.Ex H H' → H' a = some (.lst ((planF ps E0 E1).map V.int)) → H a = none → Q (.ref a) H'
theorem ok_plan {f f1 : Addr} {fd fd1 : FuncData} (F : Fun K "_law_plan" "_law_plan" s__law_plan f fd) (B : BN mg) (C__law_rows : Cal P w K mg base "_law_rows" 4 f1 fd1 ["panes"] spRows) : FnOk P w K mg base CX0 5 f fd ["panes"] spPlan := by
  refine F.ok sc__law_plan (fun vs H Q E h => ?_) (fun cdv A outer s H vs Q E hr h => ?_)
  · obtain ⟨l, ps, E0, E1, rfl, _⟩ := h
    rfl
  · obtain ⟨l, ps, E0, E1, rfl, hL, ok, q⟩ := h
    refine ⟨_, (pss_cons (ps_asg (pe_call C__law_rows.G hr (by rfl) C__law_rows.g C__law_rows.k C__law_rows.b .nil pass0 (by exact (pa_cons (pv 0) pa_nil))) (pg_tup rfl (pgs_cons (pg_name (i := 1) sc__law_plan.nd rfl (Or.inr rfl)) (pgs_cons (pg_name (i := 2) sc__law_plan.nd rfl (Or.inl rfl)) pgs_nil))))
      (pss_one (ps_ret (pe_lc (own := [("spot", 3)]) (g := gName 3) (tt := tYes) rfl sc__law_plan.nd (pi_list (pv 2)) (blkOk_by (N := n__law_plan) (sc := (defScope s__law_plan)) (by decide +kernel)) (fun _ _ _ _ _ => (pg_name (i := 3) sc__law_plan.nd rfl (Or.inl rfl))) (fun _ _ _ _ _ => pts_nil) (fun _ _ _ _ _ => (pe_bmK (K := K) rfl PySem.F.plainAttrs_list PySem.F.slot_list_index PySem.F.type_list_index (indexK (K := K) rfl) (pv 1) (pa_cons (pv 3) pa_nil))))))), ?_⟩
    refine ⟨.ref l, rfl, l, ps, E0, E1, rfl, hL, ok, fun H1 a b c e1 ha hb hc na nb nc => g_tup2v (i := 1) (j := 2) hc ?_⟩
    dsimp only
    refine Evl.s_retL (xs := (planF ps E0 E1).map V.int) ?_ fun p H2 np e2 hp => by exact q H2 p (e1.trans e2) hp (Evl.fresh_back e1 np)
    have z := el_lcI (K := K) (R := intR) (f := fun s => ((fallF ps E0 E1).idxOf s : Int)) (σ := [some (.ref l), some (.ref a), some (.ref b), none]) (H := H1) (tl := tVar 2) (zs := riseF ps E0 E1) (a := b) (j := 3) (vs := [3]) (te := tBM K "list" (rIndex K) (tVar 1) (tCons (tVar 3) tNil)) intR_e (Evl.ev_var rfl) (ints_rl hb) ?_ (fun _ => rfl) (fun s hs y H2 e2 hy => ?_)
    · exact z
    · rw [(rise_perm ps E0 E1).length_eq, List.length_map, List.length_range]
      have := ok.len
      omega
    · obtain rfl : y = .int s := hy
      intro H3 e3 Q q
      have hs2 : s ∈ fallF ps E0 E1 := (fall_perm ps E0 E1).mem_iff.mpr ((rise_perm ps E0 E1).mem_iff.mp hs)
      have hix := List.idxOf_lt_length_of_mem hs2
      refine ⟨.ref a, rfl, .inl ⟨rfl, _, SqL.of (e3 _ _ (e2 _ _ ha))⟩, .int s, rfl, a, _, .int s, (fallF ps E0 E1).idxOf s, .int s, rfl, rfl, SqL.of (e3 _ _ (e2 _ _ ha)), rfl, ?_, ?_, ?_, ?_, q H3 (Evl.Ex.refl _)⟩
      · simp [flatV]
      · rw [List.getElem?_map, List.getElem?_eq_getElem hix, List.getElem_idxOf]
        rfl
      · simp [eqV]
      · intro m z' hm hz
        rw [List.getElem?_map] at hz
        cases hc2 : (fallF ps E0 E1)[m]? with
        | none => rw [hc2] at hz; cases hz
        | some u =>
          rw [hc2] at hz
          obtain rfl := Option.some.inj hz
          have : u ≠ s := fun e => by
            subst e
            obtain ⟨h1, h2⟩ := List.getElem?_eq_some_iff.mp hc2
            have := List.not_of_lt_findIdx (p := fun x => x == u) hm
            simp [h2] at this
          simp [eqV, this]
end
end GL
set_option Elab.async false
set_option linter.all false
set_option maxRecDepth 100000
set_option maxHeartbeats 8000000
/-! # a pane pushed, exactly -/
namespace GL
open PySem PySem.Spec PyProof.Rows L2 Geo Rel
def topF : List Int → Int
  | [] => 0
  | n :: r => r.foldl (fun a b => if a < b then b else a) n
theorem fold_top : ∀ (r : List Int) (n : Int), (r.foldl (fun a b => if a < b then b else a) n ∈ n :: r) ∧ ∀ y ∈ n :: r, y ≤ r.foldl (fun a b => if a < b then b else a) n
  | [], n => ⟨by simp, by simp⟩
  | b :: r, n => by
    obtain ⟨h1, h2⟩ := fold_top r (if n < b then b else n)
    rw [List.foldl_cons]
    constructor
    · rcases List.mem_cons.mp h1 with h | h
      · rw [h]
        split <;> simp
      · exact List.mem_cons_of_mem _ (List.mem_cons_of_mem _ h)
    · intro y hy
      have h3 := h2 _ List.mem_cons_self
      have h4 : n ≤ (if n < b then b else n) ∧ b ≤ (if n < b then b else n) := by split <;> omega
      rcases List.mem_cons.mp hy with rfl | hy
      · exact Int.le_trans h4.1 h3
      · rcases List.mem_cons.mp hy with rfl | hy
        · exact Int.le_trans h4.2 h3
        · exact h2 _ (List.mem_cons_of_mem _ hy)
theorem topF_top {α : Type} {f : α → Int} {ps : List α} (ne : ps ≠ []) : Top f ps (topF (ps.map f)) := by
  cases ps with
  | nil => exact absurd rfl ne
  | cons p r =>
    obtain ⟨h1, h2⟩ := fold_top (r.map f) (f p)
    exact top_of (by exact h1) (by exact h2)
theorem top_map {α β : Type} {f : β → Int} {g : α → β} {zs : List α} {m : Int} (h : Top (fun z => f (g z)) zs m) : Top f (zs.map g) m := by
  obtain ⟨⟨z, hz, e⟩, h2⟩ := h
  refine ⟨⟨g z, List.mem_map_of_mem hz, e⟩, fun y hy => ?_⟩
  obtain ⟨z, hz, rfl⟩ := List.mem_map.mp hy
  exact h2 z hz
theorem enumL_map {α β : Type} (g : α → β) (zs : List α) : enumL (zs.map g) = (enumL zs).map fun u => (u.1, g u.2) := by
  unfold enumL
  rw [List.zipIdx_map, List.map_map, List.map_map]
  rfl
def borderF (ps : List Pn) (ax : Int) : Nat := (ps.filter fun p => decide (cm p (ax + 2) = topF (ps.map fun p => cm p (ax + 2)))).length
def rowF (ps : List Pn) (ax : Int) : List (Int × Int) := isort p2 (((enumL ps).filter fun u : Nat × Pn => decide (cm u.2 (ax + 2) = topF (ps.map fun p => cm p (ax + 2)))).map fun u => (cm u.2 (1 - ax), (u.1 : Int)))
def pushA (ps : List Pn) (ax : Int) (n : Nat) : List Pn :=
  ((enumL ps).map fun u : Nat × Pn => outp ax (topF (ps.map fun p => cm p (ax + 2))) ((rowF ps ax).drop ((rowF ps ax).length - n)) u.1 u.2) ++
    [sc (sc (sc (sc ⟨0, 0, 0, 0⟩ ax (topF (ps.map fun p => cm p (ax + 2)))) (ax + 2) (topF (ps.map fun p => cm p (ax + 2)) + 1)) (1 - ax) (((rowF ps ax).drop ((rowF ps ax).length - n)).headD (0, 0)).1) (3 - ax) (topF (ps.map fun p => cm p (3 - ax)))]
def pushF (ps : List Pn) (en : Int) : List Pn := pushA ps (if 0 < en then 1 else 0) en.natAbs
theorem lex_p2 {x y : Int × Int} : HT.lexLt (p2 y) (p2 x) = false ↔ LeP x y := by
  unfold p2 LeP
  rw [HT.lexLt_cons]
  by_cases c : y.1 = x.1
  · rw [if_pos c, HT.lexLt_cons]
    by_cases d : y.2 = x.2
    · rw [if_pos d]
      simp [HT.lexLt_nil_nil]
      omega
    · rw [if_neg d]
      simp
      omega
  · rw [if_neg c]
    simp
    omega
theorem made_push {zs : List (Addr × Pn)} {ax : Int} {n : Nat} {E W : Int} {row : List (Int × Int)} {k0 : Int × Int} {r : List (Int × Int)} {ps' : List Pn} (h : Made zs ax n E W row k0 r ps') (ne : zs ≠ []) : ps' = pushA (zs.map (·.2)) ax n := by
  have ne2 : zs.map (·.2) ≠ [] := fun e => ne (List.map_eq_nil_iff.mp e)
  have eE : E = topF ((zs.map (·.2)).map fun p => cm p (ax + 2)) := top_one (top_map h.e) (topF_top ne2)
  have eW : W = topF ((zs.map (·.2)).map fun p => cm p (3 - ax)) := top_one (top_map h.w) (topF_top ne2)
  have eR : row = rowF (zs.map (·.2)) ax := by
    refine List.Perm.eq_of_pairwise (le := LeP) (fun a b _ _ h1 h2 => ?_) h.srt ((isort_srt p2 _).imp fun h => lex_p2.mp h) (h.perm.trans ((isort_perm p2 _).trans ?_).symm)
    · unfold LeP at h1 h2
      exact Prod.ext (by omega) (by omega)
    · rw [enumL_map, List.filter_map, List.map_map, ← eE]
      exact List.Perm.refl _
  have eC : (rowF (zs.map (·.2)) ax).drop ((rowF (zs.map (·.2)) ax).length - n) = k0 :: r := by
    rw [← eR]
    exact h.cut
  rw [h.out]
  unfold pushA
  rw [eC, ← eE, ← eW, enumL_map, List.map_map (l := enumL zs)]
  rfl
theorem lay_pns {H : Hp} {l : Addr} {zs : List (Addr × Pn)} (h : Lay H l zs) : Pns H l (zs.map (·.2)) := by
  obtain ⟨hl, ht⟩ := h
  refine ⟨_, hl, ?_⟩
  clear hl
  induction zs with
  | nil => exact .nil
  | cons z r ih => exact .cons ⟨z.1, rfl, ht z List.mem_cons_self⟩ (ih fun z hz => ht z (List.mem_cons_of_mem _ hz))
theorem pns_lay {H : Hp} {l : Addr} {ps : List Pn} (h : Pns H l ps) : ∃ zs : List (Addr × Pn), Lay H l zs ∧ zs.map (·.2) = ps := by
  obtain ⟨ys, hl, hp⟩ := h
  have : ∃ zs : List (Addr × Pn), (zs.map fun z => V.ref z.1) = ys ∧ zs.map (·.2) = ps ∧ ∀ z ∈ zs, H z.1 = some (.tup (PnV z.2)) := by
    clear hl
    induction hp with
    | nil => exact ⟨[], rfl, rfl, by simp⟩
    | cons h1 _ ih =>
      obtain ⟨zs, e1, e2, e3⟩ := ih
      obtain ⟨T, rfl, hT⟩ := h1
      refine ⟨(T, _) :: zs, by rw [List.map_cons, e1], by rw [List.map_cons, e2], fun z hz => ?_⟩
      rcases List.mem_cons.mp hz with rfl | hz
      · exact hT
      · exact e3 z hz
  obtain ⟨zs, rfl, e2, e3⟩ := this
  exact ⟨zs, ⟨hl, e3⟩, e2⟩
section
variable {P : Program} {w : World} {K : PySem.W.Frag} {mg : Str → Option Value} {base : Heap}
def spBorderE : Sp := fun vs H Q _ => ∃ (l : Addr) (ps : List Pn) (ax : Int), vs = [.ref l, .int ax] ∧ Pns H l ps ∧ ps ≠ [] ∧ ps.length ≤ 1000 ∧ (0 ≤ ax ∧ ax ≤ 1) ∧
  ∀ H', Evl.Ex H H' → Q (.int (borderF ps ax : Int)) H'
def spPushedE : Sp := fun vs H Q _ => ∃ (l : Addr) (ps : List Pn) (en : Int), vs = [.ref l, .int en] ∧ Pns H l ps ∧ ps ≠ [] ∧ ps.length ≤ 1000 ∧ en ≠ 0 ∧ en.natAbs ≤ borderF ps (if 0 < en then 1 else 0) ∧
  ∀ H' l', Evl.Ex H H' → H l' = none → Pns H' l' (pushF ps en) → Q (.ref l') H'
theorem borderE {vs : List V} {H : Hp} {Q : VK} {E : XK} (h : spBorderE vs H Q E) : spBorder vs H Q E := by
  obtain ⟨l, ps, ax, rfl, hL, ne, hlen, hax, q⟩ := h
  obtain ⟨zs, hz, rfl⟩ := pns_lay hL
  refine ⟨l, zs, ax, rfl, hz, fun e => ne (by rw [e]; rfl), by rwa [List.length_map] at hlen, hax, fun H' m e top => ?_⟩
  have := q H' e
  unfold borderF at this
  rw [List.filter_map, List.length_map, top_one (topF_top ne) (top_map (f := fun p : Pn => cm p (ax + 2)) top)] at this
  exact this
theorem pushedE {vs : List V} {H : Hp} {Q : VK} {E : XK} (h : spPushedE vs H Q E) : spPushed vs H Q E := by
  obtain ⟨l, ps, en, rfl, hL, ne, hlen, hen, hb, q⟩ := h
  obtain ⟨zs, hz, rfl⟩ := pns_lay hL
  refine ⟨l, zs, en, _, rfl, hz, fun e => ne (by rw [e]; rfl), by rwa [List.length_map] at hlen, hen, rfl, fun E top => ?_, fun H' l' zs' E W row k0 r e n' hl' hm => ?_⟩
  · unfold borderF at hb
    rw [List.filter_map, List.length_map, top_one (topF_top ne) (top_map (f := fun p : Pn => cm p ((if 0 < en then 1 else 0) + 2)) top)] at hb
    exact hb
  · have := made_push hm (fun e => ne (by rw [e]; rfl))
    have z := lay_pns hl'
    rw [this] at z
    exact q H' l' e n' z
end
end GL
set_option Elab.async false
set_option linter.all false
set_option maxRecDepth 100000
set_option maxHeartbeats 8000000
/-! # all codes of so many panes, with their layouts -/
namespace GL
open PySem PySem.Spec PyProof.Rows L2 Geo Rel
abbrev Coded : Type := List Int × List Pn
def entriesF (ps : List Pn) : List Int := ((List.range (borderF ps 0 + borderF ps 1 + 1)).map fun i : Nat => 0 - (borderF ps 0 : Int) + (i : Int)).filter fun e => !decide (e = 0)
def growF (u : Coded) : List Coded := (entriesF u.2).map fun e => (u.1 ++ [e], pushF u.2 e)
def allF : Nat → List Coded
  | 0 => [([], [⟨0, 0, 1, 1⟩])]
  | n + 1 => (allF n).flatMap growF
theorem enumL_length {α : Type} (zs : List α) : (enumL zs).length = zs.length := enumL_len zs
theorem pushA_len (ps : List Pn) (ax : Int) (n : Nat) : (pushA ps ax n).length = ps.length + 1 := by
  unfold pushA
  rw [List.length_append, List.length_map, enumL_len]
  rfl
theorem allF_len : ∀ (n : Nat), ∀ u ∈ allF n, u.2.length = n + 1 ∧ u.1.length = n
  | 0, u, h => by
    rw [List.mem_singleton.mp h]
    exact ⟨rfl, rfl⟩
  | n + 1, u, h => by
    obtain ⟨w, hw, hu⟩ := List.mem_flatMap.mp h
    obtain ⟨e, he, rfl⟩ := List.mem_map.mp hu
    have := allF_len n w hw
    exact ⟨by rw [show (w.1 ++ [e], pushF w.2 e).2 = pushF w.2 e from rfl, pushF, pushA_len, this.1], by simp [this.2]⟩
def allR (u : Coded) (v : V) (H : Hp) : Prop := ∃ T a b, v = .ref T ∧ H T = some (.tup [.ref a, .ref b]) ∧ H a = some (.lst (u.1.map V.int)) ∧ Pns H b u.2
theorem allR_e : MonoE allR := fun u v H H' e ⟨T, a, b, h1, h2, h3, h4⟩ => ⟨T, a, b, h1, e _ _ h2, e _ _ h3, h4.ex panR_e e⟩
def hide (D : Addr) (H : Hp) : Hp := fun x => if x = D then none else H x
theorem hide_ex {D : Addr} {H : Hp} : Evl.Ex (hide D H) H := fun a o h => by
  unfold hide at h
  split at h
  · cases h
  · exact h
theorem hide_but {D : Addr} {H H' : Hp} (b : But1 D H H') : Evl.Ex (hide D H) (hide D H') := fun a o h => by
  unfold hide at h ⊢
  split at h
  · cases h
  · next n =>
    rw [if_neg n]
    exact b a o n h
theorem hide_of {D a : Addr} {H : Hp} {o : HO} (n : a ≠ D) (h : H a = some o) : hide D H a = some o := by
  unfold hide
  rw [if_neg n]
  exact h
abbrev KR (D : Addr) (u : Coded) (v : V) (H : Hp) : Prop := allR u v (hide D H)
theorem kr_of {H : Hp} {D T a b : Addr} {c : List Int} {ps : List Pn} {xs : List V} (hD : H D = some (.lst xs)) (hT : H T = some (.tup [.ref a, .ref b])) (ha : H a = some (.lst (c.map V.int))) (hb : Pns H b ps) (na : a ≠ D) (nb : b ≠ D) : KR D (c, ps) (.ref T) H := by
  refine ⟨T, a, b, rfl, hide_of (fun e => ?_) hT, hide_of na ha, ?_⟩
  · rw [e, hD] at hT
    cases hT
  · obtain ⟨ys, h1, h2⟩ := hb
    refine ⟨ys, hide_of nb h1, ?_⟩
    clear h1
    induction h2 with
    | nil => exact .nil
    | cons h _ ih =>
      obtain ⟨p, e, hp⟩ := h
      refine .cons ⟨p, e, hide_of (fun e => ?_) hp⟩ ih
      rw [e, hD] at hp
      cases hp
theorem kr_but {H H' : Hp} {D : Addr} {u : Coded} {v : V} (h : KR D u v H) (b : But1 D H H') : KR D u v H' := allR_e _ _ _ _ (hide_but b) h
theorem rl_kr {H H' : Hp} {D : Addr} {us : List Coded} {xs : List V} (h : Paired (fun y z => KR D z y H) xs us) (b : But1 D H H') : Paired (fun y z => KR D z y H') xs us := by
  induction h with
  | nil => exact .nil
  | cons h _ ih => exact .cons (kr_but h b) ih
section
variable {P : Program} {w : World} {K : PySem.W.Frag} {mg : Str → Option Value} {base : Heap}
theorem s_appN {σ : L2.St} {H : Hp} {D : Ends} {l : Addr} {xs : List V} {ta te : TE} {R : V → Hp → Prop} (hl : H l = some (.lst xs)) (ha : Evl.Ev ta σ H (.ref l)) (h : ∀ H1, Evl.Ex H H1 → ∀ Q : VK, (∀ v H2, Evl.Ex H1 H2 → R v H2 → Q v H2) → te σ H1 Q) (hz : xs.length < 100000)
    (k : ∀ v H1, Evl.Ex H H1 → R v H1 → D.nx σ (upd H1 l (.lst (xs ++ [v])))) :
    tDrop (tBM K "list" rAppend ta (tCons te tNil)) D σ H := ha H (Evl.Ex.refl H) _ fun H1 e1 =>
  ⟨Or.inl ⟨rfl, xs, Evl.sq_of (e1 l _ hl)⟩, h H1 e1 _ fun v H2 e2 hv => ⟨l, xs, v, rfl, rfl, e2 l _ (e1 l _ hl), Evl.sz_lt hz, k v H2 (e1.trans e2) hv⟩⟩
theorem s_forR2n {σ : L2.St} {H : Hp} {D : Ends} {tu : TS} {ta : TA} {j : Nat} {lo n : Int} (h : Evl.EvA ta σ H [.int lo, .int n]) (hn : -100000 ≤ lo ∧ lo ≤ 100000 ∧ -100000 ≤ n ∧ n ≤ 100000) (Pv : Nat → L2.St → Hp → Prop) (h0 : ∀ H1, Evl.Ex H H1 → Pv 0 σ H1)
    (hs : ∀ (i : Nat) σ' H', lo + (i : Int) < n → Pv i σ' H' → tu { D with nx := Pv (i + 1), ct := Pv (i + 1), bk := D.nx } (σ'.set j (some (.int (lo + (i : Int))))) H') (hd : ∀ σ' H', Pv (n - lo).toNat σ' H' → D.nx σ' H') : tFor (iRng2 ta) (gName j) tu D σ H :=
  h H (Evl.Ex.refl H) _ fun H1 e => ⟨lo, n, rfl, ⟨by omega, by omega, by omega, by omega⟩, for_range (lo := lo) (n := (n - lo).toNat) Pv (h0 H1 e) (fun i σ' H' hi p => hs i σ' H' (by omega) p) hd⟩
theorem ev_init {σ : L2.St} {H : Hp} : EvRL (tLst (tCons (tTup (tCons (tLst tNil) (tCons (tLst (tCons (tTup (tCons (tC (.int 0)) (tCons (tC (.int 0)) (tCons (tC (.int 1)) (tCons (tC (.int 1)) tNil))))) tNil)) tNil))) tNil)) σ H allR (allF 0) := fun H1 e Q q =>
  ⟨(show 0 ≤ sizeLine by decide), fun a na => ⟨(show 4 ≤ sizeLine by decide), fun t nt => ⟨(show 1 ≤ sizeLine by decide), fun b nb => ⟨(show 2 ≤ sizeLine by decide), fun T nT => ⟨(show 1 ≤ sizeLine by decide), fun f nf => by
    have e1 := Evl.Ex.new (o := .lst []) na
    have e2 := Evl.Ex.new (o := .tup [.int 0, .int 0, .int 1, .int 1]) nt
    have e3 := Evl.Ex.new (o := .lst [.ref t]) nb
    have e4 := Evl.Ex.new (o := .tup [.ref a, .ref b]) nT
    have e5 := Evl.Ex.new (o := .lst [.ref T]) nf
    exact q f _ (Evl.fresh_back (((e1.trans e2).trans e3).trans e4) nf) ((((e1.trans e2).trans e3).trans e4).trans e5)
      ⟨[.ref T], upd_same, .cons ⟨T, a, b, rfl, e5 _ _ upd_same, (((e2.trans e3).trans e4).trans e5) _ _ upd_same, ⟨[.ref t], (e4.trans e5) _ _ upd_same, .cons ⟨t, rfl, ((e3.trans e4).trans e5) _ _ upd_same⟩ .nil⟩⟩ .nil⟩⟩⟩⟩⟩⟩
theorem border_le (ps : List Pn) (ax : Int) : borderF ps ax ≤ ps.length := List.length_filter_le _ _
def partF (z : Coded) (j : Nat) : List Coded := (((List.range j).map fun i : Nat => 0 - (borderF z.2 0 : Int) + (i : Int)).filter fun e => !decide (e = 0)).map fun e => (z.1 ++ [e], pushF z.2 e)
theorem bCall {H : Hp} {b : Addr} {ps : List Pn} {ax : Int} (hb : Pns H b ps) (ne : ps ≠ []) (hl : ps.length ≤ 1000) (hax : 0 ≤ ax ∧ ax ≤ 1) : Evl.SpV spBorderE ([.ref b, .int ax] ++ []) H (.int (borderF ps ax : Int)) := fun H1 e Q q E =>
  ⟨b, ps, ax, rfl, hb.ex panR_e e, ne, hl, hax, fun H' e' => q H' e'⟩
theorem unhide {H : Hp} {D l : Addr} {us : List Coded} (h : RL (KR D) H l us) : RL allR H l us := by
  obtain ⟨ys, h1, h2⟩ := h
  refine ⟨ys, h1, ?_⟩
  clear h1
  induction h2 with
  | nil => exact .nil
  | cons h _ ih => exact .cons (allR_e _ _ _ _ hide_ex h) ih
def spAll : Sp := fun vs H Q _ => ∃ (m : Nat), vs = [.int (m : Int)] ∧ 1 ≤ m ∧ m ≤ 100 ∧ (∀ i < m, (allF i).length < 40000) ∧
  ∀ H' l, Evl.Ex H H' → H l = none → RL allR H' l (allF (m - 1)) → Q (.ref l) H'
end
end GL
set_option Elab.async false
set_option linter.all false
set_option maxRecDepth 100000
set_option maxHeartbeats 4000000
/-! # a def that tells whether a thing is a whole number, called where no frame is known -/
namespace GnR
open PySem PySem.Spec PyProof.Rows L2
section
variable {P : Program} {w : World} {K : PySem.W.Frag} {mg : Str → Option Value} {base : Heap}
/-- the def «return type(x) is int» -/
structure IsNum (st : Stmt) (x : Str) : Prop where
  body : ∃ p1 p2 p3 p4 p5 p6, defBody st = [.Return (some (.Compare (.Call (.Name "type" p1) [.Name x p2] [] p3) [.Is] [.Name "int" p4] p5)) p6]
  kind : (defScope st).kind = .function
  co : (defScope st).isCoroutine = false
  gen : (defScope st).isGenerator = false
  lx : (defScope st).names.lookup x = some .local
  ty : (defScope st).names.lookup ("type" : Str) = some .globalImplicit
  it : (defScope st).names.lookup ("int" : Str) = some .globalImplicit
  dx : (x == ("__debug__" : Str)) = false
theorem raw_num {x nm qual : Str} {st : Stmt} {f : Addr} {fd : FuncData} (M : Mod K mg base) (F : Fun K nm qual st f fd) (N : IsNum st x) (bd : ∀ (s : Shared) (u : Value), BindsTo s fd ⟨[u], []⟩ [(x, u)]) (mt : mg "type" = none) (mi : mg "int" = none)
    {A : Around} {E : Value → Shared → Prop} {s : Shared} {n : Int} {t : Tok} {Q : Value → Shared → Prop} (hk : ∀ b o, base.get? b = some o → s.heap.get? b = some o) (hd : A.depth < recursionLimit) (h : ∀ s', Keeps s s' → Q (.bool true) s') :
    wpAny (model P w) A (call (.ref f) [.int n t]) Q E s := by
  have bd1 := bd s (.int n t)
  obtain ⟨oc, od, kV, doc, pm, an, cdv, ct, osl, rfl, lk, hcd⟩ := F.ex
  obtain ⟨p1, p2, p3, p4, p5, p6, hb⟩ := N.body
  have KX : K.In s.heap := M.kin.keeps hk
  have lim : s.heap.NoLimit := M.nolimit.keeps hk
  refine wpAny_call ?_
  refine codeAny_call_function hd (KX _ _ lk) rfl N.co N.gen rfl (PySem.W.codeRec_of KX hcd) (bd1 _ _ _ _ ?_)
  refine wpAny_newFunctionEnv_cells N.kind (fun y hy => ?_) fun env he s1 x1 => ?_
  · rw [List.mem_singleton.mp hy]
    exact .inl N.lx
  · subst he
    refine ⟨lim.keeps x1.toInCall.keep, codeAny_func ?_⟩
    rw [hb]
    obtain ⟨h1, tk, rfl, hk1⟩ := x1.done
    have hkb : ∀ b o, base.get? b = some o → h1.get? b = some o := fun b o e => hk1 b o (hk b o e)
    obtain ⟨mb, hb1, hb2⟩ := M.blt
    refine wpAny_execs_cons (wpAny_Return_some (wpAny_Compare1 ?_ (by rfl)))
    refine wpAny_Call_Name_kw (Calls.Name_function_global N.kind N.ty (Calls.loadGlobal_builtin (M.glob.keeps hkb) mt (hb1.keeps hkb) ((hb2 _ (by decide)).trans (by decide +kernel : bootBuiltins "type" = some (.type "type"))) ?_) (by decide))
    refine PyProof.Rows.callWith_type1 ?_ (by rfl) (by rfl)
    refine Calls.spliced_cons ?_
    refine wpAny_Name (wpAny_loadName_local N.kind N.lx x1.toInCall.ns (v := .int n t) ?_ ?_) N.dx
    · exact bindL_get (P := [x]) (vs := [.int n t]) (i := 0) (by simp) rfl rfl N.lx
    · refine Calls.spliced_nil ?_
      refine call_type_of (Tx := "int") rfl (by decide +kernel) ?_
      refine Calls.Name_function_global N.kind N.it (Calls.loadGlobal_builtin (M.glob.keeps hkb) mi (hb1.keeps hkb) ((hb2 _ (by decide)).trans (by decide +kernel : bootBuiltins "int" = some (.type "int"))) ?_) (by decide)
      refine wpAny_is_self rfl ?_
      exact h _ ⟨h1, tk, rfl, hk1⟩
end
end GnR
set_option Elab.async false
set_option linter.all false
set_option maxRecDepth 100000
set_option maxHeartbeats 4000000
/-! # all(f(x) for x in a list of whole numbers), f such a def; the code's table is known to be one, no more -/
namespace GnR
open PySem PySem.Spec PyProof.Rows L2 GxR
/-- the table at p, whatever it holds by now -/
def TabIs (p : Addr) (h : Heap) : Prop := ∃ ps : Array Value, h.get? p = some { cls := .none, data := .fields ps } ∧ TriplesOk ps.toList
def TabO (p : Addr) : HO := .ext (TabIs p)
section
variable {P : Program} {w : World} {K : PySem.W.Frag} {mg : Str → Option Value} {base : Heap}
/-- the element: true of each whole number, and nothing is changed -/
def EltI (P : Program) (w : World) (base : Heap) (scope : Scope) (x : Str) (elt : Expr) : Prop :=
  ∀ (ce : Env) (A1 : Around) (E1 : Value → Shared → Prop) (n : Int) (t : Tok) (s1 : Shared) (m1 : Str → Option Value), ce.scope = scope → ce.globals = mainGlobals → A1.depth < recursionLimit →
    (∀ b o, base.get? b = some o → s1.heap.get? b = some o) → s1.heap.Ns ce.locals m1 → m1 x = some (.int n t) → wpAny (model P w) A1 (eval elt ce) (fun y s2 => y = .bool true ∧ Keeps s1 s2) E1 s1
theorem elt_num {x y nm qual : Str} {st : Stmt} {f : Addr} {fd : FuncData} {scope : Scope} {p1 p2 p3 : Pos} (M : Mod K mg base) (F : Fun K nm qual st f fd) (N : IsNum st y) (bd : ∀ (s : Shared) (u : Value), BindsTo s fd ⟨[u], []⟩ [(y, u)]) (mt : mg "type" = none) (mi : mg "int" = none)
    (hf : mg nm = some (.ref f)) (hk : scope.kind = .function) (lx : scope.names.lookup x = some .local) (ln : scope.names.lookup nm = some .globalImplicit) (dx : (x == ("__debug__" : Str)) = false) (dn : (nm == ("__debug__" : Str)) = false) :
    EltI P w base scope x (.Call (.Name nm p1) [.Name x p2] [] p3) := by
  intro ce A1 E1 n t s1 m1 hs hg hd hb hn hm
  subst hs
  refine wpAny_Call_Name_kw (Calls.Name_function_global hk ln (Calls.loadGlobal_global (by rw [hg]; exact M.glob.keeps hb) hf ?_) dn)
  refine PySem.W.callWith_K (h₀ := base) M.kin F.kp ?_ (by rfl) (by rfl)
  refine Calls.spliced_cons (wpAny_Name (wpAny_loadName_local hk lx hn hm ?_) dx)
  refine Calls.spliced_nil ⟨M.kin.keeps hb, ?_⟩
  exact raw_num M F N bd mt mi hb hd fun s2 k => ⟨rfl, k⟩
end
section
variable {X : Cx} {pins : List (Addr × Obj)} {σ : L2.St} {H : Hp} {s : Shared}
theorem tab_ok {p : Addr} {h : Heap} (t : TabIs p h) {Pg : Program} {w : World} {H : Hp} : ObjOk Pg w H h p (TabO p) := by
  obtain ⟨ps, e, r⟩ := t
  exact ⟨⟨ps, e, r⟩, ⟨_, e⟩, fun h1 h2 ⟨qs, e1, r1⟩ k => ⟨qs, k _ e1, r1⟩⟩
/-- the table may have grown: nothing else is known to have changed -/
theorem inv_tabO {p : Addr} {h1 : Heap} {g1 : Array GenState} {d1 : Drawn} {t1 : Nat} (I : Inv X pins σ H s) (hP : H p = some (TabO p)) (k : ∀ b o, b ≠ p → s.heap.get? b = some o → h1.get? b = some o) (ht : TabIs p h1) (hg : AllBare g1) :
    Inv X pins σ H { s with heap := h1, gens := g1, drawn := d1, toks := t1 } := by
  have ne0 : ∀ b, H b = none → b ≠ p := fun b e z => by
    rw [z, hP] at e
    cases e
  have neX : ∀ b u, H b = some u → (∀ φ, u ≠ .ext φ) → b ≠ p := fun b u e q z => by
    rw [z, hP] at e
    exact q _ (Option.some.inj e).symm
  obtain ⟨ps, hp, _⟩ := id ht
  refine I.step (H' := H) (ch := []) ?c1 ?c2 ?c3 ?c4 ?c5 (fun _ _ e => e) (fun _ _ _ e => e) ?c6 ?c7 ?c8 hg
  case c1 => exact fun b hb => (nomatch hb)
  case c2 => exact fun b o _ _ _ e n => k b o (ne0 b n) e
  case c3 => exact fun b o _ _ _ e n => ⟨o.slots, k b o (ne0 b n) e⟩
  case c4 => exact fun b o _ _ n => n
  case c5 =>
    intro b o _ e
    by_cases z : b = p
    · exact ⟨_, z ▸ hp⟩
    · exact ⟨o, k b o z e⟩
  case c6 => exact fun b qs e => ⟨#[], by rw [e]; simp⟩
  case c7 =>
    intro m hn
    exact hn.at' fun o e => k _ o (ne0 _ I.free) e
  case c8 =>
    intro b u e
    by_cases z : b = p
    · subst z
      obtain rfl := Option.some.inj (hP.symm.trans e)
      exact tab_ok ht
    · refine (I.hok b u e).stay (fun d v hd q => k d v (fun zd => ?_) q) (fun _ q => q) fun _ _ q => q
      rcases hd with y | y
      · exact z (y.symm.trans zd)
      · rw [zd, hP] at y
        cases y
end
end GnR
set_option Elab.async false
set_option linter.all false
set_option maxRecDepth 100000
set_option maxHeartbeats 4000000
/-! # the rule for all(f(x) for x in xs) -/
namespace GnR
open PySem PySem.Spec PyProof.Rows L2 GxR
def tAllN (K : PySem.W.Frag) (p : Addr) (te : TE) : TE := fun σ H Q => te σ H fun v H1 => ∃ (l : Addr) (ns : List Int), v = .ref l ∧ SqL K H1 l (ns.map V.int) ∧ H1 p = some (TabO p) ∧ Q (.bl true) H1
section
variable {X : Cx}
/-- what is asked of the generator when it stands: it can be walked, yields True and leaves all but the table -/
def Stands (X : Cx) (pins : List (Addr × Obj)) (σ : L2.St) (H : Hp) (g : Addr) (s : Shared) : Prop :=
  ∃ (fp wr : List Addr) (G : Array GenState → Array GenState → Prop) (n : Nat) (F : Nat → Value → Prop) (St : Nat → Shared → Prop),
    WalksS X.prog X.w X.A.in1 g fp wr G n F St ∧ St 0 s ∧ (∀ i y, F i y → y = .bool true) ∧ ∀ s2, Moved wr G s s2 → Inv X pins σ H s2
theorem gen_nums {c p : Addr} {elt iter : Expr} {x : Str} {px gpos : Pos} {scope : Scope} {te : TE} {k : Nat} {pins : List (Addr × Obj)} {σ : L2.St} {H : Hp} {s : Shared} {R : Hp → Prop} {Qv : Value → Shared → Prop}
    (hr : Room k X.A) (TB : TabB X.base X.mg c p) (hcode : X.env.code = .ref c) (S : GenS X.env scope x) (hi : PE X iter te) (hel : EltI X.prog X.w X.base scope x elt) (hs : ∀ v, genFold iter X.env v = pure v) (I : Inv X pins σ H s)
    (h : te σ H fun v H1 => ∃ (l : Addr) (ns : List Int), v = .ref l ∧ SqL X.K H1 l (ns.map V.int) ∧ H1 p = some (TabO p) ∧ R H1) (hQ : ∀ H1 g s2, R H1 → Stands X pins σ H1 g s2 → Qv (.ref g) s2) :
    wpAny (model X.prog X.w) X.A (eval (.GeneratorExp elt [⟨.Name x px, iter, [], 0⟩] scope gpos) X.env) Qv X.xe s := by
  have room : X.A.depth + 1 < recursionLimit := by
    have := hr.dp
    omega
  refine wpAny_GeneratorExp_walksQD hr.hd S.co (closure_ok S.free) S.cell S.dot S.loc S.kind (by omega) ?_ hs
  refine thn (hi.run pins s σ H _ I h) fun xv s1 hx => ?_
  obtain ⟨v, H1, I1, r1, l, ns, rfl, hl, hP, hR⟩ := hx
  cases r1
  obtain ⟨its, rv, pl, hz⟩ := I1.list hl
  have isInt : ∀ (i : Nat) (u : Value), its.toArray[i]? = some u → ∃ n t, u = .int n t := fun i u hu => by
    have hu2 : its[i]? = some u := by simpa using hu
    have hi2 : i < ns.length := by
      have q := rv.length
      rw [List.length_map] at q
      have := (List.getElem?_eq_some_iff.mp hu2).1
      omega
    obtain ⟨u2, k1, k2⟩ := rv.get (i := i) (x := .int ns[i]) (by rw [List.getElem?_map, List.getElem?_eq_getElem hi2]; rfl)
    obtain rfl := Option.some.inj (k1.symm.trans hu2)
    obtain ⟨t, e⟩ := k2
    exact ⟨_, t, e⟩
  refine wpAny_pyIter_list pl.isList ?_
  have llt : l < s1.heap.objs.size := by
    obtain ⟨o, ho, _⟩ := pl.isList
    exact Heap.lt_size ho
  obtain ⟨ps, hps, htr⟩ := (I1.hok p _ hP).1
  have plt : p < s1.heap.objs.size := Heap.lt_size hps
  have lp : l ≠ p := fun z => by
    obtain ⟨o, ho, hc, _⟩ := pl.isList
    rw [z, hps] at ho
    cases ho
    cases hc
  generalize hob : ({ cls := .type "list_iterator", data := .fields #[.ref l, .int 0 0] } : Obj) = ob
  have sz2 : (s1.heap.push ob).objs.size = s1.heap.objs.size + 1 := Heap.size_push ..
  have old2 : ∀ b u, s1.heap.get? b = some u → (s1.heap.push ob).get? b = some u := fun b u e => Heap.get?_push_of_some _ e
  have lim2 : (s1.heap.push ob).NoLimit := I1.nolimit.push ob
  have cd : PySem.W.CodeHd (s1.heap.push ob) c p := TB.code.keeps fun b u e => old2 b u (I1.bk b u e)
  have rest : ∀ (code : Value) (h3 : Heap) (tk : Nat), Heap.ExtBut p (s1.heap.push ob) h3 → (s1.heap.push ob).objs.size ≤ h3.objs.size → TabIs p h3 →
      wpAny (model X.prog X.w) X.A (builtinsFor X.env.globals X.env.builtins) (fun bi s4 =>
        ∃ Ia fp wr n Pf Sf pz F, Value.ref s1.heap.objs.size = .ref Ia ∧ (∀ A1 : Around, A1.handled = none → Walks X.prog X.w A1 Ia fp wr n Pf Sf) ∧ Sf 0 s4.heap ∧ (∀ b ∈ fp, b < s4.heap.objs.size) ∧ s4.heap.NoLimit ∧ cStatics ∉ wr ∧
          (∀ href : Heap, (∀ b o, s4.heap.get? b = some o → href.get? b = some o) → QuietGenD X.prog X.w (genEnv scope (cloFrom X.env.cells scope.names []) s4.heap.objs.size code bi X.env) x [] elt (List.range s4.heap.objs.size) wr Pf pz F href (X.A.depth + 1) (X.A.units + 8)) ∧
          (∀ a h5 tk5 gs, gs.bare = true → s4.heap.objs.size < a → h5.objs.size = a + 1 → (∀ b o, s4.heap.get? b = some o → h5.get? b = some o) →
            WalksS X.prog X.w X.A.in4 a (a :: s4.heap.objs.size :: List.range s4.heap.objs.size) (s4.heap.objs.size :: wr) (GenOnlyQ s4.gens.size) (passing pz n 0).length
              (fun j y => ∃ i, (passing pz n 0)[j]? = some i ∧ F i y) (GenAt X.prog X.w X.A.in4 a s4.gens.size s4.heap.objs.size (List.range s4.heap.objs.size) wr pz n F) →
            GenAt X.prog X.w X.A.in4 a s4.gens.size s4.heap.objs.size (List.range s4.heap.objs.size) wr pz n F 0 { s4 with gens := s4.gens.push gs, toks := tk5, heap := h5 } →
            Qv (.ref a) { s4 with gens := s4.gens.push gs, toks := tk5, heap := h5 })) X.xe { s1 with heap := h3, toks := tk } := by
    intro code h3 tk hx sz3 ht3
    have up : ∀ b u, b ≠ p → s1.heap.get? b = some u → h3.get? b = some u := fun b u n e => hx b u n (old2 b u e)
    obtain ⟨bm, bo, e1, e2, e3, e4, e5, e6, e7, e8⟩ := TB.bm
    have stat : cStatics ≠ p := fun z => by
      obtain ⟨_, ns2, _⟩ := I1.nolimit
      obtain ⟨o', es, ep, ho, hd, _⟩ := ns2
      rw [z, hps] at ho
      cases ho
      cases hd
    have statlt : cStatics < s1.heap.objs.size := by
      obtain ⟨_, ns2, _⟩ := I1.nolimit
      exact ns2.lt
    have gl : h3.Ns X.env.globals X.mg := by
      rw [I1.ok.glob]
      exact ((I1.mod.glob.keeps I1.bk).push ob).extBut hx TB.gP
    refine wpAny_builtinsFor gl e1 e2 (up _ _ e4 (I1.bk _ _ e5)) e6 e7 e8 ?_
    have lne : l ≠ s1.heap.objs.size := Nat.ne_of_lt llt
    have itN : s1.heap.objs.size ≠ p := fun z => by
      have := z ▸ plt
      exact Nat.lt_irrefl _ this
    refine ⟨s1.heap.objs.size, [s1.heap.objs.size, l], [s1.heap.objs.size], its.toArray.size, _, _, fun _ => true, fun _ y => y = .bool true, rfl, fun A1 hA => Walks.list hA _ l lne its.toArray, ⟨?s1, ?s2⟩, ?fp, lim2.extBut hx stat, ?st, ?qt, ?fin⟩
    case s1 =>
      refine ⟨_, hx _ _ itN (Heap.get?_push_size _ (by rw [← hob]; rfl)), ?_⟩
      subst hob
      exact ⟨rfl, rfl⟩
    case s2 => exact pl.isList.at fun o e => up l o lp e
    case fp =>
      intro b hb
      show b < h3.objs.size
      have : s1.heap.objs.size + 1 ≤ h3.objs.size := sz2 ▸ sz3
      rcases List.mem_cons.mp hb with z | hb
      · rw [z]
        exact Nat.lt_of_lt_of_le (Nat.lt_succ_self _) this
      · rw [List.mem_singleton.mp hb]
        exact Nat.lt_of_lt_of_le (Nat.lt_succ_of_lt llt) this
    case st =>
      intro z
      rw [List.mem_singleton.mp z] at statlt
      exact Nat.lt_irrefl _ statlt
    case qt =>
      intro href hh
      have keepB : ∀ (s2 : Shared), (∀ b ∈ List.range h3.objs.size, b ∉ [s1.heap.objs.size] → ∀ o, href.get? b = some o → s2.heap.get? b = some o) → ∀ b o, X.base.get? b = some o → s2.heap.get? b = some o := fun s2 hk b o e => by
        have e2 := I1.bk b o e
        have nb : b ≠ p := fun z => by
          have := (I1.bs b o e).2
          rw [z, hP] at this
          cases this
        have e3 := up b o nb e2
        refine hk b (List.mem_range.mpr (Heap.lt_size e3)) (fun z => ?_) o (hh b o e3)
        have := Heap.lt_size e2
        rw [List.mem_singleton.mp z] at this
        exact Nat.lt_irrefl _ this
      refine ⟨fun A1 E1 i v s2 m2 hA hD hU hv hn hm hk => ?_, fun A1 E1 i v s2 m2 hA hD hU hv hz2 hn hm hk => ?_⟩
      · simp only [List.forIn_nil]
        exact wpAny_pure ⟨rfl, keeps_refl _⟩
      · obtain ⟨n, t, rfl⟩ := isInt i v hv
        exact hel _ A1 E1 n t s2 m2 rfl I1.ok.glob (by omega) (keepB s2 hk) hn hm
    case fin =>
      intro a h5 tk5 gs hgb hag hsz5 hk5 W5 hat
      refine hQ H1 a _ hR ⟨_, _, _, _, _, _, W5.in4_1, hat, fun i y hy => ?_, fun s2 hm => ?_⟩
      · obtain ⟨j, _, e⟩ := hy
        exact e
      · have notw : ∀ b u, s1.heap.get? b = some u → b ∉ h3.objs.size :: [s1.heap.objs.size] := fun b u e hb => by
          have hl := Heap.lt_size e
          have : s1.heap.objs.size + 1 ≤ h3.objs.size := sz2 ▸ sz3
          rcases List.mem_cons.mp hb with z | z
          · rw [z] at hl
            have : (h3.objs.size : Nat) < s1.heap.objs.size := hl
            omega
          · rw [List.mem_singleton.mp z] at hl
            exact Nat.lt_irrefl _ hl
        have ht5 : TabIs p s2.heap := by
          obtain ⟨qs, e, r⟩ := ht3
          exact ⟨qs, hm.heap p _ (notw p _ hps) (hk5 p _ e), r⟩
        have J := inv_tabO (h1 := s2.heap) (g1 := s2.gens) (d1 := s2.drawn) (t1 := s2.toks) I1 hP (fun b u n e => hm.heap b u (notw b u e) (hk5 b u (up b u n e))) ht5 (AllBare.movedS (I1.bare.push hgb) hm)
        rwa [sh_eta s1 s2 hm.os] at J
  refine ⟨lim2, ?_⟩
  have tab2 := cd.code (old2 p _ hps) htr
  cases hf : codeAmong gpos ps.toList with
  | some cv =>
    refine wpAny_genexprCode_hit hcode tab2 hf (rest cv _ s1.toks (Heap.ExtBut.refl _ _) (Nat.le_refl _) ⟨ps, old2 p _ hps, htr⟩)
  | none =>
    refine wpAny_genexprCodeX hcode tab2 (cd.tab (old2 p _ hps)) hf fun c2 h3 tk hx3 hge hlt hc3 _ htb3 _ => ?_
    obtain ⟨o1, vs, f1, tf, fl, tg, inF, tx, tt, op, _, _, _, _, _, _, _, _, _, htr3, _⟩ := hc3
    exact rest _ h3 tk hx3 (Nat.le_trans hge (Nat.le_of_lt hlt)) ⟨_, htb3.2, htr3⟩
/-- all(f(x) for x in xs) -/
theorem pe_allN {c p : Addr} {elt iter : Expr} {x : Str} {px pp pos gpos : Pos} {scope : Scope} {te : TE} {k : Nat} (hr : Room k X.A) (hg : Gl X "all") (hm : X.mg "all" = none) (TB : TabB X.base X.mg c p) (hcode : X.env.code = .ref c) (S : GenS X.env scope x) (hi : PE X iter te)
    (hel : Mod X.K X.mg X.base → EltI X.prog X.w X.base scope x elt) (hs : ∀ v, genFold iter X.env v = pure v)
    (he : starEach [.GeneratorExp elt [⟨.Name x px, iter, [], 0⟩] scope gpos] X.env = (false, eval (.GeneratorExp elt [⟨.Name x px, iter, [], 0⟩] scope gpos) X.env) :: starEach [] X.env := by rfl) :
    PE X (.Call (.Name "all" pp) [.GeneratorExp elt [⟨.Name x px, iter, [], 0⟩] scope gpos] [] pos) (tAllN X.K p te) := by
  refine ⟨fun pins s σ H Q I h => ?_⟩
  have hb : bootBuiltins "all" = some (.builtin "all") := by decide +kernel
  refine wpAny_Call_Name_kw (ld_blt I hg hm hb (PyProof.Rows.callWith_builtin1 ?_ he (by rfl)))
  rw [he]
  refine Calls.spliced_cons (gen_nums (R := fun H1 => Q (.bl true) H1) hr TB hcode S hi (hel I.ok.mod) hs I h fun H1 g s2 hR hG => ?_)
  obtain ⟨fp, wr, G, n, F, St, W, hst, hF, hI⟩ := hG
  refine Calls.spliced_nil (call_all_walkS (W.self 0 _ _ _ hst ⟨g, fp, wr, G, _, F, St, fun _ => true, rfl, W, hst, fun i y s3 Q3 E3 hy q => ?_, fun s3 hmv => ?_⟩))
  · rw [hF i y hy]
    exact wpAny_truthy_bool q
  · have e : ((List.range n).all fun _ => true) = true := by simp
    rw [e]
    exact ⟨.bl true, H1, hI s3 hmv, rfl, hR⟩
end
end GnR
set_option Elab.async false
set_option linter.all false
set_option maxRecDepth 100000
set_option maxHeartbeats 8000000
/-! # defs of the program: whether a number, the places of a row -/
namespace GL
open PySem PySem.Spec PyProof.Rows L2 Geo Rel
structure BP (mg : Str → Option Value) : Prop extends BN mg where
  type_ : mg "type" = none
  all_ : mg "all" = none
  isinstance_ : mg "isinstance" = none
section
variable {P : Program} {w : World} {K : PySem.W.Frag} {mg : Str → Option Value} {base : Heap}
def spIsNum : Sp := fun vs H Q _ => ∃ n : Int, vs = [.int n] ∧ ∀ H', Evl.Ex H H' → Q (.bl true) H'
theorem ok_is_number {f : Addr} {fd : FuncData} (F : Fun K "is_number" "is_number" s_is_number f fd) (B : BP mg) : FnOk P w K mg base CX0 1 f fd ["thing"] spIsNum := by
  refine F.ok sc_is_number (fun vs H Q E h => ?_) (fun cdv A outer s H vs Q E hr h => ?_)
  · obtain ⟨n, rfl, _⟩ := h
    rfl
  · obtain ⟨n, rfl, q⟩ := h
    refine ⟨_, (pss_one (ps_ret (pe_cmpR op_isTy (pe_callTy (T := "type") RZ.call_type4 (by rfl) B.type_ (by decide +kernel) (pa_cons (pv 0) pa_nil)) (pe_bltn (v := .ty "int") (by rfl) B.int_ (by decide +kernel) rfl) (nomark _)))), ?_⟩
    exact ⟨.int n, rfl, .int n, "int", rfl, .int n, _, _, rfl, rfl, q H (Evl.Ex.refl _)⟩
/-- the places of a row -/
def placesF (row : List Int) : List Int := (enumL row).foldl (fun acc u => acc.set u.2.toNat (u.1 : Int)) (row.map fun _ => 0)
theorem fold_len (us : List (Nat × Int)) : ∀ acc : List Int, (us.foldl (fun acc u => acc.set u.2.toNat (u.1 : Int)) acc).length = acc.length := by
  induction us with
  | nil => exact fun _ => rfl
  | cons u us ih =>
    intro acc
    rw [List.foldl_cons, ih, List.length_set]
theorem placesF_len (row : List Int) : (placesF row).length = row.length := by
  unfold placesF
  rw [fold_len, List.length_map]
theorem enum_take {α : Type} {zs : List α} {i : Nat} {z : α} (h : zs[i]? = some z) : (enumL zs).take (i + 1) = (enumL zs).take i ++ [(i, z)] := by
  have : (enumL zs)[i]? = some (i, z) := by
    unfold enumL
    rw [List.getElem?_map, List.getElem?_zipIdx, h]
    simp
  rw [List.take_add_one, this]
  rfl
def spPlaces : Sp := fun vs H Q _ => ∃ (l : Addr) (row : List Int), vs = [.ref l] ∧ H l = some (.lst (row.map V.int)) ∧ row.length ≤ 1000 ∧ (∀ r ∈ row, 0 ≤ r ∧ r < row.length) ∧ ∀ H' a, Evl.Ex H H' → H a = none → H' a = some (.lst ((placesF row).map V.int)) → Q (.ref a) H'
theorem ok_find_places {f : Addr} {fd : FuncData} (F : Fun K "find_places" "find_places" s_find_places f fd) (B : BP mg) : FnOk P w K mg base CX0 1 f fd ["row"] spPlaces := by
  refine F.ok sc_find_places (fun vs H Q E h => ?_) (fun cdv A outer s H vs Q E hr h => ?_)
  · obtain ⟨l, row, rfl, _⟩ := h
    rfl
  · obtain ⟨l, row, rfl, hl, hlen, hb, q⟩ := h
    refine ⟨_, (pss_cons (ps_setLc (i := 1) (own := [("_", 4)]) (g := gName 4) (tt := tYes) rfl sc_find_places.nd rfl rfl (sw_true rfl rfl rfl (by decide +kernel)) (pi_list (pv 0)) (blkOk_by (N := n_find_places) (sc := (defScope s_find_places)) (by decide +kernel)) (fun _ _ _ _ _ => (pg_name (i := 4) sc_find_places.nd rfl (Or.inl rfl))) (fun _ _ _ _ _ => pts_nil) (fun _ _ _ _ _ => pe_int))
      (pss_cons (ps_for PassesOwn.never rfl (pi_enum (by rfl) B.enumerate_ (pa_cons (pv 0) pa_nil)) (pg_tup rfl (pgs_cons (pg_name (i := 2) sc_find_places.nd rfl (Or.inl rfl)) (pgs_cons (pg_name (i := 3) sc_find_places.nd rfl (Or.inl rfl)) pgs_nil))) (pss_one (ps_asg (pv 2) (pg_sub (pv 1) (pv 3) set_list))))
      (pss_one (ps_ret (pv 1))))), ?_⟩
    refine Evl.q_asgL (xs := (row.map fun _ => (0 : Int)).map V.int) ?_ fun a H1 na e1 ha => ?_
    · have z := el_lcI (K := K) (R := intR) (f := fun _ : Int => (0 : Int)) (σ := [some (.ref l), none, none, none, none]) (H := H) (tl := tVar 0) (zs := row) (a := l) (j := 4) (vs := [4]) (te := tC (.int 0)) intR_e (Evl.ev_var rfl) (ints_rl hl) (by omega) (fun _ => rfl) (fun s hs y H2 e2 hy => Evl.ev_c)
      exact z
    · dsimp only
      refine q_forERL (K := K) (R := intR) (zs := row) (p := l) (Evl.ev_var rfl) (fun i σ H' => ∃ o2 o3, σ = [some (.ref l), some (.ref a), o2, o3, none] ∧ Evl.Ex H H' ∧ H' a = some (.lst ((((enumL row).take i).foldl (fun acc u => acc.set u.2.toNat (u.1 : Int)) (row.map fun _ => 0)).map V.int)))
        (fun H2 e2 => ⟨_, _, rfl, e1.trans e2, e2 _ _ ha⟩) (fun i σ H2 _ hv => ?_) (fun i z y T σ H2 hz hy hv nT => ?_) (fun σ H2 hv => ?_)
      · obtain ⟨_, _, _, e2, _⟩ := hv
        exact ints_rl (e2 _ _ hl)
      · obtain ⟨o2, o3, rfl, e2, h2⟩ := hv
        obtain rfl : y = .int z := hy
        have hz2 := hb z (List.mem_of_getElem? hz)
        rw [enum_take hz, List.foldl_append]
        have hflen := fold_len ((enumL row).take i) (row.map fun _ => 0)
        rw [List.length_map] at hflen
        generalize ((enumL row).take i).foldl (fun acc u => acc.set u.2.toNat (u.1 : Int)) (row.map fun _ => 0) = acc at h2 hflen
        refine g_tup2v (i := 2) (j := 3) upd_same ?_
        have h3 := Evl.Ex.new (o := .tup [.int (i : Nat), .int z]) nT _ _ h2
        have e3 := e2.trans (Evl.Ex.new (o := .tup [.int (i : Nat), .int z]) nT)
        generalize upd H2 T (.tup [.int (i : Nat), .int z]) = H3 at h3 e3
        refine Evl.s_setL (j := z.toNat) h3 (Evl.ev_var rfl) (Evl.ev_var rfl) (Evl.ev_is (Evl.ev_var rfl) (by rw [Int.toNat_of_nonneg hz2.1])) (by rw [List.length_map]; omega) fun H4 e4 => ?_
        refine ⟨_, _, rfl, ((But1.of (Evl.Ex.refl H4)).upd).ex na (e3.trans e4), ?_⟩
        rw [upd_same, ← List.map_set]
        rfl
      · obtain ⟨o2, o3, rfl, e2, h2⟩ := hv
        rw [← enumL_len, List.take_length] at h2
        exact Evl.s_ret (Evl.ev_var rfl) fun H3 e3 => q H3 a (e2.trans e3) na (e3 _ _ h2)
end
end GL
set_option Elab.async false
set_option linter.all false
set_option maxRecDepth 100000
set_option maxHeartbeats 8000000
/-! # the last lesser number before each; panes by their places -/
namespace GL
open PySem PySem.Spec PyProof.Rows L2 Geo Rel
section
variable {P : Program} {w : World} {K : PySem.W.Frag} {mg : Str → Option Value} {base : Heap} {σ : L2.St} {H : Hp}
theorem et_list {l : Addr} {xs : List V} {n : Nat} (hn : σ[n]? = some (some (.ref l))) (hl : H l = some (.lst xs)) : Evl.EvT (fun σ H Q => tVar n σ H fun x H1 => ∃ k, TruV K x H1 k ∧ Q k H1) σ H (!xs.isEmpty) :=
  fun H1 e Q q => ⟨.ref l, hn, _, .inl ⟨xs, SqL.of (e _ _ hl), rfl⟩, q H1 (Evl.Ex.refl _)⟩
theorem s_popL {D : Ends} {l : Addr} {xs : List V} {y : V} {ta : TE} (hl : H l = some (.lst (xs ++ [y]))) (ha : Evl.Ev ta σ H (.ref l)) (k : ∀ H1, Evl.Ex H H1 → D.nx σ (upd H1 l (.lst xs))) : tDrop (tBM0 K "list" rPop ta) D σ H :=
  ha H (Evl.Ex.refl H) _ fun H1 e1 => ⟨Or.inl ⟨rfl, _, Evl.sq_of (e1 l _ hl)⟩, l, _, y, rfl, rfl, e1 l _ hl, by simp, by
    rw [List.dropLast_concat]
    exact k H1 e1⟩
def popF (ns : List Int) (n : Int) (L : List Int) : List Int := (L.reverse.dropWhile fun p => decide (ns.getD p.toNat 0 > n)).reverse
def stepLL (ns : List Int) (st : List Int × List Int) (u : Nat × Int) : List Int × List Int := (st.1 ++ [(popF ns u.2 st.2).getLastD (-1)], popF ns u.2 st.2 ++ [(u.1 : Int)])
def lastF (ns : List Int) : List Int := ((enumL ns).foldl (stepLL ns) ([], [])).1
theorem popF_nil (ns : List Int) (n : Int) : popF ns n [] = [] := rfl
theorem popF_snoc (ns : List Int) (n : Int) (L : List Int) (p : Int) : popF ns n (L ++ [p]) = if ns.getD p.toNat 0 > n then popF ns n L else L ++ [p] := by
  unfold popF
  rw [List.reverse_append, List.reverse_singleton, List.singleton_append, List.dropWhile_cons]
  by_cases c : ns.getD p.toNat 0 > n
  · rw [if_pos (decide_eq_true c), if_pos c]
  · rw [if_neg (by simp at c ⊢; exact c), if_neg c]
    simp
theorem popF_sub (ns : List Int) (n : Int) (L : List Int) : ∀ p ∈ popF ns n L, p ∈ L := fun p hp => by
  unfold popF at hp
  exact List.mem_reverse.mp ((List.dropWhile_sublist _).subset (List.mem_reverse.mp hp))
theorem popF_len (ns : List Int) (n : Int) (L : List Int) : (popF ns n L).length ≤ L.length := by
  unfold popF
  rw [List.length_reverse]
  have := (List.dropWhile_sublist (l := L.reverse) fun p => decide (ns.getD p.toNat 0 > n)).length_le
  rwa [List.length_reverse] at this
theorem lastF_len (ns : List Int) : (lastF ns).length = ns.length := by
  have key : ∀ (us : List (Nat × Int)) (st : List Int × List Int), (us.foldl (stepLL ns) st).1.length = st.1.length + us.length := by
    intro us
    induction us with
    | nil => intro st; rfl
    | cons u us ih =>
      intro st
      rw [List.foldl_cons, ih]
      simp [stepLL]
      omega
  unfold lastF
  rw [key, enumL_len]
  simp
def spLast : Sp := fun vs H Q _ => ∃ (l : Addr) (ns : List Int), vs = [.ref l] ∧ H l = some (.lst (ns.map V.int)) ∧ ns.length ≤ 1000 ∧ ∀ H' a, Evl.Ex H H' → H a = none → H' a = some (.lst ((lastF ns).map V.int)) → Q (.ref a) H'
end
end GL
set_option Elab.async false
set_option linter.all false
set_option maxRecDepth 100000
set_option maxHeartbeats 8000000
/-! # panes by their places -/
namespace GL
open PySem PySem.Spec PyProof.Rows L2 Geo Rel
section
variable {P : Program} {w : World} {K : PySem.W.Frag} {mg : Str → Option Value} {base : Heap} {σ : L2.St} {H : Hp}
/-- a list of new objects, one for each number of a range -/
theorem en_lcRg1 {ta : TA} {te : TE} {n : Nat} {j : Nat} {vs : List Nat} (o : Nat → HO) (h : Evl.EvA ta σ H [.int (n : Int)]) (hz : n ≤ 40000) (hw : ∀ x, wipe ((wipe σ vs).set j (some x)) vs = wipe σ vs)
    (he : ∀ i, i < n → ∀ H1, Evl.Ex H H1 → EvNew te ((wipe σ vs).set j (some (.int (i : Int)))) H1 (o i)) : EvNews (tLc (iRng1 ta) (gName j) tYes te vs) σ H ((List.range n).map o) := by
  intro H1 e Q q
  refine h H1 e _ fun H2 e1 => ⟨n, rfl, by omega, by omega, fun Dl hD => ?_⟩
  refine lc_new (H := H2) (walk_range (lo := 0) (n := (n : Int).toNat)) (zs := List.range n) (by simp) (fun H3 e2 => trivial) o (by simp; omega) (fun i z x H3 H4 hzi hH hy => ?_) hD fun as H3 e2 h3 hnd hf hl2 hc => q Dl as H3 (Evl.fresh_back e1 hD) (e1.trans e2) h3 hnd (fun b hb => ⟨Evl.fresh_back e1 (hf b hb).1, (hf b hb).2⟩) (by rw [List.length_map]; exact hl2) (fun i b ob h1 h2 => ?_)
  · obtain ⟨rfl, rfl⟩ := hy
    obtain ⟨k1, k2⟩ := List.getElem?_eq_some_iff.mp hzi
    rw [List.getElem_range] at k2
    rw [List.length_range] at k1
    subst k2
    refine ⟨Evl.Ex.refl _, fun Q' k => ?_⟩
    have z0 : (0 : Int) + ((i : Nat) : Int) = (i : Int) := Int.zero_add _
    show Q' ((wipe σ vs).set j (some (.int (0 + (i : Int))))) _
    rw [z0]
    exact k _ (hw _) fun H5 e5 Q q => he i k1 H2 (e.trans e1) H5 (hH.trans e5) Q q
  · rw [List.getElem?_map] at h2
    cases c : (List.range n)[i]? with
    | none => rw [c] at h2; cases h2
    | some z =>
      rw [c] at h2
      rw [hc i b z h1 c]
      exact h2
theorem q_asgNews {te : TE} {os : List HO} {i : Nat} {D : Ends} {tz : TS} (h : EvNews te σ H os) (k : ∀ (p : Addr) (as : List Addr) (H1 : Hp), H p = none → Evl.Ex H H1 → H1 p = some (.lst (as.map V.ref)) → as.Nodup → (∀ b ∈ as, H b = none ∧ b ≠ p) → as.length = os.length →
    (∀ (i : Nat) (b : Addr) (o : HO), as[i]? = some b → os[i]? = some o → H1 b = some o) → tz D (σ.set i (some (.ref p))) H1) : tSeq (tAsg te (gName i)) tz D σ H := h H (Evl.Ex.refl H) _ k
/-- a list of lists of numbers, all of them apart, made since H0 -/
structure Grp (H0 H : Hp) (p : Addr) (as : List Addr) (gs : List (List Int)) : Prop where
  l : H p = some (.lst (as.map V.ref))
  nd : as.Nodup
  fr : ∀ b ∈ as, H0 b = none ∧ b ≠ p
  p0 : H0 p = none
  len : as.length = gs.length
  at_ : ∀ (i : Nat) (b : Addr) (g : List Int), as[i]? = some b → gs[i]? = some g → H b = some (.lst (g.map V.int))
theorem Grp.ex {H0 H H' : Hp} {p : Addr} {as : List Addr} {gs : List (List Int)} (h : Grp H0 H p as gs) (e : Evl.Ex H H') : Grp H0 H' p as gs := ⟨e _ _ h.l, h.nd, h.fr, h.p0, h.len, fun i b g h1 h2 => e _ _ (h.at_ i b g h1 h2)⟩
theorem Grp.rl {H0 H : Hp} {p : Addr} {as : List Addr} {gs : List (List Int)} (h : Grp H0 H p as gs) : RL lstI H p gs := by
  refine ⟨_, h.l, ?_⟩
  have key : ∀ (as : List Addr) (gs : List (List Int)), as.length = gs.length → (∀ (i : Nat) (b : Addr) (g : List Int), as[i]? = some b → gs[i]? = some g → H b = some (.lst (g.map V.int))) → Paired (fun y z => lstI z y H) (as.map V.ref) gs := by
    intro as
    induction as with
    | nil =>
      intro gs hl _
      cases gs with
      | nil => exact .nil
      | cons => cases hl
    | cons a as ih =>
      intro gs hl k
      cases gs with
      | nil => cases hl
      | cons g gs => exact .cons ⟨a, rfl, k 0 a g rfl rfl⟩ (ih gs (by simpa using hl) fun i b g' h1 h2 => k (i + 1) b g' h1 h2)
  exact key as gs h.len h.at_
/-- groups[z].append(n) -/
theorem Grp.put {H0 H : Hp} {p b : Addr} {as : List Addr} {gs : List (List Int)} {i : Nat} {g : List Int} {n : Int} (h : Grp H0 H p as gs) (hb : as[i]? = some b) (hg : gs[i]? = some g) : Grp H0 (upd H b (.lst (g.map V.int ++ [.int n]))) p as (gs.set i (g ++ [n])) := by
  have hi := (List.getElem?_eq_some_iff.mp hg).1
  have pb : p ≠ b := fun e => (h.fr b (List.mem_of_getElem? hb)).2 e.symm
  refine ⟨by rw [upd_ne pb]; exact h.l, h.nd, h.fr, h.p0, by rw [List.length_set]; exact h.len, fun j c g' h1 h2 => ?_⟩
  by_cases e : i = j
  · subst e
    obtain rfl := Option.some.inj (hb.symm.trans h1)
    rw [List.getElem?_set_self hi] at h2
    obtain rfl := Option.some.inj h2
    rw [upd_same, List.map_append]
    rfl
  · rw [List.getElem?_set_ne e] at h2
    have : c ≠ b := fun e2 => by
      subst e2
      obtain ⟨q1, q2⟩ := List.getElem?_eq_some_iff.mp hb
      obtain ⟨q3, q4⟩ := List.getElem?_eq_some_iff.mp h1
      exact e ((List.getElem_inj h.nd).mp (q2.trans q4.symm))
    rw [upd_ne this]
    exact h.at_ j c g' h1 h2
def stepG (gs : List (List Int)) (u : Nat × Int) : List (List Int) := gs.set u.2.toNat (gs.getD u.2.toNat [] ++ [(u.1 : Int)])
def groupsF (ps : List Int) : List (List Int) := (enumL ps).foldl stepG ((List.range (ps.length + 1)).map fun _ => [])
theorem stepG_len (us : List (Nat × Int)) : ∀ gs : List (List Int), (us.foldl stepG gs).length = gs.length := by
  induction us with
  | nil => exact fun _ => rfl
  | cons u us ih =>
    intro gs
    rw [List.foldl_cons, ih]
    exact List.length_set
theorem stepG_size (us : List (Nat × Int)) : ∀ (gs : List (List Int)) (m : Nat), (∀ g ∈ gs, g.length ≤ m) → ∀ g ∈ us.foldl stepG gs, g.length ≤ m + us.length := by
  induction us with
  | nil => exact fun gs m h g hg => by simpa using h g hg
  | cons u us ih =>
    intro gs m h g hg
    rw [List.foldl_cons] at hg
    have := ih (stepG gs u) (m + 1) (fun g' hg' => ?_) g hg
    · simp
      omega
    · unfold stepG at hg'
      rcases List.mem_or_eq_of_mem_set hg' with k | k
      · have := h g' k
        omega
      · rw [k, List.length_append, List.length_singleton]
        rw [List.getD_eq_getElem?_getD]
        cases c : gs[u.2.toNat]? with
        | none => simp
        | some g2 =>
          have := h g2 (List.mem_of_getElem? c)
          simp
          exact this
def spGroups : Sp := fun vs H Q _ => ∃ (l : Addr) (ps : List Int), vs = [.ref l] ∧ H l = some (.lst (ps.map V.int)) ∧ ps.length ≤ 1000 ∧ (∀ r ∈ ps, 0 ≤ r ∧ r ≤ ps.length) ∧ ∀ H' a as, Evl.Ex H H' → Grp H H' a as (groupsF ps) → Q (.ref a) H'
end
end GL
set_option Elab.async false
set_option linter.all false
set_option maxRecDepth 100000
set_option maxHeartbeats 8000000
/-! # the sides of the drawn panes -/
namespace GL
open PySem PySem.Spec PyProof.Rows L2 Geo Rel
section
variable {P : Program} {w : World} {K : PySem.W.Frag} {mg : Str → Option Value} {base : Heap} {σ : L2.St} {H : Hp}
theorem el_revL {t : TE} {l : Addr} {xs : List V} (h : Evl.Ev t σ H (.ref l)) (hl : H l = some (.lst xs)) : Evl.EvL (tRevL K t) σ H xs.reverse := fun H1 e Q q =>
  h H1 e _ fun H2 e2 => ⟨l, xs, rfl, SqL.of ((e.trans e2) _ _ hl), fun p np => q p _ (Evl.fresh_back e2 np) (e2.trans (Evl.Ex.new np)) upd_same⟩
theorem el_last {t : TE} {E : XK} {l : Addr} {ns : List Int} (h : Evl.Ev t σ H (.ref l)) (hl : H l = some (.lst (ns.map V.int))) (hn : ns.length ≤ 1000) : Evl.EvL (tCall spLast [] E (tCons t tNil)) σ H ((lastF ns).map V.int) := fun H1 e Q q =>
  h H1 e _ fun H2 e2 => ⟨l, ns, rfl, (e.trans e2) _ _ hl, hn, fun H3 a e3 na ha => q a H3 (Evl.fresh_back e2 na) (e2.trans e3) ha⟩
theorem el_lastN {t : TE} {E : XK} {ns : List Int} (h : Evl.EvL t σ H (ns.map V.int)) (hn : ns.length ≤ 1000) : Evl.EvL (tCall spLast [] E (tCons t tNil)) σ H ((lastF ns).map V.int) := fun H1 e Q q =>
  h H1 e _ fun l H2 nl e2 hl => ⟨l, ns, rfl, hl, hn, fun H3 a e3 na ha => q a H3 (Evl.fresh_back e2 na) (e2.trans e3) ha⟩
/-- over a new list of numbers -/
theorem el_lcIN {f : Int → Int} {ns : List Int} {tl te : TE} {j : Nat} {vs : List Nat} (h : Evl.EvL tl σ H (ns.map V.int)) (hz : ns.length ≤ 40000) (hw : ∀ x, wipe ((wipe σ vs).set j (some x)) vs = wipe σ vs)
    (he : ∀ n ∈ ns, ∀ H1, Evl.Ex H H1 → Evl.Ev te ((wipe σ vs).set j (some (.int n))) H1 (.int (f n))) : Evl.EvL (tLc (iList K tl) (gName j) tYes te vs) σ H ((ns.map f).map V.int) := fun H1 e Q q =>
  h H1 e _ fun p H2 np e2 hl => el_lcI (K := K) (R := intR) (f := f) (tl := tC (.ref p)) (σ := σ) (H := H2) (zs := ns) (a := p) intR_e Evl.ev_c (ints_rl hl) hz hw (fun s hs y H3 e3 hy => by
    obtain rfl : y = .int s := hy
    exact he s hs H3 ((e.trans e2).trans e3)) H2 (Evl.Ex.refl _) Q fun p' H3 np' e3 hl' => q p' H3 (Evl.fresh_back e2 np') (e2.trans e3) hl'
def leftsF (plan : List Int) : List Int := (lastF (placesF plan)).map (· + 1)
def topsF (plan : List Int) : List Int := (lastF ((placesF plan).map fun p => -p)).map (· + 1)
def rightsF (plan : List Int) : List Int := ((lastF ((placesF plan).map fun p => -p).reverse).map fun p => (plan.length : Int) - 1 - p).reverse
def bottomsF (plan : List Int) : List Int := ((lastF (placesF plan).reverse).map fun p => (plan.length : Int) - 1 - p).reverse
theorem psides_len (plan : List Int) : (leftsF plan).length = plan.length ∧ (topsF plan).length = plan.length ∧ (rightsF plan).length = plan.length ∧ (bottomsF plan).length = plan.length := by
  unfold leftsF topsF rightsF bottomsF
  simp [lastF_len, placesF_len]
def spSides : Sp := fun vs H Q _ => ∃ (l : Addr) (plan : List Int), vs = [.ref l] ∧ H l = some (.lst (plan.map V.int)) ∧ plan.length ≤ 1000 ∧ (∀ r ∈ plan, 0 ≤ r ∧ r < plan.length) ∧
  ∀ H' t a b c d, Evl.Ex H H' → H t = none → H' t = some (.tup [.ref a, .ref b, .ref c, .ref d]) → H' a = some (.lst ((leftsF plan).map V.int)) → H' b = some (.lst ((topsF plan).map V.int)) → H' c = some (.lst ((rightsF plan).map V.int)) → H' d = some (.lst ((bottomsF plan).map V.int)) → Q (.ref t) H'
end
end GL
set_option Elab.async false
set_option linter.all false
set_option maxRecDepth 100000
set_option maxHeartbeats 8000000
/-! # panes by sides -/
namespace GL
open PySem PySem.Spec PyProof.Rows L2 Geo Rel
section
open Evl
variable {σ : L2.St} {H : Hp} {te : TE} {t : TT}
theorem pr_monoD {α : Type} {R : α → V → Hp → Prop} {D : Addr} {H H' : Hp} (m : ∀ z v H H2, v ≠ V.ref D → (∀ a o, a ≠ D → H a = some o → H2 a = some o) → R z v H → R z v H2) (k : ∀ a o, a ≠ D → H a = some o → H' a = some o) : ∀ {ys : List V} {zs : List α}, (∀ y ∈ ys, y ≠ .ref D) → Paired (fun y z => R z y H) ys zs → Paired (fun y z => R z y H') ys zs
  | _, _, _, .nil => .nil
  | _, _, n, .cons h t => .cons (m _ _ _ _ (n _ List.mem_cons_self) k h) (pr_monoD m k (fun y hy => n y (List.mem_cons_of_mem _ hy)) t)
theorem lc_relD {α : Type} {D : Addr} {J : It} {zs : List α} {n : Nat} {G : Hp → Prop} {Y : Nat → Hp → V → Hp → Prop} (w : Walk J n G Y) (hn : n = zs.length) (hG : ∀ H1, Ex H H1 → G H1) (f : α → Bool) (R : α → V → Hp → Prop) (m : ∀ z v H H2, v ≠ V.ref D → (∀ a o, a ≠ D → H a = some o → H2 a = some o) → R z v H → R z v H2) (hz : zs.length ≤ 40000) {g : TG} {vs : List Nat}
    (step : ∀ i z x H1 H2, zs[i]? = some z → Ex H H1 → Y i H1 x H2 → Ex H1 H2 ∧ ∀ Q' : L2.St → Hp → Prop, (∀ σ2, wipe σ2 vs = wipe σ vs → EvT t σ2 H (f z) → (f z = true → ∀ H1, Ex H H1 → (∃ xs, H1 D = some (.lst xs)) → ∀ Q : VK, (∀ v H3, Ex H1 H3 → (∀ p, v = .ref p → H1 p = none ∨ H p ≠ none) → R z v H3 → Q v H3) → te σ2 H1 Q) → Q' σ2 H2) → g x (wipe σ vs) H2 Q')
    (nD : H D = none) {Qd : Hp → Prop} (q : ∀ ys H', Ex H H' → H' D = some (.lst ys) → Paired (fun y z => R z y H') ys (zs.filter f) → Qd H') :
    ∃ W : Nat → Nat → Hp → Prop, (∃ m, W 0 m (upd H D (.lst []))) ∧ ∀ i m H, W i m H →
      (J.stop i H ∧ Qd H) ∨ (J.go i H ∧ ∃ Nx : Hp → Prop, (∀ H', Nx H' → ∃ m', m' < m ∧ W (i + 1) m' H') ∧ ∀ x H', J.yld i H x H' → g x (wipe σ vs) H' fun σ2 H2 => wipe σ2 vs = wipe σ vs ∧ t σ2 H2 fun b H3 =>
        if b = true then te σ2 H3 fun y H4 => ∃ acc, H4 D = some (.lst acc) ∧ acc.length < sizeLine ∧ Nx (upd H4 D (.lst (acc ++ [y]))) else Nx H3) := by
  subst hn
  refine lc_it w (fun i H1 => Ex H H1 ∧ ∃ ys, H1 D = some (.lst ys) ∧ (∀ y ∈ ys, y ≠ .ref D) ∧ Paired (fun y z => R z y H1) ys ((zs.take i).filter f)) ⟨Ex.new nD, [], upd_same, by simp, .nil⟩ (fun i H1 _ p => hG H1 p.1) ?_ ?_
  · rintro i x H1 H2 hi ⟨e1, ys, hD, hnd, hp⟩ hy
    have hzi : zs[i]? = some zs[i] := List.getElem?_eq_getElem hi
    obtain ⟨e2, st⟩ := step i zs[i] x H1 H2 hzi e1 hy
    have tk : zs.take (i + 1) = zs.take i ++ [zs[i]] := by
      rw [List.take_add_one, hzi]
      rfl
    have yl : ys.length ≤ i := by
      rw [pr_len hp]
      exact Nat.le_trans (List.length_filter_le _ _) (by rw [List.length_take]; omega)
    refine st _ fun σ2 hw ht he => ⟨hw, ht H2 (e1.trans e2) _ fun H3 e3 => ?_⟩
    have e03 := (e1.trans e2).trans e3
    have D3 : H3 D = some (.lst ys) := e3 _ _ (e2 _ _ hD)
    cases hf : f zs[i] with
    | true =>
      show te σ2 H3 _
      refine he hf H3 e03 ⟨ys, D3⟩ _ fun y H4 e4 hv hr => ?_
      have yD : y ≠ .ref D := fun z => by
        rcases hv D z with h | h
        · rw [D3] at h
          cases h
        · exact h nD
      refine ⟨ys, e4 _ _ D3, Nat.lt_of_lt_of_le (show ys.length < 100000 by omega) (by decide), (e03.trans e4).mut nD, ys ++ [y], upd_same, ?_, ?_⟩
      · intro u hu
        rcases List.mem_append.mp hu with hu | hu
        · exact hnd u hu
        · rw [List.mem_singleton.mp hu]
          exact yD
      · have keep : ∀ {H5 : Hp}, Ex H5 H4 → ∀ a o, a ≠ D → H5 a = some o → upd H4 D (.lst (ys ++ [y])) a = some o := fun e a o n h => by
          rw [upd_ne n]
          exact e a o h
        rw [tk, List.filter_append, List.filter_cons, if_pos hf, List.filter_nil]
        exact pr_app (pr_monoD m (keep ((e2.trans e3).trans e4)) hnd hp) (.cons (m _ _ _ _ yD (keep (Ex.refl H4)) hr) .nil)
    | false =>
      show Ex H H3 ∧ _
      refine ⟨e03, ys, D3, hnd, ?_⟩
      rw [tk, List.filter_append, List.filter_cons, if_neg (by rw [hf]; decide), List.filter_nil, List.append_nil]
      exact pr_monoD m (fun a o _ h => (e2.trans e3) a o h) hnd hp
  · rintro H1 ⟨e1, ys, hD, hnd, hp⟩
    rw [List.take_length] at hp
    exact q ys H1 e1 hD hp
end
section
variable {P : Program} {w : World} {K : PySem.W.Frag} {mg : Str → Option Value} {base : Heap} {σ : L2.St} {H : Hp}
/-- the groups of the places ps -/
def grpR (ps : List Int) (v : V) (H : Hp) : Prop := ∃ b, v = .ref b ∧ RL lstI H b (groupsF ps)
theorem grpR_e : MonoE grpR := fun z v H H' e ⟨b, h1, h2⟩ => ⟨b, h1, h2.ex lstI_e e⟩
theorem unhideG {D : Addr} {H : Hp} : ∀ {us : List V} {zs : List (List Int)}, Paired (fun y z => (fun (z : List Int) (v : V) (H : Hp) => ∃ b, v = .ref b ∧ RL lstI (hide D H) b (groupsF z)) z y H) us zs → Paired (fun y z => grpR z y H) us zs
  | _, _, .nil => .nil
  | _, _, .cons ⟨b, h1, h2⟩ t => .cons ⟨b, h1, h2.ex lstI_e hide_ex⟩ (unhideG t)
/-- [f(x) for x in a tuple of lists], f making groups -/
theorem er_lcGrp {tl te : TE} {zs : List (List Int)} {j : Nat} {vs : List Nat} (h : ∀ H1, Evl.Ex H H1 → ∀ Q : VK, (∀ a xs H2, Evl.Ex H1 H2 → H2 a = some (.tup xs) → Paired (fun y z => lstI z y H2) xs zs → Q (.ref a) H2) → tl σ H1 Q) (hz : zs.length ≤ 40000)
    (hw : ∀ x, wipe ((wipe σ vs).set j (some x)) vs = wipe σ vs)
    (he : ∀ z ∈ zs, ∀ y H1, Evl.Ex H H1 → lstI z y H1 → ∀ H2, Evl.Ex H1 H2 → ∀ Q : VK, (∀ b as H3, Evl.Ex H2 H3 → Grp H2 H3 b as (groupsF z) → Q (.ref b) H3) → te ((wipe σ vs).set j (some y)) H2 Q) :
    EvRL (tLc (iTup K tl) (gName j) tYes te vs) σ H grpR zs := by
  intro H1 e Q q
  refine h H1 e _ fun a xs H2 e1 ha hp => ⟨a, rfl, ⟨xs, SqT.of ha⟩, fun Dl hD => ?_⟩
  refine lc_relD (H := H2) (D := Dl) (walk_tup (K := K) (a := a) (xs := xs)) (pr_len hp) (fun H3 e2 => SqT.of (e2 _ _ ha)) (fun _ => true) (fun z v H => ∃ b, v = .ref b ∧ RL lstI (hide Dl H) b (groupsF z)) (fun z v H3 H4 hv k ⟨b, h1, h2⟩ => ⟨b, h1, h2.ex lstI_e (hide_but k)⟩) hz (fun i z x H3 H4 hzi hH hy => ?_) hD fun us H3 e2 h3 hq => ?_
  · obtain ⟨rfl, hy⟩ := hy
    obtain ⟨y, hy2, hr⟩ := pr_at hp hzi
    obtain rfl : y = x := Option.some.inj (hy2.symm.trans hy)
    refine ⟨Evl.Ex.refl _, fun Q' k => k _ (hw _) et_yes fun _ H5 e5 ⟨ds, hDs⟩ Q2 q2 => ?_⟩
    refine he z (List.mem_of_getElem? hzi) y H2 (e.trans e1) hr H5 e5 _ fun b as H6 e6 hg => q2 _ H6 e6 (fun p hp => .inl (by cases hp; exact hg.p0)) ⟨b, rfl, ?_⟩
    have bD : b ≠ Dl := fun e => by
      have := hg.p0
      rw [e, hDs] at this
      cases this
    have asD : ∀ c ∈ as, c ≠ Dl := fun c hc e => by
      have := (hg.fr c hc).1
      rw [e, hDs] at this
      cases this
    have hg' : Grp H5 (hide Dl H6) b as (groupsF z) := ⟨hide_of bD hg.l, hg.nd, hg.fr, hg.p0, hg.len, fun i c g h1 h2 => hide_of (asD c (List.mem_of_getElem? h1)) (hg.at_ i c g h1 h2)⟩
    exact hg'.rl
  · have hf : zs.filter (fun _ => true) = zs := List.filter_eq_self.mpr fun _ _ => rfl
    rw [hf] at hq
    exact q Dl H3 (Evl.fresh_back e1 hD) (e1.trans e2) ⟨us, h3, unhideG hq⟩
def spBySides : Sp := fun vs H Q _ => ∃ (l : Addr) (plan : List Int), vs = [.ref l] ∧ H l = some (.lst (plan.map V.int)) ∧ plan.length ≤ 1000 ∧ (∀ r ∈ plan, 0 ≤ r ∧ r < plan.length) ∧ (∀ ps ∈ [leftsF plan, topsF plan, rightsF plan, bottomsF plan], ∀ r ∈ ps, 0 ≤ r ∧ r ≤ plan.length) ∧
  ∀ H' p, Evl.Ex H H' → H p = none → RL grpR H' p [leftsF plan, topsF plan, rightsF plan, bottomsF plan] → Q (.ref p) H'
end
end GL
set_option Elab.async false
set_option linter.all false
set_option maxRecDepth 100000
set_option maxHeartbeats 8000000
/-! # the segments of a plan, its code -/
namespace GL
open PySem PySem.Spec PyProof.Rows L2 Geo Rel
abbrev Sg : Type := Bool × List Int × List Int
def kindS (b : Bool) : Str := if b then "upright" else "level"
def segR (u : Sg) (v : V) (H : Hp) : Prop := ∃ T a b, v = .ref T ∧ H T = some (.tup [.str (kindS u.1), .ref a, .ref b]) ∧ H a = some (.lst (u.2.1.map V.int)) ∧ H b = some (.lst (u.2.2.map V.int))
theorem segR_e : MonoE segR := fun u v H H' e ⟨T, a, b, h1, h2, h3, h4⟩ => ⟨T, a, b, h1, e _ _ h2, e _ _ h3, e _ _ h4⟩
def segF (L T R B : List (List Int)) (p : Nat) : Sg := if (R.getD p []).isEmpty then (false, B.getD p [], T.getD p []) else (true, R.getD p [], L.getD p [])
def segsF (plan : List Int) : List Sg := (List.range (plan.length - 1)).map fun i => segF (groupsF (leftsF plan)) (groupsF (topsF plan)) (groupsF (rightsF plan)) (groupsF (bottomsF plan)) (i + 1)
def codeF (plan : List Int) : List Int := (segsF plan).map fun u => if u.1 then -(u.2.1.length : Int) else (u.2.1.length : Int)
theorem groupsF_len (ps : List Int) : (groupsF ps).length = ps.length + 1 := by
  unfold groupsF
  rw [stepG_len, List.length_map, List.length_range]
section
variable {P : Program} {w : World} {K : PySem.W.Frag} {mg : Str → Option Value} {base : Heap} {σ : L2.St} {H : Hp}
theorem prS_but {D : Addr} {H H' : Hp} : ∀ {ys : List V} {us : List Sg}, Paired (fun y z => (fun u v H => segR u v (hide D H)) z y H) ys us → But1 D H H' → Paired (fun y z => (fun u v H => segR u v (hide D H)) z y H') ys us
  | _, _, .nil, _ => .nil
  | _, _, .cons h t, b => .cons (segR_e _ _ _ _ (hide_but b) h) (prS_but t b)
theorem prS_un {D : Addr} {H H' : Hp} : ∀ {ys : List V} {us : List Sg}, Paired (fun y z => (fun u v H => segR u v (hide D H)) z y H) ys us → Evl.Ex H H' → Paired (fun y z => segR z y H') ys us
  | _, _, .nil, _ => .nil
  | _, _, .cons h t, e => .cons (segR_e _ _ _ _ (hide_ex.trans e) h) (prS_un t e)
/-- what the defs below want of a plan -/
structure PlanIn (plan : List Int) : Prop where
  len : plan.length ≤ 1000
  ent : ∀ r ∈ plan, 0 ≤ r ∧ r < plan.length
  sid : ∀ ps ∈ [leftsF plan, topsF plan, rightsF plan, bottomsF plan], ∀ r ∈ ps, 0 ≤ r ∧ r ≤ plan.length
def spSegs : Sp := fun vs H Q _ => ∃ (l : Addr) (plan : List Int), vs = [.ref l] ∧ H l = some (.lst (plan.map V.int)) ∧ PlanIn plan ∧
  ∀ H' p, Evl.Ex H H' → H p = none → RL segR H' p (segsF plan) → Q (.ref p) H'
end
end GL
set_option Elab.async false
set_option linter.all false
set_option maxRecDepth 100000
set_option maxHeartbeats 8000000
/-! # the code of a plan; borders -/
namespace GL
open PySem PySem.Spec PyProof.Rows L2 Geo Rel
section
variable {P : Program} {w : World} {K : PySem.W.Frag} {mg : Str → Option Value} {base : Heap} {σ : L2.St} {H : Hp}
/-- a comprehension over segments -/
theorem el_lcSeg {f : Sg → Int} {us : List Sg} {tl te : TE} {j k l : Nat} {vs : List Nat} (h : EvRL tl σ H segR us) (hz : us.length ≤ 40000) (hw : ∀ x y z, wipe ((((wipe σ vs).set j (some x)).set k (some y)).set l (some z)) vs = wipe σ vs)
    (he : ∀ u ∈ us, ∀ (a b : Addr) H1, H1 a = some (.lst (u.2.1.map V.int)) → Evl.Ev te ((((wipe σ vs).set j (some (.str (kindS u.1)))).set k (some (.ref a))).set l (some (.ref b))) H1 (.int (f u))) :
    Evl.EvL (tLc (iList K tl) (gTup K 3 (gCons (gName j) (gCons (gName k) (gCons (gName l) gNil)))) tYes te vs) σ H ((us.map f).map V.int) := by
  rw [List.map_map]
  refine el_ofRL (g := fun u => V.int (f u)) fun H1 e Q q => h H1 e _ fun p H2 np e2 hp => ?_
  obtain ⟨ys, hl, hp⟩ := hp
  refine ⟨p, rfl, ⟨ys, Evl.sq_of hl⟩, fun Dl hD => ?_⟩
  have hf : us.filter (fun _ => true) = us := List.filter_eq_self.mpr fun _ _ => rfl
  refine lc_rel (H := H2) (walk_list (K := K) (a := p) (xs := ys)) (pr_len hp) (fun H3 e3 => Evl.sq_of (e3 _ _ hl)) (fun _ => true) (fun u v _ => v = V.int (f u)) (val_m fun u => V.int (f u)) hz (fun i z x H3 H4 hzi hH hy => ?_) hD fun xs H3 e3 h3 hq => q Dl H3 (Evl.fresh_back e2 hD) (e2.trans e3) ⟨xs, h3, by rwa [hf] at hq⟩
  obtain ⟨rfl, hy⟩ := hy
  obtain ⟨y, hy2, hr⟩ := pr_at hp hzi
  obtain rfl : y = x := Option.some.inj (hy2.symm.trans hy)
  obtain ⟨T, a, b, rfl, hT, ha, hb⟩ := hr
  refine ⟨Evl.Ex.refl _, fun Q' k => ⟨T, _, rfl, SqT.of (hH _ _ hT), rfl, _, _, rfl, _, _, rfl, _, _, rfl, rfl, k _ (hw _ _ _) et_yes fun _ => en_int (he z (List.mem_of_getElem? hzi) a b H2 ha)⟩⟩
def spCode : Sp := fun vs H Q _ => ∃ (l : Addr) (plan : List Int), vs = [.ref l] ∧ H l = some (.lst (plan.map V.int)) ∧ PlanIn plan ∧ ∀ H' p, Evl.Ex H H' → H p = none → H' p = some (.lst ((codeF plan).map V.int)) → Q (.ref p) H'
def spGrow : Sp := fun vs H Q _ => ∃ lo ri n : Int, vs = [.int lo, .int ri, .int n] ∧ ∀ H' t, Evl.Ex H H' → H t = none → H' t = some (.tup [.int (if n > 0 then lo - n + 1 else lo + 1), .int (if n > 0 then ri + 1 else ri + n + 1)]) → Q (.ref t) H'
end
end GL
set_option Elab.async false
set_option linter.all false
set_option maxRecDepth 100000
set_option maxHeartbeats 8000000
/-! # whether a list of numbers is a row -/
namespace GL
open PySem PySem.Spec PyProof.Rows L2 Geo Rel GxR
theorem perm_of_sub {α : Type} [DecidableEq α] : ∀ {l m : List α}, l.Nodup → (∀ x ∈ l, x ∈ m) → l.length = m.length → l.Perm m
  | [], m, _, _, h => by
    rw [List.length_eq_zero_iff.mp h.symm]
  | a :: l, m, nd, sub, h => by
    obtain ⟨n1, n2⟩ := List.nodup_cons.mp nd
    have ha := sub a List.mem_cons_self
    have pm := List.perm_cons_erase ha
    refine List.Perm.trans (List.Perm.cons a (perm_of_sub n2 (fun x hx => ?_) ?_)) pm.symm
    · have : x ≠ a := fun e => n1 (e ▸ hx)
      exact (List.mem_erase_of_ne this).mpr (sub x (List.mem_cons_of_mem _ hx))
    · have := List.length_erase_of_mem ha
      have := List.length_pos_of_mem ha
      simp at h
      omega
/-- a def and its code object -/
structure FunC (K : PySem.W.Frag) (x qual : Str) (st : Stmt) (f : Addr) (fd : FuncData) (c : Value) : Prop where
  ex : ∃ (oc : Value) (od : Option Addr) (kV doc pm : Value) (an : Option Addr) (ct : Value) (osl : Array (Option Value)),
    fd = PySem.W.fnOf x qual (defArgs st) (defBody st) (defScope st) .none kV doc pm an c ct ∧ K.lookup f = some ⟨oc, od, .func fd, osl⟩ ∧ PySem.W.codeIn K c qual = true
section
variable {P : Program} {w : World} {K : PySem.W.Frag} {mg : Str → Option Value} {base : Heap} {σ : L2.St} {H : Hp}
theorem FunC.ok {x qual : Str} {st : Stmt} {f : Addr} {fd : FuncData} {c : Value} {N ps : List Str} {k : Nat} {sp : Sp} (F : FunC K x qual st f fd c) (S : FnScope N ps (defScope st)) (len : ∀ vs H Q E, sp vs H Q E → vs.length = ps.length)
    (hbody : ∀ (A : Around) (outer : List Env) (s : Shared) (H : Hp) (vs : List V) (Q : VK) (E : XK), Room k (A.deeper (envOfC qual (defScope st) s.heap.objs.size f c)) → sp vs H Q E →
      ∃ t, PSs (cxOf CX0 P w K mg base N qual (defScope st) f c A outer s H E).nox (defBody st) t ∧ t { nx := fun _ H' => Q .non H', rt := Q } (start N vs) H) : FnOk P w K mg base CX0 (k + 1) f fd ps sp := by
  obtain ⟨oc, od, kV, doc, pm, an, ct, osl, rfl, lk, hcd⟩ := F.ex
  refine fn_of lk hcd S len fun A outer s H vs Q E hr hsp => ?_
  obtain ⟨t, h, q⟩ := hbody A outer s H vs Q E hr hsp
  exact ⟨t, h.nox, q⟩
theorem ev_chain {r r' : R2} {ta tb tc : TE} {x y z : V} {a b : Bool} (ha : Evl.Ev ta σ H x) (hb : Evl.Ev tb σ H y) (hr : Evl.RV r x y H (.bl a)) (hc : a = true → Evl.Ev tc σ H z) (hr' : a = true → Evl.RV r' y z H (.bl b)) : Evl.Ev (tChain r r' ta tb tc) σ H (.bl (a && b)) := fun H1 e Q q =>
  ha H1 e _ fun H2 e2 => hb H2 (e.trans e2) _ fun H3 e3 => hr H3 ((e.trans e2).trans e3) _ fun H4 e4 => ⟨a, rfl, by
    cases a with
    | true =>
      rw [if_pos rfl]
      exact hc rfl H4 (((e.trans e2).trans e3).trans e4) _ fun H5 e5 => hr' rfl H5 ((((e.trans e2).trans e3).trans e4).trans e5) _ fun H6 e6 => q H6 ((((e2.trans e3).trans e4).trans e5).trans e6)
    | false =>
      rw [if_neg Bool.false_ne_true]
      exact q H4 ((e2.trans e3).trans e4)⟩
theorem el_sortI {t : TE} {l : Addr} {ns : List Int} (h : Evl.Ev t σ H (.ref l)) (hl : H l = some (.lst (ns.map V.int))) : ∀ H1, Evl.Ex H H1 → ∀ Q : VK, (∀ (p : Addr) (ms : List Int) (H2 : Hp), H1 p = none → Evl.Ex H1 H2 → ms.Perm ns → ms.Pairwise (· ≤ ·) → H2 p = some (.lst (ms.map V.int)) → Q (.ref p) H2) → tCB (rSortedI K) (tCons t tNil) σ H1 Q := fun H1 e Q q =>
  h H1 e _ fun H2 e2 => ⟨l, ns, rfl, SqL.of ((e.trans e2) _ _ hl), fun ms p pm pw np => q p ms _ (Evl.fresh_back e2 np) (e2.trans (Evl.Ex.new np)) pm pw upd_same⟩
theorem row_iff {ms row : List Int} (pm : ms.Perm row) (pw : ms.Pairwise (· ≤ ·)) : decide (ms = (List.range row.length).map fun i : Nat => (i : Int)) = (List.range row.length).all fun i => decide ((i : Int) ∈ row) := by
  rw [Bool.eq_iff_iff, decide_eq_true_eq, List.all_eq_true]
  constructor
  · intro e i hi
    rw [decide_eq_true_eq, ← pm.mem_iff, e]
    exact List.mem_map_of_mem hi
  · intro h
    have nd : ((List.range row.length).map fun i : Nat => (i : Int)).Nodup := by
      rw [List.Nodup, List.pairwise_map]
      exact List.nodup_range.imp fun h e => h (Int.ofNat.inj e)
    have sub : ∀ x ∈ (List.range row.length).map fun i : Nat => (i : Int), x ∈ row := fun x hx => by
      obtain ⟨i, hi, rfl⟩ := List.mem_map.mp hx
      exact of_decide_eq_true (h i hi)
    have pm2 : ((List.range row.length).map fun i : Nat => (i : Int)).Perm row := perm_of_sub nd sub (by simp)
    refine List.Perm.eq_of_pairwise (le := (· ≤ ·)) (fun a b _ _ h1 h2 => Int.le_antisymm h1 h2) pw ?_ (pm.trans pm2.symm)
    rw [List.pairwise_map]
    exact List.pairwise_lt_range.imp fun h => Int.ofNat_le.mpr (Nat.le_of_lt h)
/-- a row of the numbers 0 to n - 1 -/
def rowB (row : List Int) : Bool := (decide (1 ≤ row.length) && decide (row.length ≤ 60)) && (List.range row.length).all fun i => decide ((i : Int) ∈ row)
theorem isNum : GnR.IsNum s_is_number "thing" := ⟨⟨_, _, _, _, _, _, rfl⟩, rfl, rfl, rfl, rfl, rfl, rfl, by decide⟩
theorem genS {env : Env} {scope : Scope} (h1 : scope.kind = .function := by rfl) (h2 : scope.isCoroutine = false := by rfl) (h3 : (scope.names.all fun y => !decide (y.2 = .cell) && !decide (y.2 = .free)) = true := by decide +kernel) (h4 : scope.names.lookup (".0" : Str) = some NameKind.local := by rfl) (h5 : scope.names.lookup ("item" : Str) = some .local := by rfl) : GenS env scope "item" := by
  have key : ∀ y ∈ scope.names, y.2 ≠ .cell ∧ y.2 ≠ .free := fun y hy => by
    have := List.all_eq_true.mp h3 y hy
    simpa using this
  exact ⟨h1, h2, fun y hy => (key y hy).1, h4, h5, fun y hy e => absurd e (key y hy).2⟩
def spIsRow (tb : Addr) : Sp := fun vs H Q _ => ∃ (l : Addr) (row : List Int), vs = [.ref l] ∧ H l = some (.lst (row.map V.int)) ∧ row.length ≤ 1000 ∧ H tb = some (GnR.TabO tb) ∧ ∀ H', Evl.Ex H H' → Q (.bl (rowB row)) H'
theorem ok_is_row {f f1 : Addr} {fd fd1 : FuncData} {c tb : Addr} {tk : Tok} (F : FunC K "is_row" "is_row" s_is_row f fd (.ref c)) (B : BP mg) (hM : mg "MOST_PANES" = some (.int 60 tk)) (TB : TabB base mg c tb) (F1 : Fun K "is_number" "is_number" s_is_number f1 fd1) (hf : mg "is_number" = some (.ref f1)) (bd1 : ∀ (s : Shared) (u : Value), BindsTo s fd1 ⟨[u], []⟩ [("thing", u)]) :
    FnOk P w K mg base CX0 2 f fd ["thing"] (spIsRow tb) := by
  refine F.ok sc_is_row (fun vs H Q E h => ?_) (fun A outer s H vs Q E hr h => ?_)
  · obtain ⟨l, row, rfl, _⟩ := h
    rfl
  · obtain ⟨l, row, rfl, hl, hlen, ht, q⟩ := h
    refine ⟨_, (pss_cons (ps_if (PW.pt (pw_or (pt_not (pt_val (pe_callB RZ.call_isTy (by rfl) B.isinstance_ (by decide +kernel) (pa_cons (pv 0) (pa_cons (pe_bltn (v := .ty "list") (by rfl) B.list_ (by decide +kernel) rfl) pa_nil))))) (pw_or1 (pt_not (pt_chain op_le op_le pe_int (pe_callB (lenK (K := K) rfl) (by rfl) B.len_ (by decide +kernel) (pa_cons (pv 0) pa_nil)) (pe_glob (v := .int 60) rfl hM ⟨_, rfl⟩)))))) (pss_one (ps_ret pe_bl)) pss_nil)
      (pss_one (ps_ret (pe_and (GnR.pe_allN (p := tb) hr (by rfl) B.all_ TB rfl (by exact genS) (pv 0) (fun M => by exact GnR.elt_num M F1 isNum bd1 B.type_ B.int_ hf rfl rfl rfl (by decide) (by decide)) (fun _ => rfl)) (pe_one (pe_cmpR (op_eqD hr.units) (pe_callB cr_sortedI (by rfl) B.sorted_ (by decide +kernel) (pa_cons (pv 0) pa_nil)) (pe_listRg rfl (by rfl) B.list_ (prg_1 (by rfl) B.range_ (pe_callB (lenK (K := K) rfl) (by rfl) B.len_ (by decide +kernel) (pa_cons (pv 0) pa_nil)))) (nomark _))))))), ?_⟩
    have lenV : ∀ {H1 : Hp}, Evl.Ex H H1 → Evl.Ev (tCB (Evl.rLenS K) (tCons (tVar 0) tNil)) [some (.ref l)] H1 (.int (row.length : Int)) := fun {H1} e => Evl.ev_is (Evl.ev_len (Evl.ev_var rfl) (SqL.of (e _ _ hl))) (by rw [List.length_map])
    have isL : ∀ {H1 : Hp}, Evl.Ex H H1 → Evl.Ev (tCB RZ.rIsTy (tCons (tVar 0) (tCons (tC (.ty "list")) tNil))) [some (.ref l)] H1 (.bl true) := fun {H1} e => Evl.ev_cb (vs := [.ref l, .ty "list"]) (Evl.ea_cons (Evl.ev_var rfl) (Evl.ea_cons Evl.ev_c Evl.ea_nil)) fun H2 e2 Q q => ⟨.ref l, "list", rfl, .lst (e2 _ _ (e _ _ hl)), q H2 (Evl.Ex.refl _)⟩
    refine Evl.q_when (b := !(decide (1 ≤ row.length) && decide (row.length ≤ 60))) (Evl.et_is (Evl.et_or (a := false) (Evl.et_is (Evl.et_not (Evl.et_B (isL (Evl.Ex.refl _)))) rfl) (fun _ => Evl.et_not (Evl.et_test (ev_chain (b := decide (row.length ≤ 60)) Evl.ev_c (lenV (Evl.Ex.refl _)) Evl.rv_I0 (fun _ => Evl.ev_c) (fun _ => ?_))))) ?_) (fun hb H1 e1 => ?_) (fun hb H1 e1 => ?_)
    rotate_left 2
    · refine Evl.s_ret Evl.ev_c fun H2 e2 => ?_
      have : rowB row = false := by
        unfold rowB
        rw [show (decide (1 ≤ row.length) && decide (row.length ≤ 60)) = false from by
          generalize (decide (1 ≤ row.length) && decide (row.length ≤ 60)) = b0 at hb
          cases b0
          · rfl
          · cases hb]
        rfl
      have z := q H2 (e1.trans e2)
      rw [this] at z
      exact z
    · have hr1 : (decide (1 ≤ row.length) && decide (row.length ≤ 60)) = true := by
        generalize (decide (1 ≤ row.length) && decide (row.length ≤ 60)) = b0 at hb
        cases b0
        · cases hb
        · rfl
      refine ⟨.ref l, rfl, l, row, rfl, SqL.of (e1 _ _ hl), e1 _ _ ht, true, rfl, ?_⟩
      rw [if_pos rfl]
      refine el_sortI (K := K) (σ := [some (.ref l)]) (t := tVar 0) (Evl.ev_var rfl) (e1 _ _ hl) H1 (Evl.Ex.refl _) _ fun p ms H2 np e2 pm pw hp => ?_
      refine lenV (e1.trans e2) H2 (Evl.Ex.refl _) _ fun H3 e3 => ⟨row.length, rfl, RgOk.of_le (by omega) (by omega) (by omega) (by omega), fun r nr => ?_⟩
      have er : rgV 0 (row.length : Int) = ((List.range row.length).map fun i : Nat => (i : Int)).map V.int := by
        unfold rgV
        rw [List.map_map, Int.sub_zero, Int.toNat_natCast]
        exact List.map_congr_left fun i _ => by simp
      have e4 := Evl.Ex.new (o := .lst (rgV 0 (row.length : Int))) nr
      refine (datLst.rv_eq (by decide) lstI_e (K := K) (H := upd H3 r (.lst (rgV 0 (row.length : Int)))) (z := ms) (w := (List.range row.length).map fun i : Nat => (i : Int)) ⟨p, rfl, e4 _ _ (e3 _ _ hp)⟩ ⟨r, rfl, by rw [upd_same, er]⟩) _ (Evl.Ex.refl _) _ fun H5 e5 => ?_
      have z := q H5 ((((e1.trans e2).trans e3).trans e4).trans e5)
      have er2 : rowB row = decide (ms = (List.range row.length).map fun i : Nat => (i : Int)) := by
        unfold rowB
        rw [hr1, Bool.true_and, row_iff pm pw]
      rw [er2] at z
      exact z
    · have e : decide (row.length ≤ 60) = decide ((row.length : Int) ≤ 60) := decide_eq_decide.mpr (by omega)
      rw [e]
      exact Evl.rv_I0
    · rw [Bool.false_or]
      congr 2
      exact decide_eq_decide.mpr (by omega)
end
end GL
set_option Elab.async false
set_option linter.all false
set_option maxRecDepth 100000
set_option maxHeartbeats 4000000
/-! # f(k = v, ..): calls by keywords alone -/
namespace GL
open PySem PySem.Spec PyProof.Rows L2
structure KB0 (fd : FuncData) (ps ks : List Str) (g : List Value → List Value) (gV : List V → List V) : Prop where
  to : ∀ (s : Shared) (ws : List Value), ws.length = ks.length → BindsTo s fd ⟨[], ks.zip ws⟩ (ps.zip (g ws))
  rel : ∀ {zs : List V} {ws : List Value}, Vals zs ws → Vals (gV zs) (g ws)
def tCallK0 (sp : Sp) (gV : List V → List V) (n : Nat) (E : XK) (tk : TA) : TE := fun σ H Q => tk σ H fun zs H2 => zs.length = n ∧ sp (gV zs) H2 Q E
section
variable {X : Cx} {CX : CXT} {k : Nat} {f : Addr} {fd : FuncData} {ps ks : List Str} {sp : Sp} {E : XK} {x : Str} {p pos : Pos} {kws : List Keyword} {tk : TA} {g : List Value → List Value} {gV : List V → List V}
theorem pe_callK0 (F : FnOk X.prog X.w X.K X.mg X.base CX k f fd ps sp) (hr : Room k X.A) (hg : Gl X x) (hm : X.mg x = some (.ref f)) (hk : PySem.W.keepIn X.K (.ref f) = true) (hb : KB0 fd ps ks g gV) (hx : Passes CX X E)
    (hkw : PK X kws tk) (hall : (backToKw pos (keywordEach kws X.env)).all (·.1.isSome) = true := by rfl) (hks : (backToKw pos (keywordEach kws X.env)).filterMap (·.1) = ks := by rfl)
    (hdb : (x == ("__debug__" : Str)) = false := by decide)
    (hpl : ((backTo pos (starEach [] X.env)).any (·.1) || (backToKw pos (keywordEach kws X.env)).any (·.1.isNone)) = false := by rfl) :
    PE X (.Call (.Name x p) [] kws pos) (tCallK0 sp gV ks.length E tk) := by
  refine ⟨fun pins s σ H Q I h => ?_⟩
  refine wpAny_Call_Name_kw (ld_glob I hg hm ?_ hdb)
  refine PySem.W.callWith_KW0 (h₀ := X.base) I.ok.mod.kin hk hall ?_ hpl
  refine thn (hkw.run pos pins s σ H _ I h) fun ws s2 ⟨zs, H2, I2, rz, l2, q2⟩ => ⟨I2.kIn, ?_⟩
  rw [hks]
  refine wpAny_call (codeAny_mono (F.run X.A X.stack s2 H2 ⟨[], ks.zip ws⟩ (g ws) (gV zs) Q E hr I2.env0 (hb.to s2 ws (rz.length.symm.trans l2)) (hb.rel rz) q2) fun r s' hq => ?_)
  cases r with
  | error e => exact hx pins σ H2 s2 e s' I2 hq
  | ok fl =>
    cases fl with
    | ret u => exact I2.after hq
    | next => exact False.elim hq
    | brk => exact False.elim hq
    | cont => exact False.elim hq
end
section
variable {σ : L2.St} {H : Hp}
theorem ev_callK0 {sp : Sp} {gV : List V → List V} {n : Nat} {E : XK} {tk : TA} {vs : List V} {z : V} (h : Evl.EvA tk σ H vs) (hl : vs.length = n) (hs : Evl.SpV sp (gV vs) H z) : Evl.Ev (tCallK0 sp gV n E tk) σ H z := fun H1 e Q q =>
  h H1 e _ fun H2 e2 => ⟨hl, hs H2 (e.trans e2) Q (fun H3 e3 => q H3 (e2.trans e3)) E⟩
theorem el_callK0 {sp : Sp} {gV : List V → List V} {n : Nat} {E : XK} {tk : TA} {vs : List V} {xs : List V} (h : Evl.EvA tk σ H vs) (hl : vs.length = n) (hs : Evl.SpL sp (gV vs) H xs) : Evl.EvL (tCallK0 sp gV n E tk) σ H xs := fun H1 e Q q =>
  h H1 e _ fun H2 e2 => ⟨hl, hs H2 (e.trans e2) Q (fun p H3 np e3 hp => q p H3 (Evl.fresh_back e2 np) (e2.trans e3) hp) E⟩
end
end GL
set_option Elab.async false
set_option linter.all false
set_option maxRecDepth 100000
set_option maxHeartbeats 4000000
/-! # defs as the head tells them -/
namespace GL
open PySem PySem.Spec PyProof.Rows L2
section
variable {K : PySem.W.Frag} {x qual : Str} {st : Stmt} {f : Addr} {fd : FuncData}
theorem fun_of (F : FunD K x qual (defArgs st) (defBody st) (defScope st) [] [] f fd) : Fun K x qual st f fd := by
  obtain ⟨oc, od, dV, kV, doc, pm, an, cdv, ct, osl, e, lk, hc, hd, _⟩ := F.ex
  rcases hd with ⟨_, rfl⟩ | ⟨h, _⟩
  · exact ⟨⟨oc, od, kV, doc, pm, an, cdv, ct, osl, e, lk, hc⟩, F.kp⟩
  · exact absurd rfl h
theorem func_of {p : Str × Option Str} (F : FunD K x qual (defArgs st) (defBody st) (defScope st) [] [] (He.fAd K p) fd) : FunC K x qual st (He.fAd K p) fd (.ref (He.cT K p).1) := by
  obtain ⟨oc, od, dV, kV, doc, pm, an, cdv, ct, osl, e, lk, hc, hd, _⟩ := F.ex
  rcases hd with ⟨_, rfl⟩ | ⟨h, _⟩
  · obtain ⟨c, rfl⟩ := He.codeIn_ref hc
    subst e
    have z : (He.cT K p).1 = c := He.codeOf_eq lk rfl
    rw [z]
    exact ⟨oc, od, kV, doc, pm, an, ct, osl, rfl, lk, hc⟩
  · exact absurd rfl h
theorem kb0 {ps ks : List Str} {g : List Value → List Value} {gV : List V → List V} (F : Fun K x qual st f fd)
    (h : ∀ (kV doc pm : Value) (an : Option Addr) (cdv ct : Value) (ws : List Value), ws.length = ks.length → bindArgs (PySem.W.fnOf x qual (defArgs st) (defBody st) (defScope st) .none kV doc pm an cdv ct) ⟨[], ks.zip ws⟩ = pure (ps.zip (g ws)))
    (r : ∀ {zs : List V} {ws : List Value}, Vals zs ws → Vals (gV zs) (g ws)) : KB0 fd ps ks g gV := by
  obtain ⟨oc, od, kV, doc, pm, an, cdv, ct, osl, rfl, lk, hc⟩ := F.ex
  exact ⟨fun s ws hl => .of_eq (h kV doc pm an cdv ct ws hl), r⟩
theorem vals_rev : ∀ {vs : List V} {us : List Value}, Vals vs us → Vals vs.reverse us.reverse
  | _, _, .nil => .nil
  | _, _, .cons r t => by
    rw [List.reverse_cons, List.reverse_cons]
    exact (vals_rev t).append (.cons r .nil)
end
end GL
set_option Elab.async false
set_option linter.all false
set_option maxRecDepth 100000
set_option maxHeartbeats 2000000
/-! # defs that call repr: they promise only where no repr runs around them -/
namespace Gd
open PySem PySem.Spec PyProof.Rows L2
/-- no repr runs around -/
abbrev Calm (A : Around) : Prop := A.guards = some []
/-- as FnOk, where no repr runs around the call -/
structure FnG (P : Program) (w : World) (K : PySem.W.Frag) (mg : Str → Option Value) (base : Heap) (CX : CXT) (k : Nat) (f : Addr) (fd : FuncData) (ps : List Str) (sp : Sp) : Prop where
  len : ∀ vs H Q E, sp vs H Q E → vs.length = ps.length
  run : ∀ (A : Around) (outer : List Env) (s : Shared) (H : Hp) (args : Args) (us : List Value) (vs : List V) (Q : VK) (E : XK), Calm A → Room k A → Env0 P w K mg base A outer s H → BindsTo s fd args (ps.zip us) → Vals vs us → sp vs H Q E →
    codeAny (model P w) A (.call (.ref f) args) (CR CX outer P w H s Q E) s
section
variable {P : Program} {w : World} {K : PySem.W.Frag} {mg : Str → Option Value} {base : Heap} {CX : CXT} {k : Nat} {f : Addr} {fd : FuncData} {ps : List Str} {sp : Sp}
theorem FnG.of (F : FnOk P w K mg base CX k f fd ps sp) : FnG P w K mg base CX k f fd ps sp := ⟨F.len, fun A outer s H args us vs Q E _ => F.run A outer s H args us vs Q E⟩
theorem FnG.mono {j : Nat} (F : FnG P w K mg base CX j f fd ps sp) (h : j ≤ k) : FnG P w K mg base CX k f fd ps sp := ⟨F.len, fun A outer s H args us vs Q E hg hr => F.run A outer s H args us vs Q E hg (hr.mono h)⟩
/-- a def's body, read where no repr runs around -/
theorem fun_g {N : List Str} {x qual : Str} {st : Stmt} (F : Fun K x qual st f fd) (S : FnScope N ps (defScope st)) (len : ∀ vs H Q E, sp vs H Q E → vs.length = ps.length)
    (hbody : ∀ (cdv : Value) (A : Around) (outer : List Env) (s : Shared) (H : Hp) (vs : List V) (Q : VK) (E : XK), Calm (A.deeper (envOfC qual (defScope st) s.heap.objs.size f cdv)) → Room k (A.deeper (envOfC qual (defScope st) s.heap.objs.size f cdv)) → sp vs H Q E →
      ∃ t, PSs (cxOf CX0 P w K mg base N qual (defScope st) f cdv A outer s H E).nox (defBody st) t ∧ t { nx := fun _ H' => Q .non H', rt := Q } (start N vs) H) : FnG P w K mg base CX0 (k + 1) f fd ps sp := by
  obtain ⟨oc, od, kV, doc, pm, an, cdv, ct, osl, rfl, lk, hcd⟩ := F.ex
  refine ⟨len, fun A outer s H args us vs Q E hgd hr e0 hb r hsp => ?_⟩
  have hl := len _ _ _ _ hsp
  have KX : K.In s.heap := e0.mod.kin.keeps fun b o e => (e0.bs b o e).1
  have lim : s.heap.NoLimit := e0.mod.nolimit.keeps fun b o e => (e0.bs b o e).1
  have kinds : ∀ y ∈ ps.zip us, (defScope st).names.lookup y.1 = some .local ∨ ((defScope st).names.lookup y.1 = some .cell ∧ ((cellsFrom (s.heap.objs.size + 1) (defScope st).names []).lookup y.1).isSome = true) := fun ⟨n, v⟩ hy => by
    rcases S.par n (List.of_mem_zip hy).1 with q | q
    · exact .inl q
    · exact .inr ⟨q, PySem.W.cellsFrom_some _ _ _ (.inl q)⟩
  refine codeAny_call_function hr.depth (KX _ _ lk) rfl S.co S.gen rfl (PySem.W.codeRec_of KX hcd) (hb _ _ _ _ ?_)
  refine wpAny_newFunctionEnv_cells S.kind kinds fun env he s1 x => ?_
  subst he
  refine ⟨lim.keeps x.toInCall.keep, codeAny_func ?_⟩
  obtain ⟨t, ht, hq⟩ := hbody cdv A outer s H vs Q E hgd (hr.deeper _) hsp
  have I : Inv (cxOf CX0 P w K mg base N qual (defScope st) f cdv A outer s H E) [] (start N vs) H s1 := inv_start S hr.hd e0 hl r x
  refine wpAny_mono (ht.nox.run [] s1 (start N vs) H _ I hq) (fun fl s' hs => ?_) fun e s' hs => hs
  cases fl with
  | ret u =>
    obtain ⟨v, σ', H', J, rv, q⟩ := hs
    exact ⟨v, H', J.os, J.bare, J.base, J.hok, rv, q⟩
  | next =>
    obtain ⟨σ', H', J, q⟩ := hs
    exact ⟨V.non, H', J.os, J.bare, J.base, J.hok, (show RelV V.non Value.none from rfl), q⟩
  | brk =>
    obtain ⟨_, _, _, q⟩ := hs
    exact False.elim q
  | cont =>
    obtain ⟨_, _, _, q⟩ := hs
    exact False.elim q
end
section
variable {X : Cx} {CX : CXT} {k : Nat} {f : Addr} {fd : FuncData} {ps : List Str} {sp : Sp} {dvs : List V} {ds : List Value} {E : XK} {x : Str} {p pos : Pos} {e : Expr} {es : List Expr} {t : TA}
/-- a call of such a def -/
theorem pe_callG (F : FnG X.prog X.w X.K X.mg X.base CX k f fd ps sp) (hc : Calm X.A) (hr : Room k X.A) (hg : Gl X x) (hm : X.mg x = some (.ref f)) (hk : PySem.W.keepIn X.K (.ref f) = true) (hb : Binds X.K fd ps ds) (hd : Vals dvs ds) (hx : Passes CX X E)
    (ha : PA X (e :: es) t) (hdb : (x == ("__debug__" : Str)) = false := by decide) (he : starEach (e :: es) X.env = (false, eval e X.env) :: starEach es X.env := by rfl) (hpl : (backTo pos (starEach es X.env)).any (·.1) = false := by rfl) :
    PE X (.Call (.Name x p) (e :: es) [] pos) (tCall sp dvs E t) := by
  refine ⟨fun pins s σ H Q I h => ?_⟩
  refine wpAny_Call_Name_kw (ld_glob I hg hm ?_ hdb)
  refine PySem.W.callWith_K (h₀ := X.base) I.ok.mod.kin hk (thn (ha.run pos pins s σ H _ I h) fun us s1 ⟨vs, H1, I1, r, q⟩ => ⟨I1.kIn, ?_⟩) he hpl
  have r2 : Vals (vs ++ dvs) (us ++ ds) := r.append hd
  have hl : (us ++ ds).length = ps.length := by rw [← r2.length]; exact F.len _ _ _ _ q
  refine wpAny_call (codeAny_mono (F.run X.A X.stack s1 H1 ⟨us, []⟩ (us ++ ds) (vs ++ dvs) Q E hc hr I1.env0 (hb s1 us I1.kIn hl) r2 q) fun r s' hq => ?_)
  cases r with
  | error e => exact hx pins σ H1 s1 e s' I1 hq
  | ok fl =>
    cases fl with
    | ret u => exact I1.after hq
    | next => exact False.elim hq
    | brk => exact False.elim hq
    | cont => exact False.elim hq
end
/-! ### repr of data -/
def rRepr (K : PySem.W.Frag) : List V → Hp → VK → Prop := fun vs H Q => ∃ (x : V) (d : PyData), vs = [x] ∧ Dp K H x d ∧ (x = x → SeqAt.shaped d = true) ∧ d.showable = true ∧ d.shown.length ≤ sizeLine ∧ Q (.str d.shown) H
section
variable {X : Cx} {k : Nat}
theorem cr_repr (hc : Calm X.A) (hr : Room k X.A) : CallR X (.builtin "repr") (rRepr X.K) := by
  intro pins s σ H vs us Q I r h
  obtain ⟨x, d, rfl, hd, sh, sw, sz, q⟩ := h
  obtain ⟨u, rfl, rx⟩ := vals1 r
  have sh := sh rfl
  obtain ⟨as, rd⟩ := Dp.reads I d x u hd rx
  have go : ∀ a, u = .ref a → wpAny (model X.prog X.w) X.A (call (.builtin "repr") [u]) (EP X pins σ Q) X.xe s := fun a e => by
    subst e
    refine repr_of_reads' (h₀ := s.heap) rd sw (PyData.noDict_hsm (PyData.hasDict_of_canLay d (SeqAt.canLay_of_shaped sh))) hc ?_ (fun _ _ h => h) (fun h' u tk hk => ?_) sz
    · have h1 := hr.un
      have h2 := SeqAt.depth_of_shaped sh
      omega
    · exact ⟨.str _, H, I.kept (t' := tk) hk, ⟨u, rfl⟩, q⟩
  cases hd with
  | lst _ _ => exact go _ rx
  | tup _ _ => exact go _ rx
  | int i =>
    obtain ⟨t, rfl⟩ := rx
    exact PySem.P.repr_of_int (by simpa [PyData.showable] using sw) ⟨.str _, H, I.tok _, ⟨_, rfl⟩, q⟩
  | non =>
    obtain rfl : u = Value.none := rx
    exact PySem.P.repr_of_none ⟨.str _, H, I.tok _, ⟨_, rfl⟩, q⟩
  | bl b =>
    obtain rfl : u = Value.bool b := rx
    exact PySem.P.repr_of_bool ⟨.str _, H, I.tok _, ⟨_, rfl⟩, q⟩
  | str y =>
    obtain ⟨t, rfl⟩ := rx
    exact PySem.P.repr_of_str ⟨.str _, H, I.tok _, ⟨_, rfl⟩, q⟩ sz
end
/-! ### the end of a law whose def calls repr -/
theorem law_callG {P : Program} {w : World} {K : PySem.W.Frag} {mg mb : Str → Option Value} {CX : CXT} {k : Nat} {fa a : Addr} {fd : FuncData} {x : Str} {sp : Sp} {s₁ : Shared} {vs : List Value} {ns : List Int}
    (KX : K.In s₁.heap) (hns : s₁.heap.Ns mainGlobals mg) (hb : s₁.heap.Ns builtinsNs mb) (hbb : ∀ x : Str, x ≠ "__name__" → mb x = bootBuiltins x) (hlim : s₁.heap.NoLimit) (hg : s₁.gens = #[])
    (ha : s₁.heap.get? a = some { cls := .type "list", data := .seq vs.toArray }) (hi : IntsAre vs ns) (hl : ns.length ≤ sizeLine) (hr : Room k callerA)
    (F : ∀ base : Heap, K.In base → base.Ns mainGlobals mg → FnG P w K mg base CX k fa fd [x] sp) (hbind : ∀ (s : Shared) (u : Value), BindsTo s fd ⟨[u], []⟩ [(x, u)])
    (hsp : ∀ H : Hp, Only H → SqL K H a (ns.map V.int) → sp [.ref a] H (fun v _ => v = .bl true) fun _ _ _ => False)
    (hCX : ∀ H e s', CX [] H s₁ (fun _ _ _ => False) e s' → False) :
    codeAny (model P w) callerA (.call (.ref fa) ⟨[.ref a], []⟩) (fun r s' => r = .ok (.ret (.bool true)) ∧ OldK s₁.heap s'.heap ∧ s'.os = s₁.os ∧ AllBare s'.gens) s₁ := by
  have rv := vals_ints hi
  have lenV := hi.length
  have core : ∀ H : Hp, Only H → SqL K H a (ns.map V.int) → HOk P w H s₁.heap → (∀ b, H b ≠ none → b = a) → (H a ≠ none → K.lookup a = none) →
      codeAny (model P w) callerA (.call (.ref fa) ⟨[.ref a], []⟩) (fun r s' => r = .ok (.ret (.bool true)) ∧ OldK s₁.heap s'.heap ∧ s'.os = s₁.os ∧ AllBare s'.gens) s₁ := by
    intro H hO hS hok hA hK
    have there : ∀ {b : Addr}, (b ≠ a) → H b = none := fun {b} n => by
      cases q : H b with
      | none => rfl
      | some u => exact absurd (hA b (by rw [q]; simp)) n
    have nsK : ∀ {b : Addr} {m : Str → Option Value}, s₁.heap.Ns b m → (hidT s₁.heap H).Ns b m := fun {b m} ⟨o, es, ep, e, d, r⟩ => ⟨o, es, ep, hidT_get e (there fun z => by
      subst z
      rw [ha] at e
      cases e
      cases d), d, r⟩
    have hKb : K.In (hidT s₁.heap H) := fun b o e => hidT_get (KX b o e) (by
      cases q : H b with
      | none => rfl
      | some u =>
        obtain rfl : b = a := hA b (by rw [q]; simp)
        rw [hK (by rw [q]; simp)] at e
        cases e)
    have hM : Mod K mg (hidT s₁.heap H) := ⟨hKb, nsK hns, ⟨mb, nsK hb, hbb⟩, let ⟨mc, h1, h2⟩ := hlim; ⟨mc, nsK h1, h2⟩⟩
    have e0 : Env0 P w K mg (hidT s₁.heap H) callerA [] s₁ H := ⟨rfl, hM, fun b o e => of_hidT e, Nat.le_of_eq (hidT_size _ _), trivial, fun b hb => absurd (show b ∈ ([] : List Addr) from hb) (by simp), hok, .of_eq hg⟩
    refine codeAny_mono ((F _ hKb (nsK hns)).run callerA [] s₁ H ⟨[.ref a], []⟩ [.ref a] [.ref a] _ _ rfl hr e0 (hbind s₁ (.ref a)) (.cons rfl .nil) (hsp H hO hS)) fun r s' h => ?_
    cases r with
    | error e => exact (hCX H e s' h).elim
    | ok fl =>
      cases fl with
      | next => exact False.elim h
      | brk => exact False.elim h
      | cont => exact False.elim h
      | ret u =>
        obtain ⟨v, H', os, bare, un, hok', r', q⟩ := h
        obtain rfl : v = .bl true := q
        obtain rfl : u = Value.bool true := r'
        refine ⟨rfl, OldK.of_keep fun b o e => ?_, os, bare⟩
        cases q : H b with
        | none => exact un.keep b o e q (by intro z; exact absurd (show b ∈ ([] : List Addr) from z) (by simp)) (by simp)
        | some u =>
          rcases hO b with z | ⟨ob, xs, z⟩
          · rw [q] at z; cases z
          · have z2 := un.frzs b ob _ z
            obtain ⟨e1, _⟩ := hok b _ z
            obtain ⟨e2, _⟩ := hok' b _ z2
            rw [e] at e1; cases e1
            exact e2
  cases hk : K.lookup a with
  | some o =>
    have e := KX a o hk
    rw [ha] at e
    cases e
    refine core (fun _ => none) (fun _ => .inl rfl) (.inr ⟨_, vs.toArray, _, hk, rfl, rfl, rfl, by rw [List.size_toArray, lenV]; exact hl, by simpa using rv⟩) (fun b u z => by have z' : (none : Option HO) = some u := z; cases z') (fun b z => absurd rfl z) fun z => absurd rfl z
  | none =>
    refine core (fun b => if b = a then some (.frz { cls := .type "list", data := .seq vs.toArray } (.lst (ns.map V.int))) else none) (fun b => ?_) (.inl (.inr ⟨{ cls := .type "list", data := .seq vs.toArray }, if_pos rfl⟩)) (fun b u z => ?_) (fun b z => ?_) fun _ => hk
    · by_cases hb : b = a
      · exact .inr ⟨_, _, if_pos hb⟩
      · exact .inl (if_neg hb)
    · by_cases hb : b = a
      · cases (if_pos hb).symm.trans z
        subst hb
        exact ⟨ha, by rw [List.length_map]; exact hl, vs, _, rv, ha⟩
      · cases (if_neg hb).symm.trans z
    · by_cases hb : b = a
      · exact hb
      · exact absurd (if_neg hb) z
theorem walk_ofG {l : PySem.W.OpenLaw} {n k : Nat} {q : Program} {loose : List Str} {XP : (Str → Option Value) → Heap → Prop} {YP : World → Heap → Prop} {d : DefRec} {K : Params → PySem.W.Frag} {CX : World → CXT} {sp : World → Sp} {x : Str}
    (hn : l.most = some n) (hn2 : n ≤ sizeLine) (hdf : d.params.defaults = []) (hr : Room k callerA)
    (hY : ∀ (w : World) (h : Heap), YP w h → (K w.params).In h)
    (F : ∀ (w : World) (mg : Str → Option Value) (fa : Addr) (h : Heap), (K w.params).In h → h.Ns mainGlobals mg → mg d.name = some (.ref fa) →
      ∃ fd : FuncData, (∀ (s : Shared) (u : Value), BindsTo s fd ⟨[u], []⟩ [(x, u)]) ∧
        ∀ base : Heap, (K w.params).In base → base.Ns mainGlobals mg → FnG l.prog w (K w.params) mg base (CX w) k fa fd [x] (sp w))
    (hsp : ∀ (w : World) (H : Hp) (a : Addr) (ns : List Int), ns.length ≤ n → Only H → SqL (K w.params) H a (ns.map V.int) → sp w [.ref a] H (fun v _ => v = .bl true) fun _ _ _ => False)
    (hCX : ∀ (w : World) (H : Hp) (s : Shared) (e : Value) (s' : Shared), CX w [] H s (fun _ _ _ => False) e s' → False) :
    PySem.W.WalkO q loose XP YP l.row.toRowW d [] (fun f vs => PySem.call f vs) := by
  refine Att.attach_call hn hdf fun w s₀ s₁ mg mb fa o pm cd doc a vs ns G Y ho hd hcd hmg hobj hints hlen hg => ?_
  have KX := hY w _ Y
  obtain ⟨fd, hb, hF⟩ := F w mg fa _ KX G.T.g hmg
  exact law_callG KX G.T.g G.T.b G.T.builtins G.T.nolimit hg hobj hints (Nat.le_trans hlen hn2) hr hF hb (fun H hO hS => hsp w H a ns hlen hO hS) fun H e s' => hCX w H s₁ e s'
end Gd
set_option Elab.async false
set_option linter.all false
set_option maxRecDepth 100000
set_option maxHeartbeats 2000000
/-! # the end of a law whose defs call repr and hold generator expressions -/
namespace Gd
open PySem PySem.Spec PyProof.Rows L2 GnR LamX
/-- the tracked heap of the call: the tables Ts, and the script at a where it is not of the written part -/
def startH (Ts : List Addr) (a : Addr) (o : Option HO) : Hp := fun b => if b ∈ Ts then some (TabO b) else if b = a then o else none
section
variable {Ts : List Addr} {a b : Addr} {o : Option HO}
theorem startH_t (h : b ∈ Ts) : startH Ts a o b = some (TabO b) := if_pos h
theorem startH_a (h : a ∉ Ts) : startH Ts a o a = o := (if_neg h).trans (if_pos rfl)
theorem startH_n (h : b ∉ Ts) (n : b ≠ a) : startH Ts a o b = none := (if_neg h).trans (if_neg n)
end
/-- where a law stands: what the head has left, as the end below wants it -/
structure Left (w : World) (K : PySem.W.Frag) (mg mb : Str → Option Value) (s : Shared) (cs : List (Addr × Addr)) (a : Addr) (vs : List Value) (ns : List Int) : Prop where
  KX : K.In s.heap
  gl : s.heap.Ns mainGlobals mg
  bl : s.heap.Ns builtinsNs mb
  boot : ∀ x : Str, x ≠ "__name__" → mb x = bootBuiltins x
  lim : s.heap.NoLimit
  gens : s.gens = #[]
  tab : ∀ p ∈ cs, s.heap.get? p.2 = some { cls := .none, data := .fields #[] }
  tabK : ∀ p ∈ cs, K.lookup p.2 = none
  code : ∀ p ∈ cs, PySem.W.CodeHd s.heap p.1 p.2
  bm : ∃ (bm : Addr) (ob : Obj), mg "__builtins__" = some (.ref bm) ∧ bm ≠ builtinsNs ∧ s.heap.get? bm = some ob ∧ ob.cls = .type "module" ∧ ob.dict = some builtinsNs ∧ ob.data = .plain
  arg : s.heap.get? a = some { cls := .type "list", data := .seq vs.toArray }
  itg : IntsAre vs ns
  small : ns.length ≤ sizeLine
section
variable {P : Program} {w : World} {K : PySem.W.Frag} {mg mb : Str → Option Value} {s : Shared} {cs : List (Addr × Addr)} {a : Addr} {vs : List Value} {ns : List Int}
theorem Left.tabAt (L : Left w K mg mb s cs a vs ns) {b : Addr} (h : b ∈ cs.map (·.2)) : s.heap.get? b = some { cls := .none, data := .fields #[] } := by
  obtain ⟨p, hp, rfl⟩ := List.mem_map.mp h
  exact L.tab p hp
theorem Left.argTab (L : Left w K mg mb s cs a vs ns) : a ∉ cs.map (·.2) := fun h => by
  have e := (L.tabAt h).symm.trans L.arg
  cases e
theorem Left.argSize (L : Left w K mg mb s cs a vs ns) : ((ns.map V.int).length ≤ sizeLine) := by
  rw [List.length_map]
  exact L.small
/-- what is not a list and no table is not tracked -/
theorem Left.free (L : Left w K mg mb s cs a vs ns) {o : Option HO} {b : Addr} {u : Obj} (e : s.heap.get? b = some u) (h1 : ∀ xs n, u.data ≠ .seq xs n) (h2 : u.data ≠ .fields #[]) : startH (cs.map (·.2)) a o b = none := by
  refine startH_n (fun h => ?_) fun h => ?_
  · rw [L.tabAt h] at e
    cases e
    exact h2 rfl
  · rw [h, L.arg] at e
    cases e
    exact h1 _ _ rfl
theorem Left.hid (L : Left w K mg mb s cs a vs ns) {o : Option HO} {b : Addr} {u : Obj} (e : s.heap.get? b = some u) (h1 : ∀ xs n, u.data ≠ .seq xs n) (h2 : u.data ≠ .fields #[]) : (hidT s.heap (startH (cs.map (·.2)) a o)).get? b = some u := hidT_get e (L.free e h1 h2)
theorem Left.nsA (L : Left w K mg mb s cs a vs ns) {o : Option HO} {b : Addr} {m : Str → Option Value} : s.heap.Ns b m → (hidT s.heap (startH (cs.map (·.2)) a o)).Ns b m := fun ⟨u, es, ep, e, d, r⟩ =>
  ⟨u, es, ep, L.hid e (fun xs n z => by rw [d] at z; cases z) (fun z => by rw [d] at z; cases z), d, r⟩
theorem Left.kin (L : Left w K mg mb s cs a vs ns) {o : Option HO} (ho : o ≠ none → K.lookup a = none) : K.In (hidT s.heap (startH (cs.map (·.2)) a o)) := fun b u e => hidT_get (L.KX b u e) (by
  by_cases h : b ∈ cs.map (·.2)
  · obtain ⟨p, hp, rfl⟩ := List.mem_map.mp h
    rw [L.tabK p hp] at e
    cases e
  · by_cases n : b = a
    · subst n
      rw [startH_a h]
      cases o with
      | none => rfl
      | some x =>
        rw [ho (by simp)] at e
        cases e
    · exact startH_n h n)
theorem Left.tb (L : Left w K mg mb s cs a vs ns) {o : Option HO} : ∀ p ∈ cs, GxR.TabB (hidT s.heap (startH (cs.map (·.2)) a o)) mg p.1 p.2 := fun p hp => by
  have t := L.tab p hp
  refine ⟨?_, ?_, fun z => ?_⟩
  · obtain ⟨u, us, file, tf, flags, tg, inF, text, tt, e1, r1, r2, r3, r⟩ := L.code p hp
    exact ⟨u, us, file, tf, flags, tg, inF, text, tt, L.hid e1 (fun xs n z => by rw [r2] at z; cases z) (fun z => by
      rw [r2] at z
      cases z
      simp at r3), r1, r2, r3, r⟩
  · obtain ⟨bm, ob, b1, b2, b3, b4, b5, b6⟩ := L.bm
    refine ⟨bm, ob, b1, b2, fun q => ?_, fun q => ?_, L.hid b3 (fun xs n z => by rw [b6] at z; cases z) (fun z => by rw [b6] at z; cases z), b4, b5, b6⟩
    · obtain ⟨u, es, ep, e, d, _⟩ := L.gl
      rw [q, e] at b3
      cases b3
      rw [d] at b6
      cases b6
    · rw [q, t] at b3
      cases b3
      cases b6
  · obtain ⟨u, es, ep, e, d, _⟩ := L.gl
    rw [z, t] at e
    cases e
    cases d
/-- the call itself -/
theorem law_at {CX : CXT} {k : Nat} {fa : Addr} {fd : FuncData} {x : Str} {sp : Sp} (L : Left w K mg mb s cs a vs ns) (hr : Room k callerA)
    (F : ∀ base : Heap, K.In base → base.Ns mainGlobals mg → (∀ p ∈ cs, GxR.TabB base mg p.1 p.2) → FnG P w K mg base CX k fa fd [x] sp) (hbind : ∀ (s : Shared) (u : Value), BindsTo s fd ⟨[u], []⟩ [(x, u)])
    (hsp : ∀ H : Hp, (∀ p ∈ cs, H p.2 = some (TabO p.2)) → SqL K H a (ns.map V.int) → sp [.ref a] H (fun v H' => v = .bl true ∧ ∀ p ∈ cs, H' p.2 = some (TabO p.2)) fun _ _ _ => False)
    (hCX : ∀ H e s', CX [] H s (fun _ _ _ => False) e s' → False) :
    codeAny (model P w) callerA (.call (.ref fa) ⟨[.ref a], []⟩) (fun r s' => r = .ok (.ret (.bool true)) ∧ OldK s.heap s'.heap ∧ s'.os = s.os ∧ AllBare s'.gens) s := by
  have rv := vals_ints L.itg
  have go : ∀ o : Option HO, (o ≠ none → K.lookup a = none) → (∀ u, o = some u → ∃ ob xs, u = .frz ob (.lst xs) ∧ ObjOk P w (startH (cs.map (·.2)) a o) s.heap a u) → SqL K (startH (cs.map (·.2)) a o) a (ns.map V.int) →
      codeAny (model P w) callerA (.call (.ref fa) ⟨[.ref a], []⟩) (fun r s' => r = .ok (.ret (.bool true)) ∧ OldK s.heap s'.heap ∧ s'.os = s.os ∧ AllBare s'.gens) s := by
    intro o hK hO hS
    generalize hH : startH (cs.map (·.2)) a o = H at hO hS
    have at_t : ∀ p ∈ cs, H p.2 = some (TabO p.2) := fun p hp => hH ▸ startH_t (List.mem_map.mpr ⟨p, hp, rfl⟩)
    have hM : L2.Mod K mg (hidT s.heap H) := hH ▸ ⟨L.kin hK, L.nsA L.gl, ⟨mb, L.nsA L.bl, L.boot⟩, let ⟨mc, h1, h2⟩ := L.lim; ⟨mc, L.nsA h1, h2⟩⟩
    have hTB : ∀ p ∈ cs, GxR.TabB (hidT s.heap H) mg p.1 p.2 := hH ▸ L.tb
    have ok : HOk P w H s.heap := fun b u e => by
      rw [← hH] at e
      by_cases h : b ∈ cs.map (·.2)
      · rw [startH_t h] at e
        cases e
        exact ⟨⟨#[], L.tabAt h, trivial⟩, ⟨_, L.tabAt h⟩, fun _ _ ⟨ps, e, t⟩ k => ⟨ps, k _ e, t⟩⟩
      · by_cases n : b = a
        · subst n
          rw [startH_a h] at e
          obtain ⟨_, _, _, q⟩ := hO u e
          exact q
        · rw [startH_n h n] at e
          cases e
    have e0 : Env0 P w K mg (hidT s.heap H) callerA [] s H := ⟨rfl, hM, fun b u e => of_hidT e, Nat.le_of_eq (hidT_size _ _), trivial, (fun b hb => by cases hb), ok, .of_eq L.gens⟩
    refine codeAny_mono ((F _ hM.kin hM.glob hTB).run callerA [] s H ⟨[.ref a], []⟩ [.ref a] [.ref a] _ _ rfl hr e0 (hbind s (.ref a)) (.cons rfl .nil) (hsp H at_t hS)) fun r s' h => ?_
    cases r with
    | error e => exact (hCX H e s' h).elim
    | ok fl =>
      cases fl with
      | next => exact False.elim h
      | brk => exact False.elim h
      | cont => exact False.elim h
      | ret u =>
        obtain ⟨v, H', os, bare, un, ok', r', q, qt⟩ := h
        subst q
        obtain rfl : u = Value.bool true := r'
        have same : ∀ b ob, b ∉ cs.map (·.2) → s.heap.get? b = some ob → s'.heap.get? b = some ob := fun b ob nb e => by
          by_cases n : b = a
          · subst n
            cases hq : H b with
            | none => exact un.keep b ob e hq (by intro z; cases z) (by simp)
            | some x =>
              rw [← hH, startH_a nb] at hq
              obtain ⟨ob2, xs, hx, q1⟩ := hO x hq
              subst hx
              have q2 := ok' b _ (un.frzs b ob2 _ (by rw [← hH, startH_a nb]; exact hq))
              rw [q1.1] at e
              cases e
              exact q2.1
          · exact un.keep b ob e (hH ▸ startH_n nb n) (by intro z; cases z) (by simp)
        have grown : ∀ p ∈ cs, ∃ more : Array Value, s'.heap.get? p.2 = some { cls := .none, data := .fields more } := fun p hp => let ⟨⟨ps, h1, _⟩, _⟩ := ok' p.2 _ (qt p hp); ⟨ps, h1⟩
        refine ⟨rfl, ⟨fun b ob e => ?_, fun b ob e => ?_⟩, os, bare⟩
        · by_cases hb : b ∈ cs.map (·.2)
          · obtain ⟨p, hp, rfl⟩ := List.mem_map.mp hb
            obtain ⟨more, hm⟩ := grown p hp
            have t := L.tab p hp
            obtain rfl := Option.some.inj (t.symm.trans e)
            exact .inr (.inl ⟨((L.code p hp).tab t).isCodeTable, rfl, #[], more, rfl, by rw [hm, Array.empty_append]⟩)
          · exact .inl (same b ob hb e)
        · by_cases hb : b ∈ cs.map (·.2)
          · obtain ⟨p, hp, rfl⟩ := List.mem_map.mp hb
            exact (grown p hp).imp' _ fun more hm => hm
          · exact ⟨ob, same b ob hb e⟩
  cases hk : K.lookup a with
  | some ob =>
    have e := (L.KX a ob hk).symm.trans L.arg
    cases e
    refine go none (fun z => absurd rfl z) (fun u z => by cases z) (.inr ⟨_, vs.toArray, _, hk, rfl, rfl, rfl, ?_, by simpa using rv⟩)
    have := L.itg.length
    have := L.small
    rw [List.size_toArray]
    omega
  | none =>
    refine go (some (.frz { cls := .type "list", data := .seq vs.toArray } (.lst (ns.map V.int)))) (fun _ => hk) (fun u z => ?_) (.inl (.inr ⟨_, startH_a L.argTab⟩))
    obtain rfl := Option.some.inj z
    exact ⟨_, _, rfl, L.arg, L.argSize, vs, _, rv, L.arg⟩
end
/-- what is known of the law's promise at the head's heap -/
def LawAtG (l : PySem.W.OpenLaw) (w : World) (K : PySem.W.Frag) (CX : CXT) (k n : Nat) (x : Str) (mg : Str → Option Value) (fa : Addr) (h : Heap) : Prop :=
  ∃ (fd : FuncData) (cs : List (Addr × Addr)) (sp : Sp), (∀ p ∈ cs, h.get? p.2 = some { cls := .none, data := .fields #[] }) ∧ (∀ p ∈ cs, K.lookup p.2 = none) ∧ (∀ p ∈ cs, PySem.W.CodeHd h p.1 p.2) ∧ (∀ (s : Shared) (u : Value), BindsTo s fd ⟨[u], []⟩ [(x, u)]) ∧
    (∀ (H : Hp) (a : Addr) (ns : List Int), ns.length ≤ n → (∀ p ∈ cs, H p.2 = some (TabO p.2)) → SqL K H a (ns.map V.int) → sp [.ref a] H (fun v H' => v = .bl true ∧ ∀ p ∈ cs, H' p.2 = some (TabO p.2)) fun _ _ _ => False) ∧
    ∀ base : Heap, K.In base → base.Ns mainGlobals mg → (∀ p ∈ cs, GxR.TabB base mg p.1 p.2) → FnG l.prog w K mg base CX k fa fd [x] sp
theorem walk_ofGT {l : PySem.W.OpenLaw} {n k : Nat} {q : Program} {loose : List Str} {XP : (Str → Option Value) → Heap → Prop} {YP : World → Heap → Prop} {d : DefRec} {K : Params → PySem.W.Frag} {CX : World → CXT} {x : Str}
    (hn : l.most = some n) (hn2 : n ≤ sizeLine) (hdf : d.params.defaults = []) (hr : Room k callerA) (hY : ∀ (w : World) (h : Heap), YP w h → (K w.params).In h)
    (F : ∀ (w : World) (mg : Str → Option Value) (fa : Addr) (h : Heap), YP w h → (K w.params).In h → h.Ns mainGlobals mg → mg d.name = some (.ref fa) → LawAtG l w (K w.params) (CX w) k n x mg fa h)
    (hCX : ∀ (w : World) (H : Hp) (s : Shared) (e : Value) (s' : Shared), CX w [] H s (fun _ _ _ => False) e s' → False) :
    PySem.W.WalkO q loose XP YP l.row.toRowW d [] (fun f vs => PySem.call f vs) := by
  refine Att.attach_callB hn hdf fun w s₀ s₁ mg mb fa o pm cd doc a vs ns G Y _ _ _ hmg hobj hints hlen _ hg => ?_
  have KX := hY w _ Y
  obtain ⟨fd, cs, sp, hT, nT, C, hb, hsp, hF⟩ := F w mg fa _ Y KX G.T.g hmg
  exact law_at (⟨KX, G.T.g, G.T.b, G.T.builtins, G.T.nolimit, hg, hT, nT, C, G.T.bmain, hobj, hints, Nat.le_trans hlen hn2⟩ : Left w (K w.params) mg mb s₁ cs a vs ns) hr hF hb (fun H hH hS => hsp H a ns hlen hH hS) fun H e s' => hCX w H s₁ e s'
end Gd
namespace Gd
open PySem PySem.Spec PyProof.Rows L2 GnR LamX
theorem walk_ofGE {l : PySem.W.OpenLaw} {n k : Nat} {q : Program} {loose : List Str} {XP : (Str → Option Value) → Heap → Prop} {YP : World → Heap → Prop} {d : DefRec} {CX : CXT} {x : Str}
    (hn : l.most = some n) (hn2 : n ≤ sizeLine) (hdf : d.params.defaults = []) (hr : Room k callerA)
    (F : ∀ (w : World) (mg : Str → Option Value) (fa : Addr) (h : Heap), YP w h → h.Ns mainGlobals mg → mg d.name = some (.ref fa) → ∃ K : PySem.W.Frag, K.In h ∧ LawAtG l w K CX k n x mg fa h)
    (hCX : ∀ (H : Hp) (s : Shared) (e : Value) (s' : Shared), CX [] H s (fun _ _ _ => False) e s' → False) :
    PySem.W.WalkO q loose XP YP l.row.toRowW d [] (fun f vs => PySem.call f vs) := by
  refine Att.attach_callB hn hdf fun w s₀ s₁ mg mb fa o pm cd doc a vs ns G Y _ _ _ hmg hobj hints hlen _ hg => ?_
  obtain ⟨K, KX, fd, cs, sp, hT, nT, C, hb, hsp, hF⟩ := F w mg fa _ Y G.T.g hmg
  exact law_at (⟨KX, G.T.g, G.T.b, G.T.builtins, G.T.nolimit, hg, hT, nT, C, G.T.bmain, hobj, hints, Nat.le_trans hlen hn2⟩ : Left w K mg mb s₁ cs a vs ns) hr hF hb (fun H hH hS => hsp H a ns hlen hH hS) fun H e s' => hCX H s₁ e s'
end Gd
set_option Elab.async false
set_option linter.all false
/-! # rows without a pattern, and how they grow (no library) -/
namespace Bx
abbrev Bad (p q x y : Int) : Prop := (q < x ∧ x < y ∧ y < p) ∨ (p < y ∧ y < x ∧ x < q)
/-- a pattern stands in the row -/
def Pt (r : List Int) : Prop := ∃ (X : List Int) (p q : Int) (Y : List Int) (x y : Int), r = X ++ p :: q :: Y ∧ x ∈ X ∧ y ∈ Y ∧ Bad p q x y
/-- how X ++ p :: q :: Y can be A ++ B -/
theorem split2 {A B X Y : List Int} {p q : Int} (h : A ++ B = X ++ p :: q :: Y) :
    (∃ C, A = X ++ p :: q :: C ∧ Y = C ++ B) ∨ (A = X ++ [p] ∧ B = q :: Y) ∨ (∃ C, X = A ++ C ∧ B = C ++ p :: q :: Y) := by
  rcases List.append_eq_append_iff.mp h with ⟨C, h1, h2⟩ | ⟨C, h1, h2⟩
  · exact .inr (.inr ⟨C, h1, h2⟩)
  · cases C with
    | nil => exact .inr (.inr ⟨[], by rw [List.append_nil] at h1; rw [h1, List.append_nil], by simpa using h2.symm⟩)
    | cons c C =>
      rw [List.cons_append, List.cons.injEq] at h2
      obtain ⟨rfl, h2⟩ := h2
      cases C with
      | nil => exact .inr (.inl ⟨h1, h2.symm⟩)
      | cons d C =>
        rw [List.cons_append, List.cons.injEq] at h2
        obtain ⟨rfl, h2⟩ := h2
        exact .inl ⟨C, h1, h2⟩
/-- a greatest number m put in: a pattern is an old one, or m takes part -/
theorem ins_pt {A B : List Int} {m : Int} (hA : ∀ a ∈ A, a < m) (hB : ∀ b ∈ B, b < m) (h : Pt (A ++ m :: B)) :
    Pt (A ++ B) ∨ (∃ b B' x y, B = b :: B' ∧ x ∈ A ∧ y ∈ B' ∧ b < x ∧ x < y) ∨ (∃ A' a x y, A = A' ++ [a] ∧ x ∈ A' ∧ y ∈ B ∧ a < y ∧ y < x) := by
  obtain ⟨X, p, q, Y, x, y, e, hx, hy, hb⟩ := h
  rcases split2 e with ⟨C, h1, h2⟩ | ⟨h1, h2⟩ | ⟨C, h1, h2⟩
  · subst h2
    rcases List.mem_append.mp hy with hy | hy
    · exact .inl ⟨X, p, q, C ++ B, x, y, by rw [h1]; simp, hx, List.mem_append_left _ hy, hb⟩
    · rcases List.mem_cons.mp hy with rfl | hy
      · have hp := hA p (by rw [h1]; simp)
        have hxm := hA x (by rw [h1]; exact List.mem_append_left _ hx)
        rcases hb with ⟨_, _, h3⟩ | ⟨_, h3, _⟩ <;> omega
      · exact .inl ⟨X, p, q, C ++ B, x, y, by rw [h1]; simp, hx, List.mem_append_right _ hy, hb⟩
  · rw [List.cons.injEq] at h2
    obtain ⟨rfl, rfl⟩ := h2
    have hxm := hA x (by rw [h1]; exact List.mem_append_left _ hx)
    rcases hb with ⟨h3, _, _⟩ | ⟨h3, h4, _⟩
    · omega
    · exact .inr (.inr ⟨X, p, x, y, h1, hx, hy, h3, h4⟩)
  · cases C with
    | nil =>
      rw [List.nil_append, List.cons.injEq] at h2
      obtain ⟨rfl, rfl⟩ := h2
      rw [List.append_nil] at h1
      subst h1
      have hym := hB y (List.mem_cons_of_mem _ hy)
      rcases hb with ⟨h3, h4, _⟩ | ⟨h3, _, _⟩
      · exact .inr (.inl ⟨q, Y, x, y, rfl, hx, hy, h3, h4⟩)
      · omega
    | cons c C =>
      rw [List.cons_append, List.cons.injEq] at h2
      obtain ⟨rfl, rfl⟩ := h2
      subst h1
      have hp := hB p (by simp)
      have hq := hB q (by simp)
      have hym := hB y (by simp [hy])
      rcases List.mem_append.mp hx with hx | hx
      · exact .inl ⟨A ++ C, p, q, Y, x, y, by simp, List.mem_append_left _ hx, hy, hb⟩
      · rcases List.mem_cons.mp hx with rfl | hx
        · rcases hb with ⟨_, h3, _⟩ | ⟨_, _, h3⟩ <;> omega
        · exact .inl ⟨A ++ C, p, q, Y, x, y, by simp, List.mem_append_right _ hx, hy, hb⟩
theorem push_lower {A B : List Int} {b m : Int} (hA : ∀ a ∈ A, a < b) (hb : b < m) (hB : ∀ x ∈ B, x < m) (h : Pt (A ++ m :: b :: B)) : Pt (A ++ b :: B) := by
  rcases ins_pt (A := A) (B := b :: B) (fun a ha => Int.lt_trans (hA a ha) hb) (fun x hx => by
    rcases List.mem_cons.mp hx with rfl | hx
    · exact hb
    · exact hB x hx) h with h | ⟨b', B', x, y, e, hx, _, h3, _⟩ | ⟨A', a, x, y, e, hx, hy, h3, h4⟩
  · exact h
  · cases e
    have := hA x hx
    omega
  · have hxb := hA x (by rw [e]; exact List.mem_append_left _ hx)
    rcases List.mem_cons.mp hy with rfl | hy
    · omega
    · exact ⟨A', a, b, B, x, y, by rw [e]; simp, hx, hy, .inr ⟨h3, h4, hxb⟩⟩
theorem push_right {C D : List Int} {c m : Int} (hD : ∀ d ∈ D, d < c) (hc : c < m) (hC : ∀ x ∈ C, x < m) (h : Pt (C ++ c :: m :: D)) : Pt (C ++ c :: D) := by
  have h' : Pt ((C ++ [c]) ++ m :: D) := by rw [List.append_assoc]; exact h
  rcases ins_pt (A := C ++ [c]) (B := D) (fun a ha => by
    rcases List.mem_append.mp ha with ha | ha
    · exact hC a ha
    · rw [List.mem_singleton.mp ha]
      exact hc) (fun x hx => Int.lt_trans (hD x hx) hc) h' with h | ⟨b, B', x, y, e, hx, hy, h3, h4⟩ | ⟨A', a, x, y, e, hx, hy, h3, h4⟩
  · rw [List.append_assoc] at h
    exact h
  · subst e
    have hyc := hD y (List.mem_cons_of_mem _ hy)
    rcases List.mem_append.mp hx with hx | hx
    · exact ⟨C, c, b, B', x, y, rfl, hx, hy, .inl ⟨h3, h4, hyc⟩⟩
    · rw [List.mem_singleton.mp hx] at h4
      omega
  · obtain ⟨rfl, e2⟩ := List.append_inj' e rfl
    cases e2
    have := hD y hy
    omega
theorem rem_first {B : List Int} {g : Int} (h : Pt B) : Pt (g :: B) := by
  obtain ⟨X, p, q, Y, x, y, e, hx, hy, hb⟩ := h
  exact ⟨g :: X, p, q, Y, x, y, by rw [e]; rfl, List.mem_cons_of_mem _ hx, hy, hb⟩
theorem rem_last {A : List Int} {g : Int} (h : Pt A) : Pt (A ++ [g]) := by
  obtain ⟨X, p, q, Y, x, y, e, hx, hy, hb⟩ := h
  exact ⟨X, p, q, Y ++ [g], x, y, by rw [e]; simp, hx, List.mem_append_left _ hy, hb⟩
/-- what lies between keeps apart, and is greater or less than all -/
theorem rem_mid {A B : List Int} {g : Int} (hg : (∀ x ∈ A ++ B, x < g) ∨ ∀ x ∈ A ++ B, g < x) (h : Pt (A ++ B)) : Pt (A ++ g :: B) := by
  obtain ⟨X, p, q, Y, x, y, e, hx, hy, hb⟩ := h
  rcases split2 e with ⟨C, h1, h2⟩ | ⟨h1, h2⟩ | ⟨C, h1, h2⟩
  · subst h1 h2
    refine ⟨X, p, q, C ++ g :: B, x, y, by simp, hx, ?_, hb⟩
    rcases List.mem_append.mp hy with hy | hy
    · exact List.mem_append_left _ hy
    · exact List.mem_append_right _ (List.mem_cons_of_mem _ hy)
  · subst h1 h2
    have mp : p ∈ (X ++ [p]) ++ q :: Y := by simp
    have mq : q ∈ (X ++ [p]) ++ q :: Y := by simp
    rcases hg with hg | hg
    · have gp := hg p mp
      have gq := hg q mq
      rcases hb with ⟨h3, h4, h5⟩ | ⟨h3, h4, h5⟩
      · exact ⟨X ++ [p], g, q, Y, x, y, by simp, List.mem_append_left _ hx, hy, .inl ⟨h3, h4, by omega⟩⟩
      · exact ⟨X, p, g, q :: Y, x, y, by simp, hx, List.mem_cons_of_mem _ hy, .inr ⟨h3, h4, by omega⟩⟩
    · have gp := hg p mp
      have gq := hg q mq
      rcases hb with ⟨h3, h4, h5⟩ | ⟨h3, h4, h5⟩
      · exact ⟨X, p, g, q :: Y, x, y, by simp, hx, List.mem_cons_of_mem _ hy, .inl ⟨by omega, h4, h5⟩⟩
      · exact ⟨X ++ [p], g, q, Y, x, y, by simp, List.mem_append_left _ hx, hy, .inr ⟨by omega, h4, h5⟩⟩
  · subst h1 h2
    refine ⟨A ++ g :: C, p, q, Y, x, y, by simp, ?_, hy, hb⟩
    rcases List.mem_append.mp hx with hx | hx
    · exact List.mem_append_left _ hx
    · exact List.mem_append_right _ (List.mem_cons_of_mem _ hx)
theorem map_pt {r : List Int} {f : Int → Int} (hf : ∀ a ∈ r, ∀ b ∈ r, f a < f b → a < b) (h : Pt (r.map f)) : Pt r := by
  obtain ⟨X, p, q, Y, x, y, e, hx, hy, hb⟩ := h
  obtain ⟨X', R, rfl, rfl, h2⟩ := List.map_eq_append_iff.mp e
  obtain ⟨p', R', rfl, rfl, h3⟩ := List.map_eq_cons_iff.mp h2
  obtain ⟨q', Y', rfl, rfl, rfl⟩ := List.map_eq_cons_iff.mp h3
  obtain ⟨x', hx', rfl⟩ := List.mem_map.mp hx
  obtain ⟨y', hy', rfl⟩ := List.mem_map.mp hy
  have mx : x' ∈ X' ++ p' :: q' :: Y' := List.mem_append_left _ hx'
  have my : y' ∈ X' ++ p' :: q' :: Y' := by simp [hy']
  have mp : p' ∈ X' ++ p' :: q' :: Y' := by simp
  have mq : q' ∈ X' ++ p' :: q' :: Y' := by simp
  refine ⟨X', p', q', Y', x', y', rfl, hx', hy', ?_⟩
  rcases hb with ⟨h3, h4, h5⟩ | ⟨h3, h4, h5⟩
  · exact .inl ⟨hf _ mq _ mx h3, hf _ mx _ my h4, hf _ my _ mp h5⟩
  · exact .inr ⟨hf _ mp _ my h3, hf _ my _ mx h4, hf _ mx _ mq h5⟩
/-! ### by places -/
def PtAt (r : List Int) (i j k : Nat) : Prop := i < j ∧ j + 1 < k ∧ k < r.length ∧ Bad (r.getD j 0) (r.getD (j + 1) 0) (r.getD i 0) (r.getD k 0)
theorem pt_of_at {r : List Int} {i j k : Nat} (h : PtAt r i j k) : Pt r := by
  obtain ⟨h1, h2, h3, h4⟩ := h
  have ej : r.getD j 0 = r[j] := by rw [List.getD_eq_getElem?_getD, List.getElem?_eq_getElem (by omega)]; rfl
  have ej1 : r.getD (j + 1) 0 = r[j + 1] := by rw [List.getD_eq_getElem?_getD, List.getElem?_eq_getElem (by omega)]; rfl
  have ei : r.getD i 0 = r[i] := by rw [List.getD_eq_getElem?_getD, List.getElem?_eq_getElem (by omega)]; rfl
  have ek : r.getD k 0 = r[k] := by rw [List.getD_eq_getElem?_getD, List.getElem?_eq_getElem (by omega)]; rfl
  rw [ej, ej1, ei, ek] at h4
  refine ⟨r.take j, r[j], r[j + 1], r.drop (j + 2), r[i], r[k], ?_, ?_, ?_, h4⟩
  · rw [← List.drop_eq_getElem_cons (by omega), ← List.drop_eq_getElem_cons (by omega), List.take_append_drop]
  · exact List.mem_take_iff_getElem.mpr ⟨i, by omega, rfl⟩
  · exact List.mem_drop_iff_getElem.mpr ⟨k - (j + 2), by omega, by congr 1; omega⟩
end Bx
set_option Elab.async false
set_option linter.all false
set_option maxRecDepth 100000
set_option maxHeartbeats 3200000
/-! # min(xs, default=d), xs whole numbers -/
namespace MnR
open PySem PySem.Spec PyProof.Rows L2
def minF (d : V) : List Int → V
  | [] => d
  | n :: r => .int (r.foldl min n)
theorem alikeI (ns : List Int) : PySem.W.AlikeAll (ns.map PyData.int) := by
  refine ⟨fun x hx y hy => ?_, fun x hx => ?_⟩
  · obtain ⟨a, _, rfl⟩ := List.mem_map.mp hx
    obtain ⟨b, _, rfl⟩ := List.mem_map.mp hy
    rfl
  · obtain ⟨a, _, rfl⟩ := List.mem_map.mp hx
    exact fun h => nomatch h
theorem depthI : ∀ ns : List Int, PyData.depthAll (ns.map PyData.int) = 0
  | [] => rfl
  | n :: r => by
    show max (PyData.depth (.int n)) (PyData.depthAll (r.map PyData.int)) = 0
    rw [depthI r]
    rfl
theorem readsI {h : Heap} : ∀ {ns : List Int} {us : List Value}, Vals (ns.map V.int) us → ∃ as, ReadsAll h us (ns.map PyData.int) as
  | [], _, .nil => ⟨_, .nil⟩
  | n :: r, _, .cons ⟨t, e⟩ k => by
    obtain ⟨as, ih⟩ := readsI (h := h) k
    subst e
    exact ⟨_, .cons (.int n t) ih⟩
def rMinD (K : PySem.W.Frag) : List V → List V → Hp → VK → Prop := fun xs zs H Q => ∃ (l : Addr) (ns : List Int) (d : V), xs = [V.ref l] ∧ zs = [d] ∧ SqL K H l (ns.map V.int) ∧ Q (minF d ns) H
section
variable {X : Cx}
theorem cr_minD (hc : X.calm = true) (hu : X.A.units + 64 < cLine) : CallRK X (.builtin "min") ["default"] (rMinD X.K) := by
  intro pins s σ H xs zs us ws Q I rx rz h
  obtain ⟨l, ns, d, rfl, rfl, hl, q⟩ := h
  cases rx with
  | cons r1 r2 =>
    cases r2
    cases r1
    cases rz with
    | @cons _ dv _ _ r3 r4 =>
      cases r4
      obtain ⟨its, rv, pl, hz⟩ := I.list hl
      obtain ⟨as, hr⟩ := readsI (h := s.heap) rv
      refine PySem.W.min_list_default (I.ok.hd hc) pl.isList (vs := its.toArray) (by simpa using hr) (alikeI ns) (by rw [depthI]; omega) (fun h0 h1 tk hk => ?_) fun y ys i v h1 tk bs hxs hv hrd hk => ?_
      · have : ns = [] := List.map_eq_nil_iff.mp h0
        subst this
        exact ⟨d, H, I.kept (t' := tk) hk, r3, q⟩
      · cases ns with
        | nil => cases hxs
        | cons n r =>
          rw [List.map_cons] at hxs
          injection hxs with e1 e2
          subst e1 e2
          rw [PySem.W.minD_ints] at hrd
          refine ⟨.int (r.foldl min n), H, I.kept (t' := tk) hk, ?_, q⟩
          cases hrd with
          | int i t => exact ⟨t, rfl⟩
end
section
open Evl
variable {K : PySem.W.Frag} {σ : L2.St} {H : Hp}
theorem ev_minD {t te : TE} {l : Addr} {ns : List Int} {d : V} (h : Ev t σ H (.ref l)) (hl : H l = some (.lst (ns.map V.int))) (hd : Ev te σ H d) : Ev (tCKw (rMinD K) (tCons t tNil) (tCons te tNil)) σ H (minF d ns) := fun H1 e Q q =>
  h H1 e _ fun H2 e2 => hd H2 (e.trans e2) _ fun H3 e3 => ⟨l, ns, d, rfl, rfl, SqL.of (((e.trans e2).trans e3) _ _ hl), q H3 (e2.trans e3)⟩
end
end MnR
set_option Elab.async false
set_option linter.all false
set_option maxRecDepth 100000
set_option maxHeartbeats 8000000
/-! # a place of a row where no pattern is -/
namespace GL
open PySem PySem.Spec PyProof.Rows L2 Geo Rel
theorem ps_never {X : Cx} {st : Stmt} : PS X st (fun _ _ _ => False) := ⟨fun _ _ _ _ _ _ h => h.elim⟩
def spotsF (row places : List Int) (mid : Nat) : List Int :=
  if row.getD (mid + 1) 0 < row.getD mid 0 then (List.range (row.getD mid 0 - row.getD (mid + 1) 0 - 1).toNat).map fun i : Nat => places.getD (row.getD (mid + 1) 0 + 1 + (i : Int)).toNat 0
  else (List.range (row.getD (mid + 1) 0 - row.getD mid 0 - 1).toNat).map fun i : Nat => places.getD (row.getD (mid + 1) 0 - 1 - (i : Int)).toNat 0
def trimF (m : Int) (L : List Int) : List Int := (L.reverse.dropWhile fun p => decide (p < m)).reverse
def firstF (d : Int) : List Int → Int
  | [] => d
  | n :: r => r.foldl min n
theorem min_first (d : Int) (ns : List Int) : MnR.minF (.int d) ns = .int (firstF d ns) := by cases ns <;> rfl
def noneAt (row places : List Int) (mid : Nat) : Bool := decide (firstF (mid : Int) (trimF (mid : Int) (spotsF row places mid)) ≥ (mid : Int))
theorem trim_snoc (m : Int) (L : List Int) (p : Int) : trimF m (L ++ [p]) = if p < m then trimF m L else L ++ [p] := by
  unfold trimF
  rw [List.reverse_append, List.reverse_singleton, List.singleton_append, List.dropWhile_cons]
  by_cases c : p < m
  · rw [if_pos (decide_eq_true c), if_pos c]
  · rw [if_neg (by simp at c ⊢; exact c), if_neg c]
    simp
section
variable {P : Program} {w : World} {K : PySem.W.Frag} {mg : Str → Option Value} {base : Heap} {σ : L2.St} {H : Hp}
theorem el_lcRgC {ta : TA} {te : TE} {i j c : Int} {n : Nat} {k : Nat} {vs : List Nat} {f : Nat → Int} (h : Evl.EvA ta σ H [.int i, .int j, .int c]) (hR : RgC i j c n) (hn : n ≤ 40000) (hw : ∀ x, wipe ((wipe σ vs).set k (some x)) vs = wipe σ vs)
    (he : ∀ u, u < n → ∀ H1, Evl.Ex H H1 → Evl.Ev te ((wipe σ vs).set k (some (.int (i + (u : Nat) * c)))) H1 (.int (f u))) : Evl.EvL (tLc (iRng3 ta) (gName k) tYes te vs) σ H (((List.range n).map f).map V.int) := by
  rw [List.map_map]
  refine el_ofRL (g := fun u => V.int (f u)) fun H1 e Q q => h H1 e _ fun H2 e1 => ⟨i, j, c, n, rfl, hR, fun Dl hD => ?_⟩
  have hf : (List.range n).filter (fun _ => true) = List.range n := List.filter_eq_self.mpr fun _ _ => rfl
  refine lc_rel (H := H2) (walk_rangeC (lo := i) (c := c) (n := n)) (zs := List.range n) List.length_range.symm (fun H3 e2 => trivial) (fun _ => true) (fun u v _ => v = V.int (f u)) (val_m fun u => V.int (f u)) (by rw [List.length_range]; exact hn) (fun a z x H3 H4 hzi hH hy => ?_) hD fun us H3 e2 h3 hq => q Dl H3 (Evl.fresh_back e1 hD) (e1.trans e2) ⟨us, h3, by rwa [hf] at hq⟩
  obtain ⟨rfl, rfl⟩ := hy
  obtain ⟨k1, k2⟩ := List.getElem?_eq_some_iff.mp hzi
  rw [List.getElem_range] at k2
  rw [List.length_range] at k1
  subst k2
  exact ⟨Evl.Ex.refl _, fun Q' k => k _ (hw _) et_yes fun _ => en_int (he a k1 H2 (e.trans e1))⟩
theorem q_parI {t1 t2 : TE} {v w : V} {i j : Nat} {D : Ends} {tz : TS} (h1 : Evl.Ev t1 σ H v) (h2 : ∀ H1, Evl.Ex H H1 → Evl.Ev t2 σ H1 w) (k : ∀ H1, Evl.Ex H H1 → tz D ((σ.set i (some v)).set j (some w)) H1) : tSeq (tPar i j (tCons t1 (tCons t2 tNil))) tz D σ H :=
  h1 H (Evl.Ex.refl H) _ fun H1 e1 => h2 H1 e1 H1 (Evl.Ex.refl H1) _ fun H2 e2 => ⟨_, _, rfl, k H2 (e1.trans e2)⟩
def spAtP : Sp := fun vs H Q _ => ∃ (l pl : Addr) (row places : List Int) (mid : Nat), vs = [.ref l, .ref pl, .int (mid : Int)] ∧ H l = some (.lst (row.map V.int)) ∧ H pl = some (.lst (places.map V.int)) ∧ row.length ≤ 1000 ∧ places.length = row.length ∧ mid + 1 < row.length ∧ (∀ r ∈ row, 0 ≤ r ∧ r < row.length) ∧ noneAt row places mid = true ∧
  ∀ H', Evl.Ex H H' → Q .non H'
theorem ok_find_pattern_at {f : Addr} {fd : FuncData} (F : Fun K "find_pattern_at" "find_pattern_at" s_find_pattern_at f fd) (B : BP mg) : FnOk P w K mg base CX0 1 f fd ["row", "places", "middle"] spAtP := by
  refine F.ok sc_find_pattern_at (fun vs H Q E h => ?_) (fun cdv A outer s H vs Q E hr h => ?_)
  · obtain ⟨l, pl, row, places, mid, rfl, _⟩ := h
    rfl
  · obtain ⟨l, pl, row, places, mid, rfl, hl, hpl, hlen, hplen, hmid, hb, hnone, q⟩ := h
    refine ⟨_, (pss_cons (ps_par (i := 3) (j := 4) rfl sc_find_pattern_at.nd rfl rfl (by decide) rfl rfl (pa_cons (pe_ix (ixLK (K := K) rfl) (pv 0) (pv 2) (fun _ _ => rfl)) (pa_cons (pe_ix (ixLK (K := K) rfl) (pv 0) (pe_op op_add (pv 2) pe_int) (fun _ _ => rfl)) pa_nil)) (by rfl))
      (pss_cons (ps_set (i := 5) sc_find_pattern_at.nd rfl (.inl rfl) (pe_ifExp (pt_cmpR op_lt (pv 4) (pv 3) (nomark _)) pe_int (pe_un un_neg pe_int)))
      (pss_cons (ps_setLc (i := 6) (own := [("pane", 9)]) (g := gName 9) (tt := tYes) rfl sc_find_pattern_at.nd rfl rfl (sw_true rfl rfl rfl (by decide +kernel)) (pi_range3 rfl B.range_ (pa_cons (pe_op op_add (pv 4) (pv 5)) (pa_cons (pv 3) (pa_cons (pv 5) pa_nil)))) (blkOk_by (N := n_find_pattern_at) (sc := (defScope s_find_pattern_at)) (by decide +kernel)) (fun _ _ _ _ _ => (pg_name (i := 9) sc_find_pattern_at.nd rfl (Or.inl rfl))) (fun _ _ _ _ _ => pts_nil) (fun _ _ _ _ _ => (pe_ix (ixLK (K := K) rfl) (pv 1) (pv 9) (fun _ _ => rfl))))
      (Evl.pss_cut (ps_while PassesOwn.never (PW.pt (pw_and (pt_truth (pv 6) (by intro _; rfl)) (pw_and1 (pt_cmpR op_lt (pe_ix (ixLK (K := K) rfl) (pv 6) (pe_un un_neg pe_int) (fun _ _ => rfl)) (pv 2) (nomark _))))) (pss_one (ps_expr (pe_bm0 PySem.F.plainAttrs_list PySem.F.slot_list_pop PySem.F.type_list_pop mt_pop (pv 6)))))
      (pss_cons (ps_set (i := 7) sc_find_pattern_at.nd rfl (.inl rfl) (pe_callBK (MnR.cr_minD rfl hr.units) (by rfl) B.min_ (by decide +kernel) (pa_cons (pv 6) pa_nil) (pk_cons (pv 2) pk_nil)))
      (pss_cons (ps_if (pt_cmpR op_ge (pv 7) (pv 2) (nomark _)) (pss_one (ps_ret pe_non)) pss_nil)
      (pss_cons ps_never
      (pss_one ps_never)))))))), ?_⟩
    have at1 : row[mid]? = some (row.getD mid 0) := by
      rw [List.getD_eq_getElem?_getD, List.getElem?_eq_getElem (by omega)]
      rfl
    have at2 : row[mid + 1]? = some (row.getD (mid + 1) 0) := by
      rw [List.getD_eq_getElem?_getD, List.getElem?_eq_getElem hmid]
      rfl
    have b1 := hb _ (List.mem_of_getElem? at1)
    have b2 := hb _ (List.mem_of_getElem? at2)
    unfold noneAt spotsF at hnone
    generalize row.getD mid 0 = hi at at1 b1 hnone
    generalize row.getD (mid + 1) 0 = lo at at2 b2 hnone
    refine q_parI (v := .int hi) (w := .int lo) (Evl.ev_op (Evl.ev_var rfl) (Evl.ev_var rfl) (Evl.rv_ixL (SqL.of hl) (atI_nat (by rw [List.getElem?_map, at1]; rfl)))) (fun H1 e1 => ?_) fun H1 e1 => ?_
    · have hm1 : Evl.Ev (tOp (rI0 fun i j => V.int (i + j)) (tVar 2) (tC (.int 1))) [some (.ref l), some (.ref pl), some (.int (mid : Int)), none, none, none, none, none, none, none, none] H1 (.int ((mid + 1 : Nat) : Int)) := Evl.ev_is (Evl.ev_op (Evl.ev_var rfl) Evl.ev_c Evl.rv_I0) rfl
      exact Evl.ev_op (Evl.ev_var rfl) hm1 (Evl.rv_ixL (SqL.of (e1 _ _ hl)) (atI_nat (by rw [List.getElem?_map, at2]; rfl)))
    dsimp only
    refine Evl.q_asg (v := .int (if lo < hi then 1 else -1)) (Evl.ev_if (Evl.et_test (Evl.ev_op (Evl.ev_var rfl) (Evl.ev_var rfl) Evl.rv_I0)) (fun h => ?_) (fun h => ?_)) fun H2 e2 => ?_
    · rw [if_pos (of_decide_eq_true h)]
      exact Evl.ev_c
    · rw [if_neg (of_decide_eq_false h)]
      exact ev_m1
    have hpl2 := e2 _ _ (e1 _ _ hpl)
    generalize hS : (if lo < hi then (List.range (hi - lo - 1).toNat).map fun i : Nat => places.getD (lo + 1 + (i : Int)).toNat 0 else (List.range (lo - hi - 1).toNat).map fun i : Nat => places.getD (lo - 1 - (i : Int)).toNat 0) = S at hnone
    have getP : ∀ x : Int, 0 ≤ x → x < row.length → (places.map V.int)[x.toNat]? = some (V.int (places.getD x.toNat 0)) := fun x h0 h1 => by
      rw [List.getElem?_map, List.getD_eq_getElem?_getD, List.getElem?_eq_getElem (by omega)]
      rfl
    have lS : S.length ≤ 1000 := by
      rw [← hS]
      split
      · rw [List.length_map, List.length_range]
        omega
      · rw [List.length_map, List.length_range]
        omega
    refine Evl.q_asgL (xs := S.map V.int) ?_ fun sp H3 nsp e3 hsp => ?_
    · rw [← hS]
      by_cases c : lo < hi
      · rw [if_pos c, if_pos c]
        refine el_lcRgC (i := lo + 1) (j := hi) (c := 1) (Evl.ea_cons (Evl.ev_op (Evl.ev_var rfl) (Evl.ev_var rfl) Evl.rv_I0) (Evl.ea_cons (Evl.ev_var rfl) (Evl.ea_cons (Evl.ev_var rfl) Evl.ea_nil))) ⟨by decide, by decide, small_one (by omega) (by omega) (by omega) (by omega), by rw [show (hi - lo - 1).toNat = (hi - (lo + 1)).toNat by omega]; exact rangeSize_nat _ _⟩ (by omega) (fun _ => rfl) fun u hu H4 e4 => ?_
        refine Evl.ev_op (Evl.ev_var rfl) (Evl.ev_var rfl) (Evl.rv_ixL (SqL.of (e4 _ _ hpl2)) ?_)
        have := atI_nat (getP (lo + 1 + (u : Int)) (by omega) (by omega))
        rw [Int.toNat_of_nonneg (by omega)] at this
        rw [Int.mul_one]
        exact this
      · rw [if_neg c, if_neg c]
        refine el_lcRgC (i := lo + -1) (j := hi) (c := -1) (Evl.ea_cons (Evl.ev_op (Evl.ev_var rfl) (Evl.ev_var rfl) Evl.rv_I0) (Evl.ea_cons (Evl.ev_var rfl) (Evl.ea_cons (Evl.ev_var rfl) Evl.ea_nil))) (by rw [show (lo - hi - 1).toNat = (lo + -1 - hi).toNat by omega]; exact RgC.neg (by omega) (by omega) (by omega) (by omega)) (by omega) (fun _ => rfl) fun u hu H4 e4 => ?_
        refine Evl.ev_op (Evl.ev_var rfl) (Evl.ev_var rfl) (Evl.rv_ixL (SqL.of (e4 _ _ hpl2)) ?_)
        have := atI_nat (getP (lo - 1 - (u : Int)) (by omega) (by omega))
        rw [Int.toNat_of_nonneg (by omega)] at this
        rw [show lo + -1 + (u : Int) * -1 = lo - 1 - (u : Int) by omega]
        exact this
    have eT := (e1.trans e2).trans e3
    have nspH : H sp = none := Evl.fresh_back (e1.trans e2) nsp
    refine Evl.q_cut (M := fun σ' H' => σ' = [some (.ref l), some (.ref pl), some (.int (mid : Int)), some (.int hi), some (.int lo), some (.int (if lo < hi then 1 else -1)), some (.ref sp), none, none, none, none] ∧ Evl.Ex H H' ∧ H' sp = some (.lst ((trimF (mid : Int) S).map V.int))) ?_ fun σ' H' hM => ?_
    · refine Evl.s_while (fun m σ' H' => ∃ L', m = L'.length ∧ σ' = [some (.ref l), some (.ref pl), some (.int (mid : Int)), some (.int hi), some (.int lo), some (.int (if lo < hi then 1 else -1)), some (.ref sp), none, none, none, none] ∧ trimF (mid : Int) L' = trimF (mid : Int) S ∧ Evl.Ex H H' ∧ H' sp = some (.lst (L'.map V.int))) S.length
        ⟨S, rfl, rfl, rfl, eT, hsp⟩ (fun m σ' H' hw => ?_)
      obtain ⟨L', rfl, rfl, htr, eH, hB⟩ := hw
      rcases List.eq_nil_or_concat L' with rfl | ⟨init, p, rfl⟩
      · refine ⟨false, Evl.et_is (Evl.et_and (a := false) (b := false) (et_list rfl hB) (fun h => by cases h)) rfl, (fun h => by cases h), fun _ H5 e5 => ⟨rfl, eH.trans e5, ?_⟩⟩
        rw [← htr]
        exact e5 _ _ hB
      · rw [List.concat_eq_append] at htr hB ⊢
        have hB' : H' sp = some (.lst (init.map V.int ++ [.int p])) := by rw [hB, List.map_append]; rfl
        refine ⟨decide (p < (mid : Int)), Evl.et_is (Evl.et_and (a := true) (Evl.et_is (et_list rfl hB) (by simp)) (fun _ => Evl.et_test (Evl.ev_op (ev_lastV rfl hB') (Evl.ev_var rfl) Evl.rv_I0))) (Bool.true_and _), fun hgt H5 e5 => ?_, fun hle H5 e5 => ?_⟩
        · refine ⟨fun σ2 H2 => ∃ L'', L''.length = init.length ∧ σ2 = [some (.ref l), some (.ref pl), some (.int (mid : Int)), some (.int hi), some (.int lo), some (.int (if lo < hi then 1 else -1)), some (.ref sp), none, none, none, none] ∧ trimF (mid : Int) L'' = trimF (mid : Int) S ∧ Evl.Ex H H2 ∧ H2 sp = some (.lst (L''.map V.int)), fun σ2 H2 ⟨L'', hl2, k⟩ => ⟨L''.length, by rw [hl2]; simp, L'', rfl, k⟩, ?_⟩
          refine s_popL (e5 _ _ hB') (Evl.ev_var rfl) fun H6 e6 => ⟨init, rfl, rfl, ?_, ((But1.of (Evl.Ex.refl H6)).upd).ex nspH ((eH.trans e5).trans e6), upd_same⟩
          rw [← htr, trim_snoc, if_pos (of_decide_eq_true hgt)]
        · rw [trim_snoc, if_neg (of_decide_eq_false hle)] at htr
          refine ⟨rfl, eH.trans e5, ?_⟩
          rw [← htr]
          exact e5 _ _ hB
    · obtain ⟨rfl, eH, hB⟩ := hM
      refine Evl.q_asg (v := .int (firstF (mid : Int) (trimF (mid : Int) S))) (Evl.ev_is (MnR.ev_minD (Evl.ev_var rfl) hB (Evl.ev_var rfl)) (min_first _ _)) fun H5 e5 => ?_
      refine Evl.q_when (b := true) (Evl.et_is (Evl.et_test (Evl.ev_op (Evl.ev_var rfl) (Evl.ev_var rfl) Evl.rv_I0)) hnone) (fun _ H6 e6 => ?_) (fun h => by cases h)
      exact Evl.s_ret Evl.ev_c fun H7 e7 => q H7 (((eH.trans e5).trans e6).trans e7)
end
end GL
set_option Elab.async false
set_option linter.all false
set_option maxRecDepth 100000
set_option maxHeartbeats 8000000
/-! # a plan, checked -/
namespace GL
open PySem PySem.Spec PyProof.Rows L2 Geo Rel
def patB (row : List Int) : Bool := (List.range (row.length - 3)).all fun i => noneAt row (placesF row) (i + 1)
section
variable {P : Program} {w : World} {K : PySem.W.Frag} {mg : Str → Option Value} {base : Heap} {σ : L2.St} {H : Hp}
theorem ev_minDN {t te : TE} {ns : List Int} {d : V} (h : Evl.EvL t σ H (ns.map V.int)) (hd : ∀ H1, Evl.Ex H H1 → Evl.Ev te σ H1 d) : Evl.Ev (tCKw (MnR.rMinD K) (tCons t tNil) (tCons te tNil)) σ H (MnR.minF d ns) := fun H1 e Q q =>
  h H1 e _ fun l H2 nl e2 hl => hd H2 (e.trans e2) H2 (Evl.Ex.refl _) _ fun H3 e3 => ⟨l, ns, d, rfl, rfl, SqL.of (e3 _ _ hl), q H3 (e2.trans e3)⟩
def spPat : Sp := fun vs H Q _ => ∃ (l : Addr) (row : List Int), vs = [.ref l] ∧ H l = some (.lst (row.map V.int)) ∧ row.length ≤ 1000 ∧ (∀ r ∈ row, 0 ≤ r ∧ r < row.length) ∧ patB row = true ∧ ∀ H', Evl.Ex H H' → Q .non H'
theorem ok_find_pattern {f f1 f2 : Addr} {fd fd1 fd2 : FuncData} (F : Fun K "find_pattern" "find_pattern" s_find_pattern f fd) (B : BP mg) (C_find_places : Cal P w K mg base "find_places" 1 f1 fd1 ["row"] spPlaces) (C_find_pattern_at : Cal P w K mg base "find_pattern_at" 1 f2 fd2 ["row", "places", "middle"] spAtP) : FnOk P w K mg base CX0 2 f fd ["row"] spPat := by
  refine F.ok sc_find_pattern (fun vs H Q E h => ?_) (fun cdv A outer s H vs Q E hr h => ?_)
  · obtain ⟨l, row, rfl, _⟩ := h
    rfl
  · obtain ⟨l, row, rfl, hl, hlen, hb, hp, q⟩ := h
    refine ⟨_, (pss_cons (ps_set (i := 1) sc_find_pattern.nd rfl (.inr rfl) (pe_call C_find_places.G hr (by rfl) C_find_places.g C_find_places.k C_find_places.b .nil pass0 (by exact (pa_cons (pv 0) pa_nil))))
      (pss_cons (ps_setLc (i := 2) (own := [("middle", 3)]) (g := gName 3) (tt := tYes) rfl sc_find_pattern.nd rfl rfl (sw_true rfl rfl rfl (by decide +kernel)) (pi_range2 (by rfl) B.range_ (pa_cons pe_int (pa_cons (pe_op op_sub (pe_callB (lenK (K := K) rfl) (by rfl) B.len_ (by decide +kernel) (pa_cons (pv 0) pa_nil)) pe_int) pa_nil))) (blkOk_by (N := n_find_pattern) (sc := (defScope s_find_pattern)) (by decide +kernel)) (fun _ _ _ _ _ => (pg_name (i := 3) sc_find_pattern.nd rfl (Or.inl rfl))) (fun _ _ _ _ _ => pts_nil) (fun _ _ _ _ _ => (pe_call C_find_pattern_at.G hr (by rfl) C_find_pattern_at.g C_find_pattern_at.k C_find_pattern_at.b .nil pass0 (by exact (pa_cons (pv 0) (pa_cons (pv 1) (pa_cons (pv 3) pa_nil)))))))
      (pss_one (ps_ret (pe_callBK (MnR.cr_minD rfl hr.units) (by rfl) B.min_ (by decide +kernel) (pa_cons (pe_lc (own := [("pattern", 4)]) (g := gName 4) (tt := (tTest (tOp (fun x y H Q => y = .non ∧ Q (.bl (!decide (x = .non))) H) (tVar 4) (tC .non)))) rfl sc_find_pattern.nd (pi_list (pv 2)) (blkOk_by (N := n_find_pattern) (sc := (defScope s_find_pattern)) (by decide +kernel)) (fun _ _ _ _ _ => (pg_name (i := 4) sc_find_pattern.nd rfl (Or.inl rfl))) (fun _ _ _ _ _ => pts_one (pt_cmpR op_notN (pv 4) pe_non (nomark _))) (fun _ _ _ _ _ => (pv 4))) pa_nil) (pk_cons pe_non pk_nil)))))), ?_⟩
    refine Evl.q_asgL (xs := (placesF row).map V.int) (fun H1 e Q q => ⟨.ref l, rfl, l, row, rfl, e _ _ hl, hlen, hb, fun H3 a e3 na ha => q a H3 na e3 ha⟩) fun a H1 na e1 ha => ?_
    refine q_asgRL (R := fun (_ : Int) v _ => v = V.non) (zs := ((List.range ((row.length : Int) - 2 - 1).toNat).map fun i : Nat => 1 + (i : Int)).filter fun _ => true) ?_ fun fo H2 nfo e2 hfo => ?_
    · refine er_lcRg (lo := 1) (hi := (row.length : Int) - 2) (fun z v H H' D n k h => h) (fun _ => true) (Evl.ea_cons Evl.ev_c (Evl.ea_cons (Evl.ev_is (Evl.ev_op (Evl.ev_len (Evl.ev_var rfl) (SqL.of (e1 _ _ hl))) Evl.ev_c Evl.rv_I0) (by rw [List.length_map])) Evl.ea_nil)) (by omega) (fun _ => rfl) (fun i _ _ H3 e3 => et_yes) (fun i h0 h1 H3 e3 _ => ?_)
      have hn : noneAt row (placesF row) i.toNat = true := by
        have := List.all_eq_true.mp hp (i.toNat - 1) (List.mem_range.mpr (by omega))
        rwa [show i.toNat - 1 + 1 = i.toNat by omega] at this
      refine en_val (v := V.non) (fun H4 e4 Q q => ⟨.ref l, rfl, .ref a, rfl, .int i, rfl, l, a, row, placesF row, i.toNat, by rw [Int.toNat_of_nonneg (by omega)]; rfl, (e1.trans (e3.trans e4)) _ _ hl, (e3.trans e4) _ _ ha, hlen, placesF_len row, by omega, hb, hn, fun H5 e5 => q H5 e5⟩) (fun p hp => by cases hp) fun _ _ => rfl
    · dsimp only
      have z := er_lcRL (K := K) (R := fun (_ : Int) v _ => v = V.non) (S := fun (z : Int) v _ => v = V.int z) (fun z v H H' e h => h) (val_m V.int) (σ := [some (.ref l), some (.ref a), some (.ref fo), none, none]) (H := H2) (tl := tVar 2) (a := fo) (j := 4) (vs := [4]) (t := tTest (tOp (fun x y H Q => y = .non ∧ Q (.bl (!decide (x = .non))) H) (tVar 4) (tC .non))) (te := tVar 4) (fun _ => false) (Evl.ev_var rfl) hfo
        (Nat.le_trans (List.length_filter_le _ _) (by rw [List.length_map, List.length_range]; omega)) (fun _ => rfl) (fun z hz y H3 e3 hy => by
          subst hy
          exact Evl.et_test fun H4 e4 Q q => ⟨.non, rfl, rfl, q H4 (Evl.Ex.refl _)⟩) (fun z hz y H3 e3 hy hf => by cases hf)
      rw [show ((((List.range ((row.length : Int) - 2 - 1).toNat).map fun i : Nat => 1 + (i : Int)).filter fun _ => true).filter fun _ => false) = [] from by simp] at z
      exact Evl.s_ret (ev_minDN (ns := []) (d := .non) (el_ofRL (g := V.int) z) fun H3 e3 => Evl.ev_c) fun H3 e3 => q H3 ((e1.trans e2).trans e3)
def spIsPlan (tb : Addr) : Sp := fun vs H Q _ => ∃ (l : Addr) (row : List Int), vs = [.ref l] ∧ H l = some (.lst (row.map V.int)) ∧ rowB row = true ∧ patB row = true ∧ H tb = some (GnR.TabO tb) ∧ ∀ H', Evl.Ex H H' → Q (.bl true) H'
theorem rowB_facts {row : List Int} (h : rowB row = true) : row.length ≤ 60 ∧ ∀ r ∈ row, 0 ≤ r ∧ r < row.length := by
  unfold rowB at h
  obtain ⟨h1, h2⟩ := Bool.and_eq_true_iff.mp h
  obtain ⟨h3, h4⟩ := Bool.and_eq_true_iff.mp h1
  refine ⟨of_decide_eq_true h4, fun r hr => ?_⟩
  have nd : ((List.range row.length).map fun i : Nat => (i : Int)).Nodup := by
    rw [List.Nodup, List.pairwise_map]
    exact List.nodup_range.imp fun h e => h (Int.ofNat.inj e)
  have pm : ((List.range row.length).map fun i : Nat => (i : Int)).Perm row := perm_of_sub nd (fun x hx => by
    obtain ⟨i, hi, rfl⟩ := List.mem_map.mp hx
    exact of_decide_eq_true (List.all_eq_true.mp h2 i hi)) (by simp)
  obtain ⟨i, hi, rfl⟩ := List.mem_map.mp (pm.mem_iff.mpr hr)
  have := List.mem_range.mp hi
  omega
theorem ok_is_plan {f f1 f2 : Addr} {fd fd1 fd2 : FuncData} {tb : Addr} (F : Fun K "is_plan" "is_plan" s_is_plan f fd) (B : BP mg) (C_is_row : Cal P w K mg base "is_row" 2 f1 fd1 ["thing"] (spIsRow tb)) (C_find_pattern : Cal P w K mg base "find_pattern" 2 f2 fd2 ["row"] spPat) : FnOk P w K mg base CX0 3 f fd ["thing"] (spIsPlan tb) := by
  refine F.ok sc_is_plan (fun vs H Q E h => ?_) (fun cdv A outer s H vs Q E hr h => ?_)
  · obtain ⟨l, row, rfl, _⟩ := h
    rfl
  · obtain ⟨l, row, rfl, hl, hrow, hp, ht, q⟩ := h
    obtain ⟨h60, hent⟩ := rowB_facts hrow
    refine ⟨_, (pss_one (ps_ret (pe_and (pe_call C_is_row.G hr (by rfl) C_is_row.g C_is_row.k C_is_row.b .nil pass0 (by exact (pa_cons (pv 0) pa_nil))) (pe_one (pe_cmpR op_isN (pe_call C_find_pattern.G hr (by rfl) C_find_pattern.g C_find_pattern.k C_find_pattern.b .nil pass0 (by exact (pa_cons (pv 0) pa_nil))) pe_non (nomark _)))))), ?_⟩
    refine ⟨.ref l, rfl, l, row, rfl, hl, by omega, ht, fun H1 e1 => ?_⟩
    rw [hrow]
    refine ⟨true, rfl, ?_⟩
    rw [if_pos rfl]
    exact ⟨.ref l, rfl, l, row, rfl, e1 _ _ hl, by omega, hent, hp, fun H2 e2 => ⟨rfl, q H2 (e1.trans e2)⟩⟩
def spCheckPlan (tb : Addr) : Sp := fun vs H Q _ => ∃ (l : Addr) (row : List Int), vs = [.ref l] ∧ H l = some (.lst (row.map V.int)) ∧ rowB row = true ∧ patB row = true ∧ H tb = some (GnR.TabO tb) ∧ ∀ H', Evl.Ex H H' → Q .non H'
theorem funD_ok {x qual : Str} {params : Arguments} {body : List Stmt} {scope : Scope} {dvs : List V} {kws : List (Str × V)} {f : Addr} {fd : FuncData} {N ps : List Str} {k : Nat} {sp : Sp} (F : FunD K x qual params body scope dvs kws f fd) (S : FnScope N ps scope) (len : ∀ vs H Q E, sp vs H Q E → vs.length = ps.length)
    (hbody : ∀ (cdv : Value) (A : Around) (outer : List Env) (s : Shared) (H : Hp) (vs : List V) (Q : VK) (E : XK), Room k (A.deeper (envOfC qual scope s.heap.objs.size f cdv)) → sp vs H Q E →
      ∃ t, PSs (cxOf CX0 P w K mg base N qual scope f cdv A outer s H E).nox body t ∧ t { nx := fun _ H' => Q .non H', rt := Q } (start N vs) H) : FnOk P w K mg base CX0 (k + 1) f fd ps sp :=
  F.ok S len fun cdv A outer s H vs Q E hr h => let ⟨t, ht, q⟩ := hbody cdv A outer s H vs Q E hr h; ⟨t, ht.nox, q⟩
def spCheckNum : Sp := fun vs H Q _ => ∃ n a b : Int, vs = [.int n, .int a, .int b] ∧ a ≤ n ∧ n ≤ b ∧ ∀ H', Evl.Ex H H' → Q .non H'
end
end GL
set_option Elab.async false
set_option linter.all false
set_option maxRecDepth 100000
set_option maxHeartbeats 3200000
/-! # for i, x in enumerate(xs, start=k) -/
namespace EnR
open PySem PySem.Spec PyProof.Rows L2
/-- the list at a, each item in a new pair, counted from k -/
def Itk (K : PySem.W.Frag) (a : Addr) (k : Int) : It :=
  ⟨fun i H => ∃ (xs : List V) (x : V), SqL K H a xs ∧ xs[i]? = some x, fun i H v H' => ∃ T x, v = .ref T ∧ H T = none ∧ H' = upd H T (.tup [.int (k + (i : Nat)), x]) ∧ ∀ xs, SqL K H a xs → xs[i]? = some x, fun i H => ∃ xs : List V, SqL K H a xs ∧ xs.length = i⟩
theorem turn_from {P : Program} {w : World} {K : PySem.W.Frag} {elts : List Expr} {kk : Nat} {tpos : Pos} (a e it : Addr) (k : Int) (hae : a ≠ e) (hai : a ≠ it) :
    Turn P w K (.Tuple elts kk tpos) (Itk K a k) [e, it] e (fun i h => (∃ old, IsEnum h e it (k + (i : Nat)) old) ∧ h.IsListIter it a i ∧ e ≠ it) where
  mem := by simp
  obj := fun i h st b hb => by
    obtain ⟨⟨old, he⟩, ⟨o, ho, hc, hd⟩, _⟩ := st
    rcases List.mem_cons.mp hb with z | hb
    · rw [z]
      exact ⟨_, he, fun v q => nomatch q⟩
    · rw [List.mem_singleton.mp hb]
      exact ⟨o, ho, fun v q => by rw [hd] at q; cases q⟩
  keep := fun i h h' st q => by
    obtain ⟨⟨old, he⟩, hi, hne⟩ := st
    exact ⟨⟨old, q e (by simp) _ he⟩, hi.at fun o z => q it (by simp) o z, hne⟩
  item := by
    intro X hP hw hK hc i pins s σ H E I hf st hg
    subst hP hw hK
    obtain ⟨⟨old, he⟩, hit, hne⟩ := st
    obtain ⟨xs, x, hq, hx⟩ := hg
    obtain ⟨its, rv, p, hz⟩ := I.list hq
    obtain ⟨u, hu, ru⟩ := rv.get hx
    have eL : e < s.heap.objs.size := Heap.lt_size he
    have iL : it < s.heap.objs.size := by
      obtain ⟨_, q, _⟩ := hit
      exact Heap.lt_size q
    have hh : X.A.in1.handled = none := I.ok.hd hc
    have D := Draws.list (prog := X.prog) (w := X.w) (A := X.A.in1) hh it a hai its.toArray
    have hi : i < its.toArray.size := by
      have := (List.getElem?_eq_some_iff.mp hu).1
      simpa using this
    refine wpAny_pyNext_enum_itemC D he ⟨hit, p.isList⟩ hi hne (fun z => ?_) fun u' h1 tk hP1 ho hit1 hT hsz hk => ?_
    · rcases List.mem_cons.mp z with z | z
      · exact hne z
      · exact hae (List.mem_singleton.mp z).symm
    · have hu2 : its.toArray[i]? = some u := by simpa using hu
      obtain rfl : u = u' := Option.some.inj (hu2.symm.trans hP1)
      refine ⟨_, rfl, wpAny_letOwnedTupleGo_enum (s := { s with heap := h1, toks := tk + 1 }) ho fun h2 he2 sb => ?_⟩
      have hT2 : h2.get? s.heap.objs.size = some { cls := .type "tuple", data := .seq #[.int (k + (i : Nat)) tk, u] } := (sb.2 _ (Nat.ne_of_gt eL)).trans hT
      have new : ObjOk X.prog X.w (upd H s.heap.objs.size (.tup [.int (k + (i : Nat)), x])) h2 s.heap.objs.size (.tup [.int (k + (i : Nat)), x]) :=
        ⟨(show 2 ≤ sizeLine by decide), [.int (k + (i : Nat)) tk, u], .cons ⟨_, rfl⟩ (.cons ru .nil), ⟨_, hT2, rfl, _, rfl⟩⟩
      have I1 : Inv X pins σ (upd H s.heap.objs.size (.tup [.int (k + (i : Nat)), x])) { s with heap := h2, toks := tk + 1 } :=
        I.turnedNew (ch := [e, it]) (fun b ob hb q => (sb.2 b (fun z => hb (by simp [z]))).trans (hk b ob (fun z => hb (by simp [z])) (fun z => hb (by simp [z])) q)) hf (Nat.le_refl _) new
      refine ⟨.ref s.heap.objs.size, _, I1, rfl, ⟨_, x, rfl, I.hok.fresh (Nat.le_refl _), rfl, fun ys hy => by rw [I.list_inj hy hq]; exact hx⟩, ⟨⟨u, ?_⟩, hit1.1.at fun o q => (sb.2 it (Ne.symm hne)).trans q, hne⟩, fun b hb => ?_⟩
      · rw [show k + ((i + 1 : Nat) : Int) = k + (i : Nat) + 1 by omega]
        exact he2
      · have bl : b < s.heap.objs.size := by
          rcases List.mem_cons.mp hb with z | z
          · rw [z]; exact eL
          · rw [List.mem_singleton.mp z]; exact iL
        rw [upd_ne (Nat.ne_of_lt bl)]
        exact (hf b hb).1
  done := by
    intro X hP hw hK hc i pins s σ H E I hf st hg
    subst hP hw hK
    obtain ⟨⟨old, he⟩, hit, hne⟩ := st
    obtain ⟨xs, hq, hx⟩ := hg
    obtain ⟨its, rv, p, hz⟩ := I.list hq
    obtain ⟨f0, f1, f2, f3, f4, f5⟩ := hf it (by simp)
    have hl := rv.length
    have hh : X.A.in1.handled = none := I.ok.hd hc
    have D := Draws.list (prog := X.prog) (w := X.w) (A := X.A.in1) hh it a hai its.toArray
    have hn : its.toArray.size = i := by
      rw [List.size_toArray]
      omega
    refine wpAny_pyNext_enum_endD D he (by rw [hn]; exact ⟨hit, p.isList⟩) fun h1 eb => ⟨rfl, I.turned (t' := s.toks) (fun b o hb q => eb b o hb q) f0 f1 f3 f4 f5⟩
  self := fun A i s Q E st h => by
    obtain ⟨⟨_, he⟩, _⟩ := st
    exact wpAny_pyIter_enum he h
def iEnumK (K : PySem.W.Frag) (k : Int) (ta : TA) : TI := fun σ H R => ta σ H fun vs H1 => ∃ a xs, vs = [.ref a] ∧ SqL K H1 a xs ∧ R (Itk K a k) H1
section
variable {X : Cx} {e : Expr} {ta : TA} {p pos tpos kp cp : Pos} {elts : List Expr} {kk jj : Nat} {k : Int}
theorem cw_tyKw {M : Model} {A : Around} {E : Value → Shared → Prop} {s : Shared} {env : Env} {T : String} {rest : List Expr} {kws : List Keyword} {Q : Value → Shared → Prop}
    (h : wpAny M A (spliced (backTo pos (starEach (e :: rest) env))) (fun vs s1 => wpAny M A (evalAll ((backToKw pos (keywordEach kws env)).map (·.2))) (fun ws s2 => wpAny M A (call (.type T) vs (((backToKw pos (keywordEach kws env)).filterMap (·.1)).zip ws)) Q E s2) E s1) E s)
    (he : backTo pos (starEach (e :: rest) env) = (false, eval e env) :: backTo pos (starEach rest env)) (hpl : (backTo pos (starEach (e :: rest) env)).any (·.1) = false)
    (hall : (backToKw pos (keywordEach kws env)).all (·.1.isSome) = true) (hkw : (backToKw pos (keywordEach kws env)).any (·.1.isNone) = false) :
    wpAny M A (callWith pos (.type T) [] (backTo pos (starEach (e :: rest) env)) (backToKw pos (keywordEach kws env))) Q E s := by
  have g : wpAny M A (evalArgs (.type T) true (backTo pos (starEach (e :: rest) env)) (backToKw pos (keywordEach kws env))) (fun a s1 => wpAny M A (call (.type T) a.pos a.kw) Q E s1) E s := by
    rw [he] at h ⊢
    exact evalArgs_kwB (Q := fun a s1 => wpAny M A (call (.type T) a.pos a.kw) Q E s1) hall h
  unfold callWith
  refine wpAny_bind (wpAny_holding (wpAny_mono g (fun a s1 h1 => wpAny_bind (wpAny_standAt ?_)) fun _ _ z => z))
  simp only [hpl, hkw, Bool.or_false]
  refine wpAny_bind (wpAny_pure ?_)
  exact wpAny_bind (wpAny_mono h1 (fun r s2 hr => wpAny_bind (wpAny_holding (wpAny_point (wpAny_pure hr)))) fun _ _ z => z)
theorem pi_enumK (hg : Gl X "enumerate") (hm : X.mg "enumerate" = none) (ha : PA X [e] ta) (h0 : -(2 ^ 63) ≤ k) (h1 : k < 2 ^ 63) (hk : PK X [⟨some "start", .Constant (.int k) jj cp, kp⟩] (tCons (tC (.int k)) tNil))
    (he : backTo pos (starEach [e] X.env) = (false, eval e X.env) :: backTo pos (starEach [] X.env) := by rfl) (hpl : (backTo pos (starEach [e] X.env)).any (·.1) = false := by rfl)
    (hall : (backToKw pos (keywordEach [⟨some "start", .Constant (.int k) jj cp, kp⟩] X.env)).all (·.1.isSome) = true := by rfl) (hnone : (backToKw pos (keywordEach [⟨some "start", .Constant (.int k) jj cp, kp⟩] X.env)).any (·.1.isNone) = false := by rfl)
    (hks : (backToKw pos (keywordEach [⟨some "start", .Constant (.int k) jj cp, kp⟩] X.env)).filterMap (·.1) = [Str.ofString "start"] := by rfl) :
    PI X (.Tuple elts kk tpos) (.Call (.Name "enumerate" p) [e] [⟨some "start", .Constant (.int k) jj cp, kp⟩] pos) (iEnumK X.K k ta) := by
  refine ⟨fun pins s σ H R I h => ?_⟩
  refine wpAny_Call_Name_kw (ld_blt I hg hm boot_enumerate ?_)
  refine cw_tyKw (thn (ha.run pos pins s σ H _ I h) fun us s1 ⟨vs, H1, I1, r1, q1⟩ => ?_) he hpl hall hnone
  obtain ⟨a, xs, ex, hq, q⟩ := q1
  subst ex
  refine thn (hk.run pos pins s1 σ H1 (fun zs H2 => zs = [.int k] ∧ H2 = H1) I1 ⟨rfl, rfl⟩) fun ws s2 ⟨zs, H2, I2, r2, q2⟩ => ?_
  obtain ⟨rfl, rfl⟩ := q2
  rw [hks]
  cases r1 with
  | cons r rr =>
    cases rr
    cases r
    cases r2 with
    | cons r' rr' =>
      cases rr'
      obtain ⟨t, rfl⟩ := r'
      obtain ⟨its, rv, p', hz⟩ := I2.list hq
      have hal : a < s2.heap.objs.size := by
        obtain ⟨_, q1⟩ := p'.isList
        first
          | exact Heap.lt_size q1
          | exact Heap.lt_size q1.1
      refine enum_begins_start (begins_list a its.toArray) p'.isList h0 h1 fun h' he hit hsz hkp => wpAny_pyIter_enum he ?_
      have I3 : Inv X pins σ H2 { s2 with heap := h' } := I2.kept (t' := s2.toks) hkp
      refine ⟨s2.heap.objs.size + 1, [s2.heap.objs.size + 1, s2.heap.objs.size], _, _, H2, rfl, I3, turn_from a (s2.heap.objs.size + 1) s2.heap.objs.size k ?_ ?_, ⟨⟨.none, by simpa using he⟩, ⟨_, hit, rfl, rfl⟩, Nat.succ_ne_self _⟩, fun b hb => ?_, q⟩
      · exact Nat.ne_of_lt (Nat.lt_succ_of_lt hal)
      · exact Nat.ne_of_lt hal
      have e' : b = s2.heap.objs.size + 1 ∨ b = s2.heap.objs.size := by simpa using hb
      have hle : s2.heap.objs.size ≤ b := by
        rcases e' with z | z
        · rw [z]; exact Nat.le_add_right _ _
        · rw [z]; exact Nat.le_refl _
      exact I2.fpOk hle (I2.hok.fresh hle)
end
end EnR
namespace Rel
open PySem L2 Evl EnR
section
variable {α : Type} {K : PySem.W.Frag} {R : α → V → Hp → Prop} {p : Addr} {zs : List α} {c : Int}
theorem walk_fromRL : Walk (Itk K p c) zs.length (fun H => RL R H p zs) (fun i H x H' => ∃ T y z, x = .ref T ∧ H T = none ∧ H' = upd H T (.tup [.int (c + (i : Nat)), y]) ∧ zs[i]? = some z ∧ R z y H) := by
  refine ⟨fun i H hi h => ?_, fun H h => ?_, fun i H x H' hi h y => ?_⟩
  · obtain ⟨ys, h1, h2⟩ := h
    have hl := pr_len h2
    exact ⟨ys, ys[i], sq_of h1, List.getElem?_eq_getElem (show i < ys.length by omega)⟩
  · obtain ⟨ys, h1, h2⟩ := h
    exact ⟨ys, sq_of h1, pr_len h2⟩
  · obtain ⟨T, w, e1, e2, e3, e4⟩ := y
    obtain ⟨ys, h1, h2⟩ := h
    obtain ⟨z, q1, q2⟩ := pr_at' h2 (e4 ys (sq_of h1))
    exact ⟨T, w, z, e1, e2, e3, q1, q2⟩
variable {σ : L2.St} {H : Hp} {tl : TE} {g : TG} {tb : TS} {D : Ends}
/-- for i, y in enumerate(l, start=c) -/
theorem s_forKRL (h : Ev tl σ H (.ref p)) (Pv : Nat → L2.St → Hp → Prop) (h0 : ∀ H1, Ex H H1 → Pv 0 σ H1) (hk : ∀ i σ' H', i ≤ zs.length → Pv i σ' H' → RL R H' p zs)
    (hs : ∀ i z y T σ' H', zs[i]? = some z → R z y H' → Pv i σ' H' → H' T = none → g (.ref T) σ' (upd H' T (.tup [.int (c + (i : Nat)), y])) fun σ2 H2 => tb { D with nx := Pv (i + 1), ct := Pv (i + 1), bk := D.nx } σ2 H2) (hd : ∀ σ' H', Pv zs.length σ' H' → D.nx σ' H') :
    tFor (iEnumK K c (tCons tl tNil)) g tb D σ H := by
  refine h H (Ex.refl H) _ fun H1 e1 => ?_
  obtain ⟨ys, h1, h2⟩ := hk 0 _ _ (Nat.zero_le _) (h0 H1 e1)
  refine ⟨p, ys, rfl, sq_of h1, for_it (walk_fromRL (K := K) (R := R) (p := p) (zs := zs) (c := c)) Pv (h0 H1 e1) (fun i σ' H' hi q => hk i σ' H' hi q) (fun i x σ' H' H2 hi q y => ?_) hd⟩
  obtain ⟨T, w, z, rfl, nT, rfl, hz, hr⟩ := y
  exact hs i z w T σ' H' hz hr q nT
variable {tz : TS}
theorem q_forKRL (h : Ev tl σ H (.ref p)) (Pv : Nat → L2.St → Hp → Prop) (h0 : ∀ H1, Ex H H1 → Pv 0 σ H1) (hk : ∀ i σ' H', i ≤ zs.length → Pv i σ' H' → RL R H' p zs)
    (hs : ∀ i z y T σ' H', zs[i]? = some z → R z y H' → Pv i σ' H' → H' T = none → g (.ref T) σ' (upd H' T (.tup [.int (c + (i : Nat)), y])) fun σ2 H2 => tb { D with nx := Pv (i + 1), ct := Pv (i + 1), bk := tz D } σ2 H2) (hd : ∀ σ' H', Pv zs.length σ' H' → tz D σ' H') :
    tSeq (tFor (iEnumK K c (tCons tl tNil)) g tb) tz D σ H := s_forKRL (D := { D with nx := tz D }) h Pv h0 hk hs hd
end
end Rel
set_option Elab.async false
set_option linter.all false
set_option maxRecDepth 100000
set_option maxHeartbeats 3200000
/-! # del xs[i:] of a list -/
namespace DlR
open PySem PySem.Spec PyProof.Rows L2
/-- what is left where the places from a on go -/
theorem left_take {p : Nat → Bool} {a : Nat} (L : List Value) (h : ∀ k, k < L.length → p k = decide (a ≤ k)) : (L.zipIdx.filterMap fun x => if p x.2 = true then none else some x.1) = L.take a := by
  have key : ∀ (L : List Value) (j : Nat), (∀ k, k < L.length → p (j + k) = decide (a ≤ j + k)) → ((L.zipIdx j).filterMap fun x => if p x.2 = true then none else some x.1) = L.take (a - j) := by
    intro L
    induction L with
    | nil => intro j _; simp
    | cons x r ih =>
      intro j hj
      have h0 := hj 0 (by simp)
      rw [Nat.add_zero] at h0
      have hr := ih (j + 1) fun k hk => by
        have := hj (k + 1) (by simpa using hk)
        rwa [show j + 1 + k = j + (k + 1) by omega]
      rw [List.zipIdx_cons]
      by_cases c : a ≤ j
      · rw [List.filterMap_cons_none (by dsimp only; rw [h0, if_pos (decide_eq_true c)]), hr, show a - j = 0 by omega, show a - (j + 1) = 0 by omega]
        rfl
      · rw [List.filterMap_cons_some (b := x) (by dsimp only; rw [h0, if_neg (by simp; omega)]), hr, show a - j = (a - (j + 1)) + 1 by omega, List.take_succ_cons]
  have := key L 0 fun k hk => by
    rw [Nat.zero_add]
    exact h k hk
  simpa using this
/-- where a slice that is open behind begins -/
def from_ (n : Nat) (i : Int) : Nat := (max 0 (min (if i < 0 then i + n else i) n)).toNat
theorem bounds_from (i : Int) (n : Nat) : sliceBounds (some i) none none n = ((from_ n i : Int), (n : Int), 1) := by
  unfold from_
  simp only [sliceBounds, Option.getD_none, show (1 : Int) > 0 by decide, if_true]
  congr 1
  omega
section
variable {prog : Program} {w : World} {A : Around} {E : Value → Shared → Prop} {s : Shared}
theorem del_from {l sl : Addr} {items : Array Value} {n : Nat} {v : Value} {i : Int} {Q : Unit → Shared → Prop} (e : s.heap.get? l = some { cls := .type "list", data := .seq items n }) (hs : s.heap.IsSliceOf sl v .none .none) (pv : IsPart v (some i)) (hsz : items.size ≤ sizeLine)
    (h : ∀ f : Array Value → Array Value, f items = (items.toList.take (from_ items.size i)).toArray → Q () { s with heap := s.heap.update l (Obj.mapSeq f) }) : wpAny (model prog w) A (delItem (.ref l) (.ref sl)) Q E s := by
  have hl : s.heap.IsList l items := PySem.IsL.isList e
  obtain ⟨os, hos, hcs, hds⟩ := id hs
  have tS : s.TypeIs (.ref sl) "slice" := ⟨os, hos, hcs⟩
  refine wpAny_delItem_slot hl.typeIs (by decide) PySem.F.slot_list_delitem (wpAny_call_entry PySem.F.slot_list_delitem hl.typeIs PySem.F.entry_list_delitem ?_ (PySem.F.args_list_delitem_2 _ _))
  show wpAny _ _ (Builtin.List.listSubscript? (.ref sl) >>= _) _ _ s
  unfold Builtin.List.listSubscript?
  refine wpAny_bind (wpAny_bind (wpAny_specialOf tS slice_no_index ?_))
  simp only [Option.isNone_none, if_true]
  refine wpAny_pure ?_
  show wpAny _ _ (typeOf (.ref sl) >>= _) _ _ s
  refine wpAny_bind (wpAny_typeOf tS ?_)
  rw [if_neg (by decide), listSliceParts_eq]
  have step0 : ¬ ((rawPart none == rawInt 0) = true) := Bool.false_ne_true
  refine wpAny_bind (wpAny_bind (wpAny_field hos hds (x := .none) rfl (wpAny_bind (wpAny_listPart .none ?_))))
  rw [if_neg step0]
  refine wpAny_bind (wpAny_field hos hds (x := v) rfl (wpAny_bind (wpAny_listPart pv ?_)))
  refine wpAny_bind (wpAny_field hos hds (x := .none) rfl (wpAny_bind (wpAny_listPart .none (wpAny_pure ?_))))
  unfold Builtin.List.listItems
  refine wpAny_bind (wpAny_bind (wpAny_seqItems e rfl (wpAny_pure ?_)))
  have hb : sliceIndices (rawPart (some i)) (rawPart none) (rawPart none) items.size = pure ((from_ items.size i : Int), (items.size : Int), 1) :=
    (sliceIndices_raw (some i) none none items.size (by simp)).trans (congrArg (pure : Int × Int × Int → Sem (Int × Int × Int)) (bounds_from i items.size))
  refine wpAny_bind (wpAny_of_eq hb ?_)
  refine wpAny_bind (wpAny_rule ?_)
  have hfl : from_ items.size i ≤ items.size := by
    unfold from_
    omega
  refine wpAny_bind (m := updateSeq l _) ?_
  refine wpAny_updateSeq (hz := hsz) (_hz' := ?_) e rfl ?_
  · refine wpAny_bind (wpAny_letGo ?_)
    refine wpAny_pure ⟨.none, rfl, h _ ?_⟩
    refine congrArg List.toArray (left_take items.toList fun k hk => ?_)
    have hk2 : k < items.size := by simpa using hk
    show (if (1 : Int) > 0 then (decide ((from_ items.size i : Int) ≤ (k : Int)) && decide ((k : Int) < (items.size : Int)) && (((k : Int) - (from_ items.size i : Int)) % 1 == 0)) else _) = _
    rw [if_pos (by decide)]
    have h1 : decide ((k : Int) < (items.size : Int)) = true := decide_eq_true (by omega)
    have h2 : (((k : Int) - (from_ items.size i : Int)) % 1 == 0) = true := by
      rw [Int.emod_one]
      rfl
    rw [h1, h2, Bool.and_true, Bool.and_true]
    exact decide_eq_decide.mpr Int.ofNat_le
  · refine Nat.le_trans ?_ (Nat.le_succ_of_le hsz)
    rw [List.size_toArray]
    exact Nat.le_trans (List.length_filterMap_le _ _) (by simp)
end
section
variable {X : Cx} {pos : Pos}
def tDelF (to : TE) (th : TO) : TS := fun D σ H => to σ H fun x H1 => th σ H1 fun o H2 => ∃ (l : Addr) (xs : List V) (i : Int), x = .ref l ∧ o = some i ∧ H2 l = some (.lst xs) ∧ D.nx σ (upd H2 l (.lst (xs.take (from_ xs.length i))))
theorem ps_delFrom {o lo : Expr} {to : TE} {th : TO} {p2 tpos : Pos} (ho : PE X o to) (hl : PO X (some lo) th) : PS X (.Delete [.Subscript o (.Slice (some lo) none none p2) tpos] pos) (tDelF to th) := by
  refine ⟨fun pins s σ H D I h => ?_⟩
  refine wpAny_Delete (wpAny_deleteEach_cons (wpAny_delete_Subscript (thn (ho.run pins s σ H _ I h) fun u s1 hx => ?_)))
  obtain ⟨x, H1, I1, rx, q1⟩ := hx
  refine wpAny_Slice (thn (hl.run pins s1 σ H1 _ I1 q1) fun vl s2 hy => ?_)
  obtain ⟨o2, H2, I2, pl, l, xs, i, rfl, rfl, hH, q⟩ := hy
  rw [evalPart_none]
  refine wpAny_pure (wpAny_pure ?_)
  cases (show u = Value.ref l from rx)
  have I4 := I2.kept (t' := s2.toks) (h' := s2.heap.push { cls := .type "slice", data := .fields #[vl, .none, .none] }) fun b ob q => Heap.get?_push_of_some _ q
  obtain ⟨z, its, n, r, hlen, e⟩ := I4.lstM hH
  refine del_from (l := l) e (Heap.IsSliceOf.new ..) pl (by rw [List.size_toArray, ← hlen]; exact z) fun f hf => ?_
  refine wpAny_deleteEach_nil ⟨σ, _, ?_, q⟩
  refine I4.lset (its' := its.take (from_ xs.length i)) (t' := s2.toks) hH e ?_ (r.take _) ?_
  · rw [hf, List.size_toArray, ← hlen]
  · exact Nat.le_trans (List.length_take_le' _ _) z
end
end DlR
set_option Elab.async false
set_option linter.all false
set_option maxRecDepth 100000
set_option maxHeartbeats 8000000
/-! # the plan of a code -/
namespace GL
open PySem PySem.Spec PyProof.Rows L2 Geo Rel DlR
abbrev StC := List Int × List Int × List Int
def insF (p : List Int) (i : Nat) (x : Int) : List Int := p.take i ++ x :: p.drop i
def stepC (st : StC) (x n : Int) : Option StC :=
  if n > 0 then (atI st.2.1 (-n)).bind fun t => if t ∈ st.1 then some (insF st.1 (st.1.idxOf t) x, st.2.1.take (from_ st.2.1.length (-n)) ++ [x], st.2.2 ++ [x]) else none
  else (atI st.2.2 n).bind fun t => if t ∈ st.1 then some (insF st.1 (st.1.idxOf t + 1) x, st.2.1 ++ [x], st.2.2.take (from_ st.2.2.length n) ++ [x]) else none
def runC (st : StC) : Int → List Int → Option StC
  | _, [] => some st
  | x, n :: ns => (stepC st x n).bind fun st' => runC st' (x + 1) ns
/-- the plan of a code, where it has one -/
def codePlanF (ns : List Int) : Option (List Int) := (runC ([0], [0], [0]) 1 ns).map fun st => st.1
theorem insF_len (p : List Int) (i : Nat) (x : Int) : (insF p i x).length = p.length + 1 := by
  unfold insF
  rw [List.length_append, List.length_cons, List.length_take, List.length_drop]
  omega
theorem atI_map (f : Int → V) (ns : List Int) (i : Int) : atI (ns.map f) i = (atI ns i).map f := by
  unfold atI
  rw [List.length_map]
  cases ixN ns.length i with
  | none => rfl
  | some j => simp [List.getElem?_map]
def rIns : V → List V → Hp → VK → Prop := fun x vs H Q => ∃ (a : Addr) (ys : List V) (j : Nat) (z : V), x = .ref a ∧ vs = [.int (j : Int), z] ∧ ys.length < 50000 ∧ j < 100000 ∧ H a = some (.lst ys) ∧ Q .non (upd H a (.lst (ys.take j ++ z :: ys.drop j)))
theorem insK {X : Cx} : MtR X "list.insert" rIns := by
  intro pins s σ H x vs v us Q I rx rv h
  obtain ⟨a, ys, j, z, hx, hv, h1, h2, h3, q⟩ := h
  refine mt_insert pins s σ H x vs v us Q I rx rv ⟨a, ys, (j : Int), z, hx, hv, h3, Nat.lt_trans h1 (by unfold sizeLine; decide), by omega, by omega, ?_⟩
  rw [Int.toNat_natCast, List.append_assoc]
  exact q
section
variable {P : Program} {w : World} {K : PySem.W.Frag} {mg : Str → Option Value} {base : Heap} {σ : L2.St} {H : Hp}
theorem ev_idxOf {a : Addr} {p : List Int} {t : Int} {n : Nat} {te : TE} (hn : σ[n]? = some (some (.ref a))) (ha : H a = some (.lst (p.map V.int))) (he : Evl.Ev te σ H (.int t)) (ht : t ∈ p) :
    Evl.Ev (tBM K "list" (rIndex K) (tVar n) (tCons te tNil)) σ H (.int (p.idxOf t : Int)) := fun H1 e Q q => by
  have hix := List.idxOf_lt_length_of_mem ht
  refine ⟨.ref a, hn, .inl ⟨rfl, _, SqL.of (e _ _ ha)⟩, he H1 e _ fun H2 e2 => ⟨a, _, .int t, p.idxOf t, .int t, rfl, rfl, SqL.of ((e.trans e2) _ _ ha), rfl, ?_, ?_, ?_, ?_, q H2 e2⟩⟩
  · simp [flatV]
  · rw [List.getElem?_map, List.getElem?_eq_getElem hix, List.getElem_idxOf]
    rfl
  · simp [eqV]
  · intro m z' hm hz
    rw [List.getElem?_map] at hz
    cases hc2 : p[m]? with
    | none => rw [hc2] at hz; cases hz
    | some u =>
      rw [hc2] at hz
      obtain rfl := Option.some.inj hz
      have : u ≠ t := fun e => by
        subst e
        obtain ⟨h1, h2⟩ := List.getElem?_eq_some_iff.mp hc2
        have := List.not_of_lt_findIdx (p := fun x => x == u) hm
        simp [h2] at this
      simp [eqV, this]
theorem s_insI {D : Ends} {a : Addr} {p : List Int} {j : Nat} {x : Int} {n m : Nat} {te : TE} (hn : σ[n]? = some (some (.ref a))) (hm : σ[m]? = some (some (.int x))) (ha : H a = some (.lst (p.map V.int))) (he : Evl.Ev te σ H (.int (j : Int))) (h1 : p.length < 50000) (h2 : j < 100000)
    (k : ∀ H1, Evl.Ex H H1 → D.nx σ (upd H1 a (.lst ((insF p j x).map V.int)))) : tDrop (tBM K "list" rIns (tVar n) (tCons te (tCons (tVar m) tNil))) D σ H := by
  refine ⟨.ref a, hn, .inl ⟨rfl, _, SqL.of ha⟩, he H (Evl.Ex.refl H) _ fun H1 e1 => ⟨.int x, hm, a, _, j, .int x, rfl, rfl, by rw [List.length_map]; exact h1, h2, e1 _ _ ha, ?_⟩⟩
  have z := k H1 e1
  unfold insF at z
  rw [List.map_append, List.map_cons, List.map_take, List.map_drop] at z
  exact z
theorem s_delF {D : Ends} {to te : TE} {a : Addr} {p : List Int} {i : Int} (ha : H a = some (.lst (p.map V.int))) (ho : Evl.Ev to σ H (.ref a)) (hi : Evl.Ev te σ H (.int i)) (k : ∀ H1, Evl.Ex H H1 → D.nx σ (upd H1 a (.lst ((p.take (from_ p.length i)).map V.int)))) : tDelF to (tPart te) D σ H :=
  ho H (Evl.Ex.refl H) _ fun H1 e1 => hi H1 e1 _ fun H2 e2 => ⟨i, rfl, a, p.map V.int, i, rfl, rfl, (e1.trans e2) _ _ ha, by
    rw [List.length_map, ← List.map_take]
    exact k H2 (e1.trans e2)⟩
def spCodePlan : Sp := fun vs H Q _ => ∃ (l : Addr) (ns plan : List Int), vs = [.ref l] ∧ H l = some (.lst (ns.map V.int)) ∧ ns.length ≤ 1000 ∧ codePlanF ns = some plan ∧ ∀ H' p, Evl.Ex H H' → H p = none → H' p = some (.lst (plan.map V.int)) → Q (.ref p) H'
end
end GL
set_option Elab.async false
set_option linter.all false
set_option maxRecDepth 100000
set_option maxHeartbeats 2000000
/-! # math.comb -/
namespace CbR
open PySem PySem.Spec PyProof.Rows
theorem entry_comb : entryFor table "math.comb" = some Builtin.«math.comb» := entryFor_of_tree (by kernel_rfl)
theorem kind_comb : builtinKind "math.comb" = none := by kernel_rfl
theorem plain_comb : plainId "math.comb" = true := by decide +kernel
theorem args_comb (a b : Value) : argsOk "math.comb" ⟨[a, b], []⟩ := by unfold argsOk; kernel_rfl
/-- what comb gives for 0 <= b <= a -/
def cb (a b : Int) : Int := Builtin.Math.fallingProduct a (min b (a - b)).toNat / Builtin.Math.fallingProduct (min b (a - b)) (min b (a - b)).toNat
theorem mg_run_comb (a : Int) (t : Tok) (b : Int) (u : Tok) (h0 : ¬ a < 0) (h1 : ¬ b < 0) (h2 : ¬ b > a) (h3 : ¬ min b (a - b) > Builtin.Math.maxSsize) (h4 : ¬ min b (a - b) > Builtin.Math.manyFactors) (h5 : ¬ min b (a - b) > 9000)
    (hsz : (Builtin.Math.fallingProduct a (min b (a - b)).toNat / Builtin.Math.fallingProduct (min b (a - b)) (min b (a - b)).toNat).natAbs.log2 < bitsLine) : Gives (Builtin.«math.comb» ⟨[.int a t, .int b u], []⟩) (.int (cb a b)) :=
  .of_wp fun M A E s Q h => by
    obtain ⟨hp, g, d, tk, os⟩ := s
    wp_walk
    (try (refine wpAny_ite_false (decide_eq_false (Nat.not_le.mpr hsz)) ?_; wp_walk))
    exact ⟨_, rfl, h⟩
end CbR
namespace CbR
open PySem PySem.Spec PyProof.Rows L2
theorem fall_bound (a : Int) (h0 : 0 ≤ a) : ∀ n : Nat, (n : Int) ≤ a → (Builtin.Math.fallingProduct a n).natAbs ≤ a.natAbs ^ n := by
  intro n
  induction n with
  | zero => intro _; show (1 : Int).natAbs ≤ _; exact Nat.le_refl _
  | succ n ih =>
    intro hn
    have h := ih (by omega)
    have e : Builtin.Math.fallingProduct a (n + 1) = Builtin.Math.fallingProduct a n * (a - (n : Int)) := by
      unfold Builtin.Math.fallingProduct
      rw [List.range_succ, List.foldl_append]
      rfl
    rw [e, Int.natAbs_mul, Nat.pow_succ]
    exact Nat.mul_le_mul h (by omega)
theorem cb_bound {a b : Int} (h0 : 0 ≤ b) (h1 : b ≤ a) : (cb a b).natAbs ≤ a.natAbs ^ a.natAbs := by
  unfold cb
  have hm : (((min b (a - b)).toNat : Nat) : Int) ≤ a := by omega
  have h := fall_bound a (by omega) (min b (a - b)).toNat hm
  refine Nat.le_trans (Int.natAbs_ediv_le_natAbs _ _) (Nat.le_trans h ?_)
  by_cases z : a = 0
  · subst z
    have : (min b (0 - b)).toNat = 0 := by omega
    rw [this]
    exact Nat.le_refl _
  · exact Nat.pow_le_pow_right (by omega) (by omega)
theorem cb_log {a b : Int} (h0 : 0 ≤ b) (h1 : b ≤ a) (h2 : a ≤ 1000) : (cb a b).natAbs < 2 ^ 10000 := by
  refine Nat.lt_of_le_of_lt (cb_bound h0 h1) ?_
  have h3 : a.natAbs ≤ 1000 := by omega
  refine Nat.lt_of_le_of_lt (Nat.pow_le_pow_left h3 _) (Nat.lt_of_le_of_lt (Nat.pow_le_pow_right (by decide) h3) ?_)
  decide +kernel
def rComb : List V → Hp → VK → Prop := fun vs H Q => ∃ a b : Int, vs = [.int a, .int b] ∧ 0 ≤ b ∧ b ≤ a ∧ a ≤ 1000 ∧ Q (.int (cb a b)) H
theorem cr_comb {X : Cx} : CallR X (.builtin "math.comb") rComb := by
  intro pins s σ H vs us Q I r h
  obtain ⟨a, b, rfl, h0, h1, h2, q⟩ := h
  obtain ⟨t, u, rfl⟩ := Vals.int2 r
  have hl := cb_log h0 h1 h2
  have hlog : (cb a b).natAbs.log2 < bitsLine := by
    by_cases z : (cb a b).natAbs = 0
    · rw [z]
      decide
    · exact Nat.lt_of_lt_of_le ((Nat.log2_lt z).mpr hl) (by decide)
  have g := mg_run_comb a t b u (by omega) (by omega) (by omega) (by show ¬ min b (a - b) > 9223372036854775807; omega) (by unfold Builtin.Math.manyFactors; omega) (by omega) hlog
  exact call_function_meets kind_comb plain_comb entry_comb (args_comb _ _) g.meets ⟨.int _, H, I.tok _, ⟨_, rfl⟩, q⟩
end CbR
set_option Elab.async false
set_option linter.all false
set_option maxRecDepth 100000
set_option maxHeartbeats 8000000
/-! # how many plans -/
namespace GL
open PySem PySem.Spec PyProof.Rows L2 Geo Rel CbR
/-- as many plans of n panes -/
def countF (n : Int) : Int := (((List.range n.toNat).map fun u : Nat => cb (n + 1) (1 + (u : Int) - 1) * cb (n + 1) (1 + (u : Int)) * cb (n + 1) (1 + (u : Int) + 1)).sum) / (cb (n + 1) 1 * cb (n + 1) 2)
theorem cb_den : ∀ n : Fin 200, 0 < cb ((n.val : Int) + 2) 1 * cb ((n.val : Int) + 2) 2 ∧ (cb ((n.val : Int) + 2) 1 * cb ((n.val : Int) + 2) 2).natAbs < 2 ^ 64 := by decide +kernel
section
variable {P : Program} {w : World} {K : PySem.W.Frag} {mg : Str → Option Value} {base : Heap} {σ : L2.St} {H : Hp}
theorem el_lcRg2 {ta : TA} {te : TE} {i j : Int} {n : Nat} {k : Nat} {vs : List Nat} {f : Nat → Int} (h : Evl.EvA ta σ H [.int i, .int j]) (hR : RgOk i j) (hj : (j - i).toNat = n) (hn : n ≤ 40000) (hw : ∀ x, wipe ((wipe σ vs).set k (some x)) vs = wipe σ vs)
    (he : ∀ u, u < n → ∀ H1, Evl.Ex H H1 → Evl.Ev te ((wipe σ vs).set k (some (.int (i + (u : Nat))))) H1 (.int (f u))) : Evl.EvL (tLc (iRng2 ta) (gName k) tYes te vs) σ H (((List.range n).map f).map V.int) := by
  subst hj
  rw [List.map_map]
  refine el_ofRL (g := fun u => V.int (f u)) fun H1 e Q q => h H1 e _ fun H2 e1 => ⟨i, j, rfl, ⟨hR.1, hR.2.1, hR.2.2.1, hR.2.2.2.1⟩, fun Dl hD => ?_⟩
  have hf : (List.range (j - i).toNat).filter (fun _ => true) = List.range (j - i).toNat := List.filter_eq_self.mpr fun _ _ => rfl
  refine lc_rel (H := H2) (walk_range (lo := i) (n := (j - i).toNat)) (zs := List.range (j - i).toNat) List.length_range.symm (fun H3 e2 => trivial) (fun _ => true) (fun u v _ => v = V.int (f u)) (val_m fun u => V.int (f u)) (by rw [List.length_range]; exact hn) (fun a z x H3 H4 hzi hH hy => ?_) hD fun us H3 e2 h3 hq => q Dl H3 (Evl.fresh_back e1 hD) (e1.trans e2) ⟨us, h3, by rwa [hf] at hq⟩
  obtain ⟨rfl, rfl⟩ := hy
  obtain ⟨k1, k2⟩ := List.getElem?_eq_some_iff.mp hzi
  rw [List.getElem_range] at k2
  rw [List.length_range] at k1
  subst k2
  exact ⟨Evl.Ex.refl _, fun Q' k => k _ (hw _) et_yes fun _ => en_int (he a k1 H2 (e.trans e1))⟩
theorem ev_comb {ta tb : TE} {a b : Int} (ha : Evl.Ev ta σ H (.int a)) (hb : Evl.Ev tb σ H (.int b)) (h0 : 0 ≤ b) (h1 : b ≤ a) (h2 : a ≤ 1000) : Evl.Ev (tCB rComb (tCons ta (tCons tb tNil))) σ H (.int (cb a b)) :=
  Evl.ev_cb (vs := [.int a, .int b]) (Evl.ea_cons ha (Evl.ea_cons hb Evl.ea_nil)) fun H1 e1 Q q => ⟨a, b, rfl, h0, h1, h2, q H1 (Evl.Ex.refl _)⟩
theorem ev_mulW {ta tb : TE} {i j : Int} {a b : Nat} (hi : Evl.Ev ta σ H (.int i)) (hj : Evl.Ev tb σ H (.int j)) (ha : i.natAbs < 2 ^ a) (hb : j.natAbs < 2 ^ b) (h0 : 0 < a) (h1 : 0 < b) (h : a + b ≤ 1000000) : Evl.Ev (tOp (rI CMulW fun i j => .int (i * j)) ta tb) σ H (.int (i * j)) :=
  Evl.ev_op hi hj fun H1 e1 Q q => ⟨i, j, rfl, rfl, wide_mul ha hb h0 h1 h, q H1 (Evl.Ex.refl _)⟩
def spCount : Sp := fun vs H Q _ => ∃ n : Int, vs = [.int n] ∧ 1 ≤ n ∧ n ≤ 200 ∧ ∀ H', Evl.Ex H H' → Q (.int (countF n)) H'
end
end GL
set_option Elab.async false
set_option linter.all false
set_option maxRecDepth 100000
set_option maxHeartbeats 8000000
/-! # the numbers that can stand next, and how many codes go on so -/
namespace GL
open PySem PySem.Spec PyProof.Rows L2 Geo Rel
def numbersF (lo ri : Int) : List Int := ((List.range ri.toNat).map fun i : Nat => -ri + (i : Int)) ++ (List.range lo.toNat).map fun i : Nat => 1 + (i : Int)
def growB (lo ri n : Int) : Int × Int := if n > 0 then (lo - n + 1, ri + 1) else (lo + 1, ri + n + 1)
def atF (tab : List (List Int)) (i j : Int) : Int := (tab.getD (i - 1).toNat []).getD (j - 1).toNat 0
def branchesF (tab : List (List Int)) (lo ri : Int) : List (Int × Int) := (numbersF lo ri).map fun n => (n, atF tab (growB lo ri n).1 (growB lo ri n).2)
/-- the table has a place for what grows -/
def fitsF (tab : List (List Int)) (lo ri : Int) : Prop := ∀ n ∈ numbersF lo ri, 1 ≤ (growB lo ri n).1 ∧ (growB lo ri n).1 ≤ tab.length ∧ 1 ≤ (growB lo ri n).2 ∧ (growB lo ri n).2 ≤ (tab.getD ((growB lo ri n).1 - 1).toNat []).length
section
variable {P : Program} {w : World} {K : PySem.W.Frag} {mg : Str → Option Value} {base : Heap} {σ : L2.St} {H : Hp}
theorem el_lstRg {ta tb : TE} {i j : Int} (ha : Evl.Ev ta σ H (.int i)) (hb : Evl.Ev tb σ H (.int j)) (h : RgOk i j) : Evl.EvL (tLstRg (tRg2 ta tb)) σ H (rgV i j) := fun H1 e Q q =>
  ha H1 e _ fun H2 e2 => hb H2 (e.trans e2) _ fun H3 e3 => ⟨i, j, rfl, rfl, h, fun r nr => q r _ (Evl.fresh_back (e2.trans e3) nr) ((e2.trans e3).trans (Evl.Ex.new nr)) upd_same⟩
theorem g_asgU2 {te : TE} {i j : Nat} {a b : V} {D : Ends} {tz : TS} (h : Evl.EvU te σ H [a, b]) (k : ∀ H1, Evl.Ex H H1 → tz D ((σ.set i (some a)).set j (some b)) H1) : tSeq (tAsg te (gTup K 2 (gCons (gName i) (gCons (gName j) gNil)))) tz D σ H :=
  h H (Evl.Ex.refl H) _ fun p H1 np e1 hp => g_tup2v hp (k H1 e1)
theorem eu_callB {sp : Sp} {dvs vs xs : List V} {E : XK} {ta : TA} (h : Evl.EvA ta σ H vs) (hs : ∀ H1, Evl.Ex H H1 → ∀ Q : VK, (∀ p H2, H1 p = none → Evl.Ex H1 H2 → H2 p = some (.tup xs) → Q (.ref p) H2) → ∀ E : XK, sp (vs ++ dvs) H1 Q E) : Evl.EvU (tCall sp dvs E ta) σ H xs := fun H1 e Q q =>
  h H1 e _ fun H2 e2 => hs H2 (e.trans e2) _ (fun p H3 np e3 hp => q p H3 (Evl.fresh_back e2 np) (e2.trans e3) hp) E
def spNumbers : Sp := fun vs H Q _ => ∃ lo ri : Int, vs = [.int lo, .int ri] ∧ (0 ≤ lo ∧ lo ≤ 1000 ∧ 0 ≤ ri ∧ ri ≤ 1000) ∧ ∀ H' p, Evl.Ex H H' → H p = none → H' p = some (.lst ((numbersF lo ri).map V.int)) → Q (.ref p) H'
def spBranches : Sp := fun vs H Q _ => ∃ (t : Addr) (tab : List (List Int)) (lo ri : Int), vs = [.ref t, .int lo, .int ri] ∧ (0 ≤ lo ∧ lo ≤ 1000 ∧ 0 ≤ ri ∧ ri ≤ 1000) ∧ RL lstI H t tab ∧ fitsF tab lo ri ∧ ∀ H' p, Evl.Ex H H' → H p = none → RL (fun z : Int × Int => tupI [z.1, z.2]) H' p (branchesF tab lo ri) → Q (.ref p) H'
end
end GL
set_option Elab.async false
set_option linter.all false
set_option maxRecDepth 100000
set_option maxHeartbeats 2000000
/-! # plans of codes: all numbers, each once, no pattern -/
namespace GL
open PySem PySem.Spec PyProof.Rows L2 Geo Rel DlR Bx
/-- a plan's state: m panes, its lower and right borders -/
structure Gp (st : StC) (m : Nat) (lo ri : Int) : Prop where
  nd : st.1.Nodup
  mem : ∀ v : Int, v ∈ st.1 ↔ 0 ≤ v ∧ v < m
  len : st.1.length = m
  pt : ¬ Pt st.1
  lS : st.2.1.Pairwise (· < ·)
  rS : st.2.2.Pairwise (· < ·)
  lL : (st.2.1.length : Int) = lo
  rL : (st.2.2.length : Int) = ri
  lo : ∀ b ∈ st.2.1, ∃ A B, st.1 = A ++ b :: B ∧ ∀ a ∈ A, a < b
  ri : ∀ c ∈ st.2.2, ∃ C D, st.1 = C ++ c :: D ∧ ∀ d ∈ D, d < c
theorem gp_one : Gp ([0], [0], [0]) 1 1 1 where
  nd := by simp
  mem := fun v => by
    show v ∈ [0] ↔ _
    rw [List.mem_singleton]
    omega
  len := rfl
  pt := by
    rintro ⟨X, p, q, Y, x, y, e, hx, _⟩
    have : ([0] : List Int).length = (X ++ p :: q :: Y).length := by rw [← e]
    simp at this
    omega
  lS := by simp
  rS := by simp
  lL := rfl
  rL := rfl
  lo := fun b hb => ⟨[], [], by rw [List.mem_singleton.mp hb]; rfl, by simp⟩
  ri := fun b hb => ⟨[], [], by rw [List.mem_singleton.mp hb]; rfl, by simp⟩
theorem idx_mid {A B : List Int} {b : Int} (h : (A ++ b :: B).Nodup) : (A ++ b :: B).idxOf b = A.length := by
  have : b ∉ A := fun hb => by
    rw [List.nodup_append] at h
    exact h.2.2 b hb b List.mem_cons_self rfl
  rw [List.idxOf_append, if_neg this, List.idxOf_cons_self, Nat.zero_add]
theorem insF_mid {A B : List Int} {x : Int} : insF (A ++ B) A.length x = A ++ x :: B := by
  unfold insF
  rw [List.take_left, List.drop_left]
theorem insF_mid1 {A B : List Int} {b x : Int} : insF (A ++ b :: B) (A.length + 1) x = A ++ b :: x :: B := by
  have z := insF_mid (A := A ++ [b]) (B := B) (x := x)
  rw [List.length_append, List.append_assoc, List.append_assoc] at z
  exact z
theorem atI_neg {ns : List Int} {n : Nat} (h1 : 0 < n) (h2 : n ≤ ns.length) : atI ns (-(n : Int)) = some (ns[ns.length - n]'(by omega)) := by
  unfold atI ixN
  rw [if_neg (by omega), if_pos (by omega)]
  show ns[((-(n : Int)) + (ns.length : Int)).toNat]? = _
  rw [show ((-(n : Int)) + (ns.length : Int)).toNat = ns.length - n by omega, List.getElem?_eq_getElem (by omega)]
theorem from_neg {l n : Nat} (h1 : 0 < n) (h2 : n ≤ l) : from_ l (-(n : Int)) = l - n := by
  unfold from_
  rw [if_pos (by omega)]
  omega
theorem take_lt {ns : List Int} (h : ns.Pairwise (· < ·)) {k : Nat} (hk : k < ns.length) : ∀ b ∈ ns.take k, b < ns[k] := fun b hb => by
  obtain ⟨i, hi, rfl⟩ := List.mem_take_iff_getElem.mp hb
  exact List.pairwise_iff_getElem.mp h i k (by omega) hk (by omega)
theorem snoc_sorted {ns : List Int} (h : ns.Pairwise (· < ·)) {m : Int} (hm : ∀ b ∈ ns, b < m) : (ns ++ [m]).Pairwise (· < ·) := by
  rw [List.pairwise_append]
  exact ⟨h, by simp, fun a ha b hb => by rw [List.mem_singleton.mp hb]; exact hm a ha⟩
section
variable {A B : List Int} {m : Nat}
/-- the greatest number m put between A and B -/
theorem put_nd (h : (A ++ B).Nodup) (hl : ∀ v ∈ A ++ B, v < (m : Int)) : (A ++ (m : Int) :: B).Nodup := by
  rw [List.nodup_append] at h ⊢
  refine ⟨h.1, ?_, fun a ha b hb => ?_⟩
  · rw [List.nodup_cons]
    exact ⟨fun hm => by have := hl _ (List.mem_append_right _ hm); omega, h.2.1⟩
  · rcases List.mem_cons.mp hb with rfl | hb
    · have := hl a (List.mem_append_left _ ha)
      omega
    · exact h.2.2 a ha b hb
theorem put_mem (h : ∀ v : Int, v ∈ A ++ B ↔ 0 ≤ v ∧ v < m) (v : Int) : v ∈ A ++ (m : Int) :: B ↔ 0 ≤ v ∧ v < ((m + 1 : Nat) : Int) := by
  have := h v
  rw [List.mem_append] at this
  rw [List.mem_append, List.mem_cons]
  constructor
  · rintro (h1 | rfl | h1)
    · have := this.mp (.inl h1); omega
    · omega
    · have := this.mp (.inr h1); omega
  · intro h1
    by_cases hv : v = m
    · exact .inr (.inl hv)
    · rcases this.mpr (by omega) with h2 | h2
      · exact .inl h2
      · exact .inr (.inr h2)
end
theorem mid_cases {A B A' B' : List Int} {b c : Int} (h : A ++ b :: B = A' ++ c :: B') : (∃ E, A = A' ++ c :: E ∧ B' = E ++ b :: B) ∨ (A = A' ∧ b = c ∧ B = B') ∨ (∃ E, A' = A ++ b :: E ∧ B = E ++ c :: B') := by
  rcases List.append_eq_append_iff.mp h with ⟨C, h1, h2⟩ | ⟨C, h1, h2⟩
  · cases C with
    | nil =>
      rw [List.nil_append, List.cons.injEq] at h2
      exact .inr (.inl ⟨by simpa using h1.symm, h2.1, h2.2⟩)
    | cons d C =>
      rw [List.cons_append, List.cons.injEq] at h2
      obtain ⟨rfl, rfl⟩ := h2
      exact .inr (.inr ⟨C, h1, rfl⟩)
  · cases C with
    | nil =>
      rw [List.nil_append, List.cons.injEq] at h2
      exact .inr (.inl ⟨by simpa using h1, h2.1.symm, h2.2.symm⟩)
    | cons d C =>
      rw [List.cons_append, List.cons.injEq] at h2
      obtain ⟨rfl, rfl⟩ := h2
      exact .inl ⟨C, h1, rfl⟩
theorem gp_lt {st : StC} {m : Nat} {lo ri : Int} (g : Gp st m lo ri) : ∀ v ∈ st.1, v < (m : Int) := fun v hv => ((g.mem v).mp hv).2
theorem gp_low {st : StC} {m : Nat} {lo ri : Int} (g : Gp st m lo ri) : ∀ b ∈ st.2.1, b < (m : Int) := fun b hb => by
  obtain ⟨A, B, e, _⟩ := g.lo b hb
  exact gp_lt g b (by rw [e]; simp)
theorem gp_rig {st : StC} {m : Nat} {lo ri : Int} (g : Gp st m lo ri) : ∀ b ∈ st.2.2, b < (m : Int) := fun b hb => by
  obtain ⟨A, B, e, _⟩ := g.ri b hb
  exact gp_lt g b (by rw [e]; simp)
theorem gp_up {st : StC} {m : Nat} {lo ri : Int} (g : Gp st m lo ri) {n : Nat} (h1 : 0 < n) (h2 : (n : Int) ≤ lo) :
    ∃ st', stepC st m n = some st' ∧ Gp st' (m + 1) (lo - n + 1) (ri + 1) := by
  have hl : n ≤ st.2.1.length := by have := g.lL; omega
  have hk : st.2.1.length - n < st.2.1.length := by omega
  generalize hb : st.2.1[st.2.1.length - n] = b
  have hbm : b ∈ st.2.1 := by rw [← hb]; exact List.getElem_mem _
  obtain ⟨A, B, e, hA⟩ := g.lo b hbm
  have nd := g.nd
  rw [e] at nd
  have hs : stepC st m n = some (A ++ (m : Int) :: b :: B, st.2.1.take (st.2.1.length - n) ++ [(m : Int)], st.2.2 ++ [(m : Int)]) := by
    unfold stepC
    rw [if_pos (by omega), atI_neg h1 hl, hb, from_neg h1 hl]
    show (if b ∈ st.1 then _ else _) = _
    rw [if_pos (by rw [e]; simp), e, idx_mid nd, insF_mid]
  have hlt := gp_lt g
  have hmem := g.mem
  rw [e] at hlt hmem
  have hbm' := gp_low g b hbm
  refine ⟨_, hs, put_nd nd hlt, put_mem hmem, ?_, ?_, ?_, snoc_sorted g.rS (gp_rig g), ?_, ?_, ?_, ?_⟩
  · have := g.len
    rw [e] at this
    simp at this ⊢
    omega
  · exact fun h => g.pt (by rw [e]; exact push_lower hA hbm' (fun x hx => hlt x (by simp [hx])) h)
  · refine snoc_sorted (g.lS.sublist (List.take_sublist _ _)) fun x hx => gp_low g x (List.mem_of_mem_take hx)
  · have := g.lL
    show (((st.2.1.take (st.2.1.length - n) ++ [(m : Int)]).length : Nat) : Int) = _
    rw [List.length_append, List.length_take, List.length_singleton]
    omega
  · have := g.rL
    show (((st.2.2 ++ [(m : Int)]).length : Nat) : Int) = _
    rw [List.length_append, List.length_singleton]
    omega
  · intro x hx
    rcases List.mem_append.mp hx with hx | hx
    · have hxb : x < b := by rw [← hb]; exact take_lt g.lS hk x hx
      obtain ⟨A', B', e', hA'⟩ := g.lo x (List.mem_of_mem_take hx)
      rcases mid_cases (e.symm.trans e') with ⟨E, h3, h4⟩ | ⟨_, h3, _⟩ | ⟨E, h3, _⟩
      · exact ⟨A', E ++ (m : Int) :: b :: B, by rw [h3]; simp, hA'⟩
      · omega
      · have := hA' b (by rw [h3]; simp)
        omega
    · rw [List.mem_singleton.mp hx]
      exact ⟨A, b :: B, rfl, fun a ha => hlt a (by simp [ha])⟩
  · intro c hc
    rcases List.mem_append.mp hc with hc | hc
    · obtain ⟨C, D, e', hD⟩ := g.ri c hc
      rcases mid_cases (e.symm.trans e') with ⟨E, h3, h4⟩ | ⟨h3, h4, h5⟩ | ⟨E, h3, h4⟩
      · have h6 := hA c (by rw [h3]; simp)
        have h7 := hD b (by rw [h4]; simp)
        omega
      · subst h4
        exact ⟨A ++ [(m : Int)], B, by simp, fun d hd => hD d (by rw [← h5]; exact hd)⟩
      · exact ⟨A ++ (m : Int) :: b :: E, D, by rw [h4]; simp, hD⟩
    · rw [List.mem_singleton.mp hc]
      exact ⟨A, b :: B, rfl, fun d hd => hlt d (List.mem_append_right _ hd)⟩
theorem gp_side {st : StC} {m : Nat} {lo ri : Int} (g : Gp st m lo ri) {n : Nat} (h1 : 0 < n) (h2 : (n : Int) ≤ ri) :
    ∃ st', stepC st m (-(n : Int)) = some st' ∧ Gp st' (m + 1) (lo + 1) (ri - n + 1) := by
  have hl : n ≤ st.2.2.length := by have := g.rL; omega
  have hk : st.2.2.length - n < st.2.2.length := by omega
  generalize hb : st.2.2[st.2.2.length - n] = c
  have hbm : c ∈ st.2.2 := by rw [← hb]; exact List.getElem_mem _
  obtain ⟨C, D, e, hD⟩ := g.ri c hbm
  have nd := g.nd
  rw [e] at nd
  have hs : stepC st m (-(n : Int)) = some (C ++ c :: (m : Int) :: D, st.2.1 ++ [(m : Int)], st.2.2.take (st.2.2.length - n) ++ [(m : Int)]) := by
    unfold stepC
    rw [if_neg (by omega), atI_neg h1 hl, hb, from_neg h1 hl]
    show (if c ∈ st.1 then _ else _) = _
    rw [if_pos (by rw [e]; simp), e, idx_mid nd, insF_mid1]
  have hlt := gp_lt g
  have hmem := g.mem
  rw [e] at hlt hmem
  have hbm' := gp_rig g c hbm
  have e2 : C ++ c :: (m : Int) :: D = (C ++ [c]) ++ (m : Int) :: D := by simp
  have e3 : C ++ c :: D = (C ++ [c]) ++ D := by simp
  refine ⟨_, hs, ?_, ?_, ?_, ?_, snoc_sorted g.lS (gp_low g), ?_, ?_, ?_, ?_, ?_⟩
  · show (C ++ c :: (m : Int) :: D).Nodup
    rw [e2]
    rw [e3] at nd hlt
    exact put_nd nd hlt
  · show ∀ v : Int, v ∈ C ++ c :: (m : Int) :: D ↔ _
    rw [e2]
    rw [e3] at hmem
    exact put_mem hmem
  · have := g.len
    rw [e] at this
    simp at this ⊢
    omega
  · exact fun h => g.pt (by rw [e]; exact push_right hD hbm' (fun x hx => hlt x (by simp [hx])) h)
  · refine snoc_sorted (g.rS.sublist (List.take_sublist _ _)) fun x hx => gp_rig g x (List.mem_of_mem_take hx)
  · have := g.lL
    show (((st.2.1 ++ [(m : Int)]).length : Nat) : Int) = _
    rw [List.length_append, List.length_singleton]
    omega
  · have := g.rL
    show (((st.2.2.take (st.2.2.length - n) ++ [(m : Int)]).length : Nat) : Int) = _
    rw [List.length_append, List.length_take, List.length_singleton]
    omega
  · intro b hb
    rcases List.mem_append.mp hb with hb | hb
    · obtain ⟨A, B, e', hA⟩ := g.lo b hb
      rcases mid_cases (e.symm.trans e') with ⟨E, h3, h4⟩ | ⟨h3, h4, h5⟩ | ⟨E, h3, h4⟩
      · exact ⟨A, E ++ c :: (m : Int) :: D, by rw [h3]; simp, hA⟩
      · subst h4
        exact ⟨C, (m : Int) :: D, rfl, fun a ha => hA a (by rw [← h3]; exact ha)⟩
      · have h6 := hA c (by rw [h3]; simp)
        have h7 := hD b (by rw [h4]; simp)
        omega
    · rw [List.mem_singleton.mp hb]
      refine ⟨C ++ [c], D, by simp, fun a ha => hlt a ?_⟩
      rcases List.mem_append.mp ha with ha | ha
      · simp [ha]
      · simp [List.mem_singleton.mp ha]
  · intro x hx
    rcases List.mem_append.mp hx with hx | hx
    · have hxb : x < c := by rw [← hb]; exact take_lt g.rS hk x hx
      obtain ⟨C', D', e', hD'⟩ := g.ri x (List.mem_of_mem_take hx)
      rcases mid_cases (e.symm.trans e') with ⟨E, _, h4⟩ | ⟨_, h3, _⟩ | ⟨E, h3, h4⟩
      · have := hD' c (by rw [h4]; simp)
        omega
      · omega
      · exact ⟨C ++ c :: (m : Int) :: E, D', by rw [h4]; simp, hD'⟩
    · rw [List.mem_singleton.mp hx]
      exact ⟨C ++ [c], D, by simp, fun d hd => hlt d (by simp [hd])⟩
theorem gp_step {st : StC} {m : Nat} {lo ri n : Int} (g : Gp st m lo ri) (hn : n ∈ numbersF lo ri) : ∃ st', stepC st m n = some st' ∧ Gp st' (m + 1) (growB lo ri n).1 (growB lo ri n).2 := by
  unfold numbersF at hn
  rcases List.mem_append.mp hn with h | h
  · obtain ⟨i, hi, rfl⟩ := List.mem_map.mp h
    have hi := List.mem_range.mp hi
    obtain ⟨k, hk⟩ : ∃ k : Nat, -ri + (i : Int) = -(k : Int) := ⟨(ri - i).toNat, by omega⟩
    rw [hk]
    obtain ⟨st', h1, h2⟩ := gp_side g (n := k) (by omega) (by omega)
    refine ⟨st', h1, ?_⟩
    unfold growB
    rw [if_neg (by omega)]
    have e : ri + -(k : Int) + 1 = ri - k + 1 := by omega
    rw [show (lo + 1, ri + -(k : Int) + 1).2 = ri - k + 1 from e]
    exact h2
  · obtain ⟨i, hi, rfl⟩ := List.mem_map.mp h
    have hi := List.mem_range.mp hi
    obtain ⟨k, hk⟩ : ∃ k : Nat, 1 + (i : Int) = (k : Int) := ⟨1 + i, by omega⟩
    rw [hk]
    obtain ⟨st', h1, h2⟩ := gp_up g (n := k) (by omega) (by omega)
    refine ⟨st', h1, ?_⟩
    unfold growB
    rw [if_pos (by omega)]
    exact h2
/-- the numbers of a code can stand where they stand -/
def ValidC : Int → Int → List Int → Prop
  | _, _, [] => True
  | lo, ri, n :: ns => n ∈ numbersF lo ri ∧ ValidC (growB lo ri n).1 (growB lo ri n).2 ns
theorem run_gp : ∀ (ns : List Int) (st : StC) (m : Nat) (lo ri : Int), Gp st m lo ri → ValidC lo ri ns → ∃ st' lo' ri', runC st (m : Int) ns = some st' ∧ Gp st' (m + ns.length) lo' ri'
  | [], st, m, lo, ri, g, _ => ⟨st, lo, ri, rfl, g⟩
  | n :: ns, st, m, lo, ri, g, h => by
    obtain ⟨st1, h1, g1⟩ := gp_step g h.1
    obtain ⟨st', lo', ri', h2, g2⟩ := run_gp ns st1 (m + 1) _ _ g1 h.2
    refine ⟨st', lo', ri', ?_, by rw [List.length_cons, show m + (ns.length + 1) = m + 1 + ns.length by omega]; exact g2⟩
    show (stepC st m n).bind (fun st' => runC st' ((m : Int) + 1) ns) = _
    rw [h1]
    exact h2
/-- a plan: all numbers below n, each once, no pattern -/
structure IsPm (plan : List Int) (n : Nat) : Prop where
  nd : plan.Nodup
  mem : ∀ v : Int, v ∈ plan ↔ 0 ≤ v ∧ v < n
  len : plan.length = n
structure IsPl (plan : List Int) (n : Nat) : Prop extends IsPm plan n where
  pt : ¬ Pt plan
theorem code_plan {ns : List Int} (h : ValidC 1 1 ns) : ∃ plan, codePlanF ns = some plan ∧ IsPl plan (ns.length + 1) := by
  obtain ⟨st', lo', ri', h1, g⟩ := run_gp ns ([0], [0], [0]) 1 1 1 gp_one h
  refine ⟨st'.1, ?_, ⟨⟨g.nd, ?_, ?_⟩, g.pt⟩⟩
  · unfold codePlanF
    have h1' : runC ([0], [0], [0]) 1 ns = some st' := h1
    rw [h1']
    rfl
  · intro v
    rw [g.mem v]
    omega
  · rw [g.len]
    omega
end GL
set_option Elab.async false
set_option linter.all false
set_option maxRecDepth 100000
set_option maxHeartbeats 2000000
/-! # list(itertools.accumulate(a list of whole numbers)) -/
namespace AcR
open PySem PySem.Spec PyProof.Rows MpR
abbrev T : String := "itertools.accumulate"
theorem owner_ac : Manifest.owners.lookup (String.ofList ['e', 't', 'a', 'l', 'u', 'm', 'u', 'c', 'c', 'a', '.', 's', 'l', 'o', 'o', 't', 'r', 'e', 't', 'i'].reverse) = some Manifest.sig_itertools_accumulate := by kernel_rfl
theorem sub_ac : isSubtype (.type "itertools.accumulate") (.type "itertools.accumulate") = pure true := by rw [isSubtype_type]; kernel_rfl
theorem mro_ac : mroOf (.type "itertools.accumulate") = pure [.type "itertools.accumulate", .type "object"] := by rw [mroOf_type]; kernel_rfl
theorem lookup_ac_new : typeLookup (.type "itertools.accumulate") "__new__" = pure (some (.builtin "itertools.accumulate.__new__")) := by rw [typeLookup_type, builtinLookup_eq_fast]; kernel_rfl
theorem slot_ac_init : Slot "itertools.accumulate" "__init__" "object.__init__" :=
  .of (owner := "object") (n := "__init__") (by rw [typeLookup_type, builtinLookup_eq_fast]; kernel_rfl) (by decide +kernel) (by decide +kernel) (by decide +kernel)
    (by first | exact .inl (by decide +kernel) | exact .inr (by decide +kernel)) (by rw [isSubtype_type]; kernel_rfl)
theorem called_ac : TypeCalled "itertools.accumulate" "itertools.accumulate.__new__" "object.__init__" :=
  ⟨by decide +kernel, by decide +kernel, ⟨_, _, mro_ac⟩, madeBy_type mro_ac lookup_ac_new (by decide +kernel), by decide +kernel, sub_ac, slot_ac_init⟩
theorem typeCall_ac (a : Value) : checkTypeCall "itertools.accumulate" ⟨[a], []⟩ = pure () := by kernel_rfl
theorem newCall_ac (a : Value) : checkBuiltinCall "itertools.accumulate.__new__" ⟨[.type "itertools.accumulate", a], []⟩ = pure () := by kernel_rfl
theorem entry_ac_new : entryFor table "itertools.accumulate.__new__" = some Builtin.«itertools.accumulate.__new__» := entryFor_of_tree (by kernel_rfl)
theorem slot_ac_iter : Slot "itertools.accumulate" "__iter__" "itertools.accumulate.__iter__" :=
  .of (owner := "itertools.accumulate") (n := "__iter__") (by rw [typeLookup_type, builtinLookup_eq_fast]; kernel_rfl) (by decide +kernel) (by decide +kernel) (by decide +kernel)
    (by first | exact .inl (by decide +kernel) | exact .inr (by decide +kernel)) sub_ac
theorem slot_ac_next : Slot "itertools.accumulate" "__next__" "itertools.accumulate.__next__" :=
  .of (owner := "itertools.accumulate") (n := "__next__") (by rw [typeLookup_type, builtinLookup_eq_fast]; kernel_rfl) (by decide +kernel) (by decide +kernel) (by decide +kernel)
    (by first | exact .inl (by decide +kernel) | exact .inr (by decide +kernel)) sub_ac
theorem entry_ac_iter : entryFor table "itertools.accumulate.__iter__" = some Builtin.«dict_keyiterator.__iter__» :=
  entryFor_alias (id' := "dict_keyiterator.__iter__") (by kernel_rfl) (by first | rfl | decide +kernel | (unfold String.splitOn; simp +decide [String.splitOnAux])) (by decide +kernel) (by kernel_rfl)
theorem entry_ac_next : entryFor table "itertools.accumulate.__next__" = some Builtin.«itertools.accumulate.__next__» := entryFor_of_tree (by kernel_rfl)
theorem args_ac_iter (a : Value) : argsOk "itertools.accumulate.__iter__" ⟨[a], []⟩ := by
  unfold argsOk; rw [signature?_of (id := "itertools.accumulate.__iter__") (n := ['_', '_', 'r', 'e', 't', 'i', '_', '_']) (o := ['e', 't', 'a', 'l', 'u', 'm', 'u', 'c', 'c', 'a', '.', 's', 'l', 'o', 'o', 't', 'r', 'e', 't', 'i']) (by kernel_rfl) owner_ac]; kernel_rfl
theorem args_ac_next (a : Value) : argsOk "itertools.accumulate.__next__" ⟨[a], []⟩ := by
  unfold argsOk; rw [signature?_of (id := "itertools.accumulate.__next__") (n := ['_', '_', 't', 'x', 'e', 'n', '_', '_']) (o := ['e', 't', 'a', 'l', 'u', 'm', 'u', 'c', 'c', 'a', '.', 's', 'l', 'o', 'o', 't', 'r', 'e', 't', 'i']) (by kernel_rfl) owner_ac]; kernel_rfl
theorem noDict_ac : typeHasDict (.type "itertools.accumulate") = false := by decide +kernel
theorem nolen_ac : typeLookup (.type "itertools.accumulate") "__len__" = pure none := by rw [typeLookup_type, builtinLookup_eq_fast]; kernel_rfl
theorem nohint_ac : typeLookup (.type "itertools.accumulate") "__length_hint__" = pure none := by rw [typeLookup_type, builtinLookup_eq_fast]; kernel_rfl
theorem class_ac (x : Value) : Builtin.Itertools.itClassAndRest "accumulate" ⟨[.type "itertools.accumulate", x], []⟩ = pure (.type "itertools.accumulate", [x]) := by
  unfold Builtin.Itertools.itClassAndRest
  have e : ("itertools." ++ "accumulate" : String) = "itertools.accumulate" := by decide +kernel
  simp only [e, isType, sub_ac, pure_bind, Bool.not_true, Bool.false_eq_true, if_false]
theorem named_ac (x : Value) : Builtin.Itertools.itBindNamed "accumulate" ["iterable", "func", "initial"] 1 2 [x] [] = pure [some x, none, none] := by kernel_rfl

/-- an accumulate object: the iterator it draws from, the sum so far -/
abbrev IsAc (h : Heap) (m it : Addr) (tot : Value) : Prop := h.get? m = some { cls := .type "itertools.accumulate", dict := none, data := .fields #[.ref it, .none, tot, .none], slots := #[] }
section
variable {prog : Program} {w : World} {A : Around} {E : Value → Shared → Prop} {s : Shared}
theorem new_ac (x : Value) : MeetsIn prog w (Builtin.«itertools.accumulate.__new__» ⟨[.type "itertools.accumulate", x], []⟩)
    (fun A R s => wpAny (model prog w) A.in1 (pyIter x) (fun itv s1 => R (.ok (.ret (.ref s1.heap.objs.size))) { s1 with heap := s1.heap.push { cls := .type "itertools.accumulate", data := .fields #[itv, .none, rawInt 0, .none] } }) (fun e s1 => R (.error e) s1) s) :=
  .of_wp fun A R s h => by
    unfold Builtin.«itertools.accumulate.__new__»
    refine wpAny_bind (wpAny_of_eq (class_ac x) ?_)
    try dsimp only
    refine wpAny_bind (wpAny_of_eq (named_ac x) ?_)
    try dsimp only
    refine wpAny_bind (wpAny_mono h (fun itv s1 hR => ?_) fun _ _ z => z)
    refine wpAny_bind ?_
    unfold Builtin.Itertools.itNewRecord
    rw [noDict_ac]
    show wpAny _ _ ((newObj (.type "itertools.accumulate") (.fields #[itv, .none, rawInt 0, .none]) >>= _)) _ _ _
    refine wpAny_bind (wpAny_newObj_type ?_)
    exact wpAny_pure (wpAny_pure ⟨_, rfl, hR⟩)

/-! ### __next__ of the list's iterator, as accumulate asks it -/
theorem raw_item {it l : Addr} {i : Nat} {items} {x : Value} {Q : Value → Shared → Prop} (hit : s.heap.IsListIter it l i)
    (hl : s.heap.IsList l items) (hx : items[i]? = some x)
    (hQ : ∀ h', h'.IsListIter it l (i + 1) → Heap.SameBut it s.heap h' → Q x { s with heap := h' }) :
    wpAny (model prog w) A (Builtin.Itertools.itRawNext (.ref it)) Q E s := by
  obtain ⟨o, ho, hc, hd⟩ := id hit
  obtain ⟨ol, hol, _, nl, hdl⟩ := hl
  unfold Builtin.Itertools.itRawNext
  refine wpAny_bind (wpAny_callSpecial?_slot (name := Str.ofString "__next__") hit.typeIs slot_listiter_next
    (wpAny_call_entry slot_listiter_next hit.typeIs entry_listiter_next ?_ (args_listiter_next _)))
  show wpAny _ _ (field (.ref it) 0 >>= _) _ _ s
  refine wpAny_bind (wpAny_field ho hd (x := .ref l) rfl ?_)
  show wpAny _ _ (if (Value.ref l == Value.none) = true then _ else _) _ _ s
  rw [if_neg (show ¬ ((Value.ref l == Value.none) = true) from Bool.false_ne_true)]
  show wpAny _ _ (field (.ref it) 1 >>= _) _ _ s
  refine wpAny_bind (wpAny_field ho hd (x := .int i 0) rfl ?_)
  show wpAny _ _ (seqItems? (.ref l) >>= _) _ _ s
  refine wpAny_bind (wpAny_seqItems hol hdl ?_)
  simp only [Int.toNat_natCast, hx]
  refine wpAny_bind (wpAny_setField ho hd (by simp) (wpAny_pure ⟨x, rfl, wpAny_pure (hQ _ ?_ (Heap.SameBut.update ..))⟩))
  exact ⟨_, Heap.get?_update_self _ ho (Obj.isFreed_of_fields (Obj.data_mapFields hd _)), (Obj.cls_mapFields ..).trans hc, by
    rw [Obj.data_mapFields hd]; simp [rawInt]⟩
theorem raw_end {it l : Addr} {i : Nat} {items} {Q : Value → Shared → Prop} (hh : A.handled = none)
    (hit : s.heap.IsListIter it l i) (hl : s.heap.IsList l items) (hx : items[i]? = none)
    (hE : ∀ h' e, Heap.ExtBut it s.heap h' → (∃ o, h'.get? e = some o ∧ o.cls = .type "StopIteration") → E (.ref e) { s with heap := h' }) :
    wpAny (model prog w) A (Builtin.Itertools.itRawNext (.ref it)) Q E s := by
  obtain ⟨o, ho, hc, hd⟩ := id hit
  obtain ⟨ol, hol, _, nl, hdl⟩ := hl
  unfold Builtin.Itertools.itRawNext
  refine wpAny_bind (wpAny_callSpecial?_slot (name := Str.ofString "__next__") hit.typeIs slot_listiter_next
    (wpAny_call_entry slot_listiter_next hit.typeIs entry_listiter_next ?_ (args_listiter_next _)))
  show wpAny _ _ (field (.ref it) 0 >>= _) _ _ s
  refine wpAny_bind (wpAny_field ho hd (x := .ref l) rfl ?_)
  show wpAny _ _ (if (Value.ref l == Value.none) = true then _ else _) _ _ s
  rw [if_neg (show ¬ ((Value.ref l == Value.none) = true) from Bool.false_ne_true)]
  show wpAny _ _ (field (.ref it) 1 >>= _) _ _ s
  refine wpAny_bind (wpAny_field ho hd (x := .int i 0) rfl ?_)
  show wpAny _ _ (seqItems? (.ref l) >>= _) _ _ s
  refine wpAny_bind (wpAny_seqItems hol hdl ?_)
  simp only [Int.toNat_natCast, hx]
  refine wpAny_bind (wpAny_rule (wpAny_bind (wpAny_setField ho hd (by simp) ?_)))
  show wpAny _ _ (newExc (.type "StopIteration") [] >>= _) _ _ _
  refine wpAny_bind ?_
  simp only [newExc, newTuple]
  refine wpAny_bind (wpAny_newObj_type ?_ (by size_fits))
  refine wpAny_bind (m := firstArgMember _ _) (wpAny_of_eq (a := Value.none) (by first | rfl | (simp only [firstArgMember]; rfl)) ?_)
  refine wpAny_newObj_type ?_ (by size_fits)
  simp only [raiseNew]
  refine wpAny_bind (wpAny_handled ?_)
  first | rw [show A.in1.handled = none from hh] | rw [hh]
  refine wpAny_bind (wpAny_pure (wpAny_throw ?_))
  exact hE _ _ (((Heap.SameBut.update ..).extBut.push _).push _) ⟨_, Heap.get?_push_size _ rfl, rfl⟩

/-! ### __next__, __iter__ of the accumulate object -/
theorem ac_next_item {m it l : Addr} {i : Nat} {items : Array Value} {a b : Int} {t u : Tok} {Q : Value → Shared → Prop} (hm : IsAc s.heap m it (.int a t)) (hit : s.heap.IsListIter it l i) (hl : s.heap.IsList l items) (hx : items[i]? = some (.int b u))
    (hmi : m ≠ it) (hml : m ≠ l) (hli : l ≠ it)
    (hQ : ∀ s' t', IsAc s'.heap m it (.int (a + b) t') → s'.heap.IsListIter it l (i + 1) → s'.heap.IsList l items → (∀ c o, c ≠ it → c ≠ m → s.heap.get? c = some o → s'.heap.get? c = some o) →
      s'.gens = s.gens → s'.drawn = s.drawn → s'.os = s.os → s.toks ≤ s'.toks → Q (.int (a + b) t') s') :
    wpAny (model prog w) A (Builtin.«itertools.accumulate.__next__» ⟨[.ref m], []⟩) (fun fin s' => ∃ v, fin = .done (.ret v) ∧ Q v s') E s := by
  show wpAny _ _ (field (.ref m) 3 >>= _) _ _ _
  refine wpAny_bind (wpAny_field hm rfl (x := .none) rfl ?_)
  show wpAny _ _ (field (.ref m) 0 >>= _) _ _ _
  refine wpAny_bind (wpAny_field hm rfl (x := .ref it) rfl ?_)
  show wpAny _ _ (Builtin.Itertools.itRawNext (.ref it) >>= _) _ _ _
  refine wpAny_bind (raw_item hit hl hx fun h1 hit1 hs1 => ?_)
  have hm1 : IsAc h1 m it (.int a t) := hs1.extBut _ _ hmi hm
  have hl1 : h1.IsList l items := hl.extBut hs1.extBut hli
  show wpAny _ _ (field (.ref m) 2 >>= _) _ _ _
  refine wpAny_bind (wpAny_field hm1 rfl (x := .int a t) rfl ?_)
  show wpAny _ _ (if ((Value.int a t == Builtin.Itertools.itNothing) = true) then _ else _) _ _ _
  have lay : ∀ (v : Value), IsAc (h1.update m (Obj.mapFields fun x => x.setIfInBounds 2 v)) m it v := fun v => Heap.get?_update_self _ hm1 rfl
  have keep : ∀ (v : Value) c o, c ≠ m → h1.get? c = some o → (h1.update m (Obj.mapFields fun x => x.setIfInBounds 2 v)).get? c = some o := fun v c o n e => (Heap.get?_update_other _ _ (Ne.symm n)).trans e
  by_cases z : (Value.int a t == Builtin.Itertools.itNothing) = true
  · rw [if_pos z]
    have ha : a = 0 := by
      have z2 : Value.int a t = Builtin.Itertools.itNothing := by first | exact eq_of_beq z | exact LawfulBEq.eq_of_beq z
      have z3 : Value.int a t = Value.int 0 0 := z2
      exact (Value.int.inj z3).1
    subst ha
    refine wpAny_bind (wpAny_rule ?_)
    refine wpAny_bind (wpAny_setField hm1 rfl (by simp) ?_)
    refine wpAny_pure ⟨_, rfl, ?_⟩
    have e0 : (0 : Int) + b = b := Int.zero_add b
    have hq := hQ { s with heap := h1.update m (Obj.mapFields fun x => x.setIfInBounds 2 (.int b u)) } u
    rw [e0] at hq
    refine hq (lay _) ?_ ?_ (fun c o n1 n2 e => keep _ c o n2 (hs1.extBut c o n1 e)) rfl rfl rfl (Nat.le_refl _)
    · exact hit1.at fun o e => keep _ it o (Ne.symm hmi) e
    · exact hl1.at fun o e => keep _ l o (Ne.symm hml) e
  · rw [if_neg z]
    show wpAny _ _ (field (.ref m) 1 >>= _) _ _ _
    refine wpAny_bind (wpAny_field hm1 rfl (x := .none) rfl ?_)
    show wpAny _ _ (holding _ (binaryOp .Add (.int a t) (.int b u)) >>= _) _ _ _
    refine wpAny_bind (wpAny_holding (wpAny_add_int ?_))
    refine wpAny_bind (wpAny_setField hm1 rfl (by simp) ?_)
    refine wpAny_bind (wpAny_letGo ?_)
    refine wpAny_pure ⟨_, rfl, hQ _ _ (lay _) ?_ ?_ (fun c o n1 n2 e => keep _ c o n2 (hs1.extBut c o n1 e)) rfl rfl rfl (Nat.le_succ _)⟩
    · exact hit1.at fun o e => keep _ it o (Ne.symm hmi) e
    · exact hl1.at fun o e => keep _ l o (Ne.symm hml) e
theorem ac_pyNext_item {m it l : Addr} {i : Nat} {items : Array Value} {a b : Int} {t u : Tok} {Q : Option Value → Shared → Prop} (hm : IsAc s.heap m it (.int a t)) (hit : s.heap.IsListIter it l i) (hl : s.heap.IsList l items) (hx : items[i]? = some (.int b u))
    (hmi : m ≠ it) (hml : m ≠ l) (hli : l ≠ it)
    (hQ : ∀ s' t', IsAc s'.heap m it (.int (a + b) t') → s'.heap.IsListIter it l (i + 1) → s'.heap.IsList l items → (∀ c o, c ≠ it → c ≠ m → s.heap.get? c = some o → s'.heap.get? c = some o) →
      s'.gens = s.gens → s'.drawn = s.drawn → s'.os = s.os → s.toks ≤ s'.toks → Q (some (.int (a + b) t')) s') :
    wpAny (model prog w) A (pyNext (.ref m)) Q E s := by
  have hT0 : s.TypeIs (.ref m) "itertools.accumulate" := ⟨_, hm, rfl⟩
  unfold pyNext
  exact wpAny_bind (wpAny_attempt (wpAny_callSpecial?_slot (name := Str.ofString "__next__") hT0 slot_ac_next
    (wpAny_call_entry slot_ac_next hT0 entry_ac_next
      (ac_next_item hm hit hl hx hmi hml hli fun s' t' a1 a2 a3 a4 g1 g2 g3 g4 => wpAny_pure (hQ s' t' a1 a2 a3 a4 g1 g2 g3 g4)) (args_ac_next _))))
theorem ac_pyNext_end {m it l : Addr} {i : Nat} {items : Array Value} {tot : Value} {Q : Option Value → Shared → Prop} (hh : A.handled = none) (hm : IsAc s.heap m it tot) (hit : s.heap.IsListIter it l i) (hl : s.heap.IsList l items) (hx : items[i]? = none)
    (hQ : ∀ h', Heap.ExtBut it s.heap h' → Q none { s with heap := h' }) : wpAny (model prog w) A (pyNext (.ref m)) Q E s := by
  have hT0 : s.TypeIs (.ref m) "itertools.accumulate" := ⟨_, hm, rfl⟩
  have hh1 : A.in1.handled = none := hh
  unfold pyNext
  refine wpAny_bind (wpAny_attempt (wpAny_callSpecial?_slot (name := Str.ofString "__next__") hT0 slot_ac_next
    (wpAny_call_entry slot_ac_next hT0 entry_ac_next ?_ (args_ac_next _))))
  show wpAny _ _ (field (.ref m) 3 >>= _) _ _ _
  refine wpAny_bind (wpAny_field hm rfl (x := .none) rfl ?_)
  show wpAny _ _ (field (.ref m) 0 >>= _) _ _ _
  refine wpAny_bind (wpAny_field hm rfl (x := .ref it) rfl ?_)
  show wpAny _ _ (Builtin.Itertools.itRawNext (.ref it) >>= _) _ _ _
  refine wpAny_bind (raw_end hh hit hl hx fun h' x he' hx' => ?_)
  obtain ⟨o, ho, hc⟩ := hx'
  refine wpAny_bind (wpAny_isInstance (T := "StopIteration") (b := true) ⟨o, ho, hc⟩ isSubtype_stop ?_)
  exact wpAny_pure (hQ _ he')
theorem ac_pyIter {m it : Addr} {tot : Value} {Q : Value → Shared → Prop} (hm : IsAc s.heap m it tot) (h : Q (.ref m) s) : wpAny (model prog w) A (pyIter (.ref m)) Q E s := by
  have hT : s.TypeIs (.ref m) "itertools.accumulate" := ⟨_, hm, rfl⟩
  refine wpAny_pyIter_slot hT slot_ac_iter (wpAny_call_entry slot_ac_iter hT entry_ac_iter ?_ (args_ac_iter _))
  show wpAny _ _ (ret (.ref m)) _ _ s
  exact wpAny_pure ⟨_, rfl, "itertools.accumulate", _, hT, slot_ac_next.lookup, h⟩
end
/-- an accumulate object over a list of whole numbers is walked -/
theorem walks_ac {prog : Program} {w : World} {A : Around} {m it l : Addr} {items : Array Value} {val : Nat → Int} (hh : A.handled = none) (hmi : m ≠ it) (hml : m ≠ l) (hli : l ≠ it) (hv : ∀ (i : Nat) (v : Value), items[i]? = some v → ∃ t, v = Value.int (val i) t) :
    WalksS prog w A m [m, it, l] [m, it] (fun a b => b = a) items.size (fun i v => ∃ t, v = Value.int (preSum val (i + 1)) t)
      (fun i s => (∃ t, IsAc s.heap m it (.int (preSum val i) t)) ∧ s.heap.IsListIter it l i ∧ s.heap.IsList l items) where
  sub := fun b hb => by
    rcases List.mem_cons.mp hb with rfl | hb
    · simp
    · rw [List.mem_singleton.mp hb]; simp
  grefl := fun _ => rfl
  gtrans := fun _ _ _ h1 h2 => h2.trans h1
  frame := fun i s h' tk st _ hk => by
    obtain ⟨⟨t, h1⟩, h2, h3⟩ := st
    exact ⟨⟨t, hk m (by simp) _ h1⟩, h2.at fun o e => hk it (by simp) o e, h3.at fun o e => hk l (by simp) o e⟩
  item := fun i s Q E hi st hQ => by
    obtain ⟨⟨t, h1⟩, h2, h3⟩ := st
    have hx : items[i]? = some items[i] := by simp [hi]
    obtain ⟨u, hu⟩ := hv i _ hx
    rw [hu] at hx
    refine ac_pyNext_item h1 h2 h3 hx hmi hml hli fun s' t' a1 a2 a3 a4 g1 g2 g3 g4 => ?_
    refine hQ _ s' ⟨t', rfl⟩ ⟨⟨t', a1⟩, a2, a3⟩ ⟨fun b o hb e => a4 b o (fun z => hb (by simp [z])) (fun z => hb (by simp [z])) e, g1, g2, g3, g4⟩
  done := fun s Q E st hQ => by
    obtain ⟨⟨t, h1⟩, h2, h3⟩ := st
    exact ac_pyNext_end hh h1 h2 h3 (by simp) fun h' hx => hQ _ ⟨fun b o hb e => hx b o (fun z => hb (by simp [z])) e, rfl, rfl, rfl, Nat.le_refl _⟩
  self := fun i s Q E st hQ => by
    obtain ⟨⟨t, h1⟩, h2, h3⟩ := st
    exact ac_pyIter h1 hQ
/-! ### list(it) of any iterator that gives no hint of its length -/
section
variable {prog : Program} {w : World} {A : Around} {s : Shared} {R : Result → Shared → Prop}
variable {I : Addr} {fp wr : List Addr} {G : Array GenState → Array GenState → Prop} {n : Nat} {P : Nat → Value → Prop} {St : Nat → Shared → Prop}

theorem ext_it {T : String} (hl : typeLookup (.type T) "__len__" = pure none) (hn0 : typeLookup (.type T) "__length_hint__" = pure none) (h2 : (Value.type T == Value.type "list") = false) (h3 : (Value.type T == Value.type "tuple") = false) (W : WalksS prog w A.in1 I fp wr G n P St) (hT : ∀ i s, St i s → s.TypeIs (.ref I) T) (S : Addr) (res : Value) (c₀ : Nat) (hst : St 0 s) (hSf : S ∉ fp) (hI : I ∈ fp)
    (hS : s.heap.get? S = some { cls := .type "list", data := .seq #[] c₀ })
    (hR : ∀ s' acc' c', Moved (S :: wr) G s s' → s'.heap.get? S = some { cls := .type "list", dict := none, data := .seq acc' c', slots := #[] } → ItemsOf P acc' n → R (.ok (.ret res)) s') (hn : n ≤ sizeLine := by size_fits) :
    wpAny (model prog w) A.in1 (Builtin.List.listExtendWith (.ref S) (.ref I) res)
      (fun fin s' => match fin with | .done f => R (.ok f) s' | .again c' => c'.quiet = true ∧ codeAny (model prog w) A c' R s') (fun e s' => R (.error e) s') s := by
  have hSI : S ≠ I := fun e => hSf (e ▸ hI)
  unfold Builtin.List.listExtendWith
  refine wpAny_bind (wpAny_typeOf (hT 0 _ hst) ?_)
  have h1 : Builtin.List.listSameRef (.ref S) (.ref I) = false := by simp [Builtin.List.listSameRef, hSI]
  simp only [h1, h2, h3, Bool.or_false, Bool.false_eq_true, if_false]
  refine wpAny_bind (W.self 0 _ _ _ hst ?_)
  refine wpAny_bind (wpAny_holding ?_)
  unfold Builtin.List.listLengthHint
  refine wpAny_bind (wpAny_specialOf (hT 0 _ hst) hl ?_)
  show wpAny _ A.in1 (specialOf (Value.ref I) (Str.ofString "__length_hint__") >>= _) _ _ _
  refine wpAny_bind (wpAny_specialOf (hT 0 _ hst) hn0 ?_)
  refine wpAny_pure ?_
  show wpAny _ A.in1 (rule "list.extend.makes-room" >>= fun _ => Builtin.List.listTouch (.ref S) >>= fun _ =>
    again (.builtin "list.extend.loop" ⟨[.ref S, .ref I, res], []⟩)) _ _ _
  refine wpAny_bind (wpAny_rule ?_)
  refine wpAny_bind ?_
  show wpAny _ A.in1 (updateSeq S (·.push .none) >>= fun _ => updateSeq S (·.pop)) _ _ _
  refine wpAny_bind (wpAny_updateSeq hS rfl ?_)
  have hS₂ := Heap.get?_update_self (Obj.mapSeq (·.push Value.none)) hS rfl
  refine wpAny_updateSeq (hz := by seq_fits) hS₂ rfl ?_
  have hS₃ := Heap.get?_update_self (Obj.mapSeq (·.pop)) hS₂ rfl
  have oth : ∀ b o, b ≠ S → s.heap.get? b = some o → ((s.heap.update S (Obj.mapSeq (·.push Value.none))).update S (Obj.mapSeq (·.pop))).get? b = some o :=
    fun b o hb e => (Heap.get?_update_other _ _ (Ne.symm hb)).trans ((Heap.get?_update_other _ _ (Ne.symm hb)).trans e)
  refine wpAny_pure ⟨plainId_quiet F.plain_extend_loop _, codeAny_extend_loopS W hn _ hSf _ n 0 _ _ _ rfl (Nat.zero_le _)
    (W.frame 0 s _ s.toks hst (Nat.le_refl _) fun b hb o e => oth b o (fun h => hSf (h ▸ hb)) e) hS₃ (ItemsOf.nil P) fun s' acc' c' hm hS' hacc => ?_⟩
  exact hR s' acc' c' (Moved.trans W.gtrans ((Moved.refl W.grefl).then_heap (Nat.le_refl _) fun b o hb e => oth b o (fun h => hb (h ▸ List.mem_cons_self)) e) hm) hS' hacc

theorem init_it {T : String} (hl : typeLookup (.type T) "__len__" = pure none) (hn0 : typeLookup (.type T) "__length_hint__" = pure none) (h2 : (Value.type T == Value.type "list") = false) (h3 : (Value.type T == Value.type "tuple") = false) (W : WalksS prog w A.in1 I fp wr G n P St) (hT : ∀ i s, St i s → s.TypeIs (.ref I) T) (S : Addr) (hst : St 0 s) (hSf : S ∉ fp) (hI : I ∈ fp)
    (hS : s.heap.get? S = some { cls := .type "list", data := .seq #[] })
    (hR : ∀ s' acc' c', Moved (S :: wr) G s s' → s'.heap.get? S = some { cls := .type "list", dict := none, data := .seq acc' c', slots := #[] } → ItemsOf P acc' n → R (.ok (.ret .none)) s') (hn : n ≤ sizeLine := by size_fits) :
    wpAny (model prog w) A.in1 (Builtin.«list.__init__» ⟨[.ref S, .ref I], []⟩)
      (fun fin s' => match fin with | .done f => R (.ok f) s' | .again c' => c'.quiet = true ∧ codeAny (model prog w) A c' R s') (fun e s' => R (.error e) s') s := by
  show wpAny _ A.in1 (do let old ← Builtin.List.listItems (.ref S); Builtin.List.listUpdate (.ref S) (fun _ => #[]); letGo old.toList.reverse; Builtin.List.listExtendWith (.ref S) (.ref I) .none) _ _ s
  refine wpAny_bind ?_
  unfold Builtin.List.listItems
  refine wpAny_bind (wpAny_seqItems hS rfl (wpAny_pure ?_))
  show wpAny _ A.in1 (updateSeq S (fun _ => #[]) >>= fun _ => letGo (#[] : Array Value).toList.reverse >>= fun _ => Builtin.List.listExtendWith (.ref S) (.ref I) .none) _ _ s
  refine wpAny_bind (wpAny_updateSeq hS rfl ?_)
  have hS₂ := Heap.get?_update_self (Obj.mapSeq (fun _ => (#[] : Array Value))) hS rfl
  have oth : ∀ b o, b ≠ S → s.heap.get? b = some o → (s.heap.update S (Obj.mapSeq (fun _ => (#[] : Array Value)))).get? b = some o :=
    fun b o hb e => (Heap.get?_update_other _ _ (Ne.symm hb)).trans e
  refine wpAny_bind (wpAny_letGo ?_)
  refine ext_it (hn := hn) hl hn0 h2 h3 W hT S .none _ (W.frame 0 s _ s.toks hst (Nat.le_refl _) fun b hb o e => oth b o (fun h => hSf (h ▸ hb)) e) hSf hI hS₂ fun s' acc' c' hm hS' hacc => ?_
  exact hR s' acc' c' (Moved.trans W.gtrans ((Moved.refl W.grefl).then_heap (Nat.le_refl _) fun b o hb e => oth b o (fun h => hb (h ▸ List.mem_cons_self)) e) hm) hS' hacc
end

section
variable {prog : Program} {w : World} {A : Around} {E : Value → Shared → Prop} {s : Shared}
variable {I : Addr} {fp wr : List Addr} {G : Array GenState → Array GenState → Prop} {n : Nat} {P : Nat → Value → Prop} {St : Nat → Shared → Prop}

theorem list_it {Q : Value → Shared → Prop} {T : String} (hl : typeLookup (.type T) "__len__" = pure none) (hn0 : typeLookup (.type T) "__length_hint__" = pure none) (h2 : (Value.type T == Value.type "list") = false) (h3 : (Value.type T == Value.type "tuple") = false) (W : WalksS prog w A.in1.in1 I fp wr G n P St) (hT : ∀ i s, St i s → s.TypeIs (.ref I) T) (hst : St 0 s) (hfp : ∀ b ∈ fp, b < s.heap.objs.size) (hI : I ∈ fp)
    (hQ : ∀ s' acc' c', Moved (s.heap.objs.size :: wr) G { s with heap := s.heap.push { cls := .type "list", data := .seq #[] } } s' →
      s'.heap.get? s.heap.objs.size = some { cls := .type "list", dict := none, data := .seq acc' c', slots := #[] } → ItemsOf P acc' n → Q (.ref s.heap.objs.size) s') (hn : n ≤ sizeLine := by size_fits) :
    wpAny (model prog w) A (call (.type "list") [.ref I]) Q E s := by
  have hSf : s.heap.objs.size ∉ fp := fun hm => Nat.lt_irrefl _ (hfp _ hm)
  refine callType_codes (Q₁ := fun obj s₁ => obj = .ref s.heap.objs.size ∧ s₁ = { s with heap := s.heap.push { cls := .type "list", data := .seq #[] } }) F.called_list (F.typeCall_list_1 _) F.entry_list_init
    (code_list_new _ ⟨rfl, rfl⟩) fun obj s₁ h₁ => ?_
  obtain ⟨rfl, rfl⟩ := h₁
  have hS : (s.heap.push { cls := .type "list", data := .seq #[] }).get? s.heap.objs.size = some { cls := .type "list", data := .seq #[] } := Heap.get?_push_size _ rfl
  refine ⟨⟨_, hS, rfl⟩, F.args_list_init_2 _ _, init_it (hn := hn) hl hn0 h2 h3 W hT _ (W.frame 0 s _ s.toks hst (Nat.le_refl _) fun b _ o e => Heap.get?_push_of_some _ e) hSf hI hS fun s' acc' c' hm hS' hacc => ?_⟩
  exact ⟨rfl, hQ s' acc' c' hm hS' hacc⟩
end


section
variable {prog : Program} {w : World} {A : Around} {E : Value → Shared → Prop} {s : Shared}
theorem call_ac {l : Addr} {items : Array Value} {Q : Value → Shared → Prop} (hl : s.heap.IsList l items)
    (hq : ∀ h', IsAc h' (s.heap.objs.size + 1) s.heap.objs.size (.int 0 0) → h'.IsListIter s.heap.objs.size l 0 → h'.IsList l items → h'.objs.size = s.heap.objs.size + 2 → (∀ b o, s.heap.get? b = some o → h'.get? b = some o) → Q (.ref (s.heap.objs.size + 1)) { s with heap := h' }) :
    wpAny (model prog w) A (call (.type "itertools.accumulate") [.ref l]) Q E s := by
  refine callType_newIn called_ac (by decide) (typeCall_ac _) (newCall_ac _) (fun obj => F.args_object_init_2 obj _) entry_ac_new (new_ac _) ?_
  show wpAny (model prog w) A.in1.in1 (pyIter (.ref l)) _ _ _
  refine wpAny_pyIter_list hl ?_
  have z : (s.heap.push { cls := .type "list_iterator", data := .fields #[.ref l, .int 0 0] }).objs.size = s.heap.objs.size + 1 := Heap.size_push ..
  have hit : (s.heap.push { cls := .type "list_iterator", data := .fields #[.ref l, .int 0 0] }).IsListIter s.heap.objs.size l 0 := ⟨_, Heap.get?_push_size _ rfl, rfl, rfl⟩
  have hL : (s.heap.push { cls := .type "list_iterator", data := .fields #[.ref l, .int 0 0] }).IsList l items := hl.push _
  show _ ∧ _
  refine ⟨⟨_, Heap.get?_push_size _ rfl, rfl⟩, ?_⟩
  rw [z]
  refine hq _ ?_ ?_ (hL.push _) (by rw [Heap.size_push, z]) (fun b o e => Heap.get?_push_of_some _ (Heap.get?_push_of_some _ e))
  · have h := Heap.get?_push_size (s.heap.push { cls := .type "list_iterator", data := .fields #[.ref l, .int 0 0] }) (o := { cls := .type "itertools.accumulate", data := .fields #[.ref s.heap.objs.size, .none, rawInt 0, .none] }) rfl
    rw [z] at h
    exact h
  · exact hit.at fun o e => Heap.get?_push_of_some _ e
end
end AcR
set_option Elab.async false
set_option linter.all false
set_option maxRecDepth 100000
set_option maxHeartbeats 2000000
namespace AcR
open PySem PySem.Spec PyProof.Rows L2
/-- the sums so far, begun at a -/
def accs : Int → List Int → List Int
  | _, [] => []
  | a, x :: xs => (a + x) :: accs (a + x) xs
theorem accs_len : ∀ (a : Int) (ns : List Int), (accs a ns).length = ns.length
  | _, [] => rfl
  | a, x :: xs => congrArg Nat.succ (accs_len (a + x) xs)
theorem accs_at : ∀ (ns : List Int) (a : Int) (j : Nat), j < ns.length → (accs a ns)[j]? = some (a + (ns.take (j + 1)).sum)
  | [], _, j, h => absurd h (Nat.not_lt_zero j)
  | x :: xs, a, 0, h => by simp [accs]
  | x :: xs, a, j + 1, h => by
    have ih := accs_at xs (a + x) j (Nat.lt_of_succ_lt_succ h)
    show (accs (a + x) xs)[j]? = _
    rw [ih, List.take_succ_cons, List.sum_cons, Int.add_assoc]
theorem vals_ints : ∀ (ns : List Int) (xs : List Value), xs.length = ns.length → (∀ (j : Nat) (n : Int) (v : Value), ns[j]? = some n → xs[j]? = some v → ∃ t, v = Value.int n t) → Vals (ns.map V.int) xs
  | [], [], _, _ => .nil
  | [], _ :: _, h, _ => by cases h
  | _ :: _, [], h, _ => by cases h
  | n :: ns, x :: xs, h, k => by
    obtain ⟨t, rfl⟩ := k 0 n x rfl rfl
    exact .cons ⟨t, rfl⟩ (vals_ints ns xs (Nat.succ.inj h) fun j m v h1 h2 => k (j + 1) m v h1 h2)
def tListAcc (K : PySem.W.Frag) (ta : TA) : TE := fun σ H Q => ta σ H fun vs H2 => ∃ (q : Addr) (ns : List Int), vs = [.ref q] ∧ SqL K H2 q (ns.map V.int) ∧ ns.length ≤ 100000 ∧ ∀ p, H2 p = none → Q (.ref p) (upd H2 p (.lst ((accs 0 ns).map V.int)))
section
variable {X : Cx} {e : Expr} {ta : TA} {p p2 pos pos2 : Pos}
theorem pe_listAcc (hc : X.calm = true) (hgl : Gl X "list") (hml : X.mg "list" = none) (hv : bootBuiltins "list" = some (.type "list")) (hg : Gl X "accumulate") (hm : X.mg "accumulate" = some (.type "itertools.accumulate")) (ha : PA X [e] ta)
    (hdb : (("accumulate" : Str) == ("__debug__" : Str)) = false := by decide)
    (hs1 : starEach [.Call (.Name "accumulate" p2) [e] [] pos2] X.env = (false, eval (.Call (.Name "accumulate" p2) [e] [] pos2) X.env) :: starEach [] X.env := by rfl)
    (hp1 : (backTo pos (starEach [] X.env)).any (·.1) = false := by rfl) (hs : starEach [e] X.env = (false, eval e X.env) :: starEach [] X.env := by rfl) (hpl : (backTo pos2 (starEach [] X.env)).any (·.1) = false := by rfl) :
    PE X (.Call (.Name "list" p) [.Call (.Name "accumulate" p2) [e] [] pos2] [] pos) (tListAcc X.K ta) := by
  refine ⟨fun pins s σ H Q I h => ?_⟩
  refine wpAny_Call_Name_kw (ld_blt I hgl hml hv ?_)
  refine PyProof.Rows.callWith_type1 ?_ hs1 hp1
  rw [hs1]
  show wpAny _ _ (spliced ((false, eval (.Call (.Name "accumulate" p2) [e] [] pos2) X.env) :: backTo pos (starEach [] X.env))) _ _ s
  refine Calls.spliced_cons ?_
  refine wpAny_Call_Name_kw (ld_glob I hg hm ?_ hdb)
  refine PyProof.Rows.callWith_type1 (thn (ha.run pos2 pins s σ H _ I h) fun us s3 ⟨vs, H2, I3, r3, q3⟩ => ?_) hs hpl
  obtain ⟨q, ns, rfl, hq, hlen, q3⟩ := q3
  cases r3 with
  | cons r rr =>
    cases rr
    cases r
    obtain ⟨its, rv, pl, hsz⟩ := I3.list hq
    have hl : its.length = ns.length := by rw [← rv.length, List.length_map]
    have hh := I3.ok.hd hc
    refine call_ac pl.isList fun h' hA hI hL hsz' hk => ?_
    refine Calls.spliced_nil ?_
    have lq : q < s3.heap.objs.size := by
      obtain ⟨o, ho, _⟩ := pl.isList
      exact Heap.lt_size ho
    have hval : ∀ (i : Nat) (v : Value), its.toArray[i]? = some v → ∃ t, v = Value.int (ns.getD i 0) t := fun i v hi => by
      have hi' : its[i]? = some v := by simpa using hi
      have hlt : i < ns.length := by
        have := (List.getElem?_eq_some_iff.mp hi').1
        omega
      have hx : (ns.map V.int)[i]? = some (.int ns[i]) := by rw [List.getElem?_map, List.getElem?_eq_getElem hlt]; rfl
      obtain ⟨u2, hu2, rx2⟩ := rv.get hx
      have eu : u2 = v := Option.some.inj (hu2.symm.trans hi')
      subst eu
      obtain ⟨t, rfl⟩ := rx2
      exact ⟨t, by rw [List.getD_eq_getElem?_getD, List.getElem?_eq_getElem hlt]; rfl⟩
    have W := walks_ac (prog := X.prog) (w := X.w) (A := X.A.in1.in1) (m := s3.heap.objs.size + 1) (it := s3.heap.objs.size) (l := q) (items := its.toArray) (val := fun i => ns.getD i 0) hh (Nat.succ_ne_self _) (Nat.ne_of_gt (Nat.lt_succ_of_lt lq)) (Nat.ne_of_lt lq) hval
    refine list_it (n := its.toArray.size) nolen_ac nohint_ac (by decide) (by decide) W (fun i s' st => ⟨_, st.1.choose_spec, rfl⟩) ⟨⟨0, hA⟩, hI, hL⟩ ?_ (by simp) ?_ (by simp only [List.size_toArray]; exact Nat.le_trans (by omega) (Evl.sz_of hlen))
    · intro b hb
      show b < h'.objs.size
      rw [hsz']
      rcases List.mem_cons.mp hb with rfl | hb
      · exact Nat.lt_succ_self _
      · rcases List.mem_cons.mp hb with rfl | hb
        · exact Nat.lt_succ_of_lt (Nat.lt_succ_self _)
        · rw [List.mem_singleton.mp hb]; exact Nat.lt_succ_of_lt (Nat.lt_succ_of_lt lq)
    · intro s' acc c hm hS hacc
      have eN : ({ s3 with heap := h' } : Shared).heap.objs.size = s3.heap.objs.size + 2 := hsz'
      have hacc2 : Vals ((accs 0 ns).map V.int) acc.toList := by
        refine vals_ints _ _ ?_ fun j n v h1 h2 => ?_
        · rw [accs_len, Array.length_toList, hacc.1]
          simp only [List.size_toArray]
          omega
        · obtain ⟨t, rfl⟩ := hacc.2 j v (by simpa using h2)
          have hj : j < ns.length := by
            have := (List.getElem?_eq_some_iff.mp h1).1
            rw [accs_len] at this
            exact this
          rw [accs_at ns 0 j hj] at h1
          refine ⟨t, ?_⟩
          rw [preSum_getD ns (j + 1), ← Option.some.inj h1, Int.zero_add]
      rw [Moved.eq_with hm]
      refine ⟨.ref _, _, I3.laid (a := ({ s3 with heap := h' } : Shared).heap.objs.size) (o := .lst ((accs 0 ns).map V.int)) (t' := s'.toks) (h' := s'.heap) (fun b u hb => ?_) (by rw [eN]; exact Nat.le_add_right _ 2) ⟨?_, acc.toList, c, hacc2, ?_⟩, rfl, q3 _ (I3.hok.fresh (by rw [eN]; exact Nat.le_add_right _ 2))⟩
      · have lb := Heap.lt_size hb
        refine hm.heap b u ?_ (Heap.get?_push_of_some _ (hk b u hb))
        rw [eN]
        intro hb2
        rcases List.mem_cons.mp hb2 with rfl | hb2
        · exact Nat.lt_irrefl _ (Nat.lt_trans (Nat.lt_succ_of_lt (Nat.lt_succ_self _)) lb)
        · rcases List.mem_cons.mp hb2 with rfl | hb2
          · exact Nat.lt_irrefl _ (Nat.lt_trans (Nat.lt_succ_self _) lb)
          · rw [List.mem_singleton.mp hb2] at lb
            exact Nat.lt_irrefl _ lb
      · rw [List.length_map, accs_len]
        exact Evl.sz_of hlen
      · rw [Array.toArray_toList]
        exact hS
end
end AcR
set_option Elab.async false
set_option linter.all false
set_option maxRecDepth 100000
set_option maxHeartbeats 8000000
/-! # the tables -/
namespace GL
open PySem PySem.Spec PyProof.Rows L2 Geo Rel AcR
section
variable {P : Program} {w : World} {K : PySem.W.Frag} {mg : Str → Option Value} {base : Heap} {σ : L2.St} {H : Hp}
theorem news_rl {te : TE} {rows : List (List Int)} (h : EvNews te σ H (rows.map fun r => .lst (r.map V.int))) : EvRL te σ H lstI rows := fun H1 e Q q =>
  h H1 e _ fun p as H2 np e2 hp _ _ hl hc => q p H2 np e2 ⟨_, hp, by
    rw [List.length_map] at hl
    have key : ∀ (as : List Addr) (rows : List (List Int)), as.length = rows.length → (∀ (i : Nat) (b : Addr) (r : List Int), as[i]? = some b → rows[i]? = some r → H2 b = some (.lst (r.map V.int))) → Paired (fun y z => lstI z y H2) (as.map V.ref) rows := by
      intro as
      induction as with
      | nil =>
        intro rows hl _
        cases rows with
        | nil => exact .nil
        | cons _ _ => cases hl
      | cons a as ih =>
        intro rows hl hc
        cases rows with
        | nil => cases hl
        | cons r rows => exact .cons ⟨a, rfl, hc 0 a r rfl rfl⟩ (ih rows (Nat.succ.inj hl) fun i b z h1 h2 => hc (i + 1) b z h1 h2)
    exact key as rows hl fun i b r h1 h2 => hc i b _ h1 (by rw [List.getElem?_map, h2]; rfl)⟩
abbrev scIn : Scope := { kind := .function, names := [(".0", .local), ("lower", .cell), ("range", .globalImplicit), ("many", .cell), ("sums", .cell)], isGenerator := false, isCoroutine := false }
theorem pe_listAccK {X : Cx} {e : Expr} {ta : TA} {p p2 pos pos2 : Pos} (hK : X.K = K) (hc : X.calm = true) (hgl : Gl X "list") (hml : X.mg "list" = none) (hg : Gl X "accumulate") (hm : X.mg "accumulate" = some (.type "itertools.accumulate")) (ha : PA X [e] ta)
    (hs1 : starEach [.Call (.Name "accumulate" p2) [e] [] pos2] X.env = (false, eval (.Call (.Name "accumulate" p2) [e] [] pos2) X.env) :: starEach [] X.env := by rfl)
    (hp1 : (backTo pos (starEach [] X.env)).any (·.1) = false := by rfl) (hs : starEach [e] X.env = (false, eval e X.env) :: starEach [] X.env := by rfl) (hpl : (backTo pos2 (starEach [] X.env)).any (·.1) = false := by rfl) :
    PE X (.Call (.Name "list" p) [.Call (.Name "accumulate" p2) [e] [] pos2] [] pos) (tListAcc K ta) := hK ▸ pe_listAcc hc hgl hml (by decide +kernel) hg hm ha (by decide) hs1 hp1 hs hpl
theorem en_of {te : TE} {xs : List V} (h : Evl.EvL te σ H xs) : EvNew te σ H (.lst xs) := h
def endRow (sums : List (List Int)) (many lower : Nat) : List Int := (List.range (many - lower)).map fun right => (sums.getD (right + 1) []).getD lower 0 + (sums.getD (lower + 1) []).getD right 0
def endStep (tab : List (List Int)) (many : Nat) : List (List Int) := (List.range many).map fun lower => endRow (tab.map (accs 0)) many lower
def lastE (n : Nat) : Nat → List (List Int)
  | 0 => (List.range n).map fun lower => List.replicate (n - lower) 1
  | k + 1 => endStep (lastE n k) (n - 1 - k)
/-- the tables for n, n - 1 .. panes -/
def endsF (n k : Nat) : List (List (List Int)) := (List.range (k + 1)).map (lastE n)
def ShapeE (m : Nat) (tab : List (List Int)) : Prop := tab.length = m ∧ ∀ i, i < m → (tab.getD i []).length = m - i
theorem ev_at2 {sums : List (List Int)} {t : Addr} {n i j : Nat} {t1 t2 : TE} (hn : σ[n]? = some (some (.ref t))) (h : RL lstI H t sums) (hi : i < sums.length) (hj : j < (sums.getD i []).length) (e1 : Evl.Ev t1 σ H (.int (i : Int))) (e2 : Evl.Ev t2 σ H (.int (j : Int))) :
    Evl.Ev (tOp (rIxL K) (tOp (rIxL K) (tVar n) t1) t2) σ H (.int ((sums.getD i []).getD j 0)) := by
  have r1 : sums[i]? = some (sums.getD i []) := by
    rw [List.getD_eq_getElem?_getD, List.getElem?_eq_getElem hi]
    rfl
  have r2 : (sums.getD i [])[j]? = some ((sums.getD i []).getD j 0) := by
    rw [List.getD_eq_getElem?_getD (i := j), List.getElem?_eq_getElem hj]
    rfl
  obtain ⟨y, hy, ey⟩ := ev_rlIx (K := K) (Evl.ev_var hn) h r1 e1
  obtain ⟨yp, rfl, hyp⟩ := hy
  exact Evl.ev_op ey e2 (Evl.rv_ixL (SqL.of hyp) (atI_nat (by rw [List.getElem?_map, r2]; rfl)))
theorem q_forRC {ta : TA} {i j c : Int} {n k : Nat} {tb tz : TS} {D : Ends} (h : Evl.EvA ta σ H [.int i, .int j, .int c]) (hR : RgC i j c n) (Pv : Nat → L2.St → Hp → Prop) (h0 : ∀ H1, Evl.Ex H H1 → Pv 0 σ H1)
    (hs : ∀ u σ' H', u < n → Pv u σ' H' → tb { D with nx := Pv (u + 1), ct := Pv (u + 1), bk := tz D } (σ'.set k (some (.int (i + (u : Nat) * c)))) H') (hd : ∀ σ' H', Pv n σ' H' → tz D σ' H') : tSeq (tFor (iRng3 ta) (gName k) tb) tz D σ H := by
  have z : tFor (iRng3 ta) (gName k) tb { D with nx := tz D } σ H := by
    refine h H (Evl.Ex.refl H) _ fun H1 e1 => ⟨i, j, c, n, rfl, hR, for_it (walk_rangeC (lo := i) (c := c) (n := n)) Pv (h0 H1 e1) (fun _ _ _ _ _ => trivial) (fun u x σ' H' H2 hi q y => ?_) hd⟩
    obtain ⟨rfl, rfl⟩ := y
    exact hs u σ' _ hi q
  exact z
theorem el_lcRg1 {ta : TA} {te : TE} {n : Nat} {k : Nat} {vs : List Nat} {f : Nat → Int} (h : Evl.EvA ta σ H [.int (n : Int)]) (hn : n ≤ 40000) (hw : ∀ x, wipe ((wipe σ vs).set k (some x)) vs = wipe σ vs)
    (he : ∀ u, u < n → ∀ H1, Evl.Ex H H1 → Evl.Ev te ((wipe σ vs).set k (some (.int (u : Nat)))) H1 (.int (f u))) : Evl.EvL (tLc (iRng1 ta) (gName k) tYes te vs) σ H (((List.range n).map f).map V.int) := by
  rw [List.map_map]
  refine el_ofRL (g := fun u => V.int (f u)) fun H1 e Q q => h H1 e _ fun H2 e1 => ⟨n, rfl, by omega, by omega, fun Dl hD => ?_⟩
  have hf : (List.range n).filter (fun _ => true) = List.range n := List.filter_eq_self.mpr fun _ _ => rfl
  refine lc_rel (H := H2) (walk_range (lo := 0) (n := (n : Int).toNat)) (zs := List.range n) (by simp) (fun H3 e2 => trivial) (fun _ => true) (fun u v _ => v = V.int (f u)) (val_m fun u => V.int (f u)) (by rw [List.length_range]; exact hn) (fun a z x H3 H4 hzi hH hy => ?_) hD fun us H3 e2 h3 hq => q Dl H3 (Evl.fresh_back e1 hD) (e1.trans e2) ⟨us, h3, by rwa [hf] at hq⟩
  obtain ⟨rfl, rfl⟩ := hy
  obtain ⟨k1, k2⟩ := List.getElem?_eq_some_iff.mp hzi
  rw [List.getElem_range] at k2
  rw [List.length_range] at k1
  subst k2
  refine ⟨Evl.Ex.refl _, fun Q' k => ?_⟩
  have z0 : (0 : Int) + ((a : Nat) : Int) = (a : Int) := Int.zero_add _
  show Q' ((wipe σ vs).set _ (some (.int (0 + (a : Int))))) _
  rw [z0]
  exact k _ (hw _) et_yes fun _ => en_int (he a k1 H2 (e.trans e1))
theorem el_endRow {sums : List (List Int)} {t a : Addr} {n0 : V} {many lower : Nat} {v5 v6 : Option V} (h : RL lstI H t sums) (hs : ShapeE (many + 1) sums) (hm : many ≤ 1000) (hl : lower < many) :
    Evl.EvL (tLc (iRng1 (tCons (tOp (rI0 fun i j => .int (i - j)) (tVar 2) (tVar 4)) tNil)) (gName 6) tYes (tOp (rI0 fun i j => .int (i + j)) (tOp (rIxL K) (tOp (rIxL K) (tVar 3) (tOp (rI0 fun i j => .int (i + j)) (tVar 6) (tC (.int 1)))) (tVar 4)) (tOp (rIxL K) (tOp (rIxL K) (tVar 3) (tOp (rI0 fun i j => .int (i + j)) (tVar 4) (tC (.int 1)))) (tVar 6))) [6])
      [some n0, some (.ref a), some (.int (many : Int)), some (.ref t), some (.int (lower : Int)), v5, v6] H ((endRow sums many lower).map V.int) := by
  obtain ⟨s1, s2⟩ := hs
  refine el_lcRg1 (n := many - lower) (Evl.ea_cons (Evl.ev_is (Evl.ev_op (Evl.ev_var rfl) (Evl.ev_var rfl) Evl.rv_I0) (by rw [Int.ofNat_sub (Nat.le_of_lt hl)])) Evl.ea_nil) (by omega) (fun _ => rfl) fun u hu H1 e1 => ?_
  have a1 := s2 (u + 1) (by omega)
  have a2 := s2 (lower + 1) (by omega)
  exact Evl.ev_op (ev_at2 rfl (h.ex lstI_e e1) (i := u + 1) (j := lower) (by omega) (by omega) (Evl.ev_is (Evl.ev_op (Evl.ev_var rfl) Evl.ev_c Evl.rv_I0) (by simp)) (Evl.ev_var rfl)) (ev_at2 rfl (h.ex lstI_e e1) (i := lower + 1) (j := u) (by omega) (by omega) (Evl.ev_is (Evl.ev_op (Evl.ev_var rfl) Evl.ev_c Evl.rv_I0) (by simp)) (Evl.ev_var rfl)) Evl.rv_I0
theorem shape_step (tab : List (List Int)) (m : Nat) : ShapeE m (endStep tab m) := by
  unfold ShapeE endStep
  refine ⟨by simp, fun i hi => ?_⟩
  rw [List.getD_eq_getElem?_getD, List.getElem?_map, List.getElem?_range hi]
  show (endRow _ m i).length = _
  unfold endRow
  simp
theorem shape_sums {tab : List (List Int)} {m : Nat} (h : ShapeE m tab) : ShapeE m (tab.map (accs 0)) := by
  obtain ⟨h1, h2⟩ := h
  refine ⟨by rw [List.length_map]; exact h1, fun i hi => ?_⟩
  rw [← h2 i hi, List.getD_eq_getElem?_getD, List.getD_eq_getElem?_getD, List.getElem?_map, List.getElem?_eq_getElem (by omega)]
  exact accs_len _ _
theorem shape_last (n : Nat) : ∀ k, k < n → ShapeE (n - k) (lastE n k)
  | 0, h => by
    unfold ShapeE lastE
    refine ⟨by simp, fun i hi => ?_⟩
    rw [List.getD_eq_getElem?_getD, List.getElem?_map, List.getElem?_range (by omega)]
    simp
  | k + 1, h => by
    have z := shape_step (lastE n k) (n - 1 - k)
    rw [show n - (k + 1) = n - 1 - k by omega]
    exact z
/-- a table -/
def tabR (tab : List (List Int)) (v : V) (H : Hp) : Prop := ∃ q, v = .ref q ∧ RL lstI H q tab
theorem tabR_e : MonoE tabR := fun _ _ _ _ e ⟨q, h1, h2⟩ => ⟨q, h1, h2.ex lstI_e e⟩
abbrev KE1 (D : Addr) (tab : List (List Int)) (v : V) (H : Hp) : Prop := tabR tab v (hide D H)
theorem ke_of {D q : Addr} {H : Hp} {ys : List V} {tab : List (List Int)} (hD : H D = some (.lst ys)) (hn : ys = [] ∨ ∃ b, V.ref b ∈ ys) (h0 : ys = [] → ∀ r ∈ tab, r ≠ []) (nq : q ≠ D) (h : RL lstI H q tab) : tabR tab (.ref q) (hide D H) := by
  obtain ⟨zs, h1, h2⟩ := h
  refine ⟨q, rfl, zs, hide_of nq h1, ?_⟩
  clear h1
  induction h2 with
  | nil => exact .nil
  | cons h t ih =>
    rename_i y r ys' tab'
    obtain ⟨p, e, hp⟩ := h
    refine .cons ⟨p, e, hide_of (fun z => ?_) hp⟩ (ih fun e r hr => h0 e r (List.mem_cons_of_mem _ hr))
    subst z
    have e2 : ys = r.map V.int := by
      have := hp.symm.trans hD
      injection this with this
      injection this with this
      exact this.symm
    rcases hn with hn | ⟨b, hb⟩
    · have hr := h0 hn r List.mem_cons_self
      rw [hn] at e2
      exact hr (List.map_eq_nil_iff.mp e2.symm)
    · rw [e2] at hb
      obtain ⟨_, _, z⟩ := List.mem_map.mp hb
      cases z
theorem pr_rev {α β : Type} {R : α → β → Prop} {xs : List α} {us : List β} (h : Paired R xs us) : Paired R xs.reverse us.reverse := by
  induction h with
  | nil => exact .nil
  | cons h t ih =>
    rw [List.reverse_cons, List.reverse_cons]
    exact pr_app ih (.cons h .nil)
theorem q_asgTab {te : TE} {rows : List (List Int)} {i : Nat} {D : Ends} {tz : TS} (h : EvRL te σ H lstI rows) (k : ∀ a q H1, H a = none → Evl.Ex H H1 → H1 a = some (.lst [.ref q]) → tabR rows (.ref q) (hide a H1) → tz D (σ.set i (some (.ref a))) H1) :
    tSeq (tAsg (tLst (tCons te tNil)) (gName i)) tz D σ H :=
  h H (Evl.Ex.refl H) (fun x H1 => [x].length ≤ sizeLine ∧ ∀ p, H1 p = none → tz D (σ.set i (some (.ref p))) (upd H1 p (.lst [x]))) fun q H1 nq e1 hq => ⟨by show 1 ≤ sizeLine; unfold sizeLine; decide, fun a na => k a q _ (Evl.fresh_back e1 na) (e1.trans (Evl.Ex.new na)) upd_same
    (tabR_e rows (.ref q) H1 _ (fun b o hb => hide_of (ne_no hb na) (Evl.Ex.new na _ _ hb)) ⟨q, rfl, hq⟩)⟩
theorem s_appRL {te : TE} {rows : List (List Int)} {a : Addr} {n : Nat} {ys : List V} {D : Ends} (hn : σ[n]? = some (some (.ref a))) (ha : H a = some (.lst ys)) (hlen : ys.length < sizeLine) (h : EvRL te σ H lstI rows)
    (k : ∀ q H1, H q = none → Evl.Ex H H1 → RL lstI H1 q rows → D.nx σ (upd H1 a (.lst (ys ++ [.ref q])))) : tDrop (tBM K "list" rAppend (tVar n) (tCons te tNil)) D σ H :=
  ⟨.ref a, hn, .inl ⟨rfl, _, SqL.of ha⟩, h H (Evl.Ex.refl H) (fun x H' => rAppend (.ref a) [x] H' fun _ H1 => D.nx σ H1) fun q H1 nq e1 hq => ⟨a, ys, .ref q, rfl, rfl, e1 _ _ ha, hlen, k q H1 nq e1 hq⟩⟩
theorem pr_imp {α β : Type} {R S : α → β → Prop} {xs : List α} {us : List β} (h : Paired R xs us) (k : ∀ x u, R x u → S x u) : Paired S xs us := by
  induction h with
  | nil => exact .nil
  | cons h t ih => exact .cons (k _ _ h) ih
theorem pr_last {α : Type} {R : V → α → Prop} {ys : List V} {us : List α} {u : α} (h : Paired R ys (us ++ [u])) : ∃ xs v, ys = xs ++ [v] ∧ R v u := by
  induction us generalizing ys with
  | nil =>
    cases h with
    | cons h t =>
      cases t
      exact ⟨[], _, rfl, h⟩
  | cons w us ih =>
    cases h with
    | cons h t =>
      obtain ⟨xs, v, e, hv⟩ := ih t
      exact ⟨_ :: xs, v, by rw [e]; rfl, hv⟩
def spEnds : Sp := fun vs H Q _ => ∃ n : Nat, vs = [.int (n : Int)] ∧ 1 ≤ n ∧ n ≤ 200 ∧ ∀ H' p, Evl.Ex H H' → H p = none → RL tabR H' p (endsF n (n - 1)).reverse → Q (.ref p) H'
end
end GL
set_option Elab.async false
set_option linter.all false
set_option maxRecDepth 100000
set_option maxHeartbeats 8000000
/-! # triples of paths -/
namespace GL
open PySem PySem.Spec PyProof.Rows L2 Geo Rel AcR CbR
def cpF (e n : Int) : Int := if 0 ≤ e ∧ 0 ≤ n then cb (e + n) e else 0
def startsT : List (Int × Int) := [(0, 2), (1, 1), (2, 0)]
def endsT (e n ri lo : Int) : List (Int × Int) := [(e - ri + 1, n + 1), (e + 1, n + 1), (e + 1, n - lo + 1)]
def pathsT (ends : List (Int × Int)) (s : Int × Int) : List Int := ends.map fun z => cpF (z.1 - s.1) (z.2 - s.2)
def detT (u0 u1 u2 m0 m1 m2 l0 l1 l2 : Int) : Int := u0 * (m1 * l2 - m2 * l1) - u1 * (m0 * l2 - m2 * l0) + u2 * (m0 * l1 - m1 * l0)
def cp2 (a b s : Int × Int) : Int := cpF (a.1 - s.1) (a.2 - s.2)
def tripF (e n ri lo : Int) : Int := if e = 0 ∨ n = 0 then (if ri - 1 = e ∧ lo - 1 = n then 1 else 0) else
  detT (cpF (e - ri + 1 - 0) (n + 1 - 2)) (cpF (e + 1 - 0) (n + 1 - 2)) (cpF (e + 1 - 0) (n - lo + 1 - 2)) (cpF (e - ri + 1 - 1) (n + 1 - 1)) (cpF (e + 1 - 1) (n + 1 - 1)) (cpF (e + 1 - 1) (n - lo + 1 - 1)) (cpF (e - ri + 1 - 2) (n + 1 - 0)) (cpF (e + 1 - 2) (n + 1 - 0)) (cpF (e + 1 - 2) (n - lo + 1 - 0))
theorem cpF_log {e n : Int} (h : e + n ≤ 1000) : (cpF e n).natAbs < 2 ^ 10000 := by
  unfold cpF
  by_cases c : 0 ≤ e ∧ 0 ≤ n
  · rw [if_pos c]
    exact cb_log c.1 (by omega) h
  · rw [if_neg c]
    exact Nat.two_pow_pos _
section
variable {P : Program} {w : World} {K : PySem.W.Frag} {mg : Str → Option Value} {base : Heap} {σ : L2.St} {H : Hp}
/-- an expression whose value stands in R -/
def EvR (te : TE) (σ : L2.St) (H : Hp) (R : V → Hp → Prop) : Prop := ∀ H1, Evl.Ex H H1 → ∀ Q : VK, (∀ v H2, Evl.Ex H1 H2 → R v H2 → Q v H2) → te σ H1 Q
def EvAR {α : Type} (ta : TA) (σ : L2.St) (H : Hp) (R : α → V → Hp → Prop) (zs : List α) : Prop := ∀ H1, Evl.Ex H H1 → ∀ Q : List V → Hp → Prop, (∀ vs H2, Evl.Ex H1 H2 → Paired (fun y z => R z y H2) vs zs → Q vs H2) → ta σ H1 Q
theorem ear_nil {α : Type} {R : α → V → Hp → Prop} : EvAR tNil σ H R [] := fun H1 _ Q q => q [] H1 (Evl.Ex.refl _) .nil
theorem ear_cons {α : Type} {R : α → V → Hp → Prop} (m : MonoE R) {te : TE} {ta : TA} {z : α} {zs : List α} (h : EvR te σ H (R z)) (t : EvAR ta σ H R zs) : EvAR (tCons te ta) σ H R (z :: zs) := fun H1 e Q q =>
  h H1 e _ fun v H2 e2 hv => t H2 (e.trans e2) _ fun vs H3 e3 hp => q (v :: vs) H3 (e2.trans e3) (.cons (m z v _ _ e3 hv) hp)
theorem er_lst {α : Type} {R : α → V → Hp → Prop} (m : MonoE R) {ta : TA} {zs : List α} (h : EvAR ta σ H R zs) (hz : zs.length ≤ 100000) : EvRL (tLst ta) σ H R zs := fun H1 e Q q =>
  h H1 e (fun xs H2 => xs.length ≤ sizeLine ∧ ∀ p, H2 p = none → Q (.ref p) (upd H2 p (.lst xs))) fun vs H2 e2 hp => ⟨by have := pr_len hp; unfold sizeLine; omega, fun p np => q p _ (Evl.fresh_back e2 np) (e2.trans (Evl.Ex.new np)) ⟨vs, upd_same, pr_e m (Evl.Ex.new np) hp⟩⟩
theorem evr_tupI {ta : TA} {ns : List Int} (h : Evl.EvA ta σ H (ns.map V.int)) (hl : ns.length ≤ 1000) : EvR (tTup ta) σ H (tupI ns) := fun H1 e Q q => (Evl.eu_tup h (by rw [List.length_map]; omega)) H1 e Q fun p H2 np e2 hp => q (.ref p) H2 e2 ⟨p, rfl, hp⟩
abbrev prI (z : Int × Int) : V → Hp → Prop := tupI [z.1, z.2]
theorem prI_e : MonoE prI := fun z v H H' e h => tupI_e [z.1, z.2] v H H' e h
theorem evr_pr {t1 t2 : TE} {a b : Int} (h1 : Evl.Ev t1 σ H (.int a)) (h2 : Evl.Ev t2 σ H (.int b)) : EvR (tTup (tCons t1 (tCons t2 tNil))) σ H (prI (a, b)) := evr_tupI (ns := [a, b]) (Evl.ea_cons h1 (Evl.ea_cons h2 Evl.ea_nil)) (by show 2 ≤ 1000; decide)
theorem ev_mulB {ta tb : TE} {i j : Int} (hi : Evl.Ev ta σ H (.int i)) (hj : Evl.Ev tb σ H (.int j)) (ha : i.natAbs < 2 ^ 10000) (hb : j.natAbs < 2 ^ 20001) : Evl.Ev (tOp (rI CMulW fun i j => .int (i * j)) ta tb) σ H (.int (i * j)) :=
  ev_mulW hi hj ha hb (by decide) (by decide) (by decide)
theorem mul_log {i j : Int} (ha : i.natAbs < 2 ^ 10000) (hb : j.natAbs < 2 ^ 10000) : (i * j).natAbs < 2 ^ 20000 := by
  rw [Int.natAbs_mul, show (2 : Nat) ^ 20000 = 2 ^ 10000 * 2 ^ 10000 by rw [← Nat.pow_add]]
  exact Nat.mul_lt_mul'' ha hb
theorem sub_log {i j : Int} (ha : i.natAbs < 2 ^ 20000) (hb : j.natAbs < 2 ^ 20000) : (i - j).natAbs < 2 ^ 20001 := by
  have e : (2 : Nat) ^ 20001 = 2 ^ 20000 + 2 ^ 20000 := by rw [Nat.pow_succ, Nat.mul_two]
  have := Int.natAbs_sub_le i j
  generalize (2 : Nat) ^ 20000 = n at *
  omega
theorem ev_minor {tm tl t1 t2 : TE} {m1 l2 m2 l1 : Int} (h1 : Evl.Ev tm σ H (.int m1)) (h2 : Evl.Ev tl σ H (.int l2)) (h3 : Evl.Ev t1 σ H (.int m2)) (h4 : Evl.Ev t2 σ H (.int l1)) (b1 : m1.natAbs < 2 ^ 10000) (b2 : l2.natAbs < 2 ^ 10000) (b3 : m2.natAbs < 2 ^ 10000) (b4 : l1.natAbs < 2 ^ 10000) :
    Evl.Ev (tOp (rI0 fun i j => .int (i - j)) (tOp (rI CMulW fun i j => .int (i * j)) tm tl) (tOp (rI CMulW fun i j => .int (i * j)) t1 t2)) σ H (.int (m1 * l2 - m2 * l1)) :=
  Evl.ev_op (ev_mulW h1 h2 b1 b2 (by decide) (by decide) (by decide)) (ev_mulW h3 h4 b3 b4 (by decide) (by decide) (by decide)) Evl.rv_I0
theorem ev_ix3 {n : Nat} {a : Addr} {ns : List Int} {i z : Int} (hn : σ[n]? = some (some (.ref a))) (ha : H a = some (.lst (ns.map V.int))) (hi : atI (ns.map V.int) i = some (.int z)) : Evl.Ev (tOp (rIxL K) (tVar n) (tC (.int i))) σ H (.int z) :=
  Evl.ev_op (Evl.ev_var hn) Evl.ev_c (Evl.rv_ixL (SqL.of ha) hi)
theorem pi_listK {X : Cx} {tg l : Expr} {tl : TE} (e : X.K = K) (hl : PE X l tl) : PI X tg l (iList K tl) := e ▸ pi_list hl
theorem pg_tupK {X : Cx} {es : List Expr} {k : Nat} {t : TGs} {n : Nat} {pos : Pos} (e : X.K = K) (hc : X.calm = true) (h : PGs X es t)
    (hn : (assignEach es X.env).length = n := by rfl) (hst : (assignEach es X.env).findIdx? (·.1) = none := by rfl) : PG X (.Tuple es k pos) (gTup K n t) := e ▸ pg_tup hc h hn hst
theorem q_unp3 {te : TE} {r1 r2 r3 : List Int} {i j l : Nat} {D : Ends} {tz : TS} (h : EvRL te σ H lstI [r1, r2, r3]) (k : ∀ a b c H1, Evl.Ex H H1 → H1 a = some (.lst (r1.map V.int)) → H1 b = some (.lst (r2.map V.int)) → H1 c = some (.lst (r3.map V.int)) → tz D (((σ.set i (some (.ref a))).set j (some (.ref b))).set l (some (.ref c))) H1) :
    tSeq (tAsg te (gLst K 3 (gCons (gName i) (gCons (gName j) (gCons (gName l) gNil))))) tz D σ H := by
  refine h H (Evl.Ex.refl _) _ fun p H4 np e4 hp => ?_
  obtain ⟨ys, hys, hpr⟩ := hp
  cases hpr with
  | cons x1 hpr =>
    cases hpr with
    | cons x2 hpr =>
      cases hpr with
      | cons x3 hpr =>
        cases hpr
        obtain ⟨pu, rfl, hu⟩ := x1
        obtain ⟨pm, rfl, hm⟩ := x2
        obtain ⟨pl, rfl, hl⟩ := x3
        exact ⟨p, _, rfl, SqL.of hys, rfl, _, _, rfl, _, _, rfl, _, _, rfl, rfl, k pu pm pl H4 e4 hu hm hl⟩
def spPaths : Sp := fun vs H Q _ => ∃ e n : Int, vs = [.int e, .int n] ∧ e + n ≤ 1000 ∧ ∀ H', Evl.Ex H H' → Q (.int (cpF e n)) H'
abbrev scTr : Scope := { kind := .function, names := [(".0", .local), ("x0", .cell), ("y0", .cell), ("ends", .cell)], isGenerator := false, isCoroutine := false }
def spTrip : Sp := fun vs H Q _ => ∃ e n ri lo : Int, vs = [.int e, .int n, .int ri, .int lo] ∧ (0 ≤ e ∧ 0 ≤ n ∧ e + n ≤ 200 ∧ 1 ≤ ri ∧ 1 ≤ lo) ∧ ∀ H', Evl.Ex H H' → Q (.int (tripF e n ri lo)) H'
end
end GL
set_option Elab.async false
set_option linter.all false
set_option maxRecDepth 100000
set_option maxHeartbeats 8000000
/-! # count_borders -/
namespace GL
open PySem PySem.Spec PyProof.Rows L2 Geo Rel
def bordersF (n : Nat) (ri lo : Int) : Int := if ri < 1 ∨ lo < 1 ∨ ri + lo > n + 1 then 0 else ((List.range n).map fun e : Nat => tripF (e : Int) ((n : Int) - 1 - (e : Int)) ri lo).sum
section
variable {P : Program} {w : World} {K : PySem.W.Frag} {mg : Str → Option Value} {base : Heap} {σ : L2.St} {H : Hp}
def spBord : Sp := fun vs H Q _ => ∃ (n : Nat) (ri lo : Int), vs = [.int (n : Int), .int ri, .int lo] ∧ 1 ≤ n ∧ n ≤ 60 ∧ ∀ H', Evl.Ex H H' → Q (.int (bordersF n ri lo)) H'
theorem ev_sumN {te : TE} {ns : List Int} (h : Evl.EvL te σ H (ns.map V.int)) : Evl.Ev (tCB (rSum K) (tCons te tNil)) σ H (.int ns.sum) := fun H1 e Q q => h H1 e (fun x H' => rSum K [x] H' Q) fun p H2 np e2 hp => ⟨p, _, rfl, SqL.of hp, q H2 e2⟩
end
end GL
set_option Elab.async false
set_option linter.all false
set_option maxRecDepth 100000
set_option maxHeartbeats 8000000
/-! # plan_index -/
namespace GL
open PySem PySem.Spec PyProof.Rows L2 Geo Rel
section
variable {P : Program} {w : World} {K : PySem.W.Frag} {mg : Str → Option Value} {base : Heap} {σ : L2.St} {H : Hp}
theorem el_lcBr {f : Int × Int → Bool} {v : Int × Int → Int} {us : List (Int × Int)} {tl te : TE} {t : TT} {j k : Nat} {vs : List Nat} (h : EvRL tl σ H (fun z : Int × Int => tupI [z.1, z.2]) us) (hz : us.length ≤ 40000) (hw : ∀ x y, wipe (((wipe σ vs).set j (some x)).set k (some y)) vs = wipe σ vs)
    (ht : ∀ u ∈ us, ∀ H1, Evl.EvT t (((wipe σ vs).set j (some (.int u.1))).set k (some (.int u.2))) H1 (f u)) (he : ∀ u ∈ us, ∀ H1, Evl.Ev te (((wipe σ vs).set j (some (.int u.1))).set k (some (.int u.2))) H1 (.int (v u))) :
    Evl.EvL (tLc (iList K tl) (gTup K 2 (gCons (gName j) (gCons (gName k) gNil))) t te vs) σ H (((us.filter f).map v).map V.int) := by
  rw [List.map_map]
  refine el_ofRL (g := fun u => V.int (v u)) fun H1 e Q q => h H1 e _ fun p H2 np e2 hp => ?_
  obtain ⟨ys, hl, hp⟩ := hp
  refine ⟨p, rfl, ⟨ys, Evl.sq_of hl⟩, fun Dl hD => ?_⟩
  refine lc_rel (H := H2) (walk_list (K := K) (a := p) (xs := ys)) (pr_len hp) (fun H3 e3 => Evl.sq_of (e3 _ _ hl)) f (fun u w _ => w = V.int (v u)) (val_m fun u => V.int (v u)) hz (fun i z x H3 H4 hzi hH hy => ?_) hD fun xs H3 e3 h3 hq => q Dl H3 (Evl.fresh_back e2 hD) (e2.trans e3) ⟨xs, h3, hq⟩
  obtain ⟨rfl, hy⟩ := hy
  obtain ⟨y, hy2, hr⟩ := pr_at hp hzi
  obtain rfl : y = x := Option.some.inj (hy2.symm.trans hy)
  obtain ⟨T, rfl, hT⟩ := hr
  have hm := List.mem_of_getElem? hzi
  exact ⟨Evl.Ex.refl _, fun Q' k => g_tup2v (hH _ _ hT) (k _ (hw _ _) (ht z hm H2) fun _ => en_int (he z hm H2))⟩
/-- for n, t in zip(numbers, tables), where nothing that was there is changed -/
theorem q_forZ {t1 t2 : TE} {ns : List Int} {tabs : List (List (List Int))} {g : TG} {tb tz : TS} {D : Ends} (h1 : Evl.EvL t1 σ H (ns.map V.int)) (h2 : ∀ H1, Evl.Ex H H1 → EvRL t2 σ H1 tabR tabs) (Pv : Nat → L2.St → Prop) (h0 : Pv 0 σ)
    (hs : ∀ i n tab y T σ' H', ns[i]? = some n → tabs[i]? = some tab → Evl.Ex H H' → tabR tab y H' → Pv i σ' → H' T = none → ∀ N : L2.St → Hp → Prop, (∀ σ2 H2, Evl.Ex H' H2 → Pv (i + 1) σ2 → N σ2 H2) → g (.ref T) σ' (upd H' T (.tup [.int n, y])) fun σ2 H2 => tb { D with nx := N, ct := N, bk := tz D } σ2 H2)
    (hd : ∀ σ' H', Evl.Ex H H' → Pv (min ns.length tabs.length) σ' → tz D σ' H') : tSeq (tFor (iZip K (tCons t1 (tCons t2 tNil))) g tb) tz D σ H := by
  have z : tFor (iZip K (tCons t1 (tCons t2 tNil))) g tb { D with nx := tz D } σ H := by
    refine h1 H (Evl.Ex.refl H) (fun x H1 => t2 σ H1 fun y H2 => _) fun a H1 na e1 ha => h2 H1 e1 H1 (Evl.Ex.refl H1) _ fun b H2 nb e2 hb => ?_
    obtain ⟨ys, hb1, hb2⟩ := hb
    have hlen := pr_len hb2
    refine ⟨a, b, ns.map V.int, ys, rfl, SqL.of (e2 _ _ ha), SqL.of hb1, for_it (walk_zip (K := K) (a := a) (b := b) (xs := ns.map V.int) (ys := ys) rfl) (fun i σ' H' => Evl.Ex H2 H' ∧ Pv i σ') ⟨Evl.Ex.refl _, h0⟩ (fun i σ' H' hi q => ⟨SqL.of ((e2.trans q.1) _ _ ha), SqL.of (q.1 _ _ hb1)⟩) (fun i x σ' H' H3 hi q y => ?_) (fun σ' H' q => ?_)⟩
    · obtain ⟨T, x1, x2, rfl, nT, rfl, k1, k2⟩ := y
      dsimp only at k1 k2
      rw [List.getElem?_map] at k1
      obtain ⟨n, hn, rfl⟩ := Option.map_eq_some_iff.mp k1
      obtain ⟨tab, htab, hr⟩ := pr_at' hb2 k2
      exact hs i n tab x2 T σ' H' hn htab ((e1.trans e2).trans q.1) (tabR_e _ _ _ _ q.1 hr) q.2 nT _ fun σ2 H4 e4 p => ⟨q.1.trans e4, p⟩
    · rw [List.length_map, hlen] at q
      exact hd σ' H' ((e1.trans e2).trans q.1) q.2
  exact z
theorem pr_drop {α β : Type} {R : α → β → Prop} {xs : List α} {us : List β} (k : Nat) (h : Paired R xs us) : Paired R (xs.drop k) (us.drop k) := by
  induction h generalizing k with
  | nil => simp; exact .nil
  | cons h t ih =>
    cases k with
    | zero => exact .cons h t
    | succ k => exact ih k
theorem cut_from (xs : List V) (h : 1 ≤ xs.length) : cutV xs (some 1) none = xs.drop 1 := by
  have e1 : HT.sIx xs.length 0 (some 1) = 1 := by
    unfold HT.sIx
    simp
    omega
  have e2 : HT.sIx xs.length xs.length none = xs.length := by
    unfold HT.sIx
    simp
  unfold cutV
  rw [e1, e2]
  exact List.take_of_length_le (by rw [List.length_drop]; exact Nat.le_refl _)
theorem er_drop1 {te : TE} {tabs : List (List (List Int))} (h : EvRL te σ H tabR tabs) (h1 : 1 ≤ tabs.length) : EvRL (tSl (rSlL K) te (tPart (tC (.int 1))) tNoPart) σ H tabR (tabs.drop 1) := fun H1 e Q q =>
  h H1 e (fun x H2 => ∃ i : Int, V.int 1 = .int i ∧ rSlL K x (some i) none H2 Q) fun p H2 np e2 hp => by
    obtain ⟨ys, h3, h4⟩ := hp
    have hl := pr_len h4
    exact ⟨1, rfl, p, ys, rfl, SqL.of h3, fun r nr => q r _ (Evl.fresh_back e2 nr) (e2.trans (Evl.Ex.new nr)) ⟨_, by rw [upd_same, cut_from ys (by omega)], pr_e tabR_e (Evl.Ex.new nr) (pr_drop 1 h4)⟩⟩
theorem q_as2 {c : V} {i j : Nat} {tz : TS} {D : Ends} (k : tz D ((σ.set i (some c)).set j (some c)) H) : tSeq (tAsg2 (tC c) (gName i) (gName j)) tz D σ H := k
theorem ev_sumL {te : TE} {ns : List Int} (h : Evl.EvL te σ H (ns.map V.int)) : Evl.Ev (tCB (rSum K) (tCons te tNil)) σ H (.int ns.sum) := fun H1 e Q q => h H1 e (fun x H' => rSum K [x] H' Q) fun p H2 np e2 hp => ⟨p, _, rfl, SqL.of hp, q H2 e2⟩
/-- the index so far, and the borders -/
def indexS (st : Int × Int × Int) (u : Int × List (List Int)) : Int × Int × Int :=
  (st.1 + (((branchesF u.2 st.2.1 st.2.2).filter fun z => decide (z.1 < u.1)).map fun z => z.2).sum, growB st.2.1 st.2.2 u.1)
def okS (st : Int × Int × Int) (u : Int × List (List Int)) : Prop := (0 ≤ st.2.1 ∧ st.2.1 ≤ 1000 ∧ 0 ≤ st.2.2 ∧ st.2.2 ≤ 1000) ∧ fitsF u.2 st.2.1 st.2.2
def okI : Int × Int × Int → List (Int × List (List Int)) → Prop
  | _, [] => True
  | st, u :: us => okS st u ∧ okI (indexS st u) us
def pairsI (plan : List Int) : List (Int × List (List Int)) := (codeF plan).zip ((endsF plan.length (plan.length - 1)).reverse.drop 1)
def indexF (plan : List Int) : Int := ((pairsI plan).foldl indexS (0, 1, 1)).1
def spIndex (tb : Addr) : Sp := fun vs H Q _ => ∃ (l : Addr) (plan : List Int), vs = [.ref l] ∧ H l = some (.lst (plan.map V.int)) ∧ rowB plan = true ∧ patB plan = true ∧ PlanIn plan ∧ H tb = some (GnR.TabO tb) ∧ (1 ≤ plan.length ∧ plan.length ≤ 60) ∧ okI (0, 1, 1) (pairsI plan) ∧ ∀ H', Evl.Ex H H' → Q (.int (indexF plan)) H'
end
end GL
set_option Elab.async false
set_option linter.all false
set_option maxRecDepth 100000
set_option maxHeartbeats 8000000
/-! # nth_plan -/
namespace GL
open PySem PySem.Spec PyProof.Rows L2 Geo Rel
section
variable {P : Program} {w : World} {K : PySem.W.Frag} {mg : Str → Option Value} {base : Heap} {σ : L2.St} {H : Hp}
def pickF : Int → List (Int × Int) → Option (Int × Int)
  | _, [] => none
  | i, b :: bs => if i ≥ b.2 then pickF (i - b.2) bs else some (i, b.1)
def runN : Int → List Int → Int → Int → List (List (List Int)) → List Int → Prop
  | _, code, _, _, [], res => code = res
  | i, code, lo, ri, t :: ts, res => (0 ≤ lo ∧ lo ≤ 1000 ∧ 0 ≤ ri ∧ ri ≤ 1000) ∧ fitsF t lo ri ∧ ∃ i' n, pickF i (branchesF t lo ri) = some (i', n) ∧ runN i' (code ++ [n]) (growB lo ri n).1 (growB lo ri n).2 ts res
def spNth : Sp := fun vs H Q _ => ∃ (n : Nat) (idx : Int) (code plan : List Int), vs = [.int (n : Int), .int idx] ∧ (1 ≤ n ∧ n ≤ 60) ∧ (0 ≤ idx ∧ idx < ((lastE n (n - 1)).getD 0 []).getD 0 0) ∧ runN idx [] 1 1 ((endsF n (n - 1)).reverse.drop 1) code ∧ codePlanF code = some plan ∧
  ∀ H' p, Evl.Ex H H' → H p = none → H' p = some (.lst (plan.map V.int)) → Q (.ref p) H'
theorem ev_br {us : List (Int × Int)} {b : Addr} {n m k j : Nat} {z : Int × Int} {c : Int} (hn : σ[n]? = some (some (.ref b))) (hm : σ[m]? = some (some (.int (k : Int)))) (h : RL (fun z : Int × Int => tupI [z.1, z.2]) H b us) (hz : us[k]? = some z) (hj : [z.1, z.2][j]? = some c) :
    Evl.Ev (tOp (rIxT K) (tOp (rIxL K) (tVar n) (tVar m)) (tC (.int (j : Int)))) σ H (.int c) := by
  obtain ⟨y, hy, ey⟩ := ev_rlIx (K := K) (Evl.ev_var hn) h hz (Evl.ev_var hm)
  obtain ⟨T, rfl, hT⟩ := hy
  exact Evl.ev_op ey Evl.ev_c (Evl.rv_ixT (SqT.of hT) (atI_nat (by rw [List.getElem?_map, hj]; rfl)))
end
end GL
set_option Elab.async false
set_option linter.all false
set_option maxRecDepth 100000
set_option maxHeartbeats 8000000
/-! # what the defs want, as tests -/
namespace GL
open PySem PySem.Spec PyProof.Rows L2 Geo Rel
instance (tab : List (List Int)) (lo ri : Int) : Decidable (fitsF tab lo ri) := by unfold fitsF; infer_instance
instance (st : Int × Int × Int) (u : Int × List (List Int)) : Decidable (okS st u) := by unfold okS; infer_instance
def okB : Int × Int × Int → List (Int × List (List Int)) → Bool
  | _, [] => true
  | st, u :: us => decide (okS st u) && okB (indexS st u) us
theorem okB_ok : ∀ (us : List (Int × List (List Int))) (st : Int × Int × Int), okB st us = true → okI st us
  | [], _, _ => trivial
  | u :: us, st, h => by
    have ⟨h1, h2⟩ := Bool.and_eq_true_iff.mp h
    exact ⟨of_decide_eq_true h1, okB_ok us _ h2⟩
def runB : Int → Int → Int → List (List (List Int)) → List Int → Bool
  | _, _, _, [], rest => decide (rest = [])
  | i, lo, ri, t :: ts, rest => decide (0 ≤ lo ∧ lo ≤ 1000 ∧ 0 ≤ ri ∧ ri ≤ 1000) && decide (fitsF t lo ri) && match pickF i (branchesF t lo ri), rest with
    | some (i', n), r :: rs => decide (r = n) && runB i' (growB lo ri n).1 (growB lo ri n).2 ts rs
    | _, _ => false
theorem runB_ok : ∀ (ts : List (List (List Int))) (i : Int) (code : List Int) (lo ri : Int) (rest : List Int), runB i lo ri ts rest = true → runN i code lo ri ts (code ++ rest)
  | [], i, code, lo, ri, rest, h => by
    have : rest = [] := of_decide_eq_true h
    subst this
    exact (List.append_nil _).symm
  | t :: ts, i, code, lo, ri, rest, h => by
    unfold runB at h
    obtain ⟨h12, h3⟩ := Bool.and_eq_true_iff.mp h
    obtain ⟨h1, h2⟩ := Bool.and_eq_true_iff.mp h12
    cases e : pickF i (branchesF t lo ri) with
    | none => rw [e] at h3; cases h3
    | some x =>
      obtain ⟨i', n⟩ := x
      rw [e] at h3
      cases rest with
      | nil => cases h3
      | cons r rs =>
        obtain ⟨h4, h5⟩ := Bool.and_eq_true_iff.mp h3
        have : r = n := of_decide_eq_true h4
        subst this
        refine ⟨of_decide_eq_true h1, of_decide_eq_true h2, i', r, e, ?_⟩
        have z := runB_ok ts i' (code ++ [r]) _ _ rs h5
        rwa [List.append_assoc] at z
def inB (plan : List Int) : Bool := decide (plan.length ≤ 1000) && (plan.all fun r => decide (0 ≤ r ∧ r < plan.length)) && [leftsF plan, topsF plan, rightsF plan, bottomsF plan].all fun ps => ps.all fun r => decide (0 ≤ r ∧ r ≤ plan.length)
theorem inB_ok {plan : List Int} (h : inB plan = true) : PlanIn plan := by
  obtain ⟨h12, h3⟩ := Bool.and_eq_true_iff.mp h
  obtain ⟨h1, h2⟩ := Bool.and_eq_true_iff.mp h12
  exact ⟨of_decide_eq_true h1, fun r hr => of_decide_eq_true (List.all_eq_true.mp h2 r hr), fun ps hps r hr => of_decide_eq_true (List.all_eq_true.mp (List.all_eq_true.mp h3 ps hps) r hr)⟩
end GL
set_option Elab.async false
set_option linter.all false
set_option maxRecDepth 100000
set_option maxHeartbeats 2000000
/-! # plans without a pattern are plans to the program; every index has a code -/
namespace GL
open PySem PySem.Spec PyProof.Rows L2 Geo Rel DlR Bx
theorem row_of {plan : List Int} {n : Nat} (h : IsPm plan n) (h1 : 1 ≤ n) (h2 : n ≤ 60) : rowB plan = true := by
  unfold rowB
  rw [h.len]
  refine Bool.and_eq_true_iff.mpr ⟨Bool.and_eq_true_iff.mpr ⟨decide_eq_true h1, decide_eq_true h2⟩, List.all_eq_true.mpr fun i hi => decide_eq_true ((h.mem i).mpr ?_)⟩
  have := List.mem_range.mp hi
  omega
/-! ### places -/
theorem set_fold : ∀ (us : List (Nat × Int)) (acc : List Int) (v : Nat), v < acc.length → (∀ u ∈ us, u.2.toNat = v → False) → (us.foldl (fun acc u => acc.set u.2.toNat (u.1 : Int)) acc).getD v 0 = acc.getD v 0
  | [], _, _, _, _ => rfl
  | u :: us, acc, v, hv, h => by
    rw [List.foldl_cons, set_fold us _ v (by rw [List.length_set]; exact hv) fun w hw => h w (List.mem_cons_of_mem _ hw)]
    have hne := h u List.mem_cons_self
    rw [List.getD_eq_getElem?_getD, List.getD_eq_getElem?_getD, List.getElem?_set_ne fun e => hne e]
theorem place_fold : ∀ (us : List (Nat × Int)) (acc : List Int) (i : Nat) (x : Int), (i, x) ∈ us → x.toNat < acc.length → (us.map fun u => u.2.toNat).Nodup → (us.foldl (fun acc u => acc.set u.2.toNat (u.1 : Int)) acc).getD x.toNat 0 = i
  | [], _, _, _, h, _, _ => by cases h
  | u :: us, acc, i, x, h, hx, nd => by
    rw [List.map_cons, List.nodup_cons] at nd
    rw [List.foldl_cons]
    rcases List.mem_cons.mp h with h | h
    · subst h
      rw [set_fold us _ x.toNat (by rw [List.length_set]; exact hx) fun w hw e => nd.1 (by
        have := List.mem_map_of_mem (f := fun u : Nat × Int => u.2.toNat) hw
        rw [e] at this
        exact this)]
      rw [List.getD_eq_getElem?_getD, List.getElem?_set_self hx]
      rfl
    · exact place_fold us _ i x h (by rw [List.length_set]; exact hx) nd.2
theorem enum_snd (row : List Int) : (enumL row).map (fun u : Nat × Int => u.2) = row := by
  unfold enumL
  rw [List.map_map]
  have : ((fun u : Nat × Int => u.2) ∘ fun p : Int × Nat => (p.2, p.1)) = fun p => p.1 := rfl
  rw [this, List.zipIdx_map_fst]
theorem nd_toNat {row : List Int} (nd : row.Nodup) (h0 : ∀ r ∈ row, 0 ≤ r) : (row.map Int.toNat).Nodup := by
  rw [List.Nodup, List.pairwise_map]
  refine List.Pairwise.imp_of_mem ?_ nd
  intro a b ha hb hab e
  have := h0 a ha
  have := h0 b hb
  omega
theorem place_at {row : List Int} {n : Nat} (h : IsPm row n) {i : Nat} (hi : i < row.length) : (placesF row).getD (row[i]).toNat 0 = i := by
  unfold placesF
  have hr := (h.mem row[i]).mp (List.getElem_mem _)
  refine place_fold _ _ i row[i] (mem_enumL (List.getElem?_eq_getElem hi)) (by rw [List.length_map, h.len]; omega) ?_
  have : (enumL row).map (fun u : Nat × Int => u.2.toNat) = row.map Int.toNat := by
    show (enumL row).map (Int.toNat ∘ fun u : Nat × Int => u.2) = _
    rw [← List.map_map, enum_snd]
  rw [this]
  exact nd_toNat h.nd fun r hr => ((h.mem r).mp hr).1
/-- where a number stands -/
theorem has_place {row : List Int} {n : Nat} (h : IsPm row n) {v : Int} (hv : 0 ≤ v ∧ v < n) : ∃ i, ∃ hi : i < row.length, row[i] = v ∧ (placesF row).getD v.toNat 0 = (i : Int) := by
  obtain ⟨i, hi, e⟩ := List.getElem_of_mem ((h.mem v).mpr hv)
  exact ⟨i, hi, e, by rw [← e]; exact place_at h hi⟩
theorem trim_nil (m : Int) : trimF m [] = [] := rfl
/-- what the trim leaves ends in a place from m on -/
theorem trim_end (m : Int) (L : List Int) : trimF m L = [] ∨ ∃ L' z, trimF m L = L' ++ [z] ∧ m ≤ z ∧ ∃ R, L = (L' ++ [z]) ++ R := by
  induction h : L.length generalizing L with
  | zero =>
    left
    rw [List.length_eq_zero_iff.mp h]
    rfl
  | succ k ih =>
    obtain ⟨L1, p, rfl⟩ : ∃ L1 p, L = L1 ++ [p] := by
      have hne : L ≠ [] := by
        intro e
        rw [e] at h
        simp at h
      exact ⟨L.dropLast, L.getLast hne, (List.dropLast_concat_getLast hne).symm⟩
    rw [trim_snoc]
    by_cases c : p < m
    · rw [if_pos c]
      rcases ih L1 (by simp at h; omega) with h1 | ⟨L', z, h1, h2, R, h3⟩
      · exact .inl h1
      · exact .inr ⟨L', z, h1, h2, R ++ [p], by rw [h3]; simp⟩
    · rw [if_neg c]
      exact .inr ⟨L1, p, rfl, by omega, [], by simp⟩
theorem foldl_min (r : List Int) : ∀ n : Int, r.foldl min n = n ∨ r.foldl min n ∈ r := by
  induction r with
  | nil => exact fun n => .inl rfl
  | cons a r ih =>
    intro n
    rw [List.foldl_cons]
    rcases ih (min n a) with h | h
    · rw [h]
      rcases Int.le_total n a with c | c
      · exact .inl (by omega)
      · exact .inr (by rw [Int.min_eq_right c]; exact List.mem_cons_self)
    · exact .inr (List.mem_cons_of_mem _ h)
theorem first_mem {d : Int} {L : List Int} (h : firstF d L < d) : firstF d L ∈ L := by
  cases L with
  | nil =>
    exact absurd h (Int.lt_irrefl d)
  | cons a r =>
    show r.foldl min a ∈ a :: r
    rcases foldl_min r a with e | e
    · rw [e]
      exact List.mem_cons_self
    · exact List.mem_cons_of_mem _ e
theorem getD_eq {row : List Int} {i : Nat} (hi : i < row.length) : row.getD i 0 = row[i] := by
  rw [List.getD_eq_getElem?_getD, List.getElem?_eq_getElem hi]
  rfl
theorem spot_key {row : List Int} {n mid : Nat} (h : IsPm row n) (hm : 1 ≤ mid ∧ mid + 2 < n) :
  ∀ (b : Nat) (v : Int), (spotsF row (placesF row) mid)[b]? = some v → ∃ (x : Int) (i : Nat) (hi : i < row.length), row[i] = x ∧ v = (i : Int) ∧ i ≠ mid ∧ i ≠ mid + 1 ∧
      ((row.getD (mid + 1) 0 < row.getD mid 0 ∧ x = row.getD (mid + 1) 0 + 1 + (b : Int) ∧ x < row.getD mid 0) ∨ (¬ row.getD (mid + 1) 0 < row.getD mid 0 ∧ x = row.getD (mid + 1) 0 - 1 - (b : Int) ∧ row.getD mid 0 < x)) := by
  have hlen := h.len
  have m1 : row.getD mid 0 = row[mid]'(by omega) := getD_eq (by omega)
  have m2 : row.getD (mid + 1) 0 = row[mid + 1]'(by omega) := getD_eq (by omega)
  have r1 := (h.mem (row[mid]'(by omega))).mp (List.getElem_mem _)
  have r2 := (h.mem (row[mid + 1]'(by omega))).mp (List.getElem_mem _)
  intro b v hb
  unfold spotsF at hb
  by_cases lt : row.getD (mid + 1) 0 < row.getD mid 0
  · rw [if_pos lt, List.getElem?_map] at hb
    obtain ⟨b', hb1, hb2⟩ := Option.map_eq_some_iff.mp hb
    obtain ⟨hb3, hb4⟩ := List.getElem?_eq_some_iff.mp hb1
    rw [List.length_range] at hb3
    rw [List.getElem_range] at hb4
    subst hb4
    rw [m2] at hb2
    rw [m1, m2] at hb3 lt ⊢
    obtain ⟨i, hi, h3, h4⟩ := has_place h (v := row[mid + 1] + 1 + (b : Int)) (by omega)
    refine ⟨_, i, hi, h3, by rw [← hb2]; exact h4, fun e => ?_, fun e => ?_, .inl ⟨lt, rfl, by omega⟩⟩
    · subst e
      omega
    · subst e
      omega
  · rw [if_neg lt, List.getElem?_map] at hb
    obtain ⟨b', hb1, hb2⟩ := Option.map_eq_some_iff.mp hb
    obtain ⟨hb3, hb4⟩ := List.getElem?_eq_some_iff.mp hb1
    rw [List.length_range] at hb3
    rw [List.getElem_range] at hb4
    subst hb4
    rw [m2] at hb2
    rw [m1, m2] at hb3 lt ⊢
    obtain ⟨i, hi, h3, h4⟩ := has_place h (v := row[mid + 1] - 1 - (b : Int)) (by omega)
    refine ⟨_, i, hi, h3, by rw [← hb2]; exact h4, fun e => ?_, fun e => ?_, .inr ⟨lt, rfl, by omega⟩⟩
    · subst e
      omega
    · subst e
      omega

/-- the spots, one by one -/
theorem none_of {row : List Int} {n mid : Nat} (h : IsPl row n) (hm : 1 ≤ mid ∧ mid + 2 < n) : noneAt row (placesF row) mid = true := by
  unfold noneAt
  refine decide_eq_true ?_
  refine Classical.byContradiction fun c => h.pt ?_
  have c : firstF (mid : Int) (trimF (mid : Int) (spotsF row (placesF row) mid)) < (mid : Int) := by omega
  have hf := first_mem c
  generalize hF : firstF (mid : Int) (trimF (mid : Int) (spotsF row (placesF row) mid)) = s at c hf
  rcases trim_end (mid : Int) (spotsF row (placesF row) mid) with e | ⟨L', z, e, hz, R, hR⟩
  · rw [e] at hf
    cases hf
  rw [e] at hf
  have hs : s ∈ L' := by
    rcases List.mem_append.mp hf with h1 | h1
    · exact h1
    · rw [List.mem_singleton.mp h1] at c
      omega
  obtain ⟨a, ha, hsa⟩ := List.getElem_of_mem hs
  have hlen := h.len
  -- places in the list of spots
  have q1 : (spotsF row (placesF row) mid)[a]? = some s := by
    rw [hR, List.append_assoc, List.getElem?_append_left ha, List.getElem?_eq_getElem ha, hsa]
  have q2 : (spotsF row (placesF row) mid)[L'.length]? = some z := by
    rw [hR, List.append_assoc, List.getElem?_append_right (Nat.le_refl _), Nat.sub_self]
    rfl
  have m1 : row.getD mid 0 = row[mid]'(by omega) := getD_eq (by omega)
  have m2 : row.getD (mid + 1) 0 = row[mid + 1]'(by omega) := getD_eq (by omega)
  have r1 := (h.mem (row[mid]'(by omega))).mp (List.getElem_mem _)
  have r2 := (h.mem (row[mid + 1]'(by omega))).mp (List.getElem_mem _)
  have key := spot_key h.toIsPm hm
  obtain ⟨x, i, hi, hx, rfl, hi1, hi2, k1⟩ := key a s q1
  obtain ⟨y, k, hk, hy, rfl, hk1, hk2, k2⟩ := key L'.length z q2
  refine pt_of_at (i := i) (j := mid) (k := k) ⟨by omega, by omega, hk, ?_⟩
  rw [getD_eq hi, getD_eq hk, hx, hy]
  rcases k1 with ⟨g1, g2, g3⟩ | ⟨g1, g2, g3⟩
  · rcases k2 with ⟨_, g5, g6⟩ | ⟨g4, _, _⟩
    · exact .inl ⟨by omega, by omega, g6⟩
    · exact absurd g1 g4
  · rcases k2 with ⟨g4, _, _⟩ | ⟨_, g5, g6⟩
    · exact absurd g4 g1
    · exact .inr ⟨g6, by omega, by omega⟩
theorem pat_of {row : List Int} {n : Nat} (h : IsPl row n) : patB row = true := by
  unfold patB
  refine List.all_eq_true.mpr fun i hi => none_of h ?_
  have := List.mem_range.mp hi
  have := h.len
  omega
end GL
set_option Elab.async false
set_option linter.all false
set_option maxRecDepth 100000
set_option maxHeartbeats 8000000
/-! # find_pattern_at, wholly -/
namespace GL
open PySem PySem.Spec PyProof.Rows L2 Geo Rel
def restF (row places : List Int) (mid : Nat) : List Int :=
  ((trimF (mid : Int) (spotsF row places mid)).drop ((trimF (mid : Int) (spotsF row places mid)).idxOf (firstF (mid : Int) (trimF (mid : Int) (spotsF row places mid))))).filter fun s => decide (s > (mid : Int))
/-- what find_pattern_at tells -/
def foundF (row places : List Int) (mid : Nat) : Option (List Int) := if noneAt row places mid then none else some [firstF (mid : Int) (trimF (mid : Int) (spotsF row places mid)), (mid : Int), firstF 0 (restF row places mid)]
def optR (z : Option (List Int)) (v : V) (H : Hp) : Prop := match z with
  | none => v = .non
  | some r => tupI r v H
theorem optR_e : MonoE optR := fun z v H H' e h => by
  cases z with
  | none => exact h
  | some r => exact tupI_e r v H H' e h
theorem optR_m : Mono optR := fun z v H H' D n k h => by
  cases z with
  | none => exact h
  | some r => exact tupI_m r v H H' D n k h
theorem first_least : ∀ (ns : List Int) (d : Int), ns ≠ [] → firstF d ns ∈ ns ∧ ∀ y ∈ ns, firstF d ns ≤ y
  | [], d, h => absurd rfl h
  | n :: r, d, _ => by
    show r.foldl min n ∈ n :: r ∧ ∀ y ∈ n :: r, r.foldl min n ≤ y
    have key : ∀ (r : List Int) (n : Int), r.foldl min n ≤ n ∧ ∀ y ∈ r, r.foldl min n ≤ y := by
      intro r
      induction r with
      | nil => exact fun n => ⟨Int.le_refl n, by simp⟩
      | cons a r ih =>
        intro n
        rw [List.foldl_cons]
        obtain ⟨h1, h2⟩ := ih (min n a)
        refine ⟨by omega, fun y hy => ?_⟩
        rcases List.mem_cons.mp hy with rfl | hy
        · omega
        · exact h2 y hy
    obtain ⟨h1, h2⟩ := key r n
    refine ⟨?_, fun y hy => ?_⟩
    · rcases foldl_min r n with e | e
      · rw [e]
        exact List.mem_cons_self
      · exact List.mem_cons_of_mem _ e
    · rcases List.mem_cons.mp hy with rfl | hy
      · exact h1
      · exact h2 y hy
/-- where there is a pattern, a later place is left -/
theorem rest_ne {row : List Int} {n mid : Nat} (h : IsPm row n) (hm : 1 ≤ mid ∧ mid + 2 < n) (hf : noneAt row (placesF row) mid = false) : restF row (placesF row) mid ≠ [] := by
  have c : firstF (mid : Int) (trimF (mid : Int) (spotsF row (placesF row) mid)) < (mid : Int) := by
    unfold noneAt at hf
    have := of_decide_eq_false hf
    omega
  have hmem := first_mem c
  rcases trim_end (mid : Int) (spotsF row (placesF row) mid) with e | ⟨L', z, e, hz, R, hR⟩
  · rw [e] at hmem
    cases hmem
  unfold restF
  rw [e] at hmem ⊢
  intro h0
  have hzm : z ∈ (L' ++ [z]).drop ((L' ++ [z]).idxOf (firstF (mid : Int) (L' ++ [z]))) := by
    have hlt := List.idxOf_lt_length_of_mem hmem
    have : (L' ++ [z]).idxOf (firstF (mid : Int) (L' ++ [z])) ≤ L'.length := by
      rw [List.length_append, List.length_singleton] at hlt
      omega
    rw [List.drop_append_of_le_length this]
    exact List.mem_append_right _ (List.mem_singleton.mpr rfl)
  have q2 : (spotsF row (placesF row) mid)[L'.length]? = some z := by
    rw [hR, List.append_assoc, List.getElem?_append_right (Nat.le_refl _), Nat.sub_self]
    rfl
  have hzg : z > (mid : Int) := by
    obtain ⟨x, i, hi, hx, hzi, h1, h2, _⟩ := spot_key h hm L'.length z q2
    omega
  have : z ∈ ([] : List Int) := by
    rw [← h0]
    exact List.mem_filter.mpr ⟨hzm, decide_eq_true hzg⟩
  cases this
section
variable {P : Program} {w : World} {K : PySem.W.Frag} {mg : Str → Option Value} {base : Heap} {σ : L2.St} {H : Hp}
theorem cut_at (xs : List V) {i : Nat} (h : i ≤ xs.length) : cutV xs (some (i : Int)) none = xs.drop i := by
  have e1 : HT.sIx xs.length 0 (some (i : Int)) = i := by
    unfold HT.sIx
    simp
    rw [if_neg (by omega)]
    omega
  have e2 : HT.sIx xs.length xs.length none = xs.length := by
    unfold HT.sIx
    simp
  unfold cutV
  rw [e1, e2]
  exact List.take_of_length_le (by rw [List.length_drop]; exact Nat.le_refl _)
theorem er_lcNRL {α : Type} {tl te : TE} {t : TT} {R : α → V → Hp → Prop} (mR : MonoE R) {S : α → V → Hp → Prop} (mS : Mono S) {zs : List α} {j : Nat} {vs : List Nat} (f : α → Bool) (h : EvRL tl σ H R zs) (hz : zs.length ≤ 40000) (hw : ∀ x, wipe ((wipe σ vs).set j (some x)) vs = wipe σ vs)
    (ht : ∀ z ∈ zs, ∀ y H1, Evl.Ex H H1 → R z y H1 → Evl.EvT t ((wipe σ vs).set j (some y)) H1 (f z)) (he : ∀ z ∈ zs, ∀ y H1, Evl.Ex H H1 → R z y H1 → f z = true → EvN te ((wipe σ vs).set j (some y)) H1 (S z)) :
    EvRL (tLc (iList K tl) (gName j) t te vs) σ H S (zs.filter f) := fun H1 e Q q =>
  h H1 e _ fun a H2 na e1 ha => ⟨a, rfl, (let ⟨ys, hl, _⟩ := ha; ⟨ys, SqL.of hl⟩), fun Dl hD => by
    obtain ⟨ys, hl, hp⟩ := ha
    refine lc_rel (H := H2) (walk_list (K := K) (a := a) (xs := ys)) (pr_len hp) (fun H3 e2 => SqL.of (e2 _ _ hl)) f S mS hz (fun i z x H3 H4 hzi hH hy => ?_) hD fun us H3 e2 h3 hq => q Dl H3 (Evl.fresh_back e1 hD) (e1.trans e2) ⟨us, h3, hq⟩
    obtain ⟨rfl, hy⟩ := hy
    obtain ⟨y, hy2, hr⟩ := pr_at hp hzi
    obtain rfl : y = x := Option.some.inj (hy2.symm.trans hy)
    have hm := List.mem_of_getElem? hzi
    exact ⟨Evl.Ex.refl _, fun Q' k => k _ (hw _) (ht z hm y H2 (e.trans e1) hr) fun hf => he z hm y H2 (e.trans e1) hr hf⟩⟩
theorem ev_minN {te : TE} {ns : List Int} (h : Evl.EvL te σ H (ns.map V.int)) (hn : ns ≠ []) : Evl.Ev (tCB (rMin K) (tCons te tNil)) σ H (.int (firstF 0 ns)) := fun H1 e Q q =>
  h H1 e (fun x H' => rMin K [x] H' Q) fun p H2 _ e2 hp => ⟨p, ns, rfl, SqL.of hp, List.length_pos_iff.mpr hn, fun m h1 h2 => by
    obtain ⟨h3, h4⟩ := first_least ns 0 hn
    have : m = firstF 0 ns := Int.le_antisymm (h2 _ h3) (h4 _ h1)
    rw [this]
    exact q H2 e2⟩
theorem ev_minV {ns : List Int} {n : Nat} {l : Addr} (hn : σ[n]? = some (some (.ref l))) (hl : H l = some (.lst (ns.map V.int))) (h0 : ns ≠ []) : Evl.Ev (tCB (rMin K) (tCons (tVar n) tNil)) σ H (.int (firstF 0 ns)) := fun H1 e Q q =>
  ⟨.ref l, hn, l, ns, rfl, SqL.of (e _ _ hl), List.length_pos_iff.mpr h0, fun m h1 h2 => by
    obtain ⟨h3, h4⟩ := first_least ns 0 h0
    have : m = firstF 0 ns := Int.le_antisymm (h2 _ h3) (h4 _ h1)
    rw [this]
    exact q H1 (Evl.Ex.refl _)⟩
def spAtX : Sp := fun vs H Q _ => ∃ (l pl : Addr) (row places : List Int) (mid : Nat), vs = [.ref l, .ref pl, .int (mid : Int)] ∧ H l = some (.lst (row.map V.int)) ∧ H pl = some (.lst (places.map V.int)) ∧ row.length ≤ 1000 ∧ places.length = row.length ∧ mid + 1 < row.length ∧ (∀ r ∈ row, 0 ≤ r ∧ r < row.length) ∧ (noneAt row places mid = false → restF row places mid ≠ []) ∧
  ∀ v H', Evl.Ex H H' → (∀ p, v = .ref p → H p = none) → optR (foundF row places mid) v H' → Q v H'
theorem ok_find_pattern_atX {f : Addr} {fd : FuncData} (F : Fun K "find_pattern_at" "find_pattern_at" s_find_pattern_at f fd) (B : BP mg) : FnOk P w K mg base CX0 1 f fd ["row", "places", "middle"] spAtX := by
  refine F.ok sc_find_pattern_at (fun vs H Q E h => ?_) (fun cdv A outer s H vs Q E hr h => ?_)
  · obtain ⟨l, pl, row, places, mid, rfl, _⟩ := h
    rfl
  · obtain ⟨l, pl, row, places, mid, rfl, hl, hpl, hlen, hplen, hmid, hb, hrest, q⟩ := h
    refine ⟨_, (pss_cons (ps_par (i := 3) (j := 4) rfl sc_find_pattern_at.nd rfl rfl (by decide) rfl rfl (pa_cons (pe_ix (ixLK (K := K) rfl) (pv 0) (pv 2) (fun _ _ => rfl)) (pa_cons (pe_ix (ixLK (K := K) rfl) (pv 0) (pe_op op_add (pv 2) pe_int) (fun _ _ => rfl)) pa_nil)) (by rfl))
      (pss_cons (ps_set (i := 5) sc_find_pattern_at.nd rfl (.inl rfl) (pe_ifExp (pt_cmpR op_lt (pv 4) (pv 3) (nomark _)) pe_int (pe_un un_neg pe_int)))
      (pss_cons (ps_setLc (i := 6) (own := [("pane", 9)]) (g := gName 9) (tt := tYes) rfl sc_find_pattern_at.nd rfl rfl (sw_true rfl rfl rfl (by decide +kernel)) (pi_range3 rfl B.range_ (pa_cons (pe_op op_add (pv 4) (pv 5)) (pa_cons (pv 3) (pa_cons (pv 5) pa_nil)))) (blkOk_by (N := n_find_pattern_at) (sc := (defScope s_find_pattern_at)) (by decide +kernel)) (fun _ _ _ _ _ => (pg_name (i := 9) sc_find_pattern_at.nd rfl (Or.inl rfl))) (fun _ _ _ _ _ => pts_nil) (fun _ _ _ _ _ => (pe_ix (ixLK (K := K) rfl) (pv 1) (pv 9) (fun _ _ => rfl))))
      (Evl.pss_cut (ps_while PassesOwn.never (PW.pt (pw_and (pt_truth (pv 6) (by intro _; rfl)) (pw_and1 (pt_cmpR op_lt (pe_ix (ixLK (K := K) rfl) (pv 6) (pe_un un_neg pe_int) (fun _ _ => rfl)) (pv 2) (nomark _))))) (pss_one (ps_expr (pe_bm0 PySem.F.plainAttrs_list PySem.F.slot_list_pop PySem.F.type_list_pop mt_pop (pv 6)))))
      (pss_cons (ps_set (i := 7) sc_find_pattern_at.nd rfl (.inl rfl) (pe_callBK (MnR.cr_minD rfl hr.units) (by rfl) B.min_ (by decide +kernel) (pa_cons (pv 6) pa_nil) (pk_cons (pv 2) pk_nil)))
      (pss_cons (ps_if (pt_cmpR op_ge (pv 7) (pv 2) (nomark _)) (pss_one (ps_ret pe_non)) pss_nil)
      (pss_cons (ps_setLc (i := 8) (own := [("spot", 10)]) (g := gName 10) (tt := _) rfl sc_find_pattern_at.nd rfl rfl (sw_true rfl rfl rfl (by decide +kernel)) (pi_list (pe_slice sl_list (pv 6) (po_some (pe_bmK (K := K) rfl PySem.F.plainAttrs_list PySem.F.slot_list_index PySem.F.type_list_index (indexK (K := K) rfl) (pv 6) (pa_cons (pv 7) pa_nil))) po_none)) (blkOk_by (N := n_find_pattern_at) (sc := (defScope s_find_pattern_at)) (by decide +kernel)) (fun _ _ _ _ _ => (pg_name (i := 10) sc_find_pattern_at.nd rfl (Or.inl rfl))) (fun _ _ _ _ _ => pts_one (pt_cmpR op_gt (pv 10) (pv 2) (nomark _))) (fun _ _ _ _ _ => (pv 10)))
      (pss_one (ps_ret (pe_tup (pa_cons (pv 7) (pa_cons (pv 2) (pa_cons (pe_callB (minK (K := K) rfl rfl) (by rfl) B.min_ (by decide +kernel) (pa_cons (pv 8) pa_nil)) pa_nil))))))))))))), ?_⟩
    have at1 : row[mid]? = some (row.getD mid 0) := by
      rw [List.getD_eq_getElem?_getD, List.getElem?_eq_getElem (by omega)]
      rfl
    have at2 : row[mid + 1]? = some (row.getD (mid + 1) 0) := by
      rw [List.getD_eq_getElem?_getD, List.getElem?_eq_getElem hmid]
      rfl
    have b1 := hb _ (List.mem_of_getElem? at1)
    have b2 := hb _ (List.mem_of_getElem? at2)
    have hspots : spotsF row places mid = (if row.getD (mid + 1) 0 < row.getD mid 0 then (List.range (row.getD mid 0 - row.getD (mid + 1) 0 - 1).toNat).map fun i : Nat => places.getD (row.getD (mid + 1) 0 + 1 + (i : Int)).toNat 0 else (List.range (row.getD (mid + 1) 0 - row.getD mid 0 - 1).toNat).map fun i : Nat => places.getD (row.getD (mid + 1) 0 - 1 - (i : Int)).toNat 0) := rfl
    unfold foundF restF noneAt at *
    generalize row.getD mid 0 = hi at at1 b1 hspots
    generalize row.getD (mid + 1) 0 = lo at at2 b2 hspots
    refine q_parI (v := .int hi) (w := .int lo) (Evl.ev_op (Evl.ev_var rfl) (Evl.ev_var rfl) (Evl.rv_ixL (SqL.of hl) (atI_nat (by rw [List.getElem?_map, at1]; rfl)))) (fun H1 e1 => ?_) fun H1 e1 => ?_
    · have hm1 : Evl.Ev (tOp (rI0 fun i j => V.int (i + j)) (tVar 2) (tC (.int 1))) [some (.ref l), some (.ref pl), some (.int (mid : Int)), none, none, none, none, none, none, none, none] H1 (.int ((mid + 1 : Nat) : Int)) := Evl.ev_is (Evl.ev_op (Evl.ev_var rfl) Evl.ev_c Evl.rv_I0) rfl
      exact Evl.ev_op (Evl.ev_var rfl) hm1 (Evl.rv_ixL (SqL.of (e1 _ _ hl)) (atI_nat (by rw [List.getElem?_map, at2]; rfl)))
    dsimp only
    refine Evl.q_asg (v := .int (if lo < hi then 1 else -1)) (Evl.ev_if (Evl.et_test (Evl.ev_op (Evl.ev_var rfl) (Evl.ev_var rfl) Evl.rv_I0)) (fun h => ?_) (fun h => ?_)) fun H2 e2 => ?_
    · rw [if_pos (of_decide_eq_true h)]
      exact Evl.ev_c
    · rw [if_neg (of_decide_eq_false h)]
      exact ev_m1
    have hpl2 := e2 _ _ (e1 _ _ hpl)
    generalize hS : (if lo < hi then (List.range (hi - lo - 1).toNat).map fun i : Nat => places.getD (lo + 1 + (i : Int)).toNat 0 else (List.range (lo - hi - 1).toNat).map fun i : Nat => places.getD (lo - 1 - (i : Int)).toNat 0) = S at hspots
    rw [hspots] at hrest q
    have getP : ∀ x : Int, 0 ≤ x → x < row.length → (places.map V.int)[x.toNat]? = some (V.int (places.getD x.toNat 0)) := fun x h0 h1 => by
      rw [List.getElem?_map, List.getD_eq_getElem?_getD, List.getElem?_eq_getElem (by omega)]
      rfl
    have lS : S.length ≤ 1000 := by
      rw [← hS]
      split
      · rw [List.length_map, List.length_range]
        omega
      · rw [List.length_map, List.length_range]
        omega
    refine Evl.q_asgL (xs := S.map V.int) ?_ fun sp H3 nsp e3 hsp => ?_
    · rw [← hS]
      by_cases c : lo < hi
      · rw [if_pos c, if_pos c]
        refine el_lcRgC (i := lo + 1) (j := hi) (c := 1) (Evl.ea_cons (Evl.ev_op (Evl.ev_var rfl) (Evl.ev_var rfl) Evl.rv_I0) (Evl.ea_cons (Evl.ev_var rfl) (Evl.ea_cons (Evl.ev_var rfl) Evl.ea_nil))) ⟨by decide, by decide, small_one (by omega) (by omega) (by omega) (by omega), by rw [show (hi - lo - 1).toNat = (hi - (lo + 1)).toNat by omega]; exact rangeSize_nat _ _⟩ (by omega) (fun _ => rfl) fun u hu H4 e4 => ?_
        refine Evl.ev_op (Evl.ev_var rfl) (Evl.ev_var rfl) (Evl.rv_ixL (SqL.of (e4 _ _ hpl2)) ?_)
        have := atI_nat (getP (lo + 1 + (u : Int)) (by omega) (by omega))
        rw [Int.toNat_of_nonneg (by omega)] at this
        rw [Int.mul_one]
        exact this
      · rw [if_neg c, if_neg c]
        refine el_lcRgC (i := lo + -1) (j := hi) (c := -1) (Evl.ea_cons (Evl.ev_op (Evl.ev_var rfl) (Evl.ev_var rfl) Evl.rv_I0) (Evl.ea_cons (Evl.ev_var rfl) (Evl.ea_cons (Evl.ev_var rfl) Evl.ea_nil))) (by rw [show (lo - hi - 1).toNat = (lo + -1 - hi).toNat by omega]; exact RgC.neg (by omega) (by omega) (by omega) (by omega)) (by omega) (fun _ => rfl) fun u hu H4 e4 => ?_
        refine Evl.ev_op (Evl.ev_var rfl) (Evl.ev_var rfl) (Evl.rv_ixL (SqL.of (e4 _ _ hpl2)) ?_)
        have := atI_nat (getP (lo - 1 - (u : Int)) (by omega) (by omega))
        rw [Int.toNat_of_nonneg (by omega)] at this
        rw [show lo + -1 + (u : Int) * -1 = lo - 1 - (u : Int) by omega]
        exact this
    have eT := (e1.trans e2).trans e3
    have nspH : H sp = none := Evl.fresh_back (e1.trans e2) nsp
    refine Evl.q_cut (M := fun σ' H' => σ' = [some (.ref l), some (.ref pl), some (.int (mid : Int)), some (.int hi), some (.int lo), some (.int (if lo < hi then 1 else -1)), some (.ref sp), none, none, none, none] ∧ Evl.Ex H H' ∧ H' sp = some (.lst ((trimF (mid : Int) S).map V.int))) ?_ fun σ' H' hM => ?_
    · refine Evl.s_while (fun m σ' H' => ∃ L', m = L'.length ∧ σ' = [some (.ref l), some (.ref pl), some (.int (mid : Int)), some (.int hi), some (.int lo), some (.int (if lo < hi then 1 else -1)), some (.ref sp), none, none, none, none] ∧ trimF (mid : Int) L' = trimF (mid : Int) S ∧ Evl.Ex H H' ∧ H' sp = some (.lst (L'.map V.int))) S.length
        ⟨S, rfl, rfl, rfl, eT, hsp⟩ (fun m σ' H' hw => ?_)
      obtain ⟨L', rfl, rfl, htr, eH, hB⟩ := hw
      rcases List.eq_nil_or_concat L' with rfl | ⟨init, p, rfl⟩
      · refine ⟨false, Evl.et_is (Evl.et_and (a := false) (b := false) (et_list rfl hB) (fun h => by cases h)) rfl, (fun h => by cases h), fun _ H5 e5 => ⟨rfl, eH.trans e5, ?_⟩⟩
        rw [← htr]
        exact e5 _ _ hB
      · rw [List.concat_eq_append] at htr hB ⊢
        have hB' : H' sp = some (.lst (init.map V.int ++ [.int p])) := by rw [hB, List.map_append]; rfl
        refine ⟨decide (p < (mid : Int)), Evl.et_is (Evl.et_and (a := true) (Evl.et_is (et_list rfl hB) (by simp)) (fun _ => Evl.et_test (Evl.ev_op (ev_lastV rfl hB') (Evl.ev_var rfl) Evl.rv_I0))) (Bool.true_and _), fun hgt H5 e5 => ?_, fun hle H5 e5 => ?_⟩
        · refine ⟨fun σ2 H2 => ∃ L'', L''.length = init.length ∧ σ2 = [some (.ref l), some (.ref pl), some (.int (mid : Int)), some (.int hi), some (.int lo), some (.int (if lo < hi then 1 else -1)), some (.ref sp), none, none, none, none] ∧ trimF (mid : Int) L'' = trimF (mid : Int) S ∧ Evl.Ex H H2 ∧ H2 sp = some (.lst (L''.map V.int)), fun σ2 H2 ⟨L'', hl2, k⟩ => ⟨L''.length, by rw [hl2]; simp, L'', rfl, k⟩, ?_⟩
          refine s_popL (e5 _ _ hB') (Evl.ev_var rfl) fun H6 e6 => ⟨init, rfl, rfl, ?_, ((But1.of (Evl.Ex.refl H6)).upd).ex nspH ((eH.trans e5).trans e6), upd_same⟩
          rw [← htr, trim_snoc, if_pos (of_decide_eq_true hgt)]
        · rw [trim_snoc, if_neg (of_decide_eq_false hle)] at htr
          refine ⟨rfl, eH.trans e5, ?_⟩
          rw [← htr]
          exact e5 _ _ hB
    · obtain ⟨rfl, eH, hB⟩ := hM
      refine Evl.q_asg (v := .int (firstF (mid : Int) (trimF (mid : Int) S))) (Evl.ev_is (MnR.ev_minD (Evl.ev_var rfl) hB (Evl.ev_var rfl)) (min_first _ _)) fun H5 e5 => ?_
      generalize hT : trimF (mid : Int) S = T at hB hrest q ⊢
      have lT : T.length ≤ 1000 := by
        rw [← hT]
        unfold trimF
        rw [List.length_reverse]
        have := (List.dropWhile_sublist (l := S.reverse) fun p => decide (p < (mid : Int))).length_le
        rw [List.length_reverse] at this
        omega
      have eA := eH.trans e5
      refine Evl.q_when (b := decide (firstF (mid : Int) T ≥ (mid : Int))) (Evl.et_test (Evl.ev_op (Evl.ev_var rfl) (Evl.ev_var rfl) Evl.rv_I0)) (fun hc H6 e6 => ?_) (fun hc H6 e6 => ?_)
      · refine Evl.s_ret Evl.ev_c fun H7 e7 => q .non H7 ((eA.trans e6).trans e7) (fun p hp => by cases hp) ?_
        rw [if_pos hc]
        rfl
      · have hlt := of_decide_eq_false hc
        have hmem := first_mem (d := (mid : Int)) (L := T) (by omega)
        have hB6 := e6 _ _ (e5 _ _ hB)
        refine q_asgRL (R := intR) (zs := (T.drop (T.idxOf (firstF (mid : Int) T))).filter fun s => decide (s > (mid : Int))) ?_ fun lt H7 nlt e7 hlt7 => ?_
        · refine er_lcNRL (R := intR) (S := intR) intR_e (val_m V.int) (fun s : Int => decide (s > (mid : Int))) ?_ (by rw [List.length_drop]; omega) (fun _ => rfl) (fun z hz y H7 e7 hy => ?_) (fun z hz y H7 e7 hy _ => ?_)
          · intro H7 e7 Q7 q7
            refine (Evl.el_sl (a := sp) (xs := T.map V.int) (lo := some ((T.idxOf (firstF (mid : Int) T) : Nat) : Int)) (hi := none) (Evl.ev_var rfl) (Evl.eo_some (ev_idxOf rfl hB6 (Evl.ev_var rfl) hmem)) Evl.eo_none (SqL.of hB6)) H7 e7 _ fun p H8 np e8 hp => q7 p H8 np e8 ?_
            rw [cut_at _ (by rw [List.length_map]; exact Nat.le_of_lt (List.idxOf_lt_length_of_mem hmem)), ← List.map_drop] at hp
            exact ints_rl hp
          · subst hy
            exact Evl.et_test (Evl.ev_op (Evl.ev_var rfl) (Evl.ev_var rfl) Evl.rv_I0)
          · subst hy
            exact en_int (Evl.ev_var rfl)
        · have hr0 := hrest hc
          generalize hRs : (T.drop (T.idxOf (firstF (mid : Int) T))).filter (fun s => decide (s > (mid : Int))) = Rs at hlt7 hr0 q
          have hl7 := rl_ints (g := fun z : Int => z) hlt7
          rw [List.map_id'] at hl7
          refine Evl.s_retU (xs := [firstF (mid : Int) T, (mid : Int), firstF 0 Rs].map V.int) (Evl.eu_tup (Evl.ea_cons (Evl.ev_var rfl) (Evl.ea_cons (Evl.ev_var rfl) (Evl.ea_cons (ev_minV rfl hl7 hr0) Evl.ea_nil))) (by show 3 ≤ 100000; decide)) fun p H8 np e8 hp => ?_
          refine q (.ref p) H8 (((eA.trans e6).trans e7).trans e8) (fun p' hp' => by cases hp'; exact Evl.fresh_back ((eA.trans e6).trans e7) np) ?_
          rw [if_neg (by simpa using hlt)]
          exact ⟨p, rfl, hp⟩
end
end GL
set_option Elab.async false
set_option linter.all false
set_option maxRecDepth 100000
set_option maxHeartbeats 4000000
/-! # find_pattern_at: the least pattern with its middle -/
namespace GL
open PySem PySem.Spec PyProof.Rows L2 Geo Rel Bx
section
variable {row : List Int} {n mid : Nat}
theorem spot_of (h : IsPm row n) (hm : 1 ≤ mid ∧ mid + 2 < n) {k : Nat} (hk : k < row.length) :
    (row.getD (mid + 1) 0 < row.getD mid 0 → ∀ b : Nat, row[k] = row.getD (mid + 1) 0 + 1 + (b : Int) → row[k] < row.getD mid 0 → (spotsF row (placesF row) mid)[b]? = some (k : Int)) ∧
    (¬ row.getD (mid + 1) 0 < row.getD mid 0 → ∀ b : Nat, row[k] = row.getD (mid + 1) 0 - 1 - (b : Int) → row.getD mid 0 < row[k] → (spotsF row (placesF row) mid)[b]? = some (k : Int)) := by
  have hp := place_at h hk
  constructor
  · intro c b e1 e2
    unfold spotsF
    rw [if_pos c, List.getElem?_map, List.getElem?_range (by omega), Option.map_some, ← e1, hp]
  · intro c b e1 e2
    unfold spotsF
    rw [if_neg c, List.getElem?_map, List.getElem?_range (by omega), Option.map_some, ← e1, hp]
/-- a pattern with this middle: two spots, the first ahead of the middle, the second behind -/
theorem pt_spots (h : IsPm row n) (hm : 1 ≤ mid ∧ mid + 2 < n) {i k : Nat} (hp : PtAt row i mid k) : ∃ a b : Nat, a < b ∧ (spotsF row (placesF row) mid)[a]? = some (i : Int) ∧ (spotsF row (placesF row) mid)[b]? = some (k : Int) := by
  obtain ⟨h1, h2, h3, h4⟩ := hp
  have hlen := h.len
  rw [getD_eq (i := i) (by omega), getD_eq (i := k) (by omega)] at h4
  obtain ⟨s1, s2⟩ := spot_of h hm (k := i) (by omega)
  obtain ⟨s3, s4⟩ := spot_of h hm (k := k) (by omega)
  rcases h4 with ⟨g1, g2, g3⟩ | ⟨g1, g2, g3⟩
  · have c : row.getD (mid + 1) 0 < row.getD mid 0 := by omega
    exact ⟨(row[i] - row.getD (mid + 1) 0 - 1).toNat, (row[k] - row.getD (mid + 1) 0 - 1).toNat, by omega, s1 c _ (by omega) (by omega), s3 c _ (by omega) (by omega)⟩
  · have c : ¬ row.getD (mid + 1) 0 < row.getD mid 0 := by omega
    exact ⟨(row.getD (mid + 1) 0 - row[i] - 1).toNat, (row.getD (mid + 1) 0 - row[k] - 1).toNat, by omega, s2 c _ (by omega) (by omega), s4 c _ (by omega) (by omega)⟩
theorem spots_pt (h : IsPm row n) (hm : 1 ≤ mid ∧ mid + 2 < n) {a b : Nat} {s z : Int} (hab : a < b) (h1 : (spotsF row (placesF row) mid)[a]? = some s) (h2 : (spotsF row (placesF row) mid)[b]? = some z) (hs : s < mid) (hz : (mid : Int) < z) : ∃ i k : Nat, s = (i : Int) ∧ z = (k : Int) ∧ PtAt row i mid k := by
  have key := spot_key h hm
  obtain ⟨x, i, hi, hx, rfl, hi1, hi2, k1⟩ := key a s h1
  obtain ⟨y, k, hk, hy, rfl, hk1, hk2, k2⟩ := key b z h2
  have hlen := h.len
  refine ⟨i, k, rfl, rfl, by omega, by omega, hk, ?_⟩
  rw [getD_eq hi, getD_eq hk, hx, hy]
  rcases k1 with ⟨g1, g2, g3⟩ | ⟨g1, g2, g3⟩
  · rcases k2 with ⟨_, g5, g6⟩ | ⟨g4, _, _⟩
    · exact .inl ⟨by omega, by omega, g6⟩
    · exact absurd g1 g4
  · rcases k2 with ⟨g4, _, _⟩ | ⟨_, g5, g6⟩
    · exact absurd g4 g1
    · exact .inr ⟨g6, by omega, by omega⟩
theorem spots_inj (h : IsPm row n) (hm : 1 ≤ mid ∧ mid + 2 < n) {a b : Nat} {s : Int} (h1 : (spotsF row (placesF row) mid)[a]? = some s) (h2 : (spotsF row (placesF row) mid)[b]? = some s) : a = b := by
  have key := spot_key h hm
  obtain ⟨x, i, hi, hx, e1, hi1, hi2, k1⟩ := key a s h1
  obtain ⟨y, k, hk, hy, e2, hk1, hk2, k2⟩ := key b s h2
  have e : i = k := by omega
  subst e
  rw [hx] at hy
  subst hy
  omega
theorem trim_rest (m : Int) (L : List Int) : ∃ R, L = trimF m L ++ R ∧ ∀ r ∈ R, r < m := by
  refine ⟨(L.reverse.takeWhile fun p => decide (p < m)).reverse, ?_, fun r hr => ?_⟩
  · unfold trimF
    rw [← List.reverse_append, List.takeWhile_append_dropWhile, List.reverse_reverse]
  · rw [List.mem_reverse] at hr
    have z := List.all_takeWhile (p := fun p : Int => decide (p < m)) (l := L.reverse)
    exact of_decide_eq_true (List.all_eq_true.mp z r hr)
theorem in_trim {m : Int} {L : List Int} {b : Nat} {k : Int} (h : L[b]? = some k) (hk : m < k) : b < (trimF m L).length := by
  obtain ⟨R, e, hR⟩ := trim_rest m L
  refine Classical.byContradiction fun c => ?_
  rw [e, List.getElem?_append_right (by omega)] at h
  have := hR k (List.mem_of_getElem? h)
  omega
theorem trim_at {m : Int} {L : List Int} {b : Nat} (h : b < (trimF m L).length) : (trimF m L)[b]? = L[b]? := by
  obtain ⟨R, e, hR⟩ := trim_rest m L
  conv => rhs; rw [e]
  rw [List.getElem?_append_left h]
theorem at_none (h : IsPm row n) (hm : 1 ≤ mid ∧ mid + 2 < n) (hn : noneAt row (placesF row) mid = true) (i k : Nat) : ¬ PtAt row i mid k := fun hp => by
  obtain ⟨a, b, hab, h1, h2⟩ := pt_spots h hm hp
  have hb := in_trim (m := (mid : Int)) h2 (by have := hp.2.1; omega)
  have ha : (trimF (mid : Int) (spotsF row (placesF row) mid))[a]? = some (i : Int) := by rw [trim_at (by omega), h1]
  have hmem := List.mem_of_getElem? ha
  have hl := (first_least _ (mid : Int) (List.ne_nil_of_mem hmem)).2 _ hmem
  unfold noneAt at hn
  have := of_decide_eq_true hn
  have := hp.1
  omega
theorem at_some (h : IsPm row n) (hm : 1 ≤ mid ∧ mid + 2 < n) (hn : noneAt row (placesF row) mid = false) :
    ∃ i k : Nat, firstF (mid : Int) (trimF (mid : Int) (spotsF row (placesF row) mid)) = (i : Int) ∧ firstF 0 (restF row (placesF row) mid) = (k : Int) ∧ PtAt row i mid k ∧ ∀ i' k', PtAt row i' mid k' → i < i' ∨ (i = i' ∧ k ≤ k') := by
  have hrest := rest_ne h hm hn
  have c : firstF (mid : Int) (trimF (mid : Int) (spotsF row (placesF row) mid)) < (mid : Int) := by
    unfold noneAt at hn
    have := of_decide_eq_false hn
    omega
  have hf := first_mem c
  have hne := List.ne_nil_of_mem hf
  obtain ⟨_, hleast⟩ := first_least _ (mid : Int) hne
  obtain ⟨hk1, hk2⟩ := first_least _ 0 hrest
  generalize firstF 0 (restF row (placesF row) mid) = kz at hk1 hk2
  unfold restF at hk1 hk2
  generalize hF : firstF (mid : Int) (trimF (mid : Int) (spotsF row (placesF row) mid)) = s at c hf hleast hk1 hk2
  have ha := List.idxOf_lt_length_of_mem hf
  have hsa : (trimF (mid : Int) (spotsF row (placesF row) mid))[(trimF (mid : Int) (spotsF row (placesF row) mid)).idxOf s]? = some s := by rw [List.getElem?_eq_getElem ha, List.getElem_idxOf ha]
  generalize hA : (trimF (mid : Int) (spotsF row (placesF row) mid)).idxOf s = A at ha hsa hk1 hk2
  obtain ⟨hk3, hk4⟩ := List.mem_filter.mp hk1
  have hk4 := of_decide_eq_true hk4
  obtain ⟨B, hB, eB⟩ := List.getElem_of_mem hk3
  rw [List.length_drop] at hB
  have hkb : (trimF (mid : Int) (spotsF row (placesF row) mid))[A + B]? = some kz := by
    rw [List.getElem_drop] at eB
    rw [List.getElem?_eq_getElem (by omega), eB]
  have hB0 : B ≠ 0 := fun z => by
    rw [z, Nat.add_zero, hsa] at hkb
    have := Option.some.inj hkb
    omega
  have s1 := hsa
  have s2 := hkb
  rw [trim_at ha] at s1
  rw [trim_at (by omega)] at s2
  obtain ⟨i, k, rfl, rfl, hp⟩ := spots_pt h hm (show A < A + B by omega) s1 s2 c (by omega)
  refine ⟨i, k, rfl, rfl, hp, fun i' k' hp' => ?_⟩
  obtain ⟨a', b', hab', h1', h2'⟩ := pt_spots h hm hp'
  have hb' := in_trim (m := (mid : Int)) h2' (by have := hp'.2.1; omega)
  have ha' : (trimF (mid : Int) (spotsF row (placesF row) mid))[a']? = some (i' : Int) := by rw [trim_at (by omega), h1']
  have hle := hleast _ (List.mem_of_getElem? ha')
  by_cases e : i = i'
  · right
    refine ⟨e, ?_⟩
    subst e
    have ea : a' = A := spots_inj h hm h1' s1
    subst ea
    have hkm : (k' : Int) ∈ ((trimF (mid : Int) (spotsF row (placesF row) mid)).drop a').filter fun s => decide (s > (mid : Int)) := by
      refine List.mem_filter.mpr ⟨?_, decide_eq_true (by have := hp'.2.1; omega)⟩
      refine List.mem_iff_getElem?.mpr ⟨b' - a', ?_⟩
      rw [List.getElem?_drop, show a' + (b' - a') = b' by omega, trim_at hb', h2']
    have := hk2 _ hkm
    omega
  · left
    omega
end
end GL
set_option Elab.async false
set_option linter.all false
set_option maxRecDepth 100000
set_option maxHeartbeats 8000000
/-! # find_pattern, is_plan of any row of numbers -/
namespace GL
open PySem PySem.Spec PyProof.Rows L2 Geo Rel
theorem vals_at {xs : List V} {us : List Value} {i : Nat} {u : Value} (r : Vals xs us) (h : us[i]? = some u) : ∃ x, xs[i]? = some x ∧ RelV x u := by
  obtain ⟨hi, rfl⟩ := List.getElem?_eq_some_iff.mp h
  have hl := r.length
  obtain ⟨u', h1, h2⟩ := r.get (x := xs[i]'(by omega)) (List.getElem?_eq_getElem (by omega))
  rw [h] at h1
  cases h1
  exact ⟨_, List.getElem?_eq_getElem (by omega), h2⟩
def d3 (z : Tr) : PyData := .tuple ((t3 z).map PyData.int)
theorem alike3 (zs : List Tr) : PySem.W.AlikeAll (zs.map d3) := by
  refine ⟨fun x hx y hy => ?_, fun x hx => ?_⟩
  · obtain ⟨a, _, rfl⟩ := List.mem_map.mp hx
    obtain ⟨b, _, rfl⟩ := List.mem_map.mp hy
    rfl
  · obtain ⟨a, _, rfl⟩ := List.mem_map.mp hx
    exact fun h => nomatch h
theorem depth3 : ∀ zs : List Tr, PyData.depthAll (zs.map d3) ≤ 1
  | [] => Nat.zero_le _
  | z :: zs => by
    show max (PyData.depth (d3 z)) (PyData.depthAll (zs.map d3)) ≤ 1
    have h1 : PyData.depth (d3 z) = 1 := rfl
    have := depth3 zs
    omega
theorem dp3 (K : PySem.W.Frag) {H : Hp} {ys : List V} {zs : List Tr} (h : Paired (fun y z => trR z y H) ys zs) : DpAll K H ys (zs.map d3) := by
  have := Dat.all (Dat.comp datTup t3 (fun a b e => by
    obtain ⟨a1, a2, a3⟩ := a
    obtain ⟨b1, b2, b3⟩ := b
    unfold t3 at e
    simp at e
    obtain ⟨rfl, rfl, rfl⟩ := e
    rfl)) K (H := H) (ys := ys) (zs := zs) h
  exact this
/-- min(a list of triples, default=d): d, or one of them -/
def rMinT (K : PySem.W.Frag) : List V → List V → Hp → VK → Prop := fun xs zs H Q => ∃ (l : Addr) (ys : List V) (rs : List Tr) (d : V), xs = [V.ref l] ∧ zs = [d] ∧ SqL K H l ys ∧ Paired (fun y z => trR z y H) ys rs ∧ (rs = [] → Q d H) ∧ ∀ y ∈ ys, Q y H
theorem cr_minT {X : Cx} (hc : X.calm = true) (hu : X.A.units + 64 < cLine) : CallRK X (.builtin "min") ["default"] (rMinT X.K) := by
  intro pins s σ H xs zs us ws Q I rx rz h
  obtain ⟨l, ys, rs, d, rfl, rfl, hl, hp, q0, q⟩ := h
  cases rx with
  | cons r1 r2 =>
    cases r2
    cases r1
    cases rz with
    | @cons _ dv _ _ r3 r4 =>
      cases r4
      obtain ⟨its, rv, pl, hz⟩ := I.list hl
      obtain ⟨as, hr⟩ := Dp.readsAll I _ _ _ (dp3 X.K hp) rv
      refine PySem.W.min_list_default (I.ok.hd hc) pl.isList (vs := its.toArray) (by simpa using hr) (alike3 rs) (by have := depth3 rs; omega) (fun h0 h1 tk hk => ?_) fun y ys' i v h1 tk bs hxs hv hrd hk => ?_
      · have : rs = [] := List.map_eq_nil_iff.mp h0
        exact ⟨d, H, I.kept (t' := tk) hk, r3, q0 this⟩
      · have hv' : its[i]? = some v := by simpa using hv
        obtain ⟨y0, hy0, hy1⟩ := vals_at rv hv'
        exact ⟨y0, H, I.kept (t' := tk) hk, hy1, q y0 (List.mem_of_getElem? hy0)⟩
section
variable {P : Program} {w : World} {K : PySem.W.Frag} {mg : Str → Option Value} {base : Heap} {σ : L2.St} {H : Hp}
theorem s_retMinT {te : TE} {α : Type} {R : α → V → Hp → Prop} {us : List α} {d : V} {D : Ends} (h : EvRL te σ H R us) (k : ∀ p H1, Evl.Ex H H1 → RL R H1 p us → rMinT K [.ref p] [d] H1 D.rt) : tRet (tCKw (rMinT K) (tCons te tNil) (tCons (tC d) tNil)) D σ H :=
  h H (Evl.Ex.refl _) (fun v H1 => tNil σ H1 fun vs H2 => (tCons (tC d) tNil) σ H2 fun zs H3 => rMinT K (v :: vs) zs H3 D.rt) fun p H1 np e1 hp => k p H1 e1 hp
theorem found_no {row places : List Int} {mid : Nat} (h : noneAt row places mid = true) : foundF row places mid = none := if_pos h
theorem found_yes {row places : List Int} {mid : Nat} (h : noneAt row places mid = false) : foundF row places mid = some [firstF (mid : Int) (trimF (mid : Int) (spotsF row places mid)), (mid : Int), firstF 0 (restF row places mid)] := if_neg (by rw [h]; decide)
def rowOk (row : List Int) : Prop := ∀ mid, 1 ≤ mid → mid + 2 < row.length → noneAt row (placesF row) mid = false → restF row (placesF row) mid ≠ []
theorem rowOk_of {row : List Int} (h : IsPm row row.length) : rowOk row := fun mid h1 h2 hf => rest_ne h ⟨h1, h2⟩ hf
theorem pm_of_row {row : List Int} (h : rowB row = true) : IsPm row row.length := by
  unfold rowB at h
  obtain ⟨h1, h2⟩ := Bool.and_eq_true_iff.mp h
  have nd : ((List.range row.length).map fun i : Nat => (i : Int)).Nodup := by
    rw [List.Nodup, List.pairwise_map]
    exact List.nodup_range.imp fun h e => h (Int.ofNat.inj e)
  have pm : ((List.range row.length).map fun i : Nat => (i : Int)).Perm row := perm_of_sub nd (fun x hx => by
    obtain ⟨i, hi, rfl⟩ := List.mem_map.mp hx
    exact of_decide_eq_true (List.all_eq_true.mp h2 i hi)) (by simp)
  refine ⟨pm.nodup_iff.mp nd, fun v => ?_, rfl⟩
  rw [← pm.mem_iff, List.mem_map]
  constructor
  · rintro ⟨i, hi, rfl⟩
    have := List.mem_range.mp hi
    omega
  · intro hv
    exact ⟨v.toNat, List.mem_range.mpr (by omega), by omega⟩
def spPatX : Sp := fun vs H Q _ => ∃ (l : Addr) (row : List Int), vs = [.ref l] ∧ H l = some (.lst (row.map V.int)) ∧ row.length ≤ 1000 ∧ (∀ r ∈ row, 0 ≤ r ∧ r < row.length) ∧ rowOk row ∧ ∀ v H', Evl.Ex H H' → decide (v = .non) = patB row → Q v H'
theorem ok_find_patternX {f f1 f2 : Addr} {fd fd1 fd2 : FuncData} (F : Fun K "find_pattern" "find_pattern" s_find_pattern f fd) (B : BP mg) (C_find_places : Cal P w K mg base "find_places" 1 f1 fd1 ["row"] spPlaces) (C_find_pattern_at : Cal P w K mg base "find_pattern_at" 1 f2 fd2 ["row", "places", "middle"] spAtX) : FnOk P w K mg base CX0 2 f fd ["row"] spPatX := by
  refine F.ok sc_find_pattern (fun vs H Q E h => ?_) (fun cdv A outer s H vs Q E hr h => ?_)
  · obtain ⟨l, row, rfl, _⟩ := h
    rfl
  · obtain ⟨l, row, rfl, hl, hlen, hb, hok, q⟩ := h
    refine ⟨_, (pss_cons (ps_set (i := 1) sc_find_pattern.nd rfl (.inr rfl) (pe_call C_find_places.G hr (by rfl) C_find_places.g C_find_places.k C_find_places.b .nil pass0 (by exact (pa_cons (pv 0) pa_nil))))
      (pss_cons (ps_setLc (i := 2) (own := [("middle", 3)]) (g := gName 3) (tt := tYes) rfl sc_find_pattern.nd rfl rfl (sw_true rfl rfl rfl (by decide +kernel)) (pi_range2 (by rfl) B.range_ (pa_cons pe_int (pa_cons (pe_op op_sub (pe_callB (lenK (K := K) rfl) (by rfl) B.len_ (by decide +kernel) (pa_cons (pv 0) pa_nil)) pe_int) pa_nil))) (blkOk_by (N := n_find_pattern) (sc := (defScope s_find_pattern)) (by decide +kernel)) (fun _ _ _ _ _ => (pg_name (i := 3) sc_find_pattern.nd rfl (Or.inl rfl))) (fun _ _ _ _ _ => pts_nil) (fun _ _ _ _ _ => (pe_call C_find_pattern_at.G hr (by rfl) C_find_pattern_at.g C_find_pattern_at.k C_find_pattern_at.b .nil pass0 (by exact (pa_cons (pv 0) (pa_cons (pv 1) (pa_cons (pv 3) pa_nil)))))))
      (pss_one (ps_ret (pe_callBK (cr_minT rfl hr.units) (by rfl) B.min_ (by decide +kernel) (pa_cons (pe_lc (own := [("pattern", 4)]) (g := gName 4) (tt := (tTest (tOp (fun x y H Q => y = .non ∧ Q (.bl (!decide (x = .non))) H) (tVar 4) (tC .non)))) rfl sc_find_pattern.nd (pi_list (pv 2)) (blkOk_by (N := n_find_pattern) (sc := (defScope s_find_pattern)) (by decide +kernel)) (fun _ _ _ _ _ => (pg_name (i := 4) sc_find_pattern.nd rfl (Or.inl rfl))) (fun _ _ _ _ _ => pts_one (pt_cmpR op_notN (pv 4) pe_non (nomark _))) (fun _ _ _ _ _ => (pv 4))) pa_nil) (pk_cons pe_non pk_nil)))))), ?_⟩
    refine Evl.q_asgL (xs := (placesF row).map V.int) (fun H1 e Q q => ⟨.ref l, rfl, l, row, rfl, e _ _ hl, hlen, hb, fun H3 a e3 na ha => q a H3 na e3 ha⟩) fun a H1 na e1 ha => ?_
    generalize hms : (List.range ((row.length : Int) - 2 - 1).toNat).map (fun i : Nat => 1 + (i : Int)) = ms
    have hmem : ∀ i ∈ ms, 1 ≤ i ∧ i < (row.length : Int) - 2 := fun i hi => by
      rw [← hms] at hi
      obtain ⟨j, hj, rfl⟩ := List.mem_map.mp hi
      have := List.mem_range.mp hj
      omega
    have lms : ms.length ≤ 1000 := by rw [← hms, List.length_map, List.length_range]; omega
    refine q_asgRL (R := fun (i : Int) => optR (foundF row (placesF row) i.toNat)) (zs := ms.filter fun _ => true) ?_ fun fo H2 nfo e2 hfo => ?_
    · rw [← hms]
      refine er_lcRg (S := fun (i : Int) => optR (foundF row (placesF row) i.toNat)) (lo := 1) (hi := (row.length : Int) - 2) (fun z v H H' D n k h => optR_m _ v H H' D n k h) (fun _ => true) (Evl.ea_cons Evl.ev_c (Evl.ea_cons (Evl.ev_is (Evl.ev_op (Evl.ev_len (Evl.ev_var rfl) (SqL.of (e1 _ _ hl))) Evl.ev_c Evl.rv_I0) (by rw [List.length_map])) Evl.ea_nil)) (by omega) (fun _ => rfl) (fun i _ _ H3 e3 => et_yes) (fun i h0 h1 H3 e3 _ => ?_)
      exact fun H4 e4 Q4 q4 => ⟨.ref l, rfl, .ref a, rfl, .int i, rfl, l, a, row, placesF row, i.toNat, by rw [Int.toNat_of_nonneg (by omega)]; rfl, (e1.trans (e3.trans e4)) _ _ hl, (e3.trans e4) _ _ ha, hlen, placesF_len row, by omega, hb, hok i.toNat (by omega) (by omega), fun v H5 e5 nv hv => q4 v H5 e5 (fun p hp => .inl (nv p hp)) hv⟩
    · dsimp only
      rw [fil_yes] at hfo
      have hz : Evl.Ex H H2 := e1.trans e2
      -- the triples found
      have T := er_lcRL (K := K) (R := fun (i : Int) => optR (foundF row (placesF row) i.toNat)) (S := fun (i : Int) => optR (foundF row (placesF row) i.toNat)) (fun z v H H' e h => optR_e _ v H H' e h) (fun z v H H' D n k h => optR_m _ v H H' D n k h) (σ := [some (.ref l), some (.ref a), some (.ref fo), none, none]) (H := H2) (tl := tVar 2) (a := fo) (j := 4) (vs := [4]) (t := tTest (tOp (fun x y H Q => y = .non ∧ Q (.bl (!decide (x = .non))) H) (tVar 4) (tC .non))) (te := tVar 4) (fun i => !noneAt row (placesF row) i.toNat) (Evl.ev_var rfl) hfo
        (by omega) (fun _ => rfl) (fun z hz y H3 e3 hy => ?_) (fun z hz y H3 e3 hy hf => ?_)
      · generalize hus : ms.filter (fun i => !noneAt row (placesF row) i.toNat) = us at T
        have hus' : ∀ i ∈ us, noneAt row (placesF row) i.toNat = false := fun i hi => by
          rw [← hus] at hi
          simpa using (List.mem_filter.mp hi).2
        have hpb : patB row = decide (us = []) := by
          rw [← hus]
          unfold patB
          rw [← hms]
          rw [show ((row.length : Int) - 2 - 1).toNat = row.length - 3 by omega]
          by_cases c : (List.range (row.length - 3)).all (fun i => noneAt row (placesF row) (i + 1)) = true
          · rw [c]
            refine (decide_eq_true (List.filter_eq_nil_iff.mpr fun i hi => ?_)).symm
            obtain ⟨j, hj, rfl⟩ := List.mem_map.mp hi
            have := List.all_eq_true.mp c j hj
            rw [show (1 + (j : Int)).toNat = j + 1 by omega, this]
            simp
          · have c' := c
            rw [Bool.not_eq_true] at c'
            rw [c']
            refine (decide_eq_false fun hnil => c (List.all_eq_true.mpr fun j hj => ?_)).symm
            have := List.filter_eq_nil_iff.mp hnil (1 + (j : Int)) (List.mem_map.mpr ⟨j, hj, rfl⟩)
            rw [show (1 + (j : Int)).toNat = j + 1 by omega] at this
            simpa using this
        refine s_retMinT T fun p H3 e3 hp => ?_
        obtain ⟨ys, hys, hpr⟩ := hp
        have hrs : ∃ rs : List Tr, Paired (fun y z => trR z y H3) ys rs ∧ rs.length = us.length := by
          clear hys hpb hus T
          induction hpr with
          | nil => exact ⟨[], .nil, rfl⟩
          | cons h t ih =>
            rename_i y u ys us
            obtain ⟨rs, h1, h2⟩ := ih fun i hi => hus' i (List.mem_cons_of_mem _ hi)
            have hu := hus' u List.mem_cons_self
            dsimp only at h
            rw [found_yes hu] at h
            exact ⟨(_, _, _) :: rs, .cons h h1, by rw [List.length_cons, List.length_cons, h2]⟩
        obtain ⟨rs, hrs, hrl⟩ := hrs
        refine ⟨p, ys, rs, .non, rfl, rfl, SqL.of hys, hrs, fun h0 => ?_, fun y hy => ?_⟩
        · refine q .non H3 (hz.trans e3) ?_
          rw [hpb, decide_eq_true rfl]
          exact (decide_eq_true (List.length_eq_zero_iff.mp (by rw [← hrl, h0]; rfl))).symm
        · obtain ⟨i, hi, rfl⟩ := List.getElem_of_mem hy
          obtain ⟨z, hz2, hz3⟩ := pr_at' hrs (List.getElem?_eq_getElem hi)
          obtain ⟨a', e', _⟩ := hz3
          refine q _ H3 (hz.trans e3) ?_
          rw [e', hpb, decide_eq_false (by intro h; cases h)]
          refine (decide_eq_false fun h0 => ?_).symm
          rw [h0] at hrl
          have : rs = [] := List.length_eq_zero_iff.mp hrl
          rw [this] at hz2
          simp at hz2
      · refine Evl.et_is (Evl.et_test fun H4 e4 Q4 q4 => ⟨y, rfl, rfl, q4 H4 (Evl.Ex.refl _)⟩) ?_
        by_cases c : noneAt row (placesF row) z.toNat = true
        · rw [found_no c] at hy
          obtain rfl : y = .non := hy
          rw [c]
          simp
        · rw [Bool.not_eq_true] at c
          rw [found_yes c] at hy
          obtain ⟨p, rfl, _⟩ := hy
          rw [c]
          simp
      · exact fun H4 e4 Q4 q4 => ⟨y, rfl, q4 y H4 (Evl.Ex.refl _) (fun p hp => .inr (by
          rw [found_yes (by simpa using hf)] at hy
          obtain ⟨p', rfl, hp'⟩ := hy
          cases hp
          rw [hp']
          simp)) (optR_e _ _ _ _ e4 hy)⟩
def spIsPlanX (tb : Addr) : Sp := fun vs H Q _ => ∃ (l : Addr) (row : List Int), vs = [.ref l] ∧ H l = some (.lst (row.map V.int)) ∧ row.length ≤ 1000 ∧ H tb = some (GnR.TabO tb) ∧ ∀ H', Evl.Ex H H' → Q (.bl (rowB row && patB row)) H'
theorem ok_is_planX {f f1 f2 : Addr} {fd fd1 fd2 : FuncData} {tb : Addr} (F : Fun K "is_plan" "is_plan" s_is_plan f fd) (B : BP mg) (C_is_row : Cal P w K mg base "is_row" 2 f1 fd1 ["thing"] (spIsRow tb)) (C_find_pattern : Cal P w K mg base "find_pattern" 2 f2 fd2 ["row"] spPatX) : FnOk P w K mg base CX0 3 f fd ["thing"] (spIsPlanX tb) := by
  refine F.ok sc_is_plan (fun vs H Q E h => ?_) (fun cdv A outer s H vs Q E hr h => ?_)
  · obtain ⟨l, row, rfl, _⟩ := h
    rfl
  · obtain ⟨l, row, rfl, hl, hlen, ht, q⟩ := h
    refine ⟨_, (pss_one (ps_ret (pe_and (pe_call C_is_row.G hr (by rfl) C_is_row.g C_is_row.k C_is_row.b .nil pass0 (by exact (pa_cons (pv 0) pa_nil))) (pe_one (pe_cmpR op_isN (pe_call C_find_pattern.G hr (by rfl) C_find_pattern.g C_find_pattern.k C_find_pattern.b .nil pass0 (by exact (pa_cons (pv 0) pa_nil))) pe_non (nomark _)))))), ?_⟩
    refine ⟨.ref l, rfl, l, row, rfl, hl, hlen, ht, fun H1 e1 => ⟨rowB row, rfl, ?_⟩⟩
    by_cases c : rowB row = true
    · rw [if_pos c]
      obtain ⟨_, hent⟩ := rowB_facts c
      refine ⟨.ref l, rfl, l, row, rfl, e1 _ _ hl, hlen, hent, rowOk_of (pm_of_row c), fun v H2 e2 hv => ⟨rfl, ?_⟩⟩
      rw [hv]
      have := q H2 (e1.trans e2)
      rw [c, Bool.true_and] at this
      exact this
    · rw [if_neg c]
      have := q H1 e1
      rw [Bool.not_eq_true] at c
      rw [c, Bool.false_and] at this
      exact this
end
end GL
set_option Elab.async false
set_option linter.all false
set_option maxRecDepth 100000
set_option maxHeartbeats 8000000
/-! # find_pattern: the least pattern, exactly -/
namespace GL
open PySem PySem.Spec PyProof.Rows L2 Geo Rel Bx
def Le3 (a b : Tr) : Prop := a.1 < b.1 ∨ (a.1 = b.1 ∧ (a.2.1 < b.2.1 ∨ (a.2.1 = b.2.1 ∧ a.2.2 ≤ b.2.2)))
instance (a b : Tr) : Decidable (Le3 a b) := by unfold Le3; infer_instance
abbrev t3of (z : Tr) : PySem.W.T3 Int Int Int := ⟨z.1, z.2.1, z.2.2⟩
theorem lt_t3 (a b : Tr) : PySem.W.DatumOrd.lt (t3of a) (t3of b) = !decide (Le3 b a) := by
  show (if a.1 = b.1 then (if a.2.1 = b.2.1 then decide (a.2.2 < b.2.2) else decide (a.2.1 < b.2.1)) else decide (a.1 < b.1)) = _
  by_cases c : Le3 b a
  · rw [decide_eq_true c]
    unfold Le3 at c
    by_cases h1 : a.1 = b.1
    · rw [if_pos h1]
      by_cases h2 : a.2.1 = b.2.1
      · rw [if_pos h2]
        exact decide_eq_false (by omega)
      · rw [if_neg h2]
        exact decide_eq_false (by omega)
    · rw [if_neg h1]
      exact decide_eq_false (by omega)
  · rw [decide_eq_false c]
    unfold Le3 at c
    by_cases h1 : a.1 = b.1
    · rw [if_pos h1]
      by_cases h2 : a.2.1 = b.2.1
      · rw [if_pos h2]
        exact decide_eq_true (by omega)
      · rw [if_neg h2]
        exact decide_eq_true (by omega)
    · rw [if_neg h1]
      exact decide_eq_true (by omega)
theorem le3_trans {a b c : Tr} (h1 : Le3 a b) (h2 : Le3 b c) : Le3 a c := by unfold Le3 at *; omega
theorem le3_refl (a : Tr) : Le3 a a := by unfold Le3; omega
theorem le3_total {a b : Tr} (h : ¬Le3 a b) : Le3 b a := by unfold Le3 at *; omega
theorem min3_fold : ∀ (rs : List Tr) (r : Tr), ∃ m ∈ r :: rs, PySem.W.minOf (t3of r) (rs.map t3of) = t3of m ∧ ∀ z ∈ r :: rs, Le3 m z
  | [], r => ⟨r, List.mem_cons_self, rfl, fun z hz => by rw [List.mem_singleton.mp hz]; exact le3_refl r⟩
  | x :: rs, r => by
    have e : PySem.W.minOf (t3of r) ((x :: rs).map t3of) = PySem.W.minOf (if PySem.W.DatumOrd.lt (t3of x) (t3of r) = true then t3of x else t3of r) (rs.map t3of) := rfl
    have hlt := lt_t3 x r
    by_cases c : Le3 r x
    · rw [decide_eq_true c] at hlt
      have e2 := e.trans (congrArg (fun q => PySem.W.minOf q (rs.map t3of)) (if_neg (by rw [hlt]; decide)))
      obtain ⟨m, hm, h1, h2⟩ := min3_fold rs r
      refine ⟨m, ?_, e2.trans h1, fun z hz => ?_⟩
      · rcases List.mem_cons.mp hm with rfl | hm
        · exact List.mem_cons_self
        · exact List.mem_cons_of_mem _ (List.mem_cons_of_mem _ hm)
      · rcases List.mem_cons.mp hz with rfl | hz
        · exact h2 _ List.mem_cons_self
        · rcases List.mem_cons.mp hz with rfl | hz
          · exact le3_trans (h2 _ List.mem_cons_self) c
          · exact h2 _ (List.mem_cons_of_mem _ hz)
    · rw [decide_eq_false c] at hlt
      have e2 := e.trans (congrArg (fun q => PySem.W.minOf q (rs.map t3of)) (if_pos (by rw [hlt]; rfl)))
      obtain ⟨m, hm, h1, h2⟩ := min3_fold rs x
      refine ⟨m, List.mem_cons_of_mem _ hm, e2.trans h1, fun z hz => ?_⟩
      rcases List.mem_cons.mp hz with rfl | hz
      · exact le3_trans (h2 _ List.mem_cons_self) (le3_total c)
      · exact h2 _ hz
theorem d3_inj {a b : Tr} (h : d3 a = d3 b) : a = b := by
  unfold d3 t3 at h
  simp only [List.map_cons, List.map_nil, PyData.tuple.injEq, List.cons.injEq, PyData.int.injEq, and_true] at h
  exact Prod.ext h.1 (Prod.ext h.2.1 h.2.2)
/-- min(a list of triples, default=d): d, or the least of them -/
def rMinE (K : PySem.W.Frag) : List V → List V → Hp → VK → Prop := fun xs zs H Q => ∃ (l : Addr) (ys : List V) (rs : List Tr) (d : V), xs = [V.ref l] ∧ zs = [d] ∧ SqL K H l ys ∧ Paired (fun y z => trR z y H) ys rs ∧ (rs = [] → Q d H) ∧ ∀ (y : V) (z : Tr) (i : Nat), ys[i]? = some y → rs[i]? = some z → (∀ z' ∈ rs, Le3 z z') → Q y H
theorem cr_minE {X : Cx} (hc : X.calm = true) (hu : X.A.units + 64 < cLine) : CallRK X (.builtin "min") ["default"] (rMinE X.K) := by
  intro pins s σ H xs zs us ws Q I rx rz h
  obtain ⟨l, ys, rs, d, rfl, rfl, hl, hp, q0, q⟩ := h
  cases rx with
  | cons r1 r2 =>
    cases r2
    cases r1
    cases rz with
    | @cons _ dv _ _ r3 r4 =>
      cases r4
      obtain ⟨its, rv, pl, hz⟩ := I.list hl
      obtain ⟨as, hr⟩ := Dp.readsAll I _ _ _ (dp3 X.K hp) rv
      have hr' : ReadsAll s.heap its.toArray.toList (rs.map d3) as := by simpa using hr
      refine PySem.W.min_list_default (I.ok.hd hc) pl.isList (vs := its.toArray) hr' (alike3 rs) (by have := depth3 rs; omega) (fun h0 h1 tk hk => ?_) fun y ys' i v h1 tk bs hxs hv hrd hk => ?_
      · have : rs = [] := List.map_eq_nil_iff.mp h0
        exact ⟨d, H, I.kept (t' := tk) hk, r3, q0 this⟩
      · have hv' : its[i]? = some v := by simpa using hv
        obtain ⟨y0, hy0, hy1⟩ := vals_at rv hv'
        refine ⟨y0, H, I.kept (t' := tk) hk, hy1, ?_⟩
        obtain ⟨cs, hc1, hil, _, _⟩ := PySem.W.readsAll_atA hr' i v hv
        rw [List.length_map] at hil
        have hgd : (rs.map d3).getD i .none = d3 rs[i] := by
          rw [List.getD_eq_getElem?_getD, List.getElem?_map, List.getElem?_eq_getElem hil]
          rfl
        rw [hgd] at hc1
        cases rs with
        | nil => simp at hil
        | cons r0 rs =>
          rw [List.map_cons] at hxs
          obtain ⟨rfl, rfl⟩ := List.cons.inj hxs
          obtain ⟨m, hm, hmin, hleast⟩ := min3_fold rs r0
          have emin : PySem.W.minD (d3 r0) (rs.map d3) = d3 m := by
            have z := PySem.W.minD_map (t3of r0) (rs.map t3of)
            rw [hmin, List.map_map] at z
            exact z
          rw [emin] at hrd
          have hdet := (reads_det (fun b o e _ => hk b o e) hc1 hrd).1
          have e2 := d3_inj hdet
          exact q y0 _ i hy0 (List.getElem?_eq_getElem hil) (fun z' hz' => by rw [← e2]; exact hleast z' hz')
/-- the least pattern -/
def LeastP (row : List Int) : Option (List Int) → Prop
  | none => ∀ i j k : Nat, ¬PtAt row i j k
  | some l => ∃ i j k : Nat, l = [(i : Int), (j : Int), (k : Int)] ∧ PtAt row i j k ∧ ∀ i' j' k' : Nat, PtAt row i' j' k' → i < i' ∨ (i = i' ∧ (j < j' ∨ (j = j' ∧ k ≤ k')))
theorem least_one {row : List Int} {r1 r2 : Option (List Int)} (h1 : LeastP row r1) (h2 : LeastP row r2) : r1 = r2 := by
  cases r1 with
  | none =>
    cases r2 with
    | none => rfl
    | some l =>
      obtain ⟨i, j, k, _, hp, _⟩ := h2
      exact absurd hp (h1 i j k)
  | some l1 =>
    obtain ⟨i, j, k, e, hp, hl⟩ := h1
    cases r2 with
    | none => exact absurd hp (h2 i j k)
    | some l2 =>
      obtain ⟨i', j', k', e', hp', hl'⟩ := h2
      have a := hl _ _ _ hp'
      have b := hl' _ _ _ hp
      obtain rfl : i = i' := by omega
      obtain rfl : j = j' := by omega
      obtain rfl : k = k' := by omega
      rw [e, e']
section
variable {P : Program} {w : World} {K : PySem.W.Frag} {mg : Str → Option Value} {base : Heap} {σ : L2.St} {H : Hp}
theorem s_retMinE {te : TE} {α : Type} {R : α → V → Hp → Prop} {us : List α} {d : V} {D : Ends} (h : EvRL te σ H R us) (k : ∀ p H1, Evl.Ex H H1 → RL R H1 p us → rMinE K [.ref p] [d] H1 D.rt) : tRet (tCKw (rMinE K) (tCons te tNil) (tCons (tC d) tNil)) D σ H :=
  h H (Evl.Ex.refl _) (fun v H1 => tNil σ H1 fun vs H2 => (tCons (tC d) tNil) σ H2 fun zs H3 => rMinE K (v :: vs) zs H3 D.rt) fun p H1 np e1 hp => k p H1 e1 hp
def spPatE : Sp := fun vs H Q _ => ∃ (l : Addr) (row : List Int), vs = [.ref l] ∧ H l = some (.lst (row.map V.int)) ∧ row.length ≤ 1000 ∧ IsPm row row.length ∧ ∀ r v H', Evl.Ex H H' → LeastP row r → optR r v H' → Q v H'
theorem ok_find_patternE {f f1 f2 : Addr} {fd fd1 fd2 : FuncData} (F : Fun K "find_pattern" "find_pattern" s_find_pattern f fd) (B : BP mg) (C_find_places : Cal P w K mg base "find_places" 1 f1 fd1 ["row"] spPlaces) (C_find_pattern_at : Cal P w K mg base "find_pattern_at" 1 f2 fd2 ["row", "places", "middle"] spAtX) : FnOk P w K mg base CX0 2 f fd ["row"] spPatE := by
  refine F.ok sc_find_pattern (fun vs H Q E h => ?_) (fun cdv A outer s H vs Q E hr h => ?_)
  · obtain ⟨l, row, rfl, _⟩ := h
    rfl
  · obtain ⟨l, row, rfl, hl, hlen, hpm, q⟩ := h
    have hb : ∀ r ∈ row, 0 ≤ r ∧ r < row.length := fun r hr => (hpm.mem r).mp hr
    have hok := rowOk_of hpm
    refine ⟨_, (pss_cons (ps_set (i := 1) sc_find_pattern.nd rfl (.inr rfl) (pe_call C_find_places.G hr (by rfl) C_find_places.g C_find_places.k C_find_places.b .nil pass0 (by exact (pa_cons (pv 0) pa_nil))))
      (pss_cons (ps_setLc (i := 2) (own := [("middle", 3)]) (g := gName 3) (tt := tYes) rfl sc_find_pattern.nd rfl rfl (sw_true rfl rfl rfl (by decide +kernel)) (pi_range2 (by rfl) B.range_ (pa_cons pe_int (pa_cons (pe_op op_sub (pe_callB (lenK (K := K) rfl) (by rfl) B.len_ (by decide +kernel) (pa_cons (pv 0) pa_nil)) pe_int) pa_nil))) (blkOk_by (N := n_find_pattern) (sc := (defScope s_find_pattern)) (by decide +kernel)) (fun _ _ _ _ _ => (pg_name (i := 3) sc_find_pattern.nd rfl (Or.inl rfl))) (fun _ _ _ _ _ => pts_nil) (fun _ _ _ _ _ => (pe_call C_find_pattern_at.G hr (by rfl) C_find_pattern_at.g C_find_pattern_at.k C_find_pattern_at.b .nil pass0 (by exact (pa_cons (pv 0) (pa_cons (pv 1) (pa_cons (pv 3) pa_nil)))))))
      (pss_one (ps_ret (pe_callBK (cr_minE rfl hr.units) (by rfl) B.min_ (by decide +kernel) (pa_cons (pe_lc (own := [("pattern", 4)]) (g := gName 4) (tt := (tTest (tOp (fun x y H Q => y = .non ∧ Q (.bl (!decide (x = .non))) H) (tVar 4) (tC .non)))) rfl sc_find_pattern.nd (pi_list (pv 2)) (blkOk_by (N := n_find_pattern) (sc := (defScope s_find_pattern)) (by decide +kernel)) (fun _ _ _ _ _ => (pg_name (i := 4) sc_find_pattern.nd rfl (Or.inl rfl))) (fun _ _ _ _ _ => pts_one (pt_cmpR op_notN (pv 4) pe_non (nomark _))) (fun _ _ _ _ _ => (pv 4))) pa_nil) (pk_cons pe_non pk_nil)))))), ?_⟩
    refine Evl.q_asgL (xs := (placesF row).map V.int) (fun H1 e Q q => ⟨.ref l, rfl, l, row, rfl, e _ _ hl, hlen, hb, fun H3 a e3 na ha => q a H3 na e3 ha⟩) fun a H1 na e1 ha => ?_
    generalize hms : (List.range ((row.length : Int) - 2 - 1).toNat).map (fun i : Nat => 1 + (i : Int)) = ms
    have hmem : ∀ i ∈ ms, 1 ≤ i ∧ i < (row.length : Int) - 2 := fun i hi => by
      rw [← hms] at hi
      obtain ⟨j, hj, rfl⟩ := List.mem_map.mp hi
      have := List.mem_range.mp hj
      omega
    have lms : ms.length ≤ 1000 := by rw [← hms, List.length_map, List.length_range]; omega
    refine q_asgRL (R := fun (i : Int) => optR (foundF row (placesF row) i.toNat)) (zs := ms.filter fun _ => true) ?_ fun fo H2 nfo e2 hfo => ?_
    · rw [← hms]
      refine er_lcRg (S := fun (i : Int) => optR (foundF row (placesF row) i.toNat)) (lo := 1) (hi := (row.length : Int) - 2) (fun z v H H' D n k h => optR_m _ v H H' D n k h) (fun _ => true) (Evl.ea_cons Evl.ev_c (Evl.ea_cons (Evl.ev_is (Evl.ev_op (Evl.ev_len (Evl.ev_var rfl) (SqL.of (e1 _ _ hl))) Evl.ev_c Evl.rv_I0) (by rw [List.length_map])) Evl.ea_nil)) (by omega) (fun _ => rfl) (fun i _ _ H3 e3 => et_yes) (fun i h0 h1 H3 e3 _ => ?_)
      exact fun H4 e4 Q4 q4 => ⟨.ref l, rfl, .ref a, rfl, .int i, rfl, l, a, row, placesF row, i.toNat, by rw [Int.toNat_of_nonneg (by omega)]; rfl, (e1.trans (e3.trans e4)) _ _ hl, (e3.trans e4) _ _ ha, hlen, placesF_len row, by omega, hb, hok i.toNat (by omega) (by omega), fun v H5 e5 nv hv => q4 v H5 e5 (fun p hp => .inl (nv p hp)) hv⟩
    · dsimp only
      rw [fil_yes] at hfo
      have hz' : Evl.Ex H H2 := e1.trans e2
      -- the triples found
      have T := er_lcRL (K := K) (R := fun (i : Int) => optR (foundF row (placesF row) i.toNat)) (S := fun (i : Int) => optR (foundF row (placesF row) i.toNat)) (fun z v H H' e h => optR_e _ v H H' e h) (fun z v H H' D n k h => optR_m _ v H H' D n k h) (σ := [some (.ref l), some (.ref a), some (.ref fo), none, none]) (H := H2) (tl := tVar 2) (a := fo) (j := 4) (vs := [4]) (t := tTest (tOp (fun x y H Q => y = .non ∧ Q (.bl (!decide (x = .non))) H) (tVar 4) (tC .non))) (te := tVar 4) (fun i => !noneAt row (placesF row) i.toNat) (Evl.ev_var rfl) hfo
        (by omega) (fun _ => rfl) (fun z hz y H3 e3 hy => ?_) (fun z hz y H3 e3 hy hf => ?_)
      · generalize hus : ms.filter (fun i => !noneAt row (placesF row) i.toNat) = us at T
        have hus' : ∀ i ∈ us, noneAt row (placesF row) i.toNat = false := fun i hi => by
          rw [← hus] at hi
          simpa using (List.mem_filter.mp hi).2
        have hex : ∀ i j k : Nat, PtAt row i j k → (j : Int) ∈ us := fun i j k hp => by
          obtain ⟨h1, h2, h3, _⟩ := id hp
          have hj : 1 ≤ j ∧ j + 2 < row.length := by omega
          rw [← hus]
          refine List.mem_filter.mpr ⟨?_, ?_⟩
          · rw [← hms]
            exact List.mem_map.mpr ⟨j - 1, List.mem_range.mpr (by omega), by omega⟩
          · rw [Int.toNat_natCast]
            by_cases c : noneAt row (placesF row) j = true
            · exact absurd hp (at_none hpm hj c i k)
            · rw [Bool.not_eq_true] at c
              rw [c]
              rfl
        have hmid : ∀ i ∈ us, 1 ≤ i.toNat ∧ i.toNat + 2 < row.length := fun i hi => by
          rw [← hus] at hi
          have := hmem i (List.mem_filter.mp hi).1
          omega
        refine s_retMinE T fun p H3 e3 hp => ?_
        obtain ⟨ys, hys, hpr⟩ := hp
        have hrs : Paired (fun y z => trR z y H3) ys (us.map fun i => (firstF i (trimF i (spotsF row (placesF row) i.toNat)), i, firstF 0 (restF row (placesF row) i.toNat))) := by
          clear hys hus T hex
          induction hpr with
          | nil => exact .nil
          | cons h t ih =>
            rename_i y u ys us
            have hu := hus' u List.mem_cons_self
            have hmu := hmid u List.mem_cons_self
            have eu : ((u.toNat : Nat) : Int) = u := by omega
            dsimp only at h
            rw [found_yes hu, eu] at h
            exact .cons h (ih (fun i hi => hus' i (List.mem_cons_of_mem _ hi)) fun i hi => hmid i (List.mem_cons_of_mem _ hi))
        refine ⟨p, ys, _, .non, rfl, rfl, SqL.of hys, hrs, fun h0 => ?_, fun y z i hy hz hleast => ?_⟩
        · refine q none .non H3 (hz'.trans e3) (fun i j k hp => ?_) rfl
          have h1 := hex i j k hp
          rw [List.map_eq_nil_iff.mp h0] at h1
          cases h1
        · obtain ⟨z', hz2, hyr⟩ := pr_at' hrs hy
          have ez : z' = z := Option.some.inj (hz2.symm.trans hz)
          subst ez
          rw [List.getElem?_map] at hz
          obtain ⟨u, hu, rfl⟩ := Option.map_eq_some_iff.mp hz
          have hum := List.mem_of_getElem? hu
          have hmu := hmid u hum
          obtain ⟨i0, k0, f1, f2, hp, hl2⟩ := at_some hpm hmu (hus' u hum)
          have eu : ((u.toNat : Nat) : Int) = u := by omega
          rw [eu] at f1
          refine q (some [(i0 : Int), u, (k0 : Int)]) y H3 (hz'.trans e3) ⟨i0, u.toNat, k0, by rw [eu], hp, fun i' j' k' hp' => ?_⟩ (by rw [f1, f2] at hyr; exact hyr)
          have hj' := hex i' j' k' hp'
          have hmj := hmid _ hj'
          rw [Int.toNat_natCast] at hmj
          have huj := hus' _ hj'
          rw [Int.toNat_natCast] at huj
          obtain ⟨i1, k1, g1, g2, hp1, hl1⟩ := at_some hpm hmj huj
          have hz1 := hleast _ (List.mem_map.mpr ⟨(j' : Int), hj', rfl⟩)
          rw [Int.toNat_natCast, g1, g2, f1, f2] at hz1
          have hc := hl1 i' k' hp'
          have hc2 := hl2 i' k'
          unfold Le3 at hz1
          dsimp only at hz1
          by_cases e : u.toNat = j'
          · subst e
            have := hc2 hp'
            omega
          · omega
      · refine Evl.et_is (Evl.et_test fun H4 e4 Q4 q4 => ⟨y, rfl, rfl, q4 H4 (Evl.Ex.refl _)⟩) ?_
        by_cases c : noneAt row (placesF row) z.toNat = true
        · rw [found_no c] at hy
          obtain rfl : y = .non := hy
          rw [c]
          simp
        · rw [Bool.not_eq_true] at c
          rw [found_yes c] at hy
          obtain ⟨p, rfl, _⟩ := hy
          rw [c]
          simp
      · exact fun H4 e4 Q4 q4 => ⟨y, rfl, q4 y H4 (Evl.Ex.refl _) (fun p hp => .inr (by
          rw [found_yes (by simpa using hf)] at hy
          obtain ⟨p', rfl, hp'⟩ := hy
          cases hp
          rw [hp']
          simp)) (optR_e _ _ _ _ e4 hy)⟩
end
end GL
set_option Elab.async false
set_option linter.all false
set_option maxRecDepth 100000
set_option maxHeartbeats 4000000
/-! # a < b < c < d -/
namespace Ch3
open PySem PySem.Spec PyProof.Rows L2
def tChain3 (r1 r2 r3 : R2) (ta tb tc td : TE) : TT := fun σ H Q => ta σ H fun x H1 => tb σ H1 fun y H2 => r1 x y H2 fun z H3 => ∃ k, z = .bl k ∧ (if k = true then tc σ H3 fun w H4 => r2 y w H4 fun z2 H5 => ∃ k2, z2 = .bl k2 ∧
  (if k2 = true then td σ H5 fun v H6 => r3 w v H6 fun z3 H7 => ∃ k3, z3 = .bl k3 ∧ Q k3 H7 else Q false H5) else Q false H3)
theorem pt_chain3 {X : Cx} {op op' op'' : CmpOp} {r r' r'' : R2} {a b c d : Expr} {ta tb tc td : TE} {pos : Pos} (ho : OpR X (compareOp op) r) (ho' : OpR X (compareOp op') r') (ho'' : OpR X (compareOp op'') r'') (ha : PE X a ta) (hb : PE X b tb) (hc : PE X c tc) (hd : PE X d td)
    (hm : lastMarks [op, op', op''] [b, c, d] = false := by with_unfolding_all rfl) : PT X (.Compare a [op, op', op''] [b, c, d] pos) (tChain3 r r' r'' ta tb tc td) := by
  refine ⟨fun pins s σ H Q I h => ?_⟩
  refine isTrue_chain (thn (ha.run pins s σ H _ I h) fun v s1 ⟨x, H1, I1, r1, q1⟩ => test_link (thn (hb.run pins s1 σ H1 _ I1 q1) fun u s2 ⟨y, H2, I2, r2, q2⟩ =>
    thn (ho pins s2 σ H2 x y v u _ I2 r1 r2 q2) fun d s3 ⟨z, H3, I3, r3, k, e, q3⟩ => ?_)) hm
  subst e
  cases r3
  refine wpAny_truthy_bool ?_
  cases k with
  | false => exact ite_ff ⟨H3, I3, by simpa using q3⟩
  | true =>
    rw [if_pos rfl] at q3
    refine ite_tt (test_link (thn (hc.run pins s3 σ H3 _ I3 q3) fun w' s4 ⟨w, H4, I4, r4, q4⟩ => thn (ho' pins s4 σ H4 y w u w' _ I4 r2 r4 q4) fun d' s5 ⟨z2, H5, I5, r5, k2, e2, q5⟩ => ?_))
    subst e2
    cases r5
    refine wpAny_truthy_bool ?_
    cases k2 with
    | false => exact ite_ff ⟨H5, I5, by simpa using q5⟩
    | true =>
      rw [if_pos rfl] at q5
      refine ite_tt (test_last (thn (hd.run pins s5 σ H5 _ I5 q5) fun v' s6 ⟨v2, H6, I6, r6, q6⟩ => thn (ho'' pins s6 σ H6 w v2 w' v' _ I6 r4 r6 q6) fun d2 s7 ⟨z3, H7, I7, r7, k3, e3, q7⟩ => ?_))
      subst e3
      cases r7
      exact wpAny_truthy_bool ⟨H7, I7, q7⟩
theorem et_chain3 {σ : L2.St} {H : Hp} {ta tb tc td : TE} {i j k l : Int} (h1 : Evl.Ev ta σ H (.int i)) (h2 : Evl.Ev tb σ H (.int j)) (h3 : Evl.Ev tc σ H (.int k)) (h4 : Evl.Ev td σ H (.int l)) :
    Evl.EvT (tChain3 (rI0 fun i j => .bl (decide (i < j))) (rI0 fun i j => .bl (decide (i < j))) (rI0 fun i j => .bl (decide (i < j))) ta tb tc td) σ H (decide (i < j ∧ j < k ∧ k < l)) := fun H1 e Q q =>
  h1 H1 e _ fun H2 e2 => h2 H2 (e.trans e2) _ fun H3 e3 => ⟨i, j, rfl, rfl, _, rfl, by
    by_cases c1 : i < j
    · rw [decide_eq_true c1, if_pos rfl]
      exact h3 H3 ((e.trans e2).trans e3) _ fun H4 e4 => ⟨j, k, rfl, rfl, _, rfl, by
        by_cases c2 : j < k
        · rw [decide_eq_true c2, if_pos rfl]
          exact h4 H4 (((e.trans e2).trans e3).trans e4) _ fun H5 e5 => ⟨k, l, rfl, rfl, _, rfl, by
            have z := q H5 (((e2.trans e3).trans e4).trans e5)
            rw [show decide (i < j ∧ j < k ∧ k < l) = decide (k < l) from decide_eq_decide.mpr ⟨fun h => h.2.2, fun h => ⟨c1, c2, h⟩⟩] at z
            exact z⟩
        · rw [decide_eq_false c2, if_neg (by decide)]
          have z := q H4 ((e2.trans e3).trans e4)
          rw [decide_eq_false (fun h => c2 h.2.1)] at z
          exact z⟩
    · rw [decide_eq_false c1, if_neg (by decide)]
      have z := q H3 (e2.trans e3)
      rw [decide_eq_false (fun h => c1 h.1)] at z
      exact z⟩
end Ch3
set_option Elab.async false
set_option linter.all false
set_option maxRecDepth 100000
set_option maxHeartbeats 4000000
/-! # all(f(x) for x in any list), f the def «return type(x) is int»: the element -/
namespace AvR
open PySem PySem.Spec PyProof.Rows L2 GnR GxR
section
variable {P : Program} {w : World} {K : PySem.W.Frag} {mg : Str → Option Value} {base : Heap}
theorem raw_any {x nm qual : Str} {st : Stmt} {f : Addr} {fd : FuncData} (M : Mod K mg base) (F : Fun K nm qual st f fd) (N : IsNum st x) (bd : ∀ (s : Shared) (u : Value), BindsTo s fd ⟨[u], []⟩ [(x, u)]) (mt : mg "type" = none) (mi : mg "int" = none)
    {A : Around} {E : Value → Shared → Prop} {s : Shared} {v : Value} {T : String} {b : Bool} {Q : Value → Shared → Prop} (hk : ∀ b o, base.get? b = some o → s.heap.get? b = some o) (hd : A.depth < recursionLimit) (hT : ∀ s', Keeps s s' → s'.TypeIs v T) (hn : (Value.type T == Value.type "builtin_function_or_method") = false) (hb0 : (Value.type T == Value.type "int") = b) (h : ∀ s', Keeps s s' → Q (.bool b) s') :
    wpAny (model P w) A (call (.ref f) [v]) Q E s := by
  have bd1 := bd s v
  obtain ⟨oc, od, kV, doc, pm, an, cdv, ct, osl, rfl, lk, hcd⟩ := F.ex
  obtain ⟨p1, p2, p3, p4, p5, p6, hb⟩ := N.body
  have KX : K.In s.heap := M.kin.keeps hk
  have lim : s.heap.NoLimit := M.nolimit.keeps hk
  refine wpAny_call ?_
  refine codeAny_call_function hd (KX _ _ lk) rfl N.co N.gen rfl (PySem.W.codeRec_of KX hcd) (bd1 _ _ _ _ ?_)
  refine wpAny_newFunctionEnv_cells N.kind (fun y hy => ?_) fun env he s1 x1 => ?_
  · rw [List.mem_singleton.mp hy]
    exact .inl N.lx
  · subst he
    refine ⟨lim.keeps x1.toInCall.keep, codeAny_func ?_⟩
    rw [hb]
    obtain ⟨h1, tk, rfl, hk1⟩ := x1.done
    have hkb : ∀ b o, base.get? b = some o → h1.get? b = some o := fun b o e => hk1 b o (hk b o e)
    obtain ⟨mb, hb1, hb2⟩ := M.blt
    refine wpAny_execs_cons (wpAny_Return_some (wpAny_Compare1 ?_ (by rfl)))
    refine wpAny_Call_Name_kw (Calls.Name_function_global N.kind N.ty (Calls.loadGlobal_builtin (M.glob.keeps hkb) mt (hb1.keeps hkb) ((hb2 _ (by decide)).trans (by decide +kernel : bootBuiltins "type" = some (.type "type"))) ?_) (by decide))
    refine PyProof.Rows.callWith_type1 ?_ (by rfl) (by rfl)
    refine Calls.spliced_cons ?_
    refine wpAny_Name (wpAny_loadName_local N.kind N.lx x1.toInCall.ns (v := v) ?_ ?_) N.dx
    · exact bindL_get (P := [x]) (vs := [v]) (i := 0) (by simp) rfl rfl N.lx
    · refine Calls.spliced_nil ?_
      refine call_type_of (Tx := T) (hT _ ⟨h1, tk, rfl, hk1⟩) hn ?_
      refine Calls.Name_function_global N.kind N.it (Calls.loadGlobal_builtin (M.glob.keeps hkb) mi (hb1.keeps hkb) ((hb2 _ (by decide)).trans (by decide +kernel : bootBuiltins "int" = some (.type "int"))) ?_) (by decide)
      refine wpAny_is_plain rfl ?_
      rw [hb0]
      exact h _ ⟨h1, tk, rfl, hk1⟩
/-- the element: whether it is a whole number, and nothing is changed -/
def EltA (P : Program) (w : World) (base : Heap) (scope : Scope) (x : Str) (elt : Expr) : Prop :=
  ∀ (ce : Env) (A1 : Around) (E1 : Value → Shared → Prop) (v : Value) (T : String) (b : Bool) (s1 : Shared) (m1 : Str → Option Value), ce.scope = scope → ce.globals = mainGlobals → A1.depth < recursionLimit →
    (∀ b o, base.get? b = some o → s1.heap.get? b = some o) → s1.heap.Ns ce.locals m1 → m1 x = some v → (∀ s', Keeps s1 s' → s'.TypeIs v T) → (Value.type T == Value.type "builtin_function_or_method") = false → (Value.type T == Value.type "int") = b →
    wpAny (model P w) A1 (eval elt ce) (fun y s2 => y = .bool b ∧ Keeps s1 s2) E1 s1
theorem elt_any {x y nm qual : Str} {st : Stmt} {f : Addr} {fd : FuncData} {scope : Scope} {p1 p2 p3 : Pos} (M : Mod K mg base) (F : Fun K nm qual st f fd) (N : IsNum st y) (bd : ∀ (s : Shared) (u : Value), BindsTo s fd ⟨[u], []⟩ [(y, u)]) (mt : mg "type" = none) (mi : mg "int" = none)
    (hf : mg nm = some (.ref f)) (hk : scope.kind = .function) (lx : scope.names.lookup x = some .local) (ln : scope.names.lookup nm = some .globalImplicit) (dx : (x == ("__debug__" : Str)) = false) (dn : (nm == ("__debug__" : Str)) = false) :
    EltA P w base scope x (.Call (.Name nm p1) [.Name x p2] [] p3) := by
  intro ce A1 E1 v T b s1 m1 hs hg hd hb hn hm hT hnb hTb
  subst hs
  refine wpAny_Call_Name_kw (Calls.Name_function_global hk ln (Calls.loadGlobal_global (by rw [hg]; exact M.glob.keeps hb) hf ?_) dn)
  refine PySem.W.callWith_K (h₀ := base) M.kin F.kp ?_ (by rfl) (by rfl)
  refine Calls.spliced_cons (wpAny_Name (wpAny_loadName_local hk lx hn hm ?_) dx)
  refine Calls.spliced_nil ⟨M.kin.keeps hb, ?_⟩
  exact raw_any M F N bd mt mi hb hd hT hnb hTb fun s2 k => ⟨rfl, k⟩
end
def isIntV : V → Bool
  | .int _ => true
  | _ => false
theorem tyB_int {K : PySem.W.Frag} {H : Hp} {y : V} {T : String} (h : TyB K H y T) : (Value.type T == Value.type "int") = isIntV y := by
  cases h <;> rfl
end AvR
set_option Elab.async false
set_option linter.all false
set_option maxRecDepth 100000
set_option maxHeartbeats 4000000
/-! # the rule for all(f(x) for x in xs), any list -/
namespace AvR
open PySem PySem.Spec PyProof.Rows L2 GnR GxR
def tAllA (K : PySem.W.Frag) (p : Addr) (te : TE) : TE := fun σ H Q => te σ H fun v H1 => ∃ (l : Addr) (ys : List V), v = .ref l ∧ SqL K H1 l ys ∧ (∀ y ∈ ys, ∃ T, TyB K H1 y T) ∧ H1 p = some (TabO p) ∧ Q (.bl (ys.all isIntV)) H1
theorem ty_keep {s1 s2 : Shared} {v : Value} {T : String} (h : s1.TypeIs v T) (k : ∀ a o, v = .ref a → s1.heap.get? a = some o → o.cls = .type T → s2.heap.get? a = some o) : s2.TypeIs v T := by
  cases v with
  | ref a =>
    obtain ⟨o, h1, h2⟩ := h
    exact ⟨o, k a o rfl h1 h2, h2⟩
  | _ => exact h
theorem pass_all (n : Nat) : passing (fun _ => true) n 0 = List.range n := by
  unfold passing
  rw [List.drop_zero, List.filter_eq_self.mpr fun _ _ => rfl]
section
variable {X : Cx}
/-- what is asked of the generator when it stands: it can be walked, yields True and leaves all but the table -/
def Stands (X : Cx) (pins : List (Addr × Obj)) (σ : L2.St) (H : Hp) (g : Addr) (ys : List V) (s : Shared) : Prop :=
  ∃ (fp wr : List Addr) (G : Array GenState → Array GenState → Prop) (n : Nat) (F : Nat → Value → Prop) (St : Nat → Shared → Prop),
    WalksS X.prog X.w X.A.in1 g fp wr G n F St ∧ St 0 s ∧ n = ys.length ∧ (∀ i y, F i y → ∃ v, ys[i]? = some v ∧ y = .bool (isIntV v)) ∧ ∀ s2, Moved wr G s s2 → Inv X pins σ H s2
theorem gen_any {c p : Addr} {elt iter : Expr} {x : Str} {px gpos : Pos} {scope : Scope} {te : TE} {k : Nat} {pins : List (Addr × Obj)} {σ : L2.St} {H : Hp} {s : Shared} {R : Hp → List V → Prop} {Qv : Value → Shared → Prop}
    (hr : Room k X.A) (TB : TabB X.base X.mg c p) (hcode : X.env.code = .ref c) (S : GenS X.env scope x) (hi : PE X iter te) (hel : EltA X.prog X.w X.base scope x elt) (hs : ∀ v, genFold iter X.env v = pure v) (I : Inv X pins σ H s)
    (h : te σ H fun v H1 => ∃ (l : Addr) (ys : List V), v = .ref l ∧ SqL X.K H1 l ys ∧ (∀ y ∈ ys, ∃ T, TyB X.K H1 y T) ∧ H1 p = some (TabO p) ∧ R H1 ys) (hQ : ∀ H1 ys g s2, R H1 ys → Stands X pins σ H1 g ys s2 → Qv (.ref g) s2) :
    wpAny (model X.prog X.w) X.A (eval (.GeneratorExp elt [⟨.Name x px, iter, [], 0⟩] scope gpos) X.env) Qv X.xe s := by
  have room : X.A.depth + 1 < recursionLimit := by
    have := hr.dp
    omega
  refine wpAny_GeneratorExp_walksQD hr.hd S.co (closure_ok S.free) S.cell S.dot S.loc S.kind (by omega) ?_ hs
  refine thn (hi.run pins s σ H _ I h) fun xv s1 hx => ?_
  obtain ⟨v, H1, I1, r1, l, ys, rfl, hl, hty, hP, hR⟩ := hx
  cases r1
  obtain ⟨its, rv, pl, hz⟩ := I1.list hl
  have hlen : its.length = ys.length := rv.length.symm
  have isTy : ∀ (i : Nat) (u : Value), its.toArray[i]? = some u → ∃ y T, ys[i]? = some y ∧ TyB X.K H1 y T ∧ s1.TypeIs u T := fun i u hu => by
    have hu2 : its[i]? = some u := by simpa using hu
    have hi2 : i < ys.length := by
      have := (List.getElem?_eq_some_iff.mp hu2).1
      omega
    obtain ⟨u2, k1, k2⟩ := rv.get (i := i) (x := ys[i]) (List.getElem?_eq_getElem hi2)
    obtain rfl := Option.some.inj (k1.symm.trans hu2)
    obtain ⟨T, hT⟩ := hty ys[i] (List.getElem_mem hi2)
    exact ⟨ys[i], T, List.getElem?_eq_getElem hi2, hT, hT.is I1 k2⟩
  refine wpAny_pyIter_list pl.isList ?_
  have llt : l < s1.heap.objs.size := by
    obtain ⟨o, ho, _⟩ := pl.isList
    exact Heap.lt_size ho
  obtain ⟨ps, hps, htr⟩ := (I1.hok p _ hP).1
  have plt : p < s1.heap.objs.size := Heap.lt_size hps
  have lp : l ≠ p := fun z => by
    obtain ⟨o, ho, hc, _⟩ := pl.isList
    rw [z, hps] at ho
    cases ho
    cases hc
  generalize hob : ({ cls := .type "list_iterator", data := .fields #[.ref l, .int 0 0] } : Obj) = ob
  have sz2 : (s1.heap.push ob).objs.size = s1.heap.objs.size + 1 := Heap.size_push ..
  have old2 : ∀ b u, s1.heap.get? b = some u → (s1.heap.push ob).get? b = some u := fun b u e => Heap.get?_push_of_some _ e
  have lim2 : (s1.heap.push ob).NoLimit := I1.nolimit.push ob
  have cd : PySem.W.CodeHd (s1.heap.push ob) c p := TB.code.keeps fun b u e => old2 b u (I1.bk b u e)
  have rest : ∀ (code : Value) (h3 : Heap) (tk : Nat), Heap.ExtBut p (s1.heap.push ob) h3 → (s1.heap.push ob).objs.size ≤ h3.objs.size → TabIs p h3 →
      wpAny (model X.prog X.w) X.A (builtinsFor X.env.globals X.env.builtins) (fun bi s4 =>
        ∃ Ia fp wr n Pf Sf pz F, Value.ref s1.heap.objs.size = .ref Ia ∧ (∀ A1 : Around, A1.handled = none → Walks X.prog X.w A1 Ia fp wr n Pf Sf) ∧ Sf 0 s4.heap ∧ (∀ b ∈ fp, b < s4.heap.objs.size) ∧ s4.heap.NoLimit ∧ cStatics ∉ wr ∧
          (∀ href : Heap, (∀ b o, s4.heap.get? b = some o → href.get? b = some o) → QuietGenD X.prog X.w (genEnv scope (cloFrom X.env.cells scope.names []) s4.heap.objs.size code bi X.env) x [] elt (List.range s4.heap.objs.size) wr Pf pz F href (X.A.depth + 1) (X.A.units + 8)) ∧
          (∀ a h5 tk5 gs, gs.bare = true → s4.heap.objs.size < a → h5.objs.size = a + 1 → (∀ b o, s4.heap.get? b = some o → h5.get? b = some o) →
            WalksS X.prog X.w X.A.in4 a (a :: s4.heap.objs.size :: List.range s4.heap.objs.size) (s4.heap.objs.size :: wr) (GenOnlyQ s4.gens.size) (passing pz n 0).length
              (fun j y => ∃ i, (passing pz n 0)[j]? = some i ∧ F i y) (GenAt X.prog X.w X.A.in4 a s4.gens.size s4.heap.objs.size (List.range s4.heap.objs.size) wr pz n F) →
            GenAt X.prog X.w X.A.in4 a s4.gens.size s4.heap.objs.size (List.range s4.heap.objs.size) wr pz n F 0 { s4 with gens := s4.gens.push gs, toks := tk5, heap := h5 } →
            Qv (.ref a) { s4 with gens := s4.gens.push gs, toks := tk5, heap := h5 })) X.xe { s1 with heap := h3, toks := tk } := by
    intro code h3 tk hx sz3 ht3
    have up : ∀ b u, b ≠ p → s1.heap.get? b = some u → h3.get? b = some u := fun b u n e => hx b u n (old2 b u e)
    obtain ⟨bm, bo, e1, e2, e3, e4, e5, e6, e7, e8⟩ := TB.bm
    have stat : cStatics ≠ p := fun z => by
      obtain ⟨_, ns2, _⟩ := I1.nolimit
      obtain ⟨o', es, ep, ho, hd, _⟩ := ns2
      rw [z, hps] at ho
      cases ho
      cases hd
    have statlt : cStatics < s1.heap.objs.size := by
      obtain ⟨_, ns2, _⟩ := I1.nolimit
      exact ns2.lt
    have gl : h3.Ns X.env.globals X.mg := by
      rw [I1.ok.glob]
      exact ((I1.mod.glob.keeps I1.bk).push ob).extBut hx TB.gP
    refine wpAny_builtinsFor gl e1 e2 (up _ _ e4 (I1.bk _ _ e5)) e6 e7 e8 ?_
    have lne : l ≠ s1.heap.objs.size := Nat.ne_of_lt llt
    have itN : s1.heap.objs.size ≠ p := fun z => by
      have := z ▸ plt
      exact Nat.lt_irrefl _ this
    refine ⟨s1.heap.objs.size, [s1.heap.objs.size, l], [s1.heap.objs.size], its.toArray.size, _, _, fun _ => true, fun i y => ∃ v, ys[i]? = some v ∧ y = .bool (isIntV v), rfl, fun A1 hA => Walks.list hA _ l lne its.toArray, ⟨?s1, ?s2⟩, ?fp, lim2.extBut hx stat, ?st, ?qt, ?fin⟩
    case s1 =>
      refine ⟨_, hx _ _ itN (Heap.get?_push_size _ (by rw [← hob]; rfl)), ?_⟩
      subst hob
      exact ⟨rfl, rfl⟩
    case s2 => exact pl.isList.at fun o e => up l o lp e
    case fp =>
      intro b hb
      show b < h3.objs.size
      have : s1.heap.objs.size + 1 ≤ h3.objs.size := sz2 ▸ sz3
      rcases List.mem_cons.mp hb with z | hb
      · rw [z]
        exact Nat.lt_of_lt_of_le (Nat.lt_succ_self _) this
      · rw [List.mem_singleton.mp hb]
        exact Nat.lt_of_lt_of_le (Nat.lt_succ_of_lt llt) this
    case st =>
      intro z
      rw [List.mem_singleton.mp z] at statlt
      exact Nat.lt_irrefl _ statlt
    case qt =>
      intro href hh
      have keepB : ∀ (s2 : Shared), (∀ b ∈ List.range h3.objs.size, b ∉ [s1.heap.objs.size] → ∀ o, href.get? b = some o → s2.heap.get? b = some o) → ∀ b o, X.base.get? b = some o → s2.heap.get? b = some o := fun s2 hk b o e => by
        have e2 := I1.bk b o e
        have nb : b ≠ p := fun z => by
          have := (I1.bs b o e).2
          rw [z, hP] at this
          cases this
        have e3 := up b o nb e2
        refine hk b (List.mem_range.mpr (Heap.lt_size e3)) (fun z => ?_) o (hh b o e3)
        have := Heap.lt_size e2
        rw [List.mem_singleton.mp z] at this
        exact Nat.lt_irrefl _ this
      refine ⟨fun A1 E1 i v s2 m2 hA hD hU hv hn hm hk => ?_, fun A1 E1 i v s2 m2 hA hD hU hv hz2 hn hm hk => ?_⟩
      · simp only [List.forIn_nil]
        exact wpAny_pure ⟨rfl, keeps_refl _⟩
      · obtain ⟨y, T, hy, hyT, hyI⟩ := isTy i v hv
        have hT2 : ∀ s', Keeps s2 s' → s'.TypeIs v T := fun s' ks => by
          refine ty_keep hyI fun a o e e1 e2 => ?_
          have nap : a ≠ p := fun z => by
            rw [z, hps] at e1
            cases e1
            cases e2
          have e3 := up a o nap e1
          obtain ⟨h', tk', rfl, ks⟩ := ks
          refine ks a o (hk a (List.mem_range.mpr (Heap.lt_size e3)) (fun z => ?_) o (hh a o e3))
          have := Heap.lt_size e1
          rw [List.mem_singleton.mp z] at this
          exact Nat.lt_irrefl _ this
        exact thn (hel _ A1 E1 v T (isIntV y) s2 m2 rfl I1.ok.glob (by omega) (keepB s2 hk) hn hm hT2 hyT.nb (tyB_int hyT)) fun y0 s3 h3 => ⟨⟨y, hy, h3.1⟩, h3.2⟩
    case fin =>
      intro a h5 tk5 gs hgb hag hsz5 hk5 W5 hat
      refine hQ H1 ys a _ hR ⟨_, _, _, _, _, _, W5.in4_1, hat, ?_, fun i y hy => ?_, fun s2 hm => ?_⟩
      · rw [pass_all, List.length_range]
        simpa using hlen
      · obtain ⟨j, hj, e⟩ := hy
        rw [pass_all] at hj
        obtain ⟨h1, h2⟩ := List.getElem?_eq_some_iff.mp hj
        rw [List.getElem_range] at h2
        rw [h2]
        exact e
      · have notw : ∀ b u, s1.heap.get? b = some u → b ∉ h3.objs.size :: [s1.heap.objs.size] := fun b u e hb => by
          have hl := Heap.lt_size e
          have : s1.heap.objs.size + 1 ≤ h3.objs.size := sz2 ▸ sz3
          rcases List.mem_cons.mp hb with z | z
          · rw [z] at hl
            have : (h3.objs.size : Nat) < s1.heap.objs.size := hl
            omega
          · rw [List.mem_singleton.mp z] at hl
            exact Nat.lt_irrefl _ hl
        have ht5 : TabIs p s2.heap := by
          obtain ⟨qs, e, r⟩ := ht3
          exact ⟨qs, hm.heap p _ (notw p _ hps) (hk5 p _ e), r⟩
        have J := inv_tabO (h1 := s2.heap) (g1 := s2.gens) (d1 := s2.drawn) (t1 := s2.toks) I1 hP (fun b u n e => hm.heap b u (notw b u e) (hk5 b u (up b u n e))) ht5 (AllBare.movedS (I1.bare.push hgb) hm)
        rwa [sh_eta s1 s2 hm.os] at J
  refine ⟨lim2, ?_⟩
  have tab2 := cd.code (old2 p _ hps) htr
  cases hf : codeAmong gpos ps.toList with
  | some cv =>
    refine wpAny_genexprCode_hit hcode tab2 hf (rest cv _ s1.toks (Heap.ExtBut.refl _ _) (Nat.le_refl _) ⟨ps, old2 p _ hps, htr⟩)
  | none =>
    refine wpAny_genexprCodeX hcode tab2 (cd.tab (old2 p _ hps)) hf fun c2 h3 tk hx3 hge hlt hc3 _ htb3 _ => ?_
    obtain ⟨o1, vs, f1, tf, fl, tg, inF, tx, tt, op, _, _, _, _, _, _, _, _, _, htr3, _⟩ := hc3
    exact rest _ h3 tk hx3 (Nat.le_trans hge (Nat.le_of_lt hlt)) ⟨_, htb3.2, htr3⟩
/-- all(f(x) for x in xs) -/
theorem pe_allA {c p : Addr} {elt iter : Expr} {x : Str} {px pp pos gpos : Pos} {scope : Scope} {te : TE} {k : Nat} (hr : Room k X.A) (hg : Gl X "all") (hm : X.mg "all" = none) (TB : TabB X.base X.mg c p) (hcode : X.env.code = .ref c) (S : GenS X.env scope x) (hi : PE X iter te)
    (hel : Mod X.K X.mg X.base → EltA X.prog X.w X.base scope x elt) (hs : ∀ v, genFold iter X.env v = pure v)
    (he : starEach [.GeneratorExp elt [⟨.Name x px, iter, [], 0⟩] scope gpos] X.env = (false, eval (.GeneratorExp elt [⟨.Name x px, iter, [], 0⟩] scope gpos) X.env) :: starEach [] X.env := by rfl) :
    PE X (.Call (.Name "all" pp) [.GeneratorExp elt [⟨.Name x px, iter, [], 0⟩] scope gpos] [] pos) (tAllA X.K p te) := by
  refine ⟨fun pins s σ H Q I h => ?_⟩
  have hb : bootBuiltins "all" = some (.builtin "all") := by decide +kernel
  refine wpAny_Call_Name_kw (ld_blt I hg hm hb (PyProof.Rows.callWith_builtin1 ?_ he (by rfl)))
  rw [he]
  refine Calls.spliced_cons (gen_any (R := fun H1 ys => Q (.bl (ys.all isIntV)) H1) hr TB hcode S hi (hel I.ok.mod) hs I h fun H1 ys g s2 hR hG => ?_)
  obtain ⟨fp, wr, G, n, F, St, W, hst, hn, hF, hI⟩ := hG
  refine Calls.spliced_nil (call_all_walkS (W.self 0 _ _ _ hst ⟨g, fp, wr, G, _, F, St, fun i => isIntV (ys.getD i .non), rfl, W, hst, fun i y s3 Q3 E3 hy q => ?_, fun s3 hmv => ?_⟩))
  · obtain ⟨v, h1, h2⟩ := hF i y hy
    have e : ys.getD i .non = v := by rw [List.getD_eq_getElem?_getD, h1]; rfl
    rw [h2]
    have q2 : Q3 (isIntV v) s3 := e ▸ q
    exact wpAny_truthy_bool q2
  · have e : ((List.range n).all fun i => isIntV (ys.getD i .non)) = ys.all isIntV := by
      rw [hn, Bool.eq_iff_iff, List.all_eq_true, List.all_eq_true]
      constructor
      · intro h y hy
        obtain ⟨i, hi, rfl⟩ := List.getElem_of_mem hy
        have z := h i (List.mem_range.mpr hi)
        rw [List.getD_eq_getElem?_getD, List.getElem?_eq_getElem hi] at z
        exact z
      · intro h i hi
        have hi := List.mem_range.mp hi
        rw [List.getD_eq_getElem?_getD, List.getElem?_eq_getElem hi]
        exact h _ (List.getElem_mem hi)
    rw [e]
    exact ⟨.bl (ys.all isIntV), H1, hI s3 hmv, rfl, hR⟩
end
end AvR
set_option Elab.async false
set_option linter.all false
set_option maxRecDepth 100000
set_option maxHeartbeats 2000000
/-! # the last lesser number, the groups: what they are -/
namespace GL
open PySem PySem.Spec PyProof.Rows L2 Geo Rel
abbrev at0 (ns : List Int) (j : Int) : Int := ns.getD j.toNat 0
/-- the stack after the first i numbers -/
structure Stk (ns : List Int) (L : List Int) (i : Nat) : Prop where
  rng : ∀ j ∈ L, 0 ≤ j ∧ j < i
  inc : L.Pairwise (· < ·)
  up : L.Pairwise fun j k => at0 ns j ≤ at0 ns k
  all : ∀ k : Nat, k < i → ∃ j ∈ L, (k : Int) ≤ j ∧ at0 ns j ≤ ns.getD k 0
def LastAt (ns : List Int) (i : Nat) (r : Int) : Prop :=
  (r = -1 ∧ ∀ k : Nat, k < i → ns.getD k 0 > ns.getD i 0) ∨ ∃ j : Nat, r = j ∧ j < i ∧ ns.getD j 0 ≤ ns.getD i 0 ∧ ∀ k : Nat, j < k → k < i → ns.getD k 0 > ns.getD i 0
theorem popF_split (ns : List Int) (n : Int) (L : List Int) : ∃ R, L = popF ns n L ++ R ∧ (∀ r ∈ R, at0 ns r > n) ∧ (popF ns n L = [] ∨ ∃ L' p, popF ns n L = L' ++ [p] ∧ at0 ns p ≤ n) := by
  generalize hm : L.length = m
  induction m generalizing L with
  | zero =>
    obtain rfl := List.length_eq_zero_iff.mp hm
    exact ⟨[], rfl, by simp, .inl rfl⟩
  | succ m ih =>
    have hne : L ≠ [] := fun e => by rw [e] at hm; cases hm
    obtain ⟨L0, p, rfl⟩ : ∃ L0 p, L = L0 ++ [p] := ⟨L.dropLast, L.getLast hne, (List.dropLast_concat_getLast hne).symm⟩
    rw [popF_snoc]
    by_cases c : ns.getD p.toNat 0 > n
    · rw [if_pos c]
      obtain ⟨R, h1, h2, h3⟩ := ih L0 (by simp at hm; exact hm)
      refine ⟨R ++ [p], ?_, fun r hr => ?_, h3⟩
      · rw [← List.append_assoc, ← h1]
      · rcases List.mem_append.mp hr with hr | hr
        · exact h2 r hr
        · rw [List.mem_singleton.mp hr]
          exact c
    · rw [if_neg c]
      exact ⟨[], by simp, by simp, .inr ⟨L0, p, rfl, by show ns.getD p.toNat 0 ≤ n; omega⟩⟩
theorem stk_step {ns L : List Int} {i : Nat} (h : Stk ns L i) : Stk ns (popF ns (ns.getD i 0) L ++ [(i : Int)]) (i + 1) ∧ LastAt ns i ((popF ns (ns.getD i 0) L).getLastD (-1)) := by
  obtain ⟨R, e, hR, hl⟩ := popF_split ns (ns.getD i 0) L
  have hsub := popF_sub ns (ns.getD i 0) L
  generalize popF ns (ns.getD i 0) L = M at *
  -- all of M is at most n
  have hM : ∀ j ∈ M, at0 ns j ≤ ns.getD i 0 := fun j hj => by
    rcases hl with rfl | ⟨L', p, rfl, hp⟩
    · cases hj
    · have up := h.up
      rw [e] at up
      have up2 := (List.pairwise_append.mp up).1
      rcases List.mem_append.mp hj with hj | hj
      · have := (List.pairwise_append.mp up2).2.2 j hj p List.mem_cons_self
        omega
      · rw [List.mem_singleton.mp hj]
        exact hp
  have at_i : at0 ns (i : Int) = ns.getD i 0 := by
    show ns.getD ((i : Int).toNat) 0 = _
    rw [Int.toNat_natCast]
  have incM : M.Pairwise (· < ·) := by
    have z := h.inc
    rw [e] at z
    exact (List.pairwise_append.mp z).1
  have upM : M.Pairwise fun j k => at0 ns j ≤ at0 ns k := by
    have z := h.up
    rw [e] at z
    exact (List.pairwise_append.mp z).1
  refine ⟨⟨fun j hj => ?_, ?_, ?_, fun k hk => ?_⟩, ?_⟩
  · rcases List.mem_append.mp hj with hj | hj
    · have := h.rng j (hsub j hj)
      omega
    · rw [List.mem_singleton.mp hj]
      omega
  · exact List.pairwise_append.mpr ⟨incM, by simp, fun a ha b hb => by
      rw [List.mem_singleton.mp hb]
      exact (h.rng a (hsub a ha)).2⟩
  · exact List.pairwise_append.mpr ⟨upM, by simp, fun a ha b hb => by
      rw [List.mem_singleton.mp hb, at_i]
      exact hM a ha⟩
  · by_cases c : k = i
    · subst c
      exact ⟨(k : Int), by simp, by omega, by rw [at_i]; omega⟩
    · obtain ⟨j, hj, h1, h2⟩ := h.all k (by omega)
      rw [e] at hj
      rcases List.mem_append.mp hj with hj | hj
      · exact ⟨j, List.mem_append_left _ hj, h1, h2⟩
      · have := hR j hj
        exact ⟨(i : Int), by simp, by omega, by rw [at_i]; omega⟩
  · rcases hl with rfl | ⟨L', p, rfl, hp⟩
    · refine .inl ⟨rfl, fun k hk => ?_⟩
      obtain ⟨j, hj, h1, h2⟩ := h.all k hk
      rw [e] at hj
      have := hR j (by simpa using hj)
      omega
    · have hpr := h.rng p (hsub p (by simp))
      refine .inr ⟨p.toNat, ?_, by omega, hp, fun k h1 h2 => ?_⟩
      · rw [List.getLastD_concat]
        omega
      · obtain ⟨j, hj, h3, h4⟩ := h.all k h2
        rw [e] at hj
        rcases List.mem_append.mp hj with hj | hj
        · rcases List.mem_append.mp hj with hj | hj
          · have := (List.pairwise_append.mp incM).2.2 j hj p List.mem_cons_self
            omega
          · have := List.mem_singleton.mp hj
            omega
        · have := hR j hj
          omega
theorem last_fold (ns : List Int) : ∀ i : Nat, i ≤ ns.length → Stk ns (((enumL ns).take i).foldl (stepLL ns) ([], [])).2 i ∧ (((enumL ns).take i).foldl (stepLL ns) ([], [])).1.length = i ∧ ∀ k : Nat, k < i → LastAt ns k ((((enumL ns).take i).foldl (stepLL ns) ([], [])).1.getD k 0)
  | 0, _ => ⟨⟨by simp, by simp, by simp, fun k hk => by omega⟩, rfl, fun k hk => by omega⟩
  | i + 1, hi => by
    obtain ⟨h1, h2, h3⟩ := last_fold ns i (by omega)
    have hz : ns[i]? = some ns[i] := List.getElem?_eq_getElem (by omega)
    have hg : ns.getD i 0 = ns[i] := by rw [List.getD_eq_getElem?_getD, hz]; rfl
    rw [enum_take hz, List.foldl_append]
    generalize ((enumL ns).take i).foldl (stepLL ns) ([], []) = st at h1 h2 h3
    obtain ⟨s1, s2⟩ := stk_step h1
    rw [hg] at s1 s2
    refine ⟨s1, by show (st.1 ++ [_]).length = i + 1; rw [List.length_append, h2]; rfl, fun k hk => ?_⟩
    show LastAt ns k ((st.1 ++ [(popF ns ns[i] st.2).getLastD (-1)]).getD k 0)
    by_cases c : k = i
    · subst c
      rw [List.getD_eq_getElem?_getD, List.getElem?_append_right (by omega), show k - st.1.length = 0 by omega]
      exact s2
    · rw [List.getD_eq_getElem?_getD, List.getElem?_append_left (by omega), ← List.getD_eq_getElem?_getD]
      exact h3 k (by omega)
theorem last_at (ns : List Int) {k : Nat} (h : k < ns.length) : LastAt ns k ((lastF ns).getD k 0) := by
  have z := (last_fold ns ns.length (Nat.le_refl _)).2.2 k h
  rw [← enumL_len, List.take_length] at z
  exact z
theorem group_fold (ps : List Int) (h : ∀ r ∈ ps, 0 ≤ r ∧ r ≤ ps.length) : ∀ i : Nat, i ≤ ps.length → (((enumL ps).take i).foldl stepG ((List.range (ps.length + 1)).map fun _ => [])).length = ps.length + 1 ∧ ∀ p : Nat, p ≤ ps.length → (((enumL ps).take i).foldl stepG ((List.range (ps.length + 1)).map fun _ => [])).getD p [] = ((List.range i).filter fun v => decide (ps.getD v 0 = (p : Int))).map fun v : Nat => (v : Int)
  | 0, _ => ⟨by simp, fun p hp => by
    show ((List.range (ps.length + 1)).map fun _ => ([] : List Int)).getD p [] = []
    rw [List.getD_eq_getElem?_getD, List.getElem?_map]
    cases (List.range (ps.length + 1))[p]? <;> rfl⟩
  | i + 1, hi => by
    obtain ⟨h1, h2⟩ := group_fold ps h i (by omega)
    have hz : ps[i]? = some ps[i] := List.getElem?_eq_getElem (by omega)
    have hg : ps.getD i 0 = ps[i] := by rw [List.getD_eq_getElem?_getD, hz]; rfl
    have hr := h ps[i] (List.getElem_mem _)
    rw [enum_take hz, List.foldl_append]
    generalize ((enumL ps).take i).foldl stepG ((List.range (ps.length + 1)).map fun _ => []) = gs at h1 h2
    show (gs.set (ps[i]).toNat (gs.getD (ps[i]).toNat [] ++ [(i : Int)])).length = _ ∧ ∀ p : Nat, p ≤ ps.length → (gs.set (ps[i]).toNat (gs.getD (ps[i]).toNat [] ++ [(i : Int)])).getD p [] = _
    refine ⟨by rw [List.length_set, h1], fun p hp => ?_⟩
    rw [List.range_succ, List.filter_append, List.map_append, ← h2 p hp]
    by_cases c : ps[i] = (p : Int)
    · rw [c, Int.toNat_natCast, List.getD_eq_getElem?_getD, List.getElem?_set_self (by omega)]
      rw [List.filter_cons, if_pos (by rw [hg, c]; simp)]
      rfl
    · rw [List.getD_eq_getElem?_getD, List.getElem?_set_ne (by omega), ← List.getD_eq_getElem?_getD]
      rw [List.filter_cons, if_neg (by rw [hg]; simp [c])]
      simp
theorem group_at {ps : List Int} (h : ∀ r ∈ ps, 0 ≤ r ∧ r ≤ ps.length) {p : Nat} (hp : p ≤ ps.length) : (groupsF ps).getD p [] = ((List.range ps.length).filter fun v => decide (ps.getD v 0 = (p : Int))).map fun v : Nat => (v : Int) := by
  have z := (group_fold ps h ps.length (Nat.le_refl _)).2 p hp
  rw [← enumL_len, List.take_length] at z
  rw [enumL_len] at z
  exact z
end GL
set_option Elab.async false
set_option linter.all false
set_option maxRecDepth 100000
set_option maxHeartbeats 2000000
/-! # each step of a code, told by the plan alone -/
namespace GL
open PySem PySem.Spec PyProof.Rows L2 Geo Rel Bx DlR
/-- nothing greater lies before; nothing greater lies behind -/
def LM (l : List Int) (v : Int) : Prop := ∃ X Y, l = X ++ v :: Y ∧ ∀ x ∈ X, x < v
def RM (l : List Int) (v : Int) : Prop := ∃ X Y, l = X ++ v :: Y ∧ ∀ y ∈ Y, y < v
theorem lm_ins {A B : List Int} {m v : Int} (hlt : ∀ x ∈ A ++ B, x < m) (h : LM (A ++ m :: B) v) : v = m ∨ (v ∈ A ∧ LM (A ++ B) v) := by
  obtain ⟨X, Y, e, hX⟩ := h
  rcases mid_cases e with ⟨E, h3, h4⟩ | ⟨_, h3, _⟩ | ⟨E, h3, h4⟩
  · exact .inr ⟨by rw [h3]; simp, X, E ++ B, by rw [h3]; simp, hX⟩
  · exact .inl h3.symm
  · have h5 := hX m (by rw [h3]; simp)
    have h6 := hlt v (by rw [h4]; simp)
    omega
theorem rm_ins {A B : List Int} {m v : Int} (hlt : ∀ x ∈ A ++ B, x < m) (h : RM (A ++ m :: B) v) : v = m ∨ (v ∈ B ∧ RM (A ++ B) v) := by
  obtain ⟨X, Y, e, hY⟩ := h
  rcases mid_cases e with ⟨E, h3, h4⟩ | ⟨_, h3, _⟩ | ⟨E, h3, h4⟩
  · have h5 := hY m (by rw [h4]; simp)
    have h6 := hlt v (by rw [h3]; simp)
    omega
  · exact .inl h3.symm
  · exact .inr ⟨by rw [h4]; simp, A ++ E, Y, by rw [h4]; simp, hY⟩
structure GpC (st : StC) (m : Nat) (lo ri : Int) : Prop extends Gp st m lo ri where
  lC : ∀ v, LM st.1 v → v ∈ st.2.1
  rC : ∀ v, RM st.1 v → v ∈ st.2.2
theorem gpc_one : GpC ([0], [0], [0]) 1 1 1 where
  toGp := gp_one
  lC := fun v ⟨X, Y, e, _⟩ => by
    have e' : ([0] : List Int) = X ++ v :: Y := e
    show v ∈ ([0] : List Int)
    rw [e']
    simp
  rC := fun v ⟨X, Y, e, _⟩ => by
    have e' : ([0] : List Int) = X ++ v :: Y := e
    show v ∈ ([0] : List Int)
    rw [e']
    simp
/-- what the number n at p tells of the panes before p and behind it -/
def NumIs (A B : List Int) (n : Int) : Prop :=
  (n < 0 ∧ ∃ S : List Int, S.Nodup ∧ (S.length : Int) = -n ∧ ∀ x, x ∈ S ↔ x ∈ A ∧ RM (A ++ B) x) ∨
  (0 < n ∧ (∀ x, ¬(x ∈ A ∧ RM (A ++ B) x)) ∧ ∃ S : List Int, S.Nodup ∧ (S.length : Int) = n ∧ ∀ x, x ∈ S ↔ x ∈ B ∧ LM (A ++ B) x)
theorem nd_of_lt {l : List Int} (h : l.Pairwise (· < ·)) : l.Nodup := h.imp fun hab e => by omega
theorem drop_ge {l : List Int} (h : l.Pairwise (· < ·)) {k : Nat} (hk : k < l.length) : ∀ x ∈ l.drop k, l[k] ≤ x := fun x hx => by
  rw [List.drop_eq_getElem_cons hk] at hx
  rcases List.mem_cons.mp hx with rfl | hx
  · omega
  · have z : (l.drop k).Pairwise (· < ·) := h.sublist (List.drop_sublist _ _)
    rw [List.drop_eq_getElem_cons hk] at z
    have := (List.pairwise_cons.mp z).1 x hx
    omega
theorem in_drop {l : List Int} (h : l.Pairwise (· < ·)) {k : Nat} (hk : k < l.length) {x : Int} (hx : x ∈ l) (hl : l[k] ≤ x) : x ∈ l.drop k := by
  rw [← List.take_append_drop k l] at hx
  rcases List.mem_append.mp hx with hx | hx
  · have := take_lt h hk x hx
    omega
  · exact hx
theorem gpc_up {st : StC} {m : Nat} {lo ri : Int} (g : GpC st m lo ri) {n : Nat} (h1 : 0 < n) (h2 : (n : Int) ≤ lo) :
    ∃ st' A B, stepC st m n = some st' ∧ GpC st' (m + 1) (lo - n + 1) (ri + 1) ∧ st'.1 = A ++ (m : Int) :: B ∧ st.1 = A ++ B ∧ NumIs A B n := by
  obtain ⟨st', hs', g'⟩ := gp_up g.toGp h1 h2
  have hl : n ≤ st.2.1.length := by have := g.lL; omega
  have hk : st.2.1.length - n < st.2.1.length := by omega
  generalize hb : st.2.1[st.2.1.length - n] = b
  have hbm : b ∈ st.2.1 := by rw [← hb]; exact List.getElem_mem _
  obtain ⟨A, B, e, hA⟩ := g.lo b hbm
  have nd := g.nd
  rw [e] at nd
  have hs : stepC st m n = some (A ++ (m : Int) :: b :: B, st.2.1.take (st.2.1.length - n) ++ [(m : Int)], st.2.2 ++ [(m : Int)]) := by
    unfold stepC
    rw [if_pos (by omega), atI_neg h1 hl, hb, from_neg h1 hl]
    show (if b ∈ st.1 then _ else _) = _
    rw [if_pos (by rw [e]; simp), e, idx_mid nd, insF_mid]
  have es := Option.some.inj (hs'.symm.trans hs)
  subst es
  have hlt : ∀ x ∈ A ++ b :: B, x < (m : Int) := by rw [← e]; exact gp_lt g.toGp
  refine ⟨_, A, b :: B, hs, ⟨g', fun v hv => ?_, fun v hv => ?_⟩, rfl, e, .inr ⟨by omega, fun x hx => ?_, st.2.1.drop (st.2.1.length - n), (nd_of_lt g.lS).sublist (List.drop_sublist _ _), by rw [List.length_drop]; omega, fun x => ⟨fun hx => ?_, fun hx => ?_⟩⟩⟩
  · rcases lm_ins hlt hv with rfl | ⟨h3, h4⟩
    · exact List.mem_append_right _ List.mem_cons_self
    · rw [← e] at h4
      have h5 := g.lC v h4
      have h6 := hA v h3
      refine List.mem_append_left _ ?_
      rw [← List.take_append_drop (st.2.1.length - n) st.2.1] at h5
      rcases List.mem_append.mp h5 with h5 | h5
      · exact h5
      · have := drop_ge g.lS hk v h5
        omega
  · rcases rm_ins hlt hv with rfl | ⟨h3, h4⟩
    · exact List.mem_append_right _ List.mem_cons_self
    · rw [← e] at h4
      exact List.mem_append_left _ (g.rC v h4)
  · obtain ⟨h3, X, Y, h4, h5⟩ := hx
    have h6 := hA x h3
    rcases mid_cases h4 with ⟨E, h7, h8⟩ | ⟨_, h7, _⟩ | ⟨E, h7, h8⟩
    · have := h5 b (by rw [h8]; simp)
      omega
    · omega
    · exact absurd rfl ((List.nodup_append.mp nd).2.2 x h3 x (by rw [h8]; simp))
  · have h3 := drop_ge g.lS hk x hx
    have h4 := List.mem_of_mem_drop hx
    obtain ⟨A', B', e', hA'⟩ := g.lo x h4
    refine ⟨?_, A', B', by rw [← e]; exact e', hA'⟩
    have h5 : x ∈ A ++ b :: B := by rw [← e, e']; simp
    rcases List.mem_append.mp h5 with h5 | h5
    · have := hA x h5
      omega
    · exact h5
  · obtain ⟨h3, h4⟩ := hx
    rw [← e] at h4
    have h5 := g.lC x h4
    refine in_drop g.lS hk h5 ?_
    rw [hb]
    rcases List.mem_cons.mp h3 with rfl | h3
    · exact Int.le_refl _
    · obtain ⟨X, Y, h6, h7⟩ := h4
      rw [e] at h6
      rcases mid_cases h6 with ⟨E, h8, _⟩ | ⟨_, h8, _⟩ | ⟨E, h8, h9⟩
      · exact absurd rfl ((List.nodup_append.mp nd).2.2 x (by rw [h8]; simp) x (by simp [h3]))
      · omega
      · have := h7 b (by rw [h8]; simp)
        omega
theorem gpc_side {st : StC} {m : Nat} {lo ri : Int} (g : GpC st m lo ri) {n : Nat} (h1 : 0 < n) (h2 : (n : Int) ≤ ri) :
    ∃ st' A B, stepC st m (-(n : Int)) = some st' ∧ GpC st' (m + 1) (lo + 1) (ri - n + 1) ∧ st'.1 = A ++ (m : Int) :: B ∧ st.1 = A ++ B ∧ NumIs A B (-(n : Int)) := by
  obtain ⟨st', hs', g'⟩ := gp_side g.toGp h1 h2
  have hl : n ≤ st.2.2.length := by have := g.rL; omega
  have hk : st.2.2.length - n < st.2.2.length := by omega
  generalize hb : st.2.2[st.2.2.length - n] = c
  have hbm : c ∈ st.2.2 := by rw [← hb]; exact List.getElem_mem _
  obtain ⟨C, D, e, hD⟩ := g.ri c hbm
  have nd := g.nd
  rw [e] at nd
  have hs : stepC st m (-(n : Int)) = some (C ++ c :: (m : Int) :: D, st.2.1 ++ [(m : Int)], st.2.2.take (st.2.2.length - n) ++ [(m : Int)]) := by
    unfold stepC
    rw [if_neg (by omega), atI_neg h1 hl, hb, from_neg h1 hl]
    show (if c ∈ st.1 then _ else _) = _
    rw [if_pos (by rw [e]; simp), e, idx_mid nd, insF_mid1]
  have es := Option.some.inj (hs'.symm.trans hs)
  subst es
  have e2 : C ++ c :: (m : Int) :: D = (C ++ [c]) ++ (m : Int) :: D := by simp
  have e3 : C ++ c :: D = (C ++ [c]) ++ D := by simp
  have e4 : st.1 = (C ++ [c]) ++ D := e.trans e3
  have hlt : ∀ x ∈ (C ++ [c]) ++ D, x < (m : Int) := by rw [← e4]; exact gp_lt g.toGp
  refine ⟨_, C ++ [c], D, hs, ⟨g', fun v hv => ?_, fun v hv => ?_⟩, e2, e4, .inl ⟨by omega, st.2.2.drop (st.2.2.length - n), (nd_of_lt g.rS).sublist (List.drop_sublist _ _), by rw [List.length_drop]; omega, fun x => ⟨fun hx => ?_, fun hx => ?_⟩⟩⟩
  · have hv' : LM ((C ++ [c]) ++ (m : Int) :: D) v := by rw [← e2]; exact hv
    rcases lm_ins hlt hv' with rfl | ⟨h3, h4⟩
    · exact List.mem_append_right _ List.mem_cons_self
    · rw [← e4] at h4
      exact List.mem_append_left _ (g.lC v h4)
  · have hv' : RM ((C ++ [c]) ++ (m : Int) :: D) v := by rw [← e2]; exact hv
    rcases rm_ins hlt hv' with rfl | ⟨h3, h4⟩
    · exact List.mem_append_right _ List.mem_cons_self
    · rw [← e4] at h4
      have h5 := g.rC v h4
      have h6 := hD v h3
      refine List.mem_append_left _ ?_
      rw [← List.take_append_drop (st.2.2.length - n) st.2.2] at h5
      rcases List.mem_append.mp h5 with h5 | h5
      · exact h5
      · have := drop_ge g.rS hk v h5
        omega
  · have h3 := drop_ge g.rS hk x hx
    have h4 := List.mem_of_mem_drop hx
    obtain ⟨A', B', e', hB'⟩ := g.ri x h4
    refine ⟨?_, A', B', by rw [← e4]; exact e', hB'⟩
    have h5 : x ∈ (C ++ [c]) ++ D := by rw [← e4, e']; simp
    rcases List.mem_append.mp h5 with h5 | h5
    · exact h5
    · have := hD x h5
      omega
  · obtain ⟨h3, h4⟩ := hx
    rw [← e4] at h4
    have h5 := g.rC x h4
    refine in_drop g.rS hk h5 ?_
    rw [hb]
    rcases List.mem_append.mp h3 with h3 | h3
    · obtain ⟨X, Y, h6, h7⟩ := h4
      rw [e] at h6
      rcases mid_cases h6 with ⟨E, h8, h9⟩ | ⟨_, h8, _⟩ | ⟨E, h8, h9⟩
      · have := h7 c (by rw [h9]; simp)
        omega
      · omega
      · exact absurd rfl ((List.nodup_append.mp nd).2.2 x h3 x (by rw [h9]; simp))
    · rw [List.mem_singleton.mp h3]
      exact Int.le_refl _
theorem gpc_step {st : StC} {m : Nat} {lo ri n : Int} (g : GpC st m lo ri) (hn : n ∈ numbersF lo ri) : ∃ st' A B, stepC st m n = some st' ∧ GpC st' (m + 1) (growB lo ri n).1 (growB lo ri n).2 ∧ st'.1 = A ++ (m : Int) :: B ∧ st.1 = A ++ B ∧ NumIs A B n := by
  have hc : (-ri ≤ n ∧ n < 0) ∨ (1 ≤ n ∧ n ≤ lo) := by
    unfold numbersF at hn
    rcases List.mem_append.mp hn with h | h
    · obtain ⟨i, hi, rfl⟩ := List.mem_map.mp h
      have := List.mem_range.mp hi
      omega
    · obtain ⟨i, hi, rfl⟩ := List.mem_map.mp h
      have := List.mem_range.mp hi
      omega
  rcases hc with ⟨c1, c2⟩ | ⟨c1, c2⟩
  · obtain ⟨k, rfl⟩ : ∃ k : Nat, n = -(k : Int) := ⟨(-n).toNat, by omega⟩
    obtain ⟨st', A, B, h1, h2, h3⟩ := gpc_side g (n := k) (by omega) (by omega)
    refine ⟨st', A, B, h1, ?_, h3⟩
    unfold growB
    rw [if_neg (by omega)]
    have e : ri + -(k : Int) + 1 = ri - k + 1 := by omega
    rw [show (lo + 1, ri + -(k : Int) + 1).2 = ri - k + 1 from e]
    exact h2
  · obtain ⟨k, rfl⟩ : ∃ k : Nat, n = (k : Int) := ⟨n.toNat, by omega⟩
    obtain ⟨st', A, B, h1, h2, h3⟩ := gpc_up g (n := k) (by omega) (by omega)
    refine ⟨st', A, B, h1, ?_, h3⟩
    unfold growB
    rw [if_pos (by omega)]
    exact h2
theorem below_self {l : List Int} {m : Int} (h : ∀ x ∈ l, x < m) : l.filter (fun v => decide (v < m)) = l := List.filter_eq_self.mpr fun x hx => decide_eq_true (h x hx)
theorem below_ins {A B : List Int} {m : Int} (h : ∀ x ∈ A ++ B, x < m) : (A ++ m :: B).filter (fun v => decide (v < m)) = A ++ B := by
  rw [List.filter_append, List.filter_cons, if_neg (by simp), below_self fun x hx => h x (List.mem_append_left _ hx), below_self fun x hx => h x (List.mem_append_right _ hx)]
theorem below_le {l : List Int} {m : Int} : (l.filter fun v => decide (v < m + 1)).filter (fun v => decide (v < m)) = l.filter fun v => decide (v < m) := by
  rw [List.filter_filter]
  congr 1
  funext v
  by_cases c : v < m
  · simp [c, show v < m + 1 by omega]
  · simp [c]
/-- the panes below m of the plan at the end are the plan at m; each number tells of its pane -/
theorem run_code : ∀ (ns : List Int) (st : StC) (m : Nat) (lo ri : Int), GpC st m lo ri → ValidC lo ri ns → ∃ st' lo' ri', runC st (m : Int) ns = some st' ∧ GpC st' (m + ns.length) lo' ri' ∧ st'.1.filter (fun v => decide (v < (m : Int))) = st.1 ∧
    ∀ (i : Nat) (n : Int), ns[i]? = some n → ∃ A B, st'.1.filter (fun v => decide (v < (m : Int) + (i : Int) + 1)) = A ++ ((m : Int) + (i : Int)) :: B ∧ NumIs A B n
  | [], st, m, lo, ri, g, _ => ⟨st, lo, ri, rfl, g, below_self (gp_lt g.toGp), fun i n h => by simp at h⟩
  | n :: ns, st, m, lo, ri, g, h => by
    obtain ⟨st1, A, B, h1, g1, e1, e2, hN⟩ := gpc_step g h.1
    obtain ⟨st', lo', ri', h2, g2, h3, h4⟩ := run_code ns st1 (m + 1) _ _ g1 h.2
    have hlt : ∀ x ∈ A ++ B, x < (m : Int) := by rw [← e2]; exact gp_lt g.toGp
    have h3' : st'.1.filter (fun v => decide (v < (m : Int) + 1)) = st1.1 := h3
    refine ⟨st', lo', ri', ?_, by rw [List.length_cons, show m + (ns.length + 1) = m + 1 + ns.length by omega]; exact g2, ?_, fun i k hi => ?_⟩
    · show (stepC st m n).bind (fun st' => runC st' ((m : Int) + 1) ns) = _
      rw [h1]
      exact h2
    · rw [← below_le, h3', e1, below_ins hlt, e2]
    · cases i with
      | zero =>
        rw [List.getElem?_cons_zero] at hi
        obtain rfl := Option.some.inj hi
        refine ⟨A, B, ?_, hN⟩
        rw [show (m : Int) + ((0 : Nat) : Int) + 1 = (m : Int) + 1 by omega, h3', e1, show (m : Int) + ((0 : Nat) : Int) = (m : Int) by omega]
      | succ i =>
        rw [List.getElem?_cons_succ] at hi
        obtain ⟨A', B', h5, h6⟩ := h4 i k hi
        refine ⟨A', B', ?_, h6⟩
        rw [show (m : Int) + ((i + 1 : Nat) : Int) = ((m + 1 : Nat) : Int) + (i : Int) by omega]
        exact h5
end GL
set_option Elab.async false
set_option linter.all false
set_option maxRecDepth 100000
set_option maxHeartbeats 2000000
/-! # the code of the plan of a code is the code -/
namespace GL
open PySem PySem.Spec PyProof.Rows L2 Geo Rel Bx
theorem rev_get (l : List Int) {i : Nat} (h : i < l.length) : l.reverse.getD i 0 = l.getD (l.length - 1 - i) 0 := by
  rw [List.getD_eq_getElem?_getD, List.getD_eq_getElem?_getD, List.getElem?_reverse h]
theorem map_get (f : Int → Int) (l : List Int) {i : Nat} (h : i < l.length) : (l.map f).getD i 0 = f (l.getD i 0) := by
  rw [List.getD_eq_getElem?_getD, List.getD_eq_getElem?_getD, List.getElem?_map, List.getElem?_eq_getElem h]
  rfl
def firstsF (ns : List Int) : List Int := ((lastF ns.reverse).map fun p => (ns.length : Int) - 1 - p).reverse
theorem firsts_len (ns : List Int) : (firstsF ns).length = ns.length := by
  unfold firstsF
  rw [List.length_reverse, List.length_map, lastF_len, List.length_reverse]
def FirstAt (ns : List Int) (v : Nat) (r : Int) : Prop :=
  (r = ns.length ∧ ∀ u : Nat, v < u → u < ns.length → ns.getD u 0 > ns.getD v 0) ∨ ∃ u : Nat, r = u ∧ v < u ∧ u < ns.length ∧ ns.getD u 0 ≤ ns.getD v 0 ∧ ∀ w : Nat, v < w → w < u → ns.getD w 0 > ns.getD v 0
theorem first_at (ns : List Int) {v : Nat} (h : v < ns.length) : FirstAt ns v ((firstsF ns).getD v 0) := by
  have hl : (lastF ns.reverse).length = ns.length := by rw [lastF_len, List.length_reverse]
  have e : (firstsF ns).getD v 0 = (ns.length : Int) - 1 - (lastF ns.reverse).getD (ns.length - 1 - v) 0 := by
    unfold firstsF
    rw [rev_get _ (by rw [List.length_map]; omega), map_get _ _ (by rw [List.length_map]; omega), List.length_map, hl]
  have z := last_at ns.reverse (k := ns.length - 1 - v) (by rw [List.length_reverse]; omega)
  have rv : ∀ k, k < ns.length → ns.reverse.getD k 0 = ns.getD (ns.length - 1 - k) 0 := fun k hk => rev_get ns hk
  have rvv : ns.reverse.getD (ns.length - 1 - v) 0 = ns.getD v 0 := by
    rw [rv _ (by omega), show ns.length - 1 - (ns.length - 1 - v) = v by omega]
  rw [e]
  rcases z with ⟨z1, z2⟩ | ⟨j, z1, z2, z3, z4⟩
  · refine .inl ⟨by rw [z1]; omega, fun u h1 h2 => ?_⟩
    have y := z2 (ns.length - 1 - u) (by omega)
    rwa [rvv, rv _ (by omega), show ns.length - 1 - (ns.length - 1 - u) = u by omega] at y
  · refine .inr ⟨ns.length - 1 - j, by rw [z1]; omega, by omega, by omega, ?_, fun w h1 h2 => ?_⟩
    · rwa [rvv, rv _ (by omega)] at z3
    · have y := z4 (ns.length - 1 - w) (by omega) (by omega)
      rwa [rvv, rv _ (by omega), show ns.length - 1 - (ns.length - 1 - w) = w by omega] at y
theorem first_iff {ns : List Int} {v p : Nat} (hv : v < ns.length) (hp : p < ns.length) : (firstsF ns).getD v 0 = (p : Int) ↔ v < p ∧ ns.getD p 0 ≤ ns.getD v 0 ∧ ∀ w : Nat, v < w → w < p → ns.getD w 0 > ns.getD v 0 := by
  have z := first_at ns hv
  constructor
  · intro e
    rw [e] at z
    rcases z with ⟨z1, _⟩ | ⟨u, z1, z2, z3, z4, z5⟩
    · omega
    · obtain rfl : p = u := by omega
      exact ⟨z2, z4, z5⟩
  · rintro ⟨h1, h2, h3⟩
    rcases z with ⟨z1, z2⟩ | ⟨u, z1, z2, z3, z4, z5⟩
    · have := z2 p h1 hp
      omega
    · have : u = p := by
        by_cases c : u < p
        · have := h3 u z2 c
          omega
        · by_cases c2 : p < u
          · have := z5 p h1 c2
            omega
          · omega
      rw [z1, this]
theorem firsts_in (ns : List Int) : ∀ r ∈ firstsF ns, 0 ≤ r ∧ r ≤ (firstsF ns).length := fun r hr => by
  obtain ⟨v, hv, e⟩ := List.getElem_of_mem hr
  have hl := firsts_len ns
  have z := first_at ns (v := v) (by omega)
  rw [List.getD_eq_getElem?_getD, List.getElem?_eq_getElem hv, Option.getD_some, e] at z
  rcases z with ⟨z1, _⟩ | ⟨u, z1, z2, z3, _⟩
  · omega
  · omega
theorem first_group {ns : List Int} {p : Nat} (hp : p < ns.length) : ((groupsF (firstsF ns)).getD p []).Nodup ∧ ∀ x : Int, x ∈ (groupsF (firstsF ns)).getD p [] ↔ 0 ≤ x ∧ x < p ∧ ns.getD p 0 ≤ ns.getD x.toNat 0 ∧ ∀ w : Nat, x < w → w < p → ns.getD w 0 > ns.getD x.toNat 0 := by
  have hl := firsts_len ns
  rw [group_at (firsts_in ns) (by omega), hl]
  constructor
  · rw [List.Nodup, List.pairwise_map]
    exact (List.nodup_range.filter _).imp fun h e => h (Int.ofNat.inj e)
  · intro x
    rw [List.mem_map]
    constructor
    · rintro ⟨v, hv, rfl⟩
      obtain ⟨h1, h2⟩ := List.mem_filter.mp hv
      have h1 := List.mem_range.mp h1
      obtain ⟨h3, h4, h5⟩ := (first_iff h1 hp).mp (of_decide_eq_true h2)
      rw [Int.toNat_natCast]
      exact ⟨by omega, by omega, h4, fun w h6 h7 => h5 w (by omega) h7⟩
    · rintro ⟨h1, h2, h3, h4⟩
      refine ⟨x.toNat, List.mem_filter.mpr ⟨List.mem_range.mpr (by omega), decide_eq_true ((first_iff (by omega) hp).mpr ⟨by omega, h3, fun w h5 h6 => h4 w (by omega) h6⟩)⟩, by omega⟩
theorem rights_firsts (plan : List Int) : rightsF plan = firstsF ((placesF plan).map fun p => -p) := by
  unfold rightsF firstsF
  rw [List.length_map, placesF_len]
theorem bottoms_firsts (plan : List Int) : bottomsF plan = firstsF (placesF plan) := by
  unfold bottomsF firstsF
  rw [placesF_len]
theorem sub_two {a b : Int} : ∀ {l : List Int}, [a, b].Sublist l → ∃ i j : Nat, i < j ∧ l[i]? = some a ∧ l[j]? = some b
  | [], h => by cases h
  | x :: l, h => by
    cases h with
    | cons _ h =>
      obtain ⟨i, j, h1, h2, h3⟩ := sub_two h
      exact ⟨i + 1, j + 1, by omega, by rw [List.getElem?_cons_succ]; exact h2, by rw [List.getElem?_cons_succ]; exact h3⟩
    | cons_cons _ h =>
      obtain ⟨j, hj, e⟩ := List.getElem_of_mem (List.singleton_sublist.mp h)
      exact ⟨0, j + 1, by omega, rfl, by rw [List.getElem?_cons_succ, List.getElem?_eq_getElem hj, e]⟩
abbrev posF (plan : List Int) (x : Int) : Int := (placesF plan).getD x.toNat 0
theorem bef_pos {row : List Int} {n : Nat} (h : IsPm row n) {a b : Int} (s : [a, b].Sublist row) : posF row a < posF row b := by
  obtain ⟨i, j, h1, h2, h3⟩ := sub_two s
  obtain ⟨hi, rfl⟩ := List.getElem?_eq_some_iff.mp h2
  obtain ⟨hj, rfl⟩ := List.getElem?_eq_some_iff.mp h3
  rw [show posF row row[i] = (i : Int) from place_at h hi, show posF row row[j] = (j : Int) from place_at h hj]
  omega
theorem two_mid {X Y Z : List Int} {a b : Int} (h : b ∈ Y) : [a, b].Sublist (X ++ a :: Y) :=
  List.Sublist.trans (List.Sublist.cons_cons a (List.singleton_sublist.mpr h)) (List.sublist_append_right X _)
theorem two_mid' {X Y : List Int} {a b : Int} (h : a ∈ X) : [a, b].Sublist (X ++ b :: Y) := by
  have z : ([a] ++ [b]).Sublist (X ++ b :: Y) := (List.singleton_sublist.mpr h).append (List.singleton_sublist.mpr List.mem_cons_self)
  exact z
section
variable {plan A B : List Int} {n p : Nat}
theorem part_facts (h : IsPm plan n) (hp : p < n) (e : plan.filter (fun v => decide (v < (p : Int) + 1)) = A ++ (p : Int) :: B) :
    (A ++ B).Nodup ∧ (∀ x, x ∈ A ++ B ↔ 0 ≤ x ∧ x < (p : Int)) ∧ (∀ x ∈ A, posF plan x < posF plan p) ∧ (∀ x ∈ B, posF plan p < posF plan x) ∧ ∀ a b, [a, b].Sublist (A ++ B) → posF plan a < posF plan b := by
  have sF : (A ++ (p : Int) :: B).Sublist plan := by
    rw [← e]
    exact List.filter_sublist
  have nd : (A ++ (p : Int) :: B).Nodup := h.nd.sublist sF
  have sAB : (A ++ B).Sublist (A ++ (p : Int) :: B) := (List.Sublist.refl A).append (List.sublist_cons_self _ _)
  have np : (p : Int) ∉ A ++ B := fun hm => by
    obtain ⟨_, n2, n3⟩ := List.nodup_append.mp nd
    rcases List.mem_append.mp hm with hm | hm
    · exact n3 _ hm _ List.mem_cons_self rfl
    · exact (List.nodup_cons.mp n2).1 hm
  have mem : ∀ x, x ∈ A ++ (p : Int) :: B ↔ (0 ≤ x ∧ x < (n : Int)) ∧ x < (p : Int) + 1 := fun x => by
    rw [← e, List.mem_filter, h.mem x]
    simp
  refine ⟨nd.sublist sAB, fun x => ⟨fun hx => ?_, fun hx => ?_⟩, fun x hx => bef_pos h ((two_mid' hx).trans sF), fun x hx => bef_pos h ((two_mid (Z := []) hx).trans sF), fun a b s => bef_pos h ((s.trans sAB).trans sF)⟩
  · have := (mem x).mp (sAB.subset hx)
    have : x ≠ (p : Int) := fun e => np (e ▸ hx)
    omega
  · have z := (mem x).mpr (by omega)
    rcases List.mem_append.mp z with z | z
    · exact List.mem_append_left _ z
    · rcases List.mem_cons.mp z with z | z
      · omega
      · exact List.mem_append_right _ z
theorem rm_pos (h : IsPm plan n) (hp : p < n) (e : plan.filter (fun v => decide (v < (p : Int) + 1)) = A ++ (p : Int) :: B) {x : Int} (hx : x ∈ A ++ B) : RM (A ++ B) x ↔ ∀ w : Nat, x < w → w < p → posF plan w < posF plan x := by
  obtain ⟨nd, mem, _, _, bef⟩ := part_facts h hp e
  constructor
  · rintro ⟨X, Y, e2, hY⟩ w h1 h2
    have hw : (w : Int) ∈ X ++ x :: Y := by rw [← e2]; exact (mem _).mpr (by omega)
    rcases List.mem_append.mp hw with hw | hw
    · exact bef _ _ (by rw [e2]; exact two_mid' hw)
    · rcases List.mem_cons.mp hw with hw | hw
      · omega
      · have := hY _ hw
        omega
  · intro k
    obtain ⟨X, Y, e2⟩ := List.append_of_mem hx
    refine ⟨X, Y, e2, fun y hy => ?_⟩
    have h1 := bef x y (by rw [e2]; exact two_mid (Z := []) hy)
    have h2 := (mem y).mp (by rw [e2]; simp [hy])
    by_cases c : y < x
    · exact c
    · by_cases c2 : y = x
      · rw [c2] at h1
        omega
      · have := k y.toNat (by omega) (by omega)
        rw [Int.toNat_of_nonneg h2.1] at this
        omega
theorem lm_pos (h : IsPm plan n) (hp : p < n) (e : plan.filter (fun v => decide (v < (p : Int) + 1)) = A ++ (p : Int) :: B) {x : Int} (hx : x ∈ A ++ B) : LM (A ++ B) x ↔ ∀ w : Nat, x < w → w < p → posF plan x < posF plan w := by
  obtain ⟨nd, mem, _, _, bef⟩ := part_facts h hp e
  constructor
  · rintro ⟨X, Y, e2, hX⟩ w h1 h2
    have hw : (w : Int) ∈ X ++ x :: Y := by rw [← e2]; exact (mem _).mpr (by omega)
    rcases List.mem_append.mp hw with hw | hw
    · have := hX _ hw
      omega
    · rcases List.mem_cons.mp hw with hw | hw
      · omega
      · exact bef _ _ (by rw [e2]; exact two_mid (Z := []) hw)
  · intro k
    obtain ⟨X, Y, e2⟩ := List.append_of_mem hx
    refine ⟨X, Y, e2, fun y hy => ?_⟩
    have h1 := bef y x (by rw [e2]; exact two_mid' hy)
    have h2 := (mem y).mp (by rw [e2]; simp [hy])
    by_cases c : y < x
    · exact c
    · by_cases c2 : y = x
      · rw [c2] at h1
        omega
      · have := k y.toNat (by omega) (by omega)
        rw [Int.toNat_of_nonneg h2.1] at this
        omega
theorem neg_get (h : IsPm plan n) {w : Nat} (hw : w < n) : ((placesF plan).map fun p => -p).getD w 0 = -posF plan w := by
  rw [map_get _ _ (by rw [placesF_len, h.len]; exact hw)]
  show _ = -(placesF plan).getD ((w : Int).toNat) 0
  rw [Int.toNat_natCast]
theorem right_group (h : IsPm plan n) (hp : p < n) (e : plan.filter (fun v => decide (v < (p : Int) + 1)) = A ++ (p : Int) :: B) : ((groupsF (rightsF plan)).getD p []).Nodup ∧ ∀ x : Int, x ∈ (groupsF (rightsF plan)).getD p [] ↔ x ∈ A ∧ RM (A ++ B) x := by
  obtain ⟨nd, mem, hA, hB, bef⟩ := part_facts h hp e
  rw [rights_firsts]
  obtain ⟨g1, g2⟩ := first_group (ns := (placesF plan).map fun p => -p) (p := p) (by rw [List.length_map, placesF_len, h.len]; exact hp)
  refine ⟨g1, fun x => ?_⟩
  rw [g2 x]
  constructor
  · rintro ⟨h1, h2, h3, h4⟩
    have hx : x ∈ A ++ B := (mem x).mpr ⟨h1, h2⟩
    have ex : ((x.toNat : Nat) : Int) = x := Int.toNat_of_nonneg h1
    have nx := neg_get h (w := x.toNat) (by omega)
    rw [ex] at nx
    rw [neg_get h hp, nx] at h3
    refine ⟨?_, (rm_pos h hp e hx).mpr fun w h5 h6 => ?_⟩
    · rcases List.mem_append.mp hx with hx | hx
      · exact hx
      · have := hB x hx
        omega
    · have := h4 w h5 h6
      rw [neg_get h (by omega), nx] at this
      omega
  · rintro ⟨h1, h2⟩
    have hx : x ∈ A ++ B := List.mem_append_left _ h1
    have h3 := (mem x).mp hx
    have ex : ((x.toNat : Nat) : Int) = x := Int.toNat_of_nonneg h3.1
    have nx := neg_get h (w := x.toNat) (by omega)
    rw [ex] at nx
    have h4 := hA x h1
    refine ⟨h3.1, h3.2, by rw [neg_get h hp, nx]; omega, fun w h5 h6 => ?_⟩
    have := (rm_pos h hp e hx).mp h2 w h5 h6
    rw [neg_get h (by omega), nx]
    omega
theorem bottom_group (h : IsPm plan n) (hp : p < n) (e : plan.filter (fun v => decide (v < (p : Int) + 1)) = A ++ (p : Int) :: B) : ((groupsF (bottomsF plan)).getD p []).Nodup ∧ ∀ x : Int, x ∈ (groupsF (bottomsF plan)).getD p [] ↔ x ∈ B ∧ LM (A ++ B) x := by
  obtain ⟨nd, mem, hA, hB, bef⟩ := part_facts h hp e
  rw [bottoms_firsts]
  obtain ⟨g1, g2⟩ := first_group (ns := placesF plan) (p := p) (by rw [placesF_len, h.len]; exact hp)
  have pw : ∀ w : Nat, (placesF plan).getD w 0 = posF plan w := fun w => by
    show _ = (placesF plan).getD ((w : Int).toNat) 0
    rw [Int.toNat_natCast]
  refine ⟨g1, fun x => ?_⟩
  rw [g2 x]
  constructor
  · rintro ⟨h1, h2, h3, h4⟩
    have hx : x ∈ A ++ B := (mem x).mpr ⟨h1, h2⟩
    have h3 : posF plan p ≤ posF plan x := by rw [pw p] at h3; exact h3
    refine ⟨?_, (lm_pos h hp e hx).mpr fun w h5 h6 => ?_⟩
    · rcases List.mem_append.mp hx with hx | hx
      · have := hA x hx
        omega
      · exact hx
    · have := h4 w h5 h6
      rw [pw w] at this
      exact this
  · rintro ⟨h1, h2⟩
    have hx : x ∈ A ++ B := List.mem_append_right _ h1
    have h3 := (mem x).mp hx
    have h4 := hB x h1
    refine ⟨h3.1, h3.2, by rw [pw p]; show posF plan p ≤ posF plan x; omega, fun w h5 h6 => ?_⟩
    have := (lm_pos h hp e hx).mp h2 w h5 h6
    rw [pw w]
    exact this
end
theorem same_len {S T : List Int} (h1 : S.Nodup) (h2 : T.Nodup) (h : ∀ x, x ∈ S ↔ x ∈ T) : S.length = T.length := ((List.perm_ext_iff_of_nodup h1 h2).mpr h).length_eq
def numOf (u : Sg) : Int := if u.1 then -(u.2.1.length : Int) else (u.2.1.length : Int)
theorem seg_up {L T R B : List (List Int)} {p : Nat} (h : R.getD p [] ≠ []) : segF L T R B p = (true, R.getD p [], L.getD p []) := by
  unfold segF
  rw [if_neg fun e => h (List.isEmpty_iff.mp e)]
theorem seg_lv {L T R B : List (List Int)} {p : Nat} (h : R.getD p [] = []) : segF L T R B p = (false, B.getD p [], T.getD p []) := by
  unfold segF
  rw [if_pos (by rw [h]; rfl)]
/-- the code of the plan of a valid code is that code -/
theorem code_inv {ns plan : List Int} (h : ValidC 1 1 ns) (hc : codePlanF ns = some plan) : codeF plan = ns := by
  obtain ⟨st', lo', ri', h1, g, _, h4⟩ := run_code ns ([0], [0], [0]) 1 1 1 gpc_one h
  have e : plan = st'.1 := by
    unfold codePlanF at hc
    rw [show runC ([0], [0], [0]) 1 ns = some st' from h1] at hc
    exact (Option.some.inj hc).symm
  have hP : IsPm plan (1 + ns.length) := by
    rw [e]
    exact ⟨g.nd, g.mem, g.len⟩
  have hl : (codeF plan).length = ns.length := by
    unfold codeF segsF
    rw [List.length_map, List.length_map, List.length_range, hP.len]
    omega
  refine List.ext_getElem? fun i => ?_
  by_cases hi : i < ns.length
  · have hn : ns[i]? = some ns[i] := List.getElem?_eq_getElem hi
    obtain ⟨A, B, h5, h6⟩ := h4 i ns[i] hn
    rw [← e, show ((1 : Nat) : Int) + (i : Int) = ((i + 1 : Nat) : Int) by omega] at h5
    obtain ⟨r1, r2⟩ := right_group hP (p := i + 1) (by omega) h5
    obtain ⟨b1, b2⟩ := bottom_group hP (p := i + 1) (by omega) h5
    rw [hn]
    unfold codeF segsF
    rw [List.getElem?_map, List.getElem?_map, List.getElem?_range (by rw [hP.len]; omega)]
    show some (numOf (segF (groupsF (leftsF plan)) (groupsF (topsF plan)) (groupsF (rightsF plan)) (groupsF (bottomsF plan)) (i + 1))) = some _
    congr 1
    rcases h6 with ⟨c1, S, s1, s2, s3⟩ | ⟨c1, c2, S, s1, s2, s3⟩
    · have hl := same_len r1 s1 fun x => (r2 x).trans (s3 x).symm
      rw [seg_up fun e0 => by
        rw [e0] at hl
        simp at hl
        omega]
      show (if true = true then -(((((groupsF (rightsF plan)).getD (i + 1) []).length) : Nat) : Int) else _) = _
      rw [if_pos rfl, hl, s2]
      omega
    · have hne : (groupsF (rightsF plan)).getD (i + 1) [] = [] := List.eq_nil_iff_forall_not_mem.mpr fun x hx => c2 x ((r2 x).mp hx)
      have hl := same_len b1 s1 fun x => (b2 x).trans (s3 x).symm
      rw [seg_lv hne]
      show (if false = true then _ else (((((groupsF (bottomsF plan)).getD (i + 1) []).length) : Nat) : Int)) = _
      rw [if_neg (by decide), hl, s2]
  · rw [List.getElem?_eq_none (by omega), List.getElem?_eq_none (by omega)]
end GL
set_option Elab.async false
set_option linter.all false
set_option maxRecDepth 100000
set_option maxHeartbeats 2000000
/-! # every index below the number of plans has a code -/
namespace GL
open PySem PySem.Spec PyProof.Rows L2 Geo Rel AcR
/-- an entry of a table -/
def eT (n k a b : Nat) : Int := ((lastE n k).getD a []).getD b 0
def sumTo (f : Nat → Int) (m : Nat) : Int := ((List.range m).map f).sum
theorem sumTo_succ (f : Nat → Int) (m : Nat) : sumTo f (m + 1) = sumTo f m + f m := by
  unfold sumTo
  rw [List.range_succ, List.map_append, List.sum_append]
  simp
theorem sumTo_congr {f g : Nat → Int} {m : Nat} (h : ∀ i, i < m → f i = g i) : sumTo f m = sumTo g m := by
  induction m with
  | zero => rfl
  | succ m ih => rw [sumTo_succ, sumTo_succ, ih fun i hi => h i (by omega), h m (by omega)]
theorem sumTo_cons (f : Nat → Int) (m : Nat) : sumTo f (m + 1) = f 0 + sumTo (fun i => f (i + 1)) m := by
  induction m with
  | zero => simp [sumTo]
  | succ m ih => rw [sumTo_succ, ih, sumTo_succ]; omega
theorem sumTo_flip (f : Nat → Int) (m : Nat) : sumTo (fun i => f (m - 1 - i)) m = sumTo f m := by
  induction m generalizing f with
  | zero => rfl
  | succ m ih =>
    rw [sumTo_cons, sumTo_succ, ← ih f]
    have : sumTo (fun i => f (m + 1 - 1 - (i + 1))) m = sumTo (fun i => f (m - 1 - i)) m := sumTo_congr fun i hi => by congr 1; omega
    rw [this]
    show f (m + 1 - 1 - 0) + _ = _
    rw [show m + 1 - 1 - 0 = m by omega]
    omega
theorem accs_get : ∀ (row : List Int) (s : Int) (t : Nat), t < row.length → (accs s row).getD t 0 = s + sumTo (fun u => row.getD u 0) (t + 1)
  | [], s, t, h => by cases h
  | x :: row, s, t, h => by
    cases t with
    | zero =>
      show (accs s (x :: row)).getD 0 0 = s + sumTo _ 1
      rw [sumTo_succ]
      show s + x = s + (0 + x)
      omega
    | succ t =>
      show (accs (s + x) row).getD t 0 = _
      rw [accs_get row (s + x) t (by simpa using h), sumTo_cons (fun u => (x :: row).getD u 0) (t + 1)]
      have : sumTo (fun u => row.getD u 0) (t + 1) = sumTo (fun i => (x :: row).getD (i + 1) 0) (t + 1) := sumTo_congr fun i _ => rfl
      rw [this]
      show _ = s + (x + _)
      omega
theorem eT_step {n k a b : Nat} (hk : k + 1 < n) (h : a + b < n - 1 - k) : eT n (k + 1) a b = sumTo (fun t => eT n k (b + 1) t) (a + 1) + sumTo (fun t => eT n k (a + 1) t) (b + 1) := by
  have sh := shape_last n k (by omega)
  have hs := shape_sums sh
  have e1 : (lastE n (k + 1)).getD a [] = endRow ((lastE n k).map (accs 0)) (n - 1 - k) a := by
    show (endStep (lastE n k) (n - 1 - k)).getD a [] = _
    unfold endStep
    rw [List.getD_eq_getElem?_getD, List.getElem?_map, List.getElem?_range (by omega)]
    rfl
  have e2 : ∀ c, c < n - k → ((lastE n k).map (accs 0)).getD c [] = accs 0 ((lastE n k).getD c []) := fun c hc => by
    rw [List.getD_eq_getElem?_getD, List.getD_eq_getElem?_getD, List.getElem?_map, List.getElem?_eq_getElem (by rw [sh.1]; exact hc)]
    rfl
  unfold eT
  rw [e1]
  unfold endRow
  rw [List.getD_eq_getElem?_getD, List.getElem?_map, List.getElem?_range (by omega)]
  show ((((lastE n k).map (accs 0)).getD (b + 1) []).getD a 0 + (((lastE n k).map (accs 0)).getD (a + 1) []).getD b 0) = _
  rw [e2 (b + 1) (by omega), e2 (a + 1) (by omega), accs_get _ _ _ (by rw [sh.2 _ (by omega)]; omega), accs_get _ _ _ (by rw [sh.2 _ (by omega)]; omega)]
  omega
theorem eT_zero {n a b : Nat} (h : a + b < n) : eT n 0 a b = 1 := by
  have e : (lastE n 0).getD a [] = List.replicate (n - a) 1 := by
    unfold lastE
    rw [List.getD_eq_getElem?_getD, List.getElem?_map, List.getElem?_range (by omega)]
    rfl
  unfold eT
  rw [e]
  rw [List.getD_eq_getElem?_getD, List.getElem?_replicate, if_pos (by omega)]
  rfl
theorem eT_sym {n : Nat} : ∀ (k a b : Nat), k < n → a + b < n - k → eT n k a b = eT n k b a
  | 0, a, b, _, h => by rw [eT_zero (by omega), eT_zero (by omega)]
  | k + 1, a, b, hk, h => by
    rw [eT_step hk (by omega), eT_step hk (by omega)]
    omega
theorem pick_ok : ∀ (bs : List (Int × Int)) (i : Int), 0 ≤ i → i < (bs.map (·.2)).sum → ∃ i' b, b ∈ bs ∧ pickF i bs = some (i', b.1) ∧ 0 ≤ i' ∧ i' < b.2
  | [], i, h0, h1 => by simp at h1; omega
  | b :: bs, i, h0, h1 => by
    rw [List.map_cons, List.sum_cons] at h1
    by_cases c : i ≥ b.2
    · obtain ⟨i', b', h2, h3, h4⟩ := pick_ok bs (i - b.2) (by omega) (by omega)
      refine ⟨i', b', List.mem_cons_of_mem _ h2, ?_, h4⟩
      unfold pickF
      rw [if_pos c]
      exact h3
    · refine ⟨i, b, List.mem_cons_self, ?_, h0, by omega⟩
      unfold pickF
      rw [if_neg c]
theorem num_cases {lo ri x : Int} (h : x ∈ numbersF lo ri) : (-ri ≤ x ∧ x < 0) ∨ (1 ≤ x ∧ x ≤ lo) := by
  unfold numbersF at h
  rcases List.mem_append.mp h with h | h
  · obtain ⟨i, hi, rfl⟩ := List.mem_map.mp h
    have := List.mem_range.mp hi
    omega
  · obtain ⟨i, hi, rfl⟩ := List.mem_map.mp h
    have := List.mem_range.mp hi
    omega
theorem fits_last {n k : Nat} {lo ri : Int} (hk : k < n) (h1 : 1 ≤ lo) (h2 : 1 ≤ ri) (h : lo + ri + 1 ≤ (n : Int) - k + 1) : fitsF (lastE n k) lo ri := by
  have sh := shape_last n k hk
  intro x hx
  unfold growB
  rcases num_cases hx with c | c
  · rw [if_neg (by omega)]
    refine ⟨by show 1 ≤ lo + 1; omega, ?_, by show 1 ≤ ri + x + 1; omega, ?_⟩
    · show lo + 1 ≤ ((lastE n k).length : Int)
      rw [sh.1]
      omega
    · show ri + x + 1 ≤ (((lastE n k).getD (lo + 1 - 1).toNat []).length : Int)
      rw [sh.2 _ (by omega)]
      omega
  · rw [if_pos (by omega)]
    refine ⟨by show 1 ≤ lo - x + 1; omega, ?_, by show 1 ≤ ri + 1; omega, ?_⟩
    · show lo - x + 1 ≤ ((lastE n k).length : Int)
      rw [sh.1]
      omega
    · show ri + 1 ≤ (((lastE n k).getD (lo - x + 1 - 1).toNat []).length : Int)
      rw [sh.2 _ (by omega)]
      omega
theorem sum_br {n k a b : Nat} (hk : k + 1 < n) (h : a + b < n - 1 - k) : ((branchesF (lastE n k) ((a : Int) + 1) ((b : Int) + 1)).map (·.2)).sum = eT n (k + 1) a b := by
  unfold branchesF numbersF
  rw [List.map_map, List.map_append, List.sum_append, List.map_map, List.map_map, eT_step hk h]
  have e1 : (List.range ((b : Int) + 1).toNat).map (((fun z : Int × Int => z.2) ∘ fun x => (x, atF (lastE n k) (growB ((a : Int) + 1) ((b : Int) + 1) x).1 (growB ((a : Int) + 1) ((b : Int) + 1) x).2)) ∘ fun i : Nat => -((b : Int) + 1) + (i : Int)) = (List.range (b + 1)).map fun i => eT n k (a + 1) i := by
    rw [show ((b : Int) + 1).toNat = b + 1 by omega]
    refine List.map_congr_left fun i hi => ?_
    have := List.mem_range.mp hi
    show atF (lastE n k) (growB ((a : Int) + 1) ((b : Int) + 1) (-((b : Int) + 1) + (i : Int))).1 (growB ((a : Int) + 1) ((b : Int) + 1) (-((b : Int) + 1) + (i : Int))).2 = _
    unfold growB atF eT
    rw [if_neg (by omega)]
    show ((lastE n k).getD ((a : Int) + 1 + 1 - 1).toNat []).getD ((b : Int) + 1 + (-((b : Int) + 1) + (i : Int)) + 1 - 1).toNat 0 = _
    rw [show ((a : Int) + 1 + 1 - 1).toNat = a + 1 by omega, show ((b : Int) + 1 + (-((b : Int) + 1) + (i : Int)) + 1 - 1).toNat = i by omega]
  have e2 : (List.range ((a : Int) + 1).toNat).map (((fun z : Int × Int => z.2) ∘ fun x => (x, atF (lastE n k) (growB ((a : Int) + 1) ((b : Int) + 1) x).1 (growB ((a : Int) + 1) ((b : Int) + 1) x).2)) ∘ fun i : Nat => 1 + (i : Int)) = (List.range (a + 1)).map fun i => eT n k (a + 1 - 1 - i) (b + 1) := by
    rw [show ((a : Int) + 1).toNat = a + 1 by omega]
    refine List.map_congr_left fun i hi => ?_
    have := List.mem_range.mp hi
    show atF (lastE n k) (growB ((a : Int) + 1) ((b : Int) + 1) (1 + (i : Int))).1 (growB ((a : Int) + 1) ((b : Int) + 1) (1 + (i : Int))).2 = _
    unfold growB atF eT
    rw [if_pos (by omega)]
    show ((lastE n k).getD ((a : Int) + 1 - (1 + (i : Int)) + 1 - 1).toNat []).getD ((b : Int) + 1 + 1 - 1).toNat 0 = _
    rw [show ((a : Int) + 1 - (1 + (i : Int)) + 1 - 1).toNat = a + 1 - 1 - i by omega, show ((b : Int) + 1 + 1 - 1).toNat = b + 1 by omega]
  rw [e1, e2]
  show sumTo (fun i => eT n k (a + 1) i) (b + 1) + sumTo (fun i => (fun t => eT n k t (b + 1)) (a + 1 - 1 - i)) (a + 1) = _
  rw [sumTo_flip (fun t => eT n k t (b + 1)) (a + 1)]
  have : sumTo (fun t => eT n k t (b + 1)) (a + 1) = sumTo (fun t => eT n k (b + 1) t) (a + 1) := sumTo_congr fun t ht => eT_sym k t (b + 1) (by omega) (by omega)
  rw [this]
  omega
/-- every index below the entry has numbers that lead to it -/
theorem run_ok {n : Nat} (hn : n ≤ 60) : ∀ (k a b : Nat) (i : Int) (code : List Int), k < n → a + b < n - k → 0 ≤ i → i < eT n k a b →
    ∃ ns : List Int, runN i code ((a : Int) + 1) ((b : Int) + 1) ((List.range k).reverse.map (lastE n)) (code ++ ns) ∧ ValidC ((a : Int) + 1) ((b : Int) + 1) ns ∧ ns.length = k
  | 0, a, b, i, code, hk, hab, h0, h1 => ⟨[], (List.append_nil code).symm, trivial, rfl⟩
  | k + 1, a, b, i, code, hk, hab, h0, h1 => by
    rw [List.range_succ, List.reverse_append, List.reverse_singleton, List.singleton_append, List.map_cons]
    rw [← sum_br hk (by omega)] at h1
    obtain ⟨i', bb, hb, hp, hi0, hi1⟩ := pick_ok _ i h0 h1
    have hb' := hb
    unfold branchesF at hb'
    obtain ⟨x, hx, rfl⟩ := List.mem_map.mp hb'
    have g : ∃ a' b' : Nat, growB ((a : Int) + 1) ((b : Int) + 1) x = ((a' : Int) + 1, (b' : Int) + 1) ∧ a' + b' < n - k := by
      unfold growB
      rcases num_cases hx with c | c
      · rw [if_neg (by omega)]
        exact ⟨a + 1, ((b : Int) + x + 1).toNat, by rw [Prod.mk.injEq]; constructor <;> omega, by omega⟩
      · rw [if_pos (by omega)]
        exact ⟨((a : Int) + 1 - x).toNat, b + 1, by rw [Prod.mk.injEq]; constructor <;> omega, by omega⟩
    obtain ⟨a', b', hg, hab'⟩ := g
    have hi2 : i' < eT n k a' b' := by
      rw [hg] at hi1
      have : atF (lastE n k) ((a' : Int) + 1) ((b' : Int) + 1) = eT n k a' b' := by
        unfold atF eT
        rw [show ((a' : Int) + 1 - 1).toNat = a' by omega, show ((b' : Int) + 1 - 1).toNat = b' by omega]
      rw [← this]
      exact hi1
    obtain ⟨ns, h2, h3, h4⟩ := run_ok hn k a' b' i' (code ++ [x]) (by omega) hab' hi0 hi2
    refine ⟨x :: ns, ⟨⟨by omega, by omega, by omega, by omega⟩, fits_last (by omega) (by omega) (by omega) (by omega), i', x, hp, ?_⟩, ⟨hx, ?_⟩, by rw [List.length_cons, h4]⟩
    · rw [hg]
      rw [List.append_assoc] at h2
      exact h2
    · rw [hg]
      exact h3
theorem ends_drop (n : Nat) (h : 1 ≤ n) : (endsF n (n - 1)).reverse.drop 1 = (List.range (n - 1)).reverse.map (lastE n) := by
  unfold endsF
  rw [List.range_succ, List.map_append, List.reverse_append, List.map_reverse]
  rfl
/-- nth_plan: what it needs, and what it tells -/
theorem nth_ok {n : Nat} {idx : Int} (h1 : 1 ≤ n) (h2 : n ≤ 60) (h0 : 0 ≤ idx) (hi : idx < ((lastE n (n - 1)).getD 0 []).getD 0 0) :
    ∃ code plan, runN idx [] 1 1 ((endsF n (n - 1)).reverse.drop 1) code ∧ codePlanF code = some plan ∧ IsPl plan n := by
  obtain ⟨ns, h3, h4, h5⟩ := run_ok h2 (n - 1) 0 0 idx [] (by omega) (by omega) h0 hi
  obtain ⟨plan, h6, h7⟩ := code_plan h4
  rw [List.nil_append] at h3
  refine ⟨ns, plan, ?_, h6, ?_⟩
  · rw [ends_drop n h1]
    exact h3
  · rw [h5, show n - 1 + 1 = n by omega] at h7
    exact h7
end GL
set_option Elab.async false
set_option linter.all false
set_option maxRecDepth 100000
set_option maxHeartbeats 2000000
/-! # the index of the plan of an index is the index -/
namespace GL
open PySem PySem.Spec PyProof.Rows L2 Geo Rel Bx
theorem lasts_in {ns : List Int} : ∀ r ∈ lastF ns, -1 ≤ r ∧ r < ns.length := fun r hr => by
  obtain ⟨v, hv, e⟩ := List.getElem_of_mem hr
  have hl := lastF_len ns
  have z := last_at ns (k := v) (by omega)
  rw [List.getD_eq_getElem?_getD, List.getElem?_eq_getElem hv, Option.getD_some, e] at z
  rcases z with ⟨z1, _⟩ | ⟨u, z1, z2, _⟩
  · omega
  · omega
theorem planIn_of {plan : List Int} {n : Nat} (h : IsPm plan n) (hn : n ≤ 1000) : PlanIn plan := by
  have hp := placesF_len plan
  refine ⟨by rw [h.len]; exact hn, fun r hr => by rw [h.len]; exact (h.mem r).mp hr, fun ps hps r hr => ?_⟩
  simp only [List.mem_cons, List.not_mem_nil, or_false] at hps
  rcases hps with rfl | rfl | rfl | rfl
  · obtain ⟨q, hq, rfl⟩ := List.mem_map.mp hr
    have := lasts_in q hq
    omega
  · obtain ⟨q, hq, rfl⟩ := List.mem_map.mp hr
    have := lasts_in q hq
    rw [List.length_map] at this
    omega
  · rw [rights_firsts] at hr
    have := firsts_in _ r hr
    rw [firsts_len, List.length_map] at this
    omega
  · rw [bottoms_firsts] at hr
    have := firsts_in _ r hr
    rw [firsts_len] at this
    omega
theorem nums_sorted (lo ri : Int) : (numbersF lo ri).Pairwise (· < ·) := by
  unfold numbersF
  refine List.pairwise_append.mpr ⟨?_, ?_, fun a ha b hb => ?_⟩
  · rw [List.pairwise_map]
    exact List.pairwise_lt_range.imp fun h => by omega
  · rw [List.pairwise_map]
    exact List.pairwise_lt_range.imp fun h => by omega
  · obtain ⟨i, hi, rfl⟩ := List.mem_map.mp ha
    obtain ⟨j, hj, rfl⟩ := List.mem_map.mp hb
    have := List.mem_range.mp hi
    omega
theorem pick_inv : ∀ (bs : List (Int × Int)) (i i' x : Int), (bs.map (·.1)).Pairwise (· < ·) → 0 ≤ i → pickF i bs = some (i', x) →
    (∃ b ∈ bs, b.1 = x ∧ 0 ≤ i' ∧ i' < b.2) ∧ i = ((bs.filter fun z => decide (z.1 < x)).map fun z => z.2).sum + i'
  | [], i, i', x, _, _, h => by cases h
  | b :: bs, i, i', x, hs, h0, h => by
    rw [List.map_cons] at hs
    obtain ⟨s1, s2⟩ := List.pairwise_cons.mp hs
    unfold pickF at h
    by_cases c : i ≥ b.2
    · rw [if_pos c] at h
      obtain ⟨⟨b', h1, h2, h3⟩, h4⟩ := pick_inv bs (i - b.2) i' x s2 (by omega) h
      have hlt : b.1 < x := by
        rw [← h2]
        exact s1 b'.1 (List.mem_map.mpr ⟨b', h1, rfl⟩)
      refine ⟨⟨b', List.mem_cons_of_mem _ h1, h2, h3⟩, ?_⟩
      rw [List.filter_cons, if_pos (decide_eq_true hlt), List.map_cons, List.sum_cons]
      omega
    · rw [if_neg c] at h
      cases h
      refine ⟨⟨b, List.mem_cons_self, rfl, h0, by omega⟩, ?_⟩
      have : (b :: bs).filter (fun z => decide (z.1 < b.1)) = [] := List.filter_eq_nil_iff.mpr fun z hz => by
        rcases List.mem_cons.mp hz with rfl | hz
        · simp
        · have := s1 z.1 (List.mem_map.mpr ⟨z, hz, rfl⟩)
          simp
          omega
      rw [this]
      simp
theorem run_prefix : ∀ (ts : List (List (List Int))) (i : Int) (code : List Int) (lo ri : Int) (out : List Int), runN i code lo ri ts out → ∃ r, out = code ++ r
  | [], i, code, lo, ri, out, h => ⟨[], by rw [List.append_nil]; exact (show code = out from h).symm⟩
  | t :: ts, i, code, lo, ri, out, ⟨_, _, i', x, _, h⟩ => by
    obtain ⟨r, e⟩ := run_prefix ts i' (code ++ [x]) _ _ out h
    exact ⟨x :: r, by rw [e]; simp⟩
theorem run_index {n : Nat} (hn : n ≤ 60) : ∀ (k a b : Nat) (i : Int) (code res : List Int) (acc : Int), k < n → a + b < n - k → 0 ≤ i → i < eT n k a b →
    runN i code ((a : Int) + 1) ((b : Int) + 1) ((List.range k).reverse.map (lastE n)) (code ++ res) →
    okI (acc, (a : Int) + 1, (b : Int) + 1) (res.zip ((List.range k).reverse.map (lastE n))) ∧ ((res.zip ((List.range k).reverse.map (lastE n))).foldl indexS (acc, (a : Int) + 1, (b : Int) + 1)).1 = acc + i ∧ res.length = k ∧ ValidC ((a : Int) + 1) ((b : Int) + 1) res
  | 0, a, b, i, code, res, acc, hk, hab, h0, h1, h => by
    have e : code = code ++ res := h
    have : res = [] := by
      have := congrArg List.length e
      rw [List.length_append] at this
      exact List.length_eq_zero_iff.mp (by omega)
    subst this
    rw [eT_zero (by omega)] at h1
    exact ⟨trivial, by show acc = acc + i; omega, rfl, trivial⟩
  | k + 1, a, b, i, code, res, acc, hk, hab, h0, h1, h => by
    rw [List.range_succ, List.reverse_append, List.reverse_singleton, List.singleton_append, List.map_cons] at h ⊢
    obtain ⟨hb, hf, i', x, hp, h⟩ := h
    obtain ⟨r, er⟩ := run_prefix _ _ _ _ _ _ h
    rw [List.append_assoc] at er
    have er := List.append_cancel_left er
    rw [List.singleton_append] at er
    subst er
    have hs : ((branchesF (lastE n k) ((a : Int) + 1) ((b : Int) + 1)).map (·.1)).Pairwise (· < ·) := by
      unfold branchesF
      rw [List.map_map]
      have : ((fun z : Int × Int => z.1) ∘ fun m => (m, atF (lastE n k) (growB ((a : Int) + 1) ((b : Int) + 1) m).1 (growB ((a : Int) + 1) ((b : Int) + 1) m).2)) = id := rfl
      rw [this, List.map_id]
      exact nums_sorted _ _
    obtain ⟨⟨bb, hb1, hb2, hi0, hi1⟩, hsum⟩ := pick_inv _ i i' x hs h0 hp
    have hb' := hb1
    unfold branchesF at hb'
    obtain ⟨x', hx, rfl⟩ := List.mem_map.mp hb'
    obtain rfl : x' = x := hb2
    have g : ∃ a' b' : Nat, growB ((a : Int) + 1) ((b : Int) + 1) x' = ((a' : Int) + 1, (b' : Int) + 1) ∧ a' + b' < n - k := by
      unfold growB
      rcases num_cases hx with c | c
      · rw [if_neg (by omega)]
        exact ⟨a + 1, ((b : Int) + x' + 1).toNat, by rw [Prod.mk.injEq]; constructor <;> omega, by omega⟩
      · rw [if_pos (by omega)]
        exact ⟨((a : Int) + 1 - x').toNat, b + 1, by rw [Prod.mk.injEq]; constructor <;> omega, by omega⟩
    obtain ⟨a', b', hg, hab'⟩ := g
    have hi2 : i' < eT n k a' b' := by
      rw [hg] at hi1
      have : atF (lastE n k) ((a' : Int) + 1) ((b' : Int) + 1) = eT n k a' b' := by
        unfold atF eT
        rw [show ((a' : Int) + 1 - 1).toNat = a' by omega, show ((b' : Int) + 1 - 1).toNat = b' by omega]
      rw [← this]
      exact hi1
    rw [hg] at h
    have h' : runN i' (code ++ [x']) ((a' : Int) + 1) ((b' : Int) + 1) ((List.range k).reverse.map (lastE n)) ((code ++ [x']) ++ r) := by
      rw [List.append_assoc]
      exact h
    generalize hS : ((branchesF (lastE n k) ((a : Int) + 1) ((b : Int) + 1)).filter fun z => decide (z.1 < x')).map (fun z => z.2) = S at hsum
    obtain ⟨k1, k2, k3, k4⟩ := run_index hn k a' b' i' (code ++ [x']) r (acc + S.sum) (by omega) hab' hi0 hi2 h'
    have est : indexS (acc, (a : Int) + 1, (b : Int) + 1) (x', lastE n k) = (acc + S.sum, (a' : Int) + 1, (b' : Int) + 1) := by
      unfold indexS
      show (acc + (((branchesF (lastE n k) ((a : Int) + 1) ((b : Int) + 1)).filter fun z => decide (z.1 < x')).map fun z => z.2).sum, growB ((a : Int) + 1) ((b : Int) + 1) x') = _
      rw [hS, hg]
    refine ⟨⟨⟨⟨by show (0 : Int) ≤ (a : Int) + 1; omega, by show (a : Int) + 1 ≤ 1000; omega, by show (0 : Int) ≤ (b : Int) + 1; omega, by show (b : Int) + 1 ≤ 1000; omega⟩, hf⟩, ?_⟩, ?_, by rw [List.length_cons, k3], hx, by rw [hg]; exact k4⟩
    · show okI (indexS (acc, (a : Int) + 1, (b : Int) + 1) (x', lastE n k)) (r.zip ((List.range k).reverse.map (lastE n)))
      rw [est]
      exact k1
    · rw [List.zip_cons_cons, List.foldl_cons, est, k2]
      omega
/-- what nth_plan gives at an index, and plan_index of it -/
structure NthAt (n : Nat) (idx : Int) (code plan : List Int) : Prop where
  run : runN idx [] 1 1 ((endsF n (n - 1)).reverse.drop 1) code
  made : codePlanF code = some plan
  pl : IsPl plan n
  valid : ValidC 1 1 code
  len : code.length = n - 1
  code : codeF plan = code
  row : rowB plan = true
  pat : patB plan = true
  inn : PlanIn plan
  ok : okI (0, 1, 1) (pairsI plan)
  idx : indexF plan = idx
theorem nth_at {n : Nat} {idx : Int} (h1 : 1 ≤ n) (h2 : n ≤ 60) (h0 : 0 ≤ idx) (hi : idx < ((lastE n (n - 1)).getD 0 []).getD 0 0) : ∃ code plan, NthAt n idx code plan := by
  obtain ⟨code, plan, h3, h4, h5⟩ := nth_ok h1 h2 h0 hi
  have h3' := h3
  rw [ends_drop n h1] at h3'
  obtain ⟨k1, k2, k3, k4⟩ := run_index h2 (n - 1) 0 0 idx [] code 0 (by omega) (by omega) h0 hi (by rw [List.nil_append]; exact h3')
  have hc := code_inv k4 h4
  have hpI : pairsI plan = code.zip ((List.range (n - 1)).reverse.map (lastE n)) := by
    unfold pairsI
    rw [hc, h5.len, ends_drop n h1]
  refine ⟨code, plan, h3, h4, h5, k4, k3, hc, row_of h5.toIsPm h1 h2, pat_of h5, planIn_of h5.toIsPm (by omega), by rw [hpI]; exact k1, ?_⟩
  unfold indexF
  rw [hpI]
  have : (0 : Int) + idx = idx := Int.zero_add idx
  rw [this] at k2
  exact k2
end GL
set_option Elab.async false
set_option linter.all false
set_option maxRecDepth 100000
set_option maxHeartbeats 2000000
/-! # the borders of the plan of a code; one number more -/
namespace GL
open PySem PySem.Spec PyProof.Rows L2 Geo Rel Bx
theorem first_end {ns : List Int} {v : Nat} (hv : v < ns.length) : (firstsF ns).getD v 0 = (ns.length : Int) ↔ ∀ w : Nat, v < w → w < ns.length → ns.getD w 0 > ns.getD v 0 := by
  have z := first_at ns hv
  constructor
  · intro e
    rw [e] at z
    rcases z with ⟨_, z1⟩ | ⟨u, z1, z2, z3, z4, z5⟩
    · exact z1
    · omega
  · intro h
    rcases z with ⟨z1, _⟩ | ⟨u, z1, z2, z3, z4, z5⟩
    · exact z1
    · have := h u z2 z3
      omega
theorem end_group {ns : List Int} : ((groupsF (firstsF ns)).getD ns.length []).Pairwise (· < ·) ∧ ∀ x : Int, x ∈ (groupsF (firstsF ns)).getD ns.length [] ↔ 0 ≤ x ∧ x < ns.length ∧ ∀ w : Nat, x < w → w < ns.length → ns.getD w 0 > ns.getD x.toNat 0 := by
  have hl := firsts_len ns
  rw [group_at (firsts_in ns) (by omega), hl]
  constructor
  · rw [List.pairwise_map]
    exact (List.pairwise_lt_range.filter _).imp fun h => by omega
  · intro x
    rw [List.mem_map]
    constructor
    · rintro ⟨v, hv, rfl⟩
      obtain ⟨h1, h2⟩ := List.mem_filter.mp hv
      have h1 := List.mem_range.mp h1
      have h3 := (first_end h1).mp (of_decide_eq_true h2)
      rw [Int.toNat_natCast]
      exact ⟨by omega, by omega, fun w h6 h7 => h3 w (by omega) h7⟩
    · rintro ⟨h1, h2, h4⟩
      exact ⟨x.toNat, List.mem_filter.mpr ⟨List.mem_range.mpr (by omega), decide_eq_true ((first_end (by omega)).mpr fun w h5 h6 => h4 w (by omega) h6)⟩, by omega⟩
theorem sorted_same {l m : List Int} (h1 : l.Pairwise (· < ·)) (h2 : m.Pairwise (· < ·)) (h : ∀ x, x ∈ l ↔ x ∈ m) : l = m := by
  induction l generalizing m with
  | nil =>
    cases m with
    | nil => rfl
    | cons y m => exact absurd ((h y).mpr List.mem_cons_self) (by simp)
  | cons x l ih =>
    cases m with
    | nil => exact absurd ((h x).mp List.mem_cons_self) (by simp)
    | cons y m =>
      obtain ⟨a1, a2⟩ := List.pairwise_cons.mp h1
      obtain ⟨b1, b2⟩ := List.pairwise_cons.mp h2
      have e : x = y := by
        rcases List.mem_cons.mp ((h x).mp List.mem_cons_self) with e | hx
        · exact e
        · rcases List.mem_cons.mp ((h y).mpr List.mem_cons_self) with e | hy
          · exact e.symm
          · have := a1 y hy
            have := b1 x hx
            omega
      subst e
      refine congrArg (List.cons x) (ih a2 b2 fun z => ⟨fun hz => ?_, fun hz => ?_⟩)
      · rcases List.mem_cons.mp ((h z).mp (List.mem_cons_of_mem _ hz)) with e | hz2
        · have := a1 z hz
          omega
        · exact hz2
      · rcases List.mem_cons.mp ((h z).mpr (List.mem_cons_of_mem _ hz)) with e | hz2
        · have := b1 z hz
          omega
        · exact hz2
section
variable {plan : List Int} {n : Nat}
theorem whole_rm (h : IsPm plan n) {x : Int} (hx : x ∈ plan) : RM plan x ↔ ∀ w : Nat, x < w → w < n → posF plan w < posF plan x := by
  constructor
  · rintro ⟨X, Y, e2, hY⟩ w h1 h2
    have hw : (w : Int) ∈ X ++ x :: Y := by rw [← e2]; exact (h.mem _).mpr (by omega)
    rcases List.mem_append.mp hw with hw | hw
    · exact bef_pos h (by rw [e2]; exact two_mid' hw)
    · rcases List.mem_cons.mp hw with hw | hw
      · omega
      · have := hY _ hw
        omega
  · intro k
    obtain ⟨X, Y, e2⟩ := List.append_of_mem hx
    refine ⟨X, Y, e2, fun y hy => ?_⟩
    have h1 : posF plan x < posF plan y := bef_pos h (by rw [e2]; exact two_mid (Z := []) hy)
    have h2 := (h.mem y).mp (by rw [e2]; simp [hy])
    by_cases c : y < x
    · exact c
    · by_cases c2 : y = x
      · rw [c2] at h1
        omega
      · have := k y.toNat (by omega) (by omega)
        rw [Int.toNat_of_nonneg h2.1] at this
        omega
theorem whole_lm (h : IsPm plan n) {x : Int} (hx : x ∈ plan) : LM plan x ↔ ∀ w : Nat, x < w → w < n → posF plan x < posF plan w := by
  constructor
  · rintro ⟨X, Y, e2, hX⟩ w h1 h2
    have hw : (w : Int) ∈ X ++ x :: Y := by rw [← e2]; exact (h.mem _).mpr (by omega)
    rcases List.mem_append.mp hw with hw | hw
    · have := hX _ hw
      omega
    · rcases List.mem_cons.mp hw with hw | hw
      · omega
      · exact bef_pos h (by rw [e2]; exact two_mid (Z := []) hw)
  · intro k
    obtain ⟨X, Y, e2⟩ := List.append_of_mem hx
    refine ⟨X, Y, e2, fun y hy => ?_⟩
    have h1 : posF plan y < posF plan x := bef_pos h (by rw [e2]; exact two_mid' hy)
    have h2 := (h.mem y).mp (by rw [e2]; simp [hy])
    by_cases c : y < x
    · exact c
    · by_cases c2 : y = x
      · rw [c2] at h1
        omega
      · have := k y.toNat (by omega) (by omega)
        rw [Int.toNat_of_nonneg h2.1] at this
        omega
/-- the panes that no pane lies right of, and that no pane lies below -/
theorem right_end (h : IsPm plan n) : ((groupsF (rightsF plan)).getD n []).Pairwise (· < ·) ∧ ∀ x : Int, x ∈ (groupsF (rightsF plan)).getD n [] ↔ RM plan x := by
  rw [rights_firsts]
  have hl : ((placesF plan).map fun p => -p).length = n := by rw [List.length_map, placesF_len, h.len]
  obtain ⟨g1, g2⟩ := end_group (ns := (placesF plan).map fun p => -p)
  rw [hl] at g1 g2
  refine ⟨g1, fun x => ?_⟩
  rw [g2 x]
  constructor
  · rintro ⟨h1, h2, h3⟩
    refine (whole_rm h ((h.mem x).mpr ⟨h1, h2⟩)).mpr fun w h5 h6 => ?_
    have ex : ((x.toNat : Nat) : Int) = x := Int.toNat_of_nonneg h1
    have nx := neg_get h (w := x.toNat) (by omega)
    rw [ex] at nx
    have := h3 w h5 h6
    rw [neg_get h h6, nx] at this
    omega
  · intro hx
    have hm : x ∈ plan := by
      obtain ⟨X, Y, e, _⟩ := hx
      rw [e]
      simp
    have hb := (h.mem x).mp hm
    have ex : ((x.toNat : Nat) : Int) = x := Int.toNat_of_nonneg hb.1
    have nx := neg_get h (w := x.toNat) (by omega)
    rw [ex] at nx
    refine ⟨hb.1, hb.2, fun w h5 h6 => ?_⟩
    have := (whole_rm h hm).mp hx w h5 h6
    rw [neg_get h h6, nx]
    omega
theorem bottom_end (h : IsPm plan n) : ((groupsF (bottomsF plan)).getD n []).Pairwise (· < ·) ∧ ∀ x : Int, x ∈ (groupsF (bottomsF plan)).getD n [] ↔ LM plan x := by
  rw [bottoms_firsts]
  have hl : (placesF plan).length = n := by rw [placesF_len, h.len]
  obtain ⟨g1, g2⟩ := end_group (ns := placesF plan)
  rw [hl] at g1 g2
  have pw : ∀ w : Nat, (placesF plan).getD w 0 = posF plan w := fun w => by
    show _ = (placesF plan).getD ((w : Int).toNat) 0
    rw [Int.toNat_natCast]
  refine ⟨g1, fun x => ?_⟩
  rw [g2 x]
  constructor
  · rintro ⟨h1, h2, h3⟩
    refine (whole_lm h ((h.mem x).mpr ⟨h1, h2⟩)).mpr fun w h5 h6 => ?_
    have := h3 w h5 h6
    rw [pw w] at this
    exact this
  · intro hx
    have hm : x ∈ plan := by
      obtain ⟨X, Y, e, _⟩ := hx
      rw [e]
      simp
    have hb := (h.mem x).mp hm
    refine ⟨hb.1, hb.2, fun w h5 h6 => ?_⟩
    have := (whole_lm h hm).mp hx w h5 h6
    rw [pw w]
    exact this
end
/-- the borders, as the program tells them, are those of the state -/
theorem ends_state {st : StC} {m : Nat} {lo ri : Int} (g : GpC st m lo ri) : (groupsF (rightsF st.1)).getD m [] = st.2.2 ∧ (groupsF (bottomsF st.1)).getD m [] = st.2.1 := by
  have h : IsPm st.1 m := ⟨g.nd, g.mem, g.len⟩
  obtain ⟨a1, a2⟩ := right_end h
  obtain ⟨b1, b2⟩ := bottom_end h
  exact ⟨sorted_same a1 g.rS fun x => (a2 x).trans ⟨g.rC x, fun hx => g.ri x hx⟩, sorted_same b1 g.lS fun x => (b2 x).trans ⟨g.lC x, fun hx => g.lo x hx⟩⟩
/-- the borders after a code -/
def endB : Int → Int → List Int → Int × Int
  | lo, ri, [] => (lo, ri)
  | lo, ri, n :: ns => endB (growB lo ri n).1 (growB lo ri n).2 ns
theorem valid_snoc : ∀ (ns : List Int) (lo ri e : Int), ValidC lo ri (ns ++ [e]) ↔ ValidC lo ri ns ∧ e ∈ numbersF (endB lo ri ns).1 (endB lo ri ns).2
  | [], lo, ri, e => ⟨fun h => ⟨trivial, h.1⟩, fun h => ⟨h.2, trivial⟩⟩
  | n :: ns, lo, ri, e => by
    have z := valid_snoc ns (growB lo ri n).1 (growB lo ri n).2 e
    exact ⟨fun h => ⟨⟨h.1, (z.mp h.2).1⟩, (z.mp h.2).2⟩, fun h => ⟨h.1.1, z.mpr ⟨h.1.2, h.2⟩⟩⟩
theorem run_end : ∀ (ns : List Int) (st : StC) (m : Nat) (lo ri : Int), GpC st m lo ri → ValidC lo ri ns → ∃ st', runC st (m : Int) ns = some st' ∧ GpC st' (m + ns.length) (endB lo ri ns).1 (endB lo ri ns).2
  | [], st, m, lo, ri, g, _ => ⟨st, rfl, g⟩
  | n :: ns, st, m, lo, ri, g, h => by
    obtain ⟨st1, A, B, h1, g1, _⟩ := gpc_step g h.1
    obtain ⟨st', h2, g2⟩ := run_end ns st1 (m + 1) _ _ g1 h.2
    refine ⟨st', ?_, by rw [List.length_cons, show m + (ns.length + 1) = m + 1 + ns.length by omega]; exact g2⟩
    show (stepC st m n).bind (fun st' => runC st' ((m : Int) + 1) ns) = _
    rw [h1]
    exact h2
theorem run_snoc : ∀ (ns : List Int) (st : StC) (x e : Int), runC st x (ns ++ [e]) = (runC st x ns).bind fun st' => stepC st' (x + ns.length) e
  | [], st, x, e => by
    show (stepC st x e).bind (fun st' => runC st' (x + 1) []) = stepC st (x + ((0 : Nat) : Int)) e
    rw [show x + ((0 : Nat) : Int) = x by omega]
    cases stepC st x e <;> rfl
  | n :: ns, st, x, e => by
    show (stepC st x n).bind (fun st' => runC st' (x + 1) (ns ++ [e])) = ((stepC st x n).bind fun st' => runC st' (x + 1) ns).bind fun st' => stepC st' (x + ((ns.length + 1 : Nat) : Int)) e
    cases stepC st x n with
    | none => rfl
    | some st1 =>
      show runC st1 (x + 1) (ns ++ [e]) = (runC st1 (x + 1) ns).bind fun st' => stepC st' (x + ((ns.length + 1 : Nat) : Int)) e
      rw [run_snoc ns st1 (x + 1) e, show x + 1 + (ns.length : Int) = x + ((ns.length + 1 : Nat) : Int) by omega]
/-- no two codes have the same plan -/
theorem code_one {ns ms plan : List Int} (h1 : ValidC 1 1 ns) (h2 : ValidC 1 1 ms) (e1 : codePlanF ns = some plan) (e2 : codePlanF ms = some plan) : ns = ms := (code_inv h1 e1).symm.trans (code_inv h2 e2)
end GL
set_option Elab.async false
set_option linter.all false
set_option maxRecDepth 100000
set_option maxHeartbeats 8000000
/-! # k30: borders_of, without_last -/
namespace GL
open PySem PySem.Spec PyProof.Rows L2 Geo Rel
section
variable {P : Program} {w : World} {K : PySem.W.Frag} {mg : Str → Option Value} {base : Heap} {σ : L2.St} {H : Hp}
/-- a new list's item -/
theorem ev_ixN {T ti : TE} {xs : List V} {i : Int} {v : V} (h : Evl.EvL T σ H xs) (hi : Evl.Ev ti σ H (.int i)) (hx : atI xs i = some v) : Evl.Ev (tOp (rIxL K) T ti) σ H v := fun H1 e Q q =>
  h H1 e _ fun p H2 np e2 hp => hi H2 (e.trans e2) _ fun H3 e3 => (Evl.rv_ixL (SqL.of (e3 _ _ hp)) hx) H3 (Evl.Ex.refl _) Q fun H4 e4 => q H4 ((e2.trans e3).trans e4)
theorem s_retLI {t1 t2 : TE} {xs : List V} {v : V} {D : Ends} (h1 : Evl.EvL t1 σ H xs) (h2 : Evl.Ev t2 σ H v) (k : ∀ a c H1, Evl.Ex H H1 → H c = none → H1 a = some (.lst xs) → H1 c = some (.tup [.ref a, v]) → D.rt (.ref c) H1) :
    tRet (tTup (tCons t1 (tCons t2 tNil))) D σ H :=
  h1 H (Evl.Ex.refl H) _ fun a H1 na e1 ha => h2 H1 e1 _ fun H2 e2 => ⟨(show 2 ≤ sizeLine by decide), fun c nc =>
    k a c _ ((e1.trans e2).trans (Evl.Ex.new nc)) (Evl.fresh_back (e1.trans e2) nc) (Evl.Ex.new nc _ _ (e2 _ _ ha)) upd_same⟩
/-- the four borders, as new lists -/
def spBorders (tb : Addr) : Sp := fun vs H Q _ => ∃ (l : Addr) (plan : List Int), vs = [.ref l] ∧ H l = some (.lst (plan.map V.int)) ∧ rowB plan = true ∧ patB plan = true ∧ PlanIn plan ∧ 1 ≤ plan.length ∧ H tb = some (GnR.TabO tb) ∧
  ∀ H' t a b c d, Evl.Ex H H' → H t = none → H' t = some (.tup [.ref a, .ref b, .ref c, .ref d]) → H' a = some (.lst (((groupsF (leftsF plan)).getD 0 []).map V.int)) → H' b = some (.lst (((groupsF (topsF plan)).getD 0 []).map V.int)) →
    H' c = some (.lst (((groupsF (rightsF plan)).getD plan.length []).map V.int)) → H' d = some (.lst (((groupsF (bottomsF plan)).getD plan.length []).map V.int)) → Q (.ref t) H'
theorem first_item {b : Addr} {gs : List (List Int)} {n : Nat} (hn : σ[n]? = some (some (.ref b))) (h : RL lstI H b gs) (hl : 1 ≤ gs.length) : ∃ a, H a = some (.lst ((gs.getD 0 []).map V.int)) ∧ Evl.Ev (tOp (rIxL K) (tVar n) (tC (.int 0))) σ H (.ref a) := by
  have hz : gs[0]? = some (gs.getD 0 []) := by
    rw [List.getD_eq_getElem?_getD, List.getElem?_eq_getElem (by omega)]
    rfl
  obtain ⟨y, hy, ey⟩ := ev_rlIx (K := K) (σ := σ) (te := tVar n) (ti := tC (.int ((0 : Nat) : Int))) (Evl.ev_var hn) h hz Evl.ev_c
  obtain ⟨a, rfl, ha⟩ := hy
  exact ⟨a, ha, ey⟩
theorem last_item {b : Addr} {gs : List (List Int)} {n m : Nat} (hn : σ[n]? = some (some (.ref b))) (h : RL lstI H b gs) (hl : gs.length = m + 1) : ∃ a, H a = some (.lst ((gs.getD m []).map V.int)) ∧ Evl.Ev (tOp (rIxL K) (tVar n) (tUn (rU fun i => .int (-i)) (tC (.int 1)))) σ H (.ref a) := by
  obtain ⟨ys, hy, hp⟩ := h
  obtain ⟨us, u, rfl⟩ : ∃ us u, gs = us ++ [u] := ⟨gs.dropLast, gs.getLast (fun e => by rw [e] at hl; cases hl), (List.dropLast_concat_getLast _).symm⟩
  obtain ⟨xs, v, rfl, a, rfl, ha⟩ := pr_last (R := fun y z => lstI z y H) hp
  have hm : us.length = m := by simpa using hl
  refine ⟨a, ?_, ev_lastV hn hy⟩
  rw [List.getD_eq_getElem?_getD, List.getElem?_append_right (by omega), hm, Nat.sub_self]
  exact ha
/-- the plan without its last pane, and the last number of its code -/
def spLastOut (tb : Addr) : Sp := fun vs H Q _ => ∃ (l : Addr) (plan init : List Int) (e : Int), vs = [.ref l] ∧ H l = some (.lst (plan.map V.int)) ∧ rowB plan = true ∧ patB plan = true ∧ PlanIn plan ∧ 2 ≤ plan.length ∧ codeF plan = init ++ [e] ∧ H tb = some (GnR.TabO tb) ∧
  ∀ H' t p, Evl.Ex H H' → H t = none → H' t = some (.tup [.ref p, .int e]) → H' p = some (.lst ((plan.filter fun v => decide (v < (plan.length : Int) - 1)).map V.int)) → Q (.ref t) H'
end
end GL
set_option Elab.async false
set_option linter.all false
set_option maxRecDepth 100000
set_option maxHeartbeats 8000000
/-! # k30: find_wrong_place of one number more, pushed_plan -/
namespace GL
open PySem PySem.Spec PyProof.Rows L2 Geo Rel
theorem nums_iff {lo ri x : Int} : x ∈ numbersF lo ri ↔ (-ri ≤ x ∧ x < 0) ∨ (1 ≤ x ∧ x ≤ lo) := by
  constructor
  · exact num_cases
  · unfold numbersF
    rintro (c | c)
    · exact List.mem_append_left _ (List.mem_map.mpr ⟨(x + ri).toNat, List.mem_range.mpr (by omega), by omega⟩)
    · exact List.mem_append_right _ (List.mem_map.mpr ⟨(x - 1).toNat, List.mem_range.mpr (by omega), by omega⟩)
section
variable {P : Program} {w : World} {K : PySem.W.Frag} {mg : Str → Option Value} {base : Heap} {σ : L2.St} {H : Hp}
theorem el_catN {t1 t2 : TE} {xs ys : List V} (h1 : Evl.EvL t1 σ H xs) (h2 : Evl.EvL t2 σ H ys) (hl : xs.length + ys.length ≤ 100000) : Evl.EvL (tOp rCat t1 t2) σ H (xs ++ ys) := fun H1 e Q q =>
  h1 H1 e _ fun p H2 np e2 hp => h2 H2 (e.trans e2) _ fun p' H3 np' e3 hp' => ⟨p, p', xs, ys, rfl, rfl, e3 _ _ hp, hp', Nat.le_trans hl (by decide), fun r nr => q r _ (Evl.fresh_back (e2.trans e3) nr) ((e2.trans e3).trans (Evl.Ex.new nr)) upd_same⟩
/-- the last number may be wrong -/
def spWrongX : Sp := fun vs H Q _ => ∃ (l : Addr) (ns : List Int) (e : Int), vs = [.ref l] ∧ H l = some (.lst ((ns ++ [e]).map V.int)) ∧ ns.length ≤ 900 ∧ ValidC 1 1 ns ∧ ∀ H', Evl.Ex H H' → Q (if e ∈ numbersF (endB 1 1 ns).1 (endB 1 1 ns).2 then .non else .int (ns.length : Int)) H'
def spPushedP (tb CF : Addr) : Sp := fun vs H Q E => ∃ (l : Addr) (plan ns : List Int) (e : Int), vs = [.ref l, .int e] ∧ H l = some (.lst (plan.map V.int)) ∧ rowB plan = true ∧ patB plan = true ∧ PlanIn plan ∧ plan.length < 60 ∧ codeF plan = ns ∧ ns.length ≤ 59 ∧ ValidC 1 1 ns ∧ H tb = some (GnR.TabO tb) ∧
  (e ∉ numbersF (endB 1 1 ns).1 (endB 1 1 ns).2 → ∀ H', Evl.Ex H H' → E (.ref CF) none H') ∧
  (e ∈ numbersF (endB 1 1 ns).1 (endB 1 1 ns).2 → ∃ plan', codePlanF (ns ++ [e]) = some plan' ∧ ∀ H' p, Evl.Ex H H' → H p = none → H' p = some (.lst (plan'.map V.int)) → Q (.ref p) H')
def spGrowing (tb : Addr) : Sp := fun vs H Q _ => ∃ (l : Addr) (plan : List Int), vs = [.ref l] ∧ H l = some (.lst (plan.map V.int)) ∧ rowB plan = true ∧ patB plan = true ∧ plan.length < 60 ∧ H tb = some (GnR.TabO tb) ∧ ∀ H', Evl.Ex H H' → Q .non H'
end
end GL
set_option Elab.async false
set_option linter.all false
set_option maxRecDepth 100000
set_option maxHeartbeats 8000000
/-! # is_row, is_plan, check_plan of any object -/
namespace GL
open PySem PySem.Spec PyProof.Rows L2 Geo Rel AvR GxR
/-- an object that is no list -/
inductive Odd (H : Hp) : V → Prop
  | non : Odd H .non
  | bl (b : Bool) : Odd H (.bl b)
  | int (i : Int) : Odd H (.int i)
  | str (s : Str) : Odd H (.str s)
  | tup {a : Addr} {xs : List V} (h : H a = some (.tup xs)) : Odd H (.ref a)
  | dct {a : Addr} {kvs : List (L2.Key × V)} (h : H a = some (.dK kvs)) : Odd H (.ref a)
theorem Odd.ex {H H' : Hp} {x : V} (h : Odd H x) (e : Evl.Ex H H') : Odd H' x := by
  cases h with
  | non => exact .non
  | bl b => exact .bl b
  | int i => exact .int i
  | str s => exact .str s
  | tup h => exact .tup (e _ _ h)
  | dct h => exact .dct (e _ _ h)
theorem Odd.ty {K : PySem.W.Frag} {H : Hp} {x : V} (h : Odd H x) : ∃ T, (∀ H', Evl.Ex H H' → TyX K H' x (.type T)) ∧ kitB T "list" = some false ∧ TyB K H x T := by
  cases h with
  | non => exact ⟨_, fun _ _ => .base .non, by decide +kernel, .non⟩
  | bl b => exact ⟨_, fun _ _ => .base (.bl b), by decide +kernel, .bl b⟩
  | int i => exact ⟨_, fun _ _ => .base (.int i), by decide +kernel, .int i⟩
  | str s => exact ⟨_, fun _ _ => .base (.str s), by decide +kernel, .str s⟩
  | tup h => exact ⟨_, fun _ e => .base (.tup (e _ _ h)), by decide +kernel, .tup (SqT.of h)⟩
  | dct h => exact ⟨_, fun _ e => .base (.dK (e _ _ h)), by decide +kernel, .dK h⟩
/-- an item of a list -/
def Itm1 (H : Hp) (y : V) : Prop := Odd H y ∨ ∃ a xs, y = .ref a ∧ H a = some (.lst xs)
theorem Itm1.ex {H H' : Hp} {x : V} (h : Itm1 H x) (e : Evl.Ex H H') : Itm1 H' x := h.elim (fun h => .inl (h.ex e)) fun ⟨a, xs, h1, h2⟩ => .inr ⟨a, xs, h1, e _ _ h2⟩
theorem Itm1.ty {K : PySem.W.Frag} {H : Hp} {x : V} (h : Itm1 H x) : ∃ T, TyB K H x T := by
  rcases h with h | ⟨a, xs, rfl, h⟩
  · obtain ⟨T, _, _, h3⟩ := h.ty (K := K)
    exact ⟨T, h3⟩
  · exact ⟨_, .lst (SqL.of h)⟩
/-- a list with an item that is no whole number -/
def OddL (H : Hp) (x : V) : Prop := ∃ l ys, x = .ref l ∧ H l = some (.lst ys) ∧ ys.length ≤ 1000 ∧ (∀ y ∈ ys, Itm1 H y) ∧ ys.all isIntV = false
theorem OddL.ex {H H' : Hp} {x : V} (h : OddL H x) (e : Evl.Ex H H') : OddL H' x := by
  obtain ⟨l, ys, rfl, h1, h2, h3, h4⟩ := h
  exact ⟨l, ys, rfl, e _ _ h1, h2, fun y hy => (h3 y hy).ex e, h4⟩
def Nums (H : Hp) (x : V) (row : List Int) : Prop := ∃ l, x = .ref l ∧ H l = some (.lst (row.map V.int)) ∧ row.length ≤ 1000
theorem Nums.ex {H H' : Hp} {x : V} {row : List Int} (h : Nums H x row) (e : Evl.Ex H H') : Nums H' x row := by
  obtain ⟨l, rfl, h1, h2⟩ := h
  exact ⟨l, rfl, e _ _ h1, h2⟩
/-- what any object is to is_row and is_plan: r, p their answers -/
inductive Thg (H : Hp) (x : V) : Bool → Bool → Prop
  | odd (h : Odd H x) : Thg H x false false
  | lst (h : OddL H x) : Thg H x false false
  | num {row : List Int} (h : Nums H x row) : Thg H x (rowB row) (rowB row && patB row)
theorem Thg.ex {H H' : Hp} {x : V} {r p : Bool} (h : Thg H x r p) (e : Evl.Ex H H') : Thg H' x r p := by
  cases h with
  | odd h => exact .odd (h.ex e)
  | lst h => exact .lst (h.ex e)
  | num h => exact .num (h.ex e)
section
variable {P : Program} {w : World} {K : PySem.W.Frag} {mg : Str → Option Value} {base : Heap} {σ : L2.St} {H : Hp}
theorem isiK {X : Cx} {K : PySem.W.Frag} (e : X.K = K) : CallR X (.builtin "isinstance") (rIsi K) := e ▸ call_isi
theorem typK {X : Cx} {K : PySem.W.Frag} (e : X.K = K) : CallR X (.type "type") (rTyp K) := e ▸ call_type1
theorem ev_isL {t : TE} {x : V} {T : String} {b : Bool} (h : Evl.Ev t σ H x) (ht : ∀ H', Evl.Ex H H' → TyX K H' x (.type T)) (hk : kitB T "list" = some b) : Evl.Ev (tCB (rIsi K) (tCons t (tCons (tC (.ty "list")) tNil))) σ H (.bl b) :=
  Evl.ev_cb (vs := [x, .ty "list"]) (Evl.ea_cons h (Evl.ea_cons Evl.ev_c Evl.ea_nil)) fun H2 e2 Q q => ⟨x, .ty "list", .type T, .type "list", b, rfl, .ty "list", ht H2 e2, kit_ty hk, q H2 (Evl.Ex.refl _)⟩
theorem tyB_dec {H : Hp} {x : V} {T : String} (h : TyB K H x T) : decide (T = "int") = isIntV x := by
  cases h <;> first | rfl | (simp [isIntV])
def spIsNumA (K : PySem.W.Frag) : Sp := fun vs H Q _ => ∃ x T, vs = [x] ∧ TyB K H x T ∧ ∀ H', Evl.Ex H H' → Q (.bl (isIntV x)) H'
theorem ok_is_numberA {f : Addr} {fd : FuncData} (F : Fun K "is_number" "is_number" s_is_number f fd) (B : BP mg) : FnOk P w K mg base CX0 1 f fd ["thing"] (spIsNumA K) := by
  refine F.ok sc_is_number (fun vs H Q E h => ?_) (fun cdv A outer s H vs Q E hr h => ?_)
  · obtain ⟨x, T, rfl, _⟩ := h
    rfl
  · obtain ⟨x, T, rfl, hT, q⟩ := h
    refine ⟨_, (pss_one (ps_ret (pe_cmpR op_isTy (pe_callTy (T := "type") (typK (K := K) rfl) (by rfl) B.type_ (by decide +kernel) (pa_cons (pv 0) pa_nil)) (pe_bltn (v := .ty "int") (by rfl) B.int_ (by decide +kernel) rfl) (nomark _)))), ?_⟩
    refine ⟨x, rfl, x, T, rfl, hT, _, _, rfl, rfl, ?_⟩
    rw [tyB_dec hT]
    exact q H (Evl.Ex.refl _)
def spIsRowA (tb : Addr) : Sp := fun vs H Q _ => ∃ x r p, vs = [x] ∧ Thg H x r p ∧ H tb = some (GnR.TabO tb) ∧ ∀ H', Evl.Ex H H' → Q (.bl r) H'
theorem ok_is_rowA {f f1 : Addr} {fd fd1 : FuncData} {c tb : Addr} {tk : Tok} (F : FunC K "is_row" "is_row" s_is_row f fd (.ref c)) (B : BP mg) (hM : mg "MOST_PANES" = some (.int 60 tk)) (TB : TabB base mg c tb) (F1 : Fun K "is_number" "is_number" s_is_number f1 fd1) (hf : mg "is_number" = some (.ref f1)) (bd1 : ∀ (s : Shared) (u : Value), BindsTo s fd1 ⟨[u], []⟩ [("thing", u)]) :
    FnOk P w K mg base CX0 2 f fd ["thing"] (spIsRowA tb) := by
  refine F.ok sc_is_row (fun vs H Q E h => ?_) (fun A outer s H vs Q E hr h => ?_)
  · obtain ⟨x, _, _, rfl, _⟩ := h
    rfl
  · obtain ⟨x, r, p, rfl, hx, ht, q⟩ := h
    refine ⟨_, (pss_cons (ps_if (PW.pt (pw_or (pt_not (pt_val (pe_callB (isiK (K := K) rfl) (by rfl) B.isinstance_ (by decide +kernel) (pa_cons (pv 0) (pa_cons (pe_bltn (v := .ty "list") (by rfl) B.list_ (by decide +kernel) rfl) pa_nil))))) (pw_or1 (pt_not (pt_chain op_le op_le pe_int (pe_callB (lenK (K := K) rfl) (by rfl) B.len_ (by decide +kernel) (pa_cons (pv 0) pa_nil)) (pe_glob (v := .int 60) rfl hM ⟨_, rfl⟩)))))) (pss_one (ps_ret pe_bl)) pss_nil)
      (pss_one (ps_ret (pe_and (AvR.pe_allA (p := tb) hr (by rfl) B.all_ TB rfl (by exact genS) (pv 0) (fun M => by exact AvR.elt_any M F1 isNum bd1 B.type_ B.int_ hf rfl rfl rfl (by decide) (by decide)) (fun _ => rfl)) (pe_one (pe_cmpR (op_eqD hr.units) (pe_callB cr_sortedI (by rfl) B.sorted_ (by decide +kernel) (pa_cons (pv 0) pa_nil)) (pe_listRg rfl (by rfl) B.list_ (prg_1 (by rfl) B.range_ (pe_callB (lenK (K := K) rfl) (by rfl) B.len_ (by decide +kernel) (pa_cons (pv 0) pa_nil)))) (nomark _))))))), ?_⟩
    cases hx with
    | odd h =>
      obtain ⟨T, h3, h2, _⟩ := h.ty (K := K)
      refine Evl.q_when (b := true) (Evl.et_is (Evl.et_or (a := true) (b := true) (Evl.et_is (Evl.et_not (Evl.et_B (ev_isL (Evl.ev_var rfl) h3 h2))) rfl) (fun z => by cases z)) rfl) (fun _ H1 e1 => Evl.s_ret Evl.ev_c fun H2 e2 => q H2 (e1.trans e2)) (fun z => by cases z)
    | lst h =>
      obtain ⟨l, ys, rfl, hl, hlen, hty, hall⟩ := h
      have lenV : ∀ {H1 : Hp}, Evl.Ex H H1 → Evl.Ev (tCB (Evl.rLenS K) (tCons (tVar 0) tNil)) [some (.ref l)] H1 (.int (ys.length : Int)) := fun {H1} e => Evl.ev_len (Evl.ev_var rfl) (SqL.of (e _ _ hl))
      refine Evl.q_when (b := !(decide (1 ≤ (ys.length : Int)) && decide ((ys.length : Int) ≤ 60))) (Evl.et_is (Evl.et_or (a := false) (Evl.et_is (Evl.et_not (Evl.et_B (ev_isL (b := true) (T := "list") (Evl.ev_var rfl) (fun H' e => .base (.lst (e _ _ hl))) (by decide +kernel)))) rfl) (fun _ => Evl.et_not (Evl.et_test (ev_chain Evl.ev_c (lenV (Evl.Ex.refl _)) Evl.rv_I0 (fun _ => Evl.ev_c) (fun _ => Evl.rv_I0))))) (Bool.false_or _)) (fun hb H1 e1 => Evl.s_ret Evl.ev_c fun H2 e2 => q H2 (e1.trans e2)) (fun hb H1 e1 => ?_)
      refine ⟨.ref l, rfl, l, ys, rfl, SqL.of (e1 _ _ hl), fun y hy => ((hty y hy).ex e1).ty, e1 _ _ ht, _, rfl, ?_⟩
      rw [hall, if_neg (by decide)]
      exact q H1 e1
    | @num row h =>
      obtain ⟨l, rfl, hl, hlen⟩ := h
      have lenV : ∀ {H1 : Hp}, Evl.Ex H H1 → Evl.Ev (tCB (Evl.rLenS K) (tCons (tVar 0) tNil)) [some (.ref l)] H1 (.int (row.length : Int)) := fun {H1} e => Evl.ev_is (Evl.ev_len (Evl.ev_var rfl) (SqL.of (e _ _ hl))) (by rw [List.length_map])
      refine Evl.q_when (b := !(decide (1 ≤ row.length) && decide (row.length ≤ 60))) (Evl.et_is (Evl.et_or (a := false) (Evl.et_is (Evl.et_not (Evl.et_B (ev_isL (b := true) (T := "list") (Evl.ev_var rfl) (fun H' e => .base (.lst (e _ _ hl))) (by decide +kernel)))) rfl) (fun _ => Evl.et_not (Evl.et_test (ev_chain (b := decide (row.length ≤ 60)) Evl.ev_c (lenV (Evl.Ex.refl _)) Evl.rv_I0 (fun _ => Evl.ev_c) (fun _ => ?_))))) ?_) (fun hb H1 e1 => ?_) (fun hb H1 e1 => ?_)
      rotate_left 2
      · refine Evl.s_ret Evl.ev_c fun H2 e2 => ?_
        have : rowB row = false := by
          unfold rowB
          rw [show (decide (1 ≤ row.length) && decide (row.length ≤ 60)) = false from by
            generalize (decide (1 ≤ row.length) && decide (row.length ≤ 60)) = b0 at hb
            cases b0
            · rfl
            · cases hb]
          rfl
        have z := q H2 (e1.trans e2)
        rw [this] at z
        exact z
      · have hr1 : (decide (1 ≤ row.length) && decide (row.length ≤ 60)) = true := by
          generalize (decide (1 ≤ row.length) && decide (row.length ≤ 60)) = b0 at hb
          cases b0
          · cases hb
          · rfl
        have hall : (row.map V.int).all isIntV = true := by
          rw [List.all_eq_true]
          intro y hy
          obtain ⟨i, _, rfl⟩ := List.mem_map.mp hy
          rfl
        refine ⟨.ref l, rfl, l, row.map V.int, rfl, SqL.of (e1 _ _ hl), fun y hy => by
          obtain ⟨i, _, rfl⟩ := List.mem_map.mp hy
          exact ⟨_, .int i⟩, e1 _ _ ht, _, rfl, ?_⟩
        rw [hall, if_pos rfl]
        refine el_sortI (K := K) (σ := [some (.ref l)]) (t := tVar 0) (Evl.ev_var rfl) (e1 _ _ hl) H1 (Evl.Ex.refl _) _ fun p ms H2 np e2 pm pw hp => ?_
        refine lenV (e1.trans e2) H2 (Evl.Ex.refl _) _ fun H3 e3 => ⟨row.length, rfl, RgOk.of_le (by omega) (by omega) (by omega) (by omega), fun r nr => ?_⟩
        have er : rgV 0 (row.length : Int) = ((List.range row.length).map fun i : Nat => (i : Int)).map V.int := by
          unfold rgV
          rw [List.map_map, Int.sub_zero, Int.toNat_natCast]
          exact List.map_congr_left fun i _ => by simp
        have e4 := Evl.Ex.new (o := .lst (rgV 0 (row.length : Int))) nr
        refine (datLst.rv_eq (by decide) lstI_e (K := K) (H := upd H3 r (.lst (rgV 0 (row.length : Int)))) (z := ms) (w := (List.range row.length).map fun i : Nat => (i : Int)) ⟨p, rfl, e4 _ _ (e3 _ _ hp)⟩ ⟨r, rfl, by rw [upd_same, er]⟩) _ (Evl.Ex.refl _) _ fun H5 e5 => ?_
        have z := q H5 ((((e1.trans e2).trans e3).trans e4).trans e5)
        have er2 : rowB row = decide (ms = (List.range row.length).map fun i : Nat => (i : Int)) := by
          unfold rowB
          rw [hr1, Bool.true_and, row_iff pm pw]
        rw [er2] at z
        exact z
      · have e : decide (row.length ≤ 60) = decide ((row.length : Int) ≤ 60) := decide_eq_decide.mpr (by omega)
        rw [e]
        exact Evl.rv_I0
      · rw [Bool.false_or]
        congr 2
        exact decide_eq_decide.mpr (by omega)
def spIsPlanA (tb : Addr) : Sp := fun vs H Q _ => ∃ x r p, vs = [x] ∧ Thg H x r p ∧ H tb = some (GnR.TabO tb) ∧ ∀ H', Evl.Ex H H' → Q (.bl p) H'
theorem thg_row {H : Hp} {x : V} {r p : Bool} (h : Thg H x r p) (hr : r = true) : ∃ row, Nums H x row ∧ rowB row = true ∧ p = patB row := by
  cases h with
  | odd h => cases hr
  | lst h => cases hr
  | @num row h => exact ⟨row, h, hr, by rw [hr, Bool.true_and]⟩
theorem thg_no {H : Hp} {x : V} {r p : Bool} (h : Thg H x r p) (hr : r = false) : p = false := by
  cases h with
  | odd h => rfl
  | lst h => rfl
  | @num row h => rw [hr]; rfl
theorem ok_is_planA {f f1 f2 : Addr} {fd fd1 fd2 : FuncData} {tb : Addr} (F : Fun K "is_plan" "is_plan" s_is_plan f fd) (B : BP mg) (C_is_row : Cal P w K mg base "is_row" 2 f1 fd1 ["thing"] (spIsRowA tb)) (C_find_pattern : Cal P w K mg base "find_pattern" 2 f2 fd2 ["row"] spPatX) : FnOk P w K mg base CX0 3 f fd ["thing"] (spIsPlanA tb) := by
  refine F.ok sc_is_plan (fun vs H Q E h => ?_) (fun cdv A outer s H vs Q E hr h => ?_)
  · obtain ⟨x, _, _, rfl, _⟩ := h
    rfl
  · obtain ⟨x, r, p, rfl, hx, ht, q⟩ := h
    refine ⟨_, (pss_one (ps_ret (pe_and (pe_call C_is_row.G (hr.mono (by decide)) (by rfl) C_is_row.g C_is_row.k C_is_row.b .nil pass0 (by exact (pa_cons (pv 0) pa_nil))) (pe_one (pe_cmpR op_isN (pe_call C_find_pattern.G (hr.mono (by decide)) (by rfl) C_find_pattern.g C_find_pattern.k C_find_pattern.b .nil pass0 (by exact (pa_cons (pv 0) pa_nil))) pe_non (nomark _)))))), ?_⟩
    refine ⟨x, rfl, x, r, p, rfl, hx, ht, fun H1 e1 => ⟨r, rfl, ?_⟩⟩
    cases r with
    | false =>
      rw [if_neg (by decide)]
      rw [thg_no hx rfl] at q
      exact q H1 e1
    | true =>
      rw [if_pos rfl]
      obtain ⟨row, ⟨l, rfl, hl, hlen⟩, hrow, hp⟩ := thg_row hx rfl
      obtain ⟨_, hb⟩ := rowB_facts hrow
      refine ⟨.ref l, rfl, l, row, rfl, e1 _ _ hl, hlen, hb, rowOk_of (pm_of_row hrow), fun v H2 e2 hv => ?_⟩
      refine ⟨rfl, ?_⟩
      rw [hv, ← hp]
      exact q H2 (e1.trans e2)
def spCheckPlanA (tb CF : Addr) : Sp := fun vs H Q E => ∃ x r p, vs = [x] ∧ Thg H x r p ∧ H tb = some (GnR.TabO tb) ∧ (p = false → ∀ H', Evl.Ex H H' → E (.ref CF) none H') ∧ (p = true → ∀ H', Evl.Ex H H' → Q .non H')
end
end GL
set_option Elab.async false
set_option linter.all false
set_option maxRecDepth 100000
set_option maxHeartbeats 2000000
/-! # the codes stand in the order of their indexes -/
namespace GL
open PySem PySem.Spec PyProof.Rows L2 Geo Rel Bx
theorem pick_mem : ∀ (bs : List (Int × Int)) (i j' y : Int), pickF i bs = some (j', y) → y ∈ bs.map (·.1)
  | [], _, _, _, h => by cases h
  | b :: bs, i, j', y, h => by
    unfold pickF at h
    rw [List.map_cons]
    by_cases c : i ≥ b.2
    · rw [if_pos c] at h
      exact List.mem_cons_of_mem _ (pick_mem bs _ _ _ h)
    · rw [if_neg c] at h
      cases h
      exact List.mem_cons_self
theorem pick_succ : ∀ (bs : List (Int × Int)) (i i' j' x y : Int), (bs.map (·.1)).Pairwise (· < ·) → pickF i bs = some (i', x) → pickF (i + 1) bs = some (j', y) → (x = y ∧ j' = i' + 1) ∨ x < y
  | [], _, _, _, _, _, _, h, _ => by cases h
  | b :: bs, i, i', j', x, y, hs, h1, h2 => by
    rw [List.map_cons] at hs
    obtain ⟨s1, s2⟩ := List.pairwise_cons.mp hs
    unfold pickF at h1 h2
    by_cases c : i ≥ b.2
    · rw [if_pos c] at h1
      rw [if_pos (by omega), show i + 1 - b.2 = i - b.2 + 1 by omega] at h2
      exact pick_succ bs (i - b.2) i' j' x y s2 h1 h2
    · rw [if_neg c] at h1
      cases h1
      by_cases c2 : i + 1 ≥ b.2
      · rw [if_pos c2] at h2
        exact .inr (s1 y (pick_mem bs _ _ _ h2))
      · rw [if_neg c2] at h2
        cases h2
        exact .inl ⟨rfl, rfl⟩
theorem br_sorted (tab : List (List Int)) (lo ri : Int) : ((branchesF tab lo ri).map (·.1)).Pairwise (· < ·) := by
  unfold branchesF
  rw [List.map_map]
  have : ((fun z : Int × Int => z.1) ∘ fun m => (m, atF tab (growB lo ri m).1 (growB lo ri m).2)) = id := rfl
  rw [this, List.map_id]
  exact nums_sorted _ _
theorem run_lt : ∀ (ts : List (List (List Int))) (i : Int) (c1 c2 r1 r2 : List Int) (lo ri : Int), (ts = [] → False) → runN i c1 lo ri ts (c1 ++ r1) → runN (i + 1) c2 lo ri ts (c2 ++ r2) → r1 < r2 ∨ r1 = r2
  | [], i, c1, c2, r1, r2, lo, ri, h, _, _ => (h rfl).elim
  | t :: ts, i, c1, c2, r1, r2, lo, ri, _, h1, h2 => by
    obtain ⟨_, _, i', x, hp1, h1⟩ := h1
    obtain ⟨_, _, j', y, hp2, h2⟩ := h2
    obtain ⟨s1, e1⟩ := run_prefix _ _ _ _ _ _ h1
    obtain ⟨s2, e2⟩ := run_prefix _ _ _ _ _ _ h2
    rw [List.append_assoc] at e1 e2
    have e1 := List.append_cancel_left e1
    have e2 := List.append_cancel_left e2
    rw [List.singleton_append] at e1 e2
    subst e1 e2
    rcases pick_succ _ i i' j' x y (br_sorted t lo ri) hp1 hp2 with ⟨rfl, rfl⟩ | hxy
    · have a1 : runN i' (c1 ++ [x]) (growB lo ri x).1 (growB lo ri x).2 ts ((c1 ++ [x]) ++ s1) := by rw [List.append_assoc]; exact h1
      have a2 : runN (i' + 1) (c2 ++ [x]) (growB lo ri x).1 (growB lo ri x).2 ts ((c2 ++ [x]) ++ s2) := by rw [List.append_assoc]; exact h2
      by_cases ht : ts = []
      · subst ht
        have b1 : c1 ++ [x] = (c1 ++ [x]) ++ s1 := a1
        have b2 : c2 ++ [x] = (c2 ++ [x]) ++ s2 := a2
        have l1 := congrArg List.length b1
        have l2 := congrArg List.length b2
        rw [List.length_append (as := c1 ++ [x])] at l1
        rw [List.length_append (as := c2 ++ [x])] at l2
        have z1 : s1 = [] := List.length_eq_zero_iff.mp (by omega)
        have z2 : s2 = [] := List.length_eq_zero_iff.mp (by omega)
        rw [z1, z2]
        exact .inr rfl
      · rcases run_lt ts i' _ _ s1 s2 _ _ ht a1 a2 with h | h
        · exact .inl (List.cons_lt_cons_iff.mpr (.inr ⟨rfl, h⟩))
        · exact .inr (by rw [h])
    · exact .inl (List.cons_lt_cons_iff.mpr (.inl hxy))
/-- the code of the next index is greater -/
theorem code_lt {n : Nat} {idx : Int} {c1 c2 p1 p2 : List Int} (h1 : NthAt n idx c1 p1) (h2 : NthAt n (idx + 1) c2 p2) : c1 < c2 := by
  have r1 := h1.run
  have r2 := h2.run
  by_cases ht : (endsF n (n - 1)).reverse.drop 1 = []
  · rw [ht] at r1 r2
    have b1 : ([] : List Int) = c1 := r1
    have b2 : ([] : List Int) = c2 := r2
    have hp : p1 = p2 := Option.some.inj (h1.made.symm.trans (by rw [← b1, b2]; exact h2.made))
    have := h1.idx
    have := h2.idx
    rw [hp] at *
    omega
  · rcases run_lt _ idx [] [] c1 c2 1 1 ht (by rw [List.nil_append]; exact r1) (by rw [List.nil_append]; exact r2) with h | h
    · exact h
    · have hp : p1 = p2 := Option.some.inj (h1.made.symm.trans (by rw [h]; exact h2.made))
      have := h1.idx
      have := h2.idx
      rw [hp] at *
      omega
end GL
set_option Elab.async false
set_option linter.all false
set_option maxRecDepth 100000
set_option maxHeartbeats 4000000
/-! # sorted(a list of lists of whole numbers) -/
namespace SoL
open PySem PySem.Spec PyProof.Rows L2 Rel
theorem perm_eq {α : Type} {r : α → α → Prop} (anti : ∀ a b, r a b → r b a → a = b) : ∀ {l1 l2 : List α}, l1.Pairwise r → l2.Pairwise r → l1.Perm l2 → l1 = l2
  | [], l2, _, _, h => h.symm.eq_nil.symm
  | a :: t, [], _, _, h => h.eq_nil
  | a :: t, b :: u, h1, h2, h => by
    have e : a = b := by
      have m1 : a ∈ b :: u := h.mem_iff.mp List.mem_cons_self
      have m2 : b ∈ a :: t := h.mem_iff.mpr List.mem_cons_self
      rcases List.mem_cons.mp m1 with e | m1
      · exact e
      · rcases List.mem_cons.mp m2 with e | m2
        · exact e.symm
        · exact anti a b ((List.pairwise_cons.mp h1).1 b m2) ((List.pairwise_cons.mp h2).1 a m1)
    subst e
    rw [perm_eq anti (List.pairwise_cons.mp h1).2 (List.pairwise_cons.mp h2).2 h.cons_inv]
abbrev leL (p q : List Int) : Bool := decide (p ≤ q)
abbrev sortL (zs : List (List Int)) : List (List Int) := zs.mergeSort leL
theorem sort_pw (zs : List (List Int)) : (sortL zs).Pairwise fun a b => a ≤ b := by
  have z := List.pairwise_mergeSort (le := leL) (fun a b c h1 h2 => decide_eq_true (List.le_trans (of_decide_eq_true h1) (of_decide_eq_true h2))) (fun a b => by
    rcases List.le_total a b with h | h
    · rw [show leL a b = true from decide_eq_true h]; rfl
    · rw [show leL b a = true from decide_eq_true h, Bool.or_true]) zs
  exact z.imp fun h => of_decide_eq_true h
theorem sort_eq {xs ys : List (List Int)} (h : xs.Perm ys) : sortL xs = sortL ys :=
  perm_eq (r := fun a b : List Int => a ≤ b) (fun a b h1 h2 => List.le_antisymm h1 h2) (sort_pw xs) (sort_pw ys) (((List.mergeSort_perm xs leL).trans h).trans (List.mergeSort_perm ys leL).symm)
abbrev encL (z : List Int) : PyData := .list (z.map PyData.int)
theorem each_of {H : Hp} : ∀ {us : List Value} {zs : List (List Int)}, (∀ u ∈ us, ∃ a, u = Value.ref a) → Paired (fun y z => lstI z y H) (us.map backV) zs → PySem.W.EachIs (fun u z => ∃ a, u = Value.ref a ∧ H a = some (.lst (z.map V.int))) us zs
  | [], [], _, _ => .nil
  | u :: us, z :: zs, h, .cons h1 h2 => by
    obtain ⟨a, rfl⟩ := h u List.mem_cons_self
    obtain ⟨p, e, hp⟩ := h1
    cases e
    exact .cons ⟨_, rfl, hp⟩ (each_of (fun v hv => h v (List.mem_cons_of_mem _ hv)) h2)
theorem of_each {H : Hp} : ∀ {us : List Value} {zs : List (List Int)}, PySem.W.EachIs (fun u z => ∃ a, u = Value.ref a ∧ H a = some (.lst (z.map V.int))) us zs → (∀ u ∈ us, ∃ a, u = Value.ref a) ∧ Paired (fun y z => lstI z y H) (us.map backV) zs
  | [], [], .nil => ⟨fun _ h => (by cases h), .nil⟩
  | u :: us, z :: zs, .cons h1 h2 => by
    obtain ⟨a, rfl, hp⟩ := h1
    obtain ⟨h3, h4⟩ := of_each h2
    exact ⟨fun v hv => by
      rcases List.mem_cons.mp hv with rfl | hv
      · exact ⟨a, rfl⟩
      · exact h3 v hv, .cons ⟨a, rfl, hp⟩ h4⟩
theorem each_mono {α β : Type} {R R' : α → β → Prop} : ∀ {us : List α} {zs : List β}, PySem.W.EachIs R us zs → (∀ u z, R u z → R' u z) → PySem.W.EachIs R' us zs
  | [], [], .nil, _ => .nil
  | u :: us, z :: zs, .cons h t, k => .cons (k _ _ h) (each_mono t k)
theorem dp_ints (K : PySem.W.Frag) (H : Hp) : ∀ ns : List Int, DpAll K H (ns.map V.int) (ns.map PyData.int)
  | [] => .nil
  | n :: ns => .cons (.int n) (dp_ints K H ns)
theorem dep_ints : ∀ ns : List Int, PyData.depthAll (ns.map PyData.int) = 0
  | [] => rfl
  | n :: ns => by
    show max (PyData.depth (.int n)) (PyData.depthAll (ns.map PyData.int)) = 0
    rw [dep_ints ns]
    rfl
def rSortLL (K : PySem.W.Frag) : List V → Hp → VK → Prop := fun vs H Q => ∃ (a : Addr) (ys : List V) (zs : List (List Int)), vs = [V.ref a] ∧ SqL K H a ys ∧ Paired (fun y z => lstI z y H) ys zs ∧ zs.length ≤ 50000 ∧
  ∀ out p, Paired (fun y z => lstI z y H) out (sortL zs) → H p = none → Q (.ref p) (upd H p (.lst out))
theorem cr_sortedLL {X : Cx} (hu : X.A.units + 64 < cLine) : CallR X (.builtin "sorted") (rSortLL X.K) := by
  intro pins s σ H vs us Q I r h
  obtain ⟨a, ys, zs, rfl, hs, hp, hz, q⟩ := h
  obtain ⟨its, rv, hl, hz2⟩ := I.list hs
  obtain ⟨u, rfl, ru⟩ := vals1 r
  obtain rfl : u = Value.ref a := ru
  obtain ⟨e1, e2⟩ := refs_back rv fun x hm => by
    obtain ⟨i, hi, rfl⟩ := List.getElem_of_mem hm
    have hl := pr_len hp
    obtain ⟨z, _, hz⟩ := pr_at' hp (List.getElem?_eq_getElem hi)
    obtain ⟨t, e, _⟩ := hz
    exact ⟨t, e⟩
  rw [e1] at hp
  have E := each_of e2 hp
  have hzl : its.length = zs.length := E.length
  refine PySem.W.sorted_data (enc := encL) (bs := zs) hl.isList E (each_mono E fun u z hu => ?_) (PySem.W.AllAlike.of fun b b' => by rw [PySem.W.alike.eq_5]; exact PySem.W.alike_ints b b') (PySem.W.Sortable.others fun b => ⟨fun e => (by cases e), fun xs e => (by cases e)⟩) (Nat.le_trans hz (by decide)) (fun b _ => ?_) fun out ho hE => ?_
  · obtain ⟨t, rfl, ht⟩ := hu
    exact Dp.reads I (encL z) (.ref t) (.ref t) (.lst (SqL.of ht) (dp_ints X.K H z)) rfl
  · have : PyData.depth (encL b) = 1 := by
      show PyData.depthAll (b.map PyData.int) + 1 = 1
      rw [dep_ints]
    omega
  · have hE' : PySem.W.EachIs (fun u z => ∃ a, u = Value.ref a ∧ H a = some (.lst (z.map V.int))) out (sortL zs) := by
      have e := PySem.W.dataLe_rows (fun z : List Int => z)
      have e' : PySem.W.dataLe false encL = leL := e
      rw [e'] at hE
      exact hE
    obtain ⟨h3, h4⟩ := of_each hE'
    refine ⟨.ref (s.heap.objs.size + 1), upd H (s.heap.objs.size + 1) (.lst (out.map backV)), I.laid (t' := s.toks) (fun b o e => sortedAll_old e) (Nat.le_succ _) ⟨?_, out, _, vals_back h3, (sortedAll_at s.heap its out.toArray).choose_spec⟩, rfl, q _ _ h4 (I.hok.fresh (Nat.le_succ _))⟩
    rw [List.length_map, ho]
    exact Nat.le_trans hz (by decide)
end SoL
set_option Elab.async false
set_option linter.all false
set_option maxRecDepth 100000
set_option maxHeartbeats 2000000
/-! # theorem G, its last step: where the panes right of and below each are known, the plan is known -/
namespace GL
open PySem PySem.Spec PyProof.Rows L2 Geo Rel Bx
theorem isort_eq {zs ys : List (Int × Int)} (h : zs.Perm ys) (hs : ys.Pairwise fun a b => a.1 < b.1) : isort p2 zs = ys := by
  refine SoL.perm_eq (r := fun a b : Int × Int => HT.lexLt (p2 b) (p2 a) = false) (fun a b h1 h2 => ?_) (isort_srt p2 zs) (hs.imp fun {a b} hab => ?_) ((isort_perm p2 zs).trans h)
  · rw [lex_p2] at h1 h2
    unfold LeP at h1 h2
    exact Prod.ext (by omega) (by omega)
  · rw [lex_p2]
    unfold LeP
    omega
/-- how many of the first n numbers are so -/
def cntN (n : Nat) (f : Nat → Bool) : Nat := ((List.range n).filter f).length
theorem cntN_succ (n : Nat) (f : Nat → Bool) : cntN (n + 1) f = cntN n f + if f n = true then 1 else 0 := by
  unfold cntN
  rw [List.range_succ, List.filter_append, List.length_append, List.filter_cons]
  by_cases c : f n = true
  · rw [if_pos c, if_pos c]
    rfl
  · rw [if_neg c, if_neg c]
    rfl
theorem cntN_add (n : Nat) (f g k : Nat → Bool) (h : ∀ i, i < n → (if k i = true then 1 else 0) = (if f i = true then 1 else 0) + (if g i = true then 1 else 0)) : cntN n k = cntN n f + cntN n g := by
  induction n with
  | zero => rfl
  | succ n ih =>
    rw [cntN_succ, cntN_succ, cntN_succ, ih fun i hi => h i (by omega), h n (by omega)]
    omega
theorem cntN_gt (n s : Nat) (h : s < n) : cntN n (fun t => decide (s < t)) = n - 1 - s := by
  induction n with
  | zero => omega
  | succ n ih =>
    rw [cntN_succ]
    by_cases c : s < n
    · rw [ih c, if_pos (decide_eq_true c)]
      omega
    · have e : s = n := by omega
      subst e
      rw [if_neg (by simp)]
      have : cntN s (fun t => decide (s < t)) = 0 := by
        unfold cntN
        rw [List.filter_eq_nil_iff.mpr fun t ht => by have := List.mem_range.mp ht; simp; omega]
        rfl
      omega
end GL
set_option Elab.async false
set_option linter.all false
set_option maxRecDepth 100000
set_option maxHeartbeats 2000000
/-! # theorem G, its last step -/
namespace GL
open PySem PySem.Spec PyProof.Rows L2 Geo Rel Bx
section
variable {plan : List Int} {n : Nat}
theorem pos_at (h : IsPm plan n) {v : Int} (hv : 0 ≤ v ∧ v < n) : ∃ i, ∃ hi : i < plan.length, plan[i] = v ∧ posF plan v = (i : Int) := has_place h hv
theorem pos_in (h : IsPm plan n) {v : Int} (hv : 0 ≤ v ∧ v < n) : 0 ≤ posF plan v ∧ posF plan v < n := by
  obtain ⟨i, hi, _, e⟩ := pos_at h hv
  rw [e]
  have := h.len
  omega
theorem pos_ne (h : IsPm plan n) {u v : Int} (hu : 0 ≤ u ∧ u < n) (hv : 0 ≤ v ∧ v < n) (e : posF plan u = posF plan v) : u = v := by
  obtain ⟨i, hi, h1, h2⟩ := pos_at h hu
  obtain ⟨j, hj, h3, h4⟩ := pos_at h hv
  have : i = j := by omega
  subst this
  exact h1.symm.trans h3
theorem plan_perm (h : IsPm plan n) : plan.Perm ((List.range n).map fun i : Nat => (i : Int)) := by
  refine (List.perm_ext_iff_of_nodup h.nd ?_).mpr fun v => ?_
  · rw [List.Nodup, List.pairwise_map]
    exact List.nodup_range.imp fun h e => h (Int.ofNat.inj e)
  · rw [h.mem v, List.mem_map]
    exact ⟨fun hv => ⟨v.toNat, List.mem_range.mpr (by omega), by omega⟩, fun ⟨i, hi, e⟩ => by have := List.mem_range.mp hi; omega⟩
theorem pos_perm (h : IsPm plan n) : ((List.range n).map fun t : Nat => (posF plan t).toNat).Perm (List.range n) := by
  refine (List.perm_ext_iff_of_nodup ?_ List.nodup_range).mpr fun i => ?_
  · rw [List.Nodup, List.pairwise_map]
    refine List.Pairwise.imp_of_mem (fun {a b} ha hb hab e => hab ?_) List.nodup_range
    have ha := List.mem_range.mp ha
    have hb := List.mem_range.mp hb
    have p1 := pos_in h (v := (a : Int)) (by omega)
    have p2 := pos_in h (v := (b : Int)) (by omega)
    have := pos_ne h (u := (a : Int)) (v := (b : Int)) (by omega) (by omega) (by omega)
    omega
  · rw [List.mem_map, List.mem_range]
    constructor
    · rintro ⟨t, ht, rfl⟩
      have := pos_in h (v := (t : Int)) (by have := List.mem_range.mp ht; omega)
      omega
    · intro hi
      have hl := h.len
      have hm := (h.mem plan[i]).mp (List.getElem_mem (by omega))
      refine ⟨(plan[i]'(by omega)).toNat, List.mem_range.mpr (by omega), ?_⟩
      rw [show (((plan[i]'(by omega)).toNat : Nat) : Int) = plan[i]'(by omega) from Int.toNat_of_nonneg hm.1]
      rw [show posF plan (plan[i]'(by omega)) = (i : Int) from place_at h (by omega)]
      omega
theorem cnt_pos (h : IsPm plan n) {s : Nat} (hs : s < n) : cntN n (fun t => decide (posF plan s < posF plan t)) = n - 1 - (posF plan s).toNat := by
  have hp := pos_in h (v := (s : Int)) (by omega)
  rw [← cntN_gt n (posF plan s).toNat (by omega)]
  unfold cntN
  rw [← List.countP_eq_length_filter, ← List.countP_eq_length_filter]
  have z := (pos_perm h).countP_eq fun t => decide ((posF plan s).toNat < t)
  rw [List.countP_map] at z
  rw [← z]
  refine List.countP_congr fun t ht => ?_
  have := pos_in h (v := (t : Int)) (by have := List.mem_range.mp ht; omega)
  simp only [Function.comp, decide_eq_true_eq]
  omega
theorem idx_range {m s : Nat} (hs : s < m) : ((List.range m).map fun i : Nat => (i : Int)).idxOf (s : Int) = s := by
  have nd : ((List.range m).map fun i : Nat => (i : Int)).Nodup := by
    rw [List.Nodup, List.pairwise_map]
    exact List.nodup_range.imp fun h e => h (Int.ofNat.inj e)
  have hl : s < ((List.range m).map fun i : Nat => (i : Int)).length := by rw [List.length_map, List.length_range]; exact hs
  have e : ((List.range m).map fun i : Nat => (i : Int))[s] = (s : Int) := by simp
  have hm : (s : Int) ∈ (List.range m).map fun i : Nat => (i : Int) := List.mem_map.mpr ⟨s, List.mem_range.mpr hs, rfl⟩
  have hi := List.idxOf_lt_length_of_mem hm
  have e2 := List.getElem_idxOf hi
  exact (List.getElem_inj nd).mp (e2.trans e.symm)
/-- where the panes right of and below each are those that the plan tells, the law's plan of the layout is the plan -/
theorem planF_of {ps : List Pn} {E0 E1 : Int} (h : IsPm plan n) (hps : ps.length = n)
    (hr : ∀ s : Nat, s < n → ((behindsF ps 0 E0).getD s []).length = cntN n fun t => decide (s < t) && decide (posF plan s < posF plan t))
    (hu : ∀ s : Nat, s < n → ((behindsF ps 1 E1).getD s []).length = cntN n fun t => decide (s < t) && decide (posF plan t < posF plan s))
    (ho : ∀ s : Nat, s < n → overF (behindsF ps 1 E1) n s = cntN n fun o => decide (o < s) && decide (posF plan s < posF plan o)) :
    fallF ps E0 E1 = ((List.range n).map fun i : Nat => (i : Int)) ∧ riseF ps E0 E1 = plan ∧ planF ps E0 E1 = plan := by
  have dist : ∀ s t : Nat, s < n → t < n → s ≠ t → posF plan s ≠ posF plan t := fun s t hs ht hne e => hne (by have := pos_ne h (u := (s : Int)) (v := (t : Int)) (by omega) (by omega) e; omega)
  have hf : fallF ps E0 E1 = (List.range n).map fun i : Nat => (i : Int) := by
    unfold fallF
    have e : fallP (behindsF ps 0 E0) (behindsF ps 1 E1) ps.length ps.length = (List.range n).map fun s : Nat => ((s : Int) + 1, (s : Int)) := by
      unfold fallP
      rw [hps]
      refine List.map_congr_left fun s hs => ?_
      have hs := List.mem_range.mp hs
      rw [hr s hs, hu s hs]
      have z := cntN_add n (fun t => decide (s < t) && decide (posF plan s < posF plan t)) (fun t => decide (s < t) && decide (posF plan t < posF plan s)) (fun t => decide (s < t)) fun t ht => by
        by_cases c : s < t
        · have := dist s t hs ht (by omega)
          by_cases c2 : posF plan s < posF plan t
          · rw [decide_eq_true c, decide_eq_true c2, decide_eq_false (show ¬posF plan t < posF plan s by omega)]
            rfl
          · rw [decide_eq_true c, decide_eq_false c2, decide_eq_true (show posF plan t < posF plan s by omega)]
            rfl
        · simp [c]
      rw [cntN_gt n s hs] at z
      rw [Prod.mk.injEq]
      exact ⟨by omega, rfl⟩
    rw [e, isort_eq (List.Perm.refl _) (by
      rw [List.pairwise_map]
      exact List.pairwise_lt_range.imp fun h => by show _ < _; omega), List.map_map]
    rfl
  have hri : riseF ps E0 E1 = plan := by
    unfold riseF
    have e : riseP (behindsF ps 0 E0) (behindsF ps 1 E1) ps.length ps.length = ((List.range n).map fun i : Nat => (i : Int)).map fun v => (posF plan v + 1, v) := by
      unfold riseP
      rw [hps, List.map_map]
      refine List.map_congr_left fun s hs => ?_
      have hs := List.mem_range.mp hs
      rw [hr s hs, ho s hs]
      have z := cntN_add n (fun t => decide (s < t) && decide (posF plan s < posF plan t)) (fun o => decide (o < s) && decide (posF plan s < posF plan o)) (fun t => decide (posF plan s < posF plan t)) fun t ht => by
        by_cases c : s < t
        · simp [c, show ¬t < s by omega]
        · by_cases c2 : t < s
          · simp [c, c2]
          · have : s = t := by omega
            subst this
            simp
      rw [cnt_pos h hs] at z
      have hp := pos_in h (v := (s : Int)) (by omega)
      show (_, _) = (posF plan (s : Int) + 1, (s : Int))
      rw [Prod.mk.injEq]
      exact ⟨by omega, rfl⟩
    rw [e, isort_eq ((plan_perm h).symm.map fun v => (posF plan v + 1, v)) (by
      rw [List.pairwise_map, List.pairwise_iff_getElem]
      intro i j hi hj hij
      show posF plan plan[i] + 1 < posF plan plan[j] + 1
      rw [show posF plan plan[i] = (i : Int) from place_at h hi, show posF plan plan[j] = (j : Int) from place_at h hj]
      omega), List.map_map]
    exact List.map_id plan
  refine ⟨hf, hri, ?_⟩
  unfold planF
  rw [hri, hf]
  have : plan.map (fun s => ((((List.range n).map fun i : Nat => (i : Int)).idxOf s : Nat) : Int)) = plan.map id := List.map_congr_left fun v hv => by
    have hb := (h.mem v).mp hv
    have := idx_range (m := n) (s := v.toNat) (by omega)
    rw [show ((v.toNat : Nat) : Int) = v by omega] at this
    rw [this]
    show ((v.toNat : Nat) : Int) = v
    omega
  rw [this, List.map_id]
end
end GL
set_option Elab.async false
set_option linter.all false
set_option maxRecDepth 100000
set_option maxHeartbeats 2000000
/-! # theorem G: the panes behind each, by the steps -/
namespace GL
open PySem PySem.Spec PyProof.Rows L2 Geo Rel Bx
theorem mem_addKey {ks : List Int} {k x : Int} : x ∈ addKey ks k ↔ x ∈ ks ∨ x = k := by
  unfold addKey
  by_cases c : k ∈ ks
  · rw [if_pos c]
    exact ⟨.inl, fun h => h.elim id fun e => e ▸ c⟩
  · rw [if_neg c, List.mem_append, List.mem_singleton]
theorem mem_addAll {l ks : List Int} {x : Int} : x ∈ addAll ks l ↔ x ∈ ks ∨ x ∈ l := by
  unfold addAll
  induction l generalizing ks with
  | nil => simp
  | cons a l ih =>
    rw [List.foldl_cons, ih, mem_addKey, List.mem_cons]
    exact or_assoc
theorem set_at {acc : List (List Int)} {s u : Nat} {v : List Int} (hs : s < acc.length) : (acc.set s v).getD u [] = if u = s then v else acc.getD u [] := by
  rw [List.getD_eq_getElem?_getD, List.getD_eq_getElem?_getD]
  by_cases c : u = s
  · subst c
    rw [if_pos rfl, List.getElem?_set_self hs]
    rfl
  · rw [if_neg c, List.getElem?_set_ne (fun e => c e.symm)]
theorem later_fold (s : Nat) : ∀ (ts : List Int) (acc : List (List Int)), s < acc.length → (∀ t ∈ ts, t.toNat ≠ s) →
    (ts.foldl (bLater s) acc).length = acc.length ∧ (∀ u, u ≠ s → (ts.foldl (bLater s) acc).getD u [] = acc.getD u []) ∧ ∀ x, x ∈ (ts.foldl (bLater s) acc).getD s [] ↔ x ∈ acc.getD s [] ∨ ∃ t ∈ ts, x = t ∨ x ∈ acc.getD t.toNat []
  | [], acc, _, _ => ⟨rfl, fun _ _ => rfl, fun x => by simp⟩
  | t :: ts, acc, hs, hne => by
    have hb : bLater s acc t = acc.set s (addAll (addKey (acc.getD s []) t) (acc.getD t.toNat [])) := rfl
    have hl : (bLater s acc t).length = acc.length := by rw [hb, List.length_set]
    obtain ⟨h1, h2, h3⟩ := later_fold s ts (bLater s acc t) (by rw [hl]; exact hs) fun u hu => hne u (List.mem_cons_of_mem _ hu)
    rw [List.foldl_cons]
    refine ⟨h1.trans hl, fun u hu => ?_, fun x => ?_⟩
    · rw [h2 u hu, hb, set_at hs, if_neg hu]
    · rw [h3 x, hb, set_at hs, if_pos rfl, mem_addAll, mem_addKey]
      constructor
      · rintro (((h | h) | h) | ⟨u, hu, h | h⟩)
        · exact .inl h
        · exact .inr ⟨t, List.mem_cons_self, .inl h⟩
        · exact .inr ⟨t, List.mem_cons_self, .inr h⟩
        · exact .inr ⟨u, List.mem_cons_of_mem _ hu, .inl h⟩
        · rw [set_at hs, if_neg (hne u (List.mem_cons_of_mem _ hu))] at h
          exact .inr ⟨u, List.mem_cons_of_mem _ hu, .inr h⟩
      · rintro (h | ⟨u, hu, h⟩)
        · exact .inl (.inl (.inl h))
        · rcases List.mem_cons.mp hu with rfl | hu
          · rcases h with h | h
            · exact .inl (.inl (.inr h))
            · exact .inl (.inr h)
          · refine .inr ⟨u, hu, ?_⟩
            rcases h with h | h
            · exact .inl h
            · rw [set_at hs, if_neg (hne u (List.mem_cons_of_mem _ hu))]
              exact .inr h
/-- all done so far: what stands there is what the steps tell; the others are empty -/
theorem spots_fold (steps : List (List Int)) (n : Nat) : ∀ (Q P : List Nat) (acc : List (List Int)), acc.length = n → (P ++ Q).Nodup → (∀ s ∈ P ++ Q, s < n) →
    (∀ A s B, P ++ Q = A ++ s :: B → ∀ t ∈ steps.getD s [], t.toNat ∈ A) → (∀ s ∈ P, ∀ x, x ∈ acc.getD s [] ↔ ∃ t ∈ steps.getD s [], x = t ∨ x ∈ acc.getD t.toNat []) → (∀ s, s ∉ P → acc.getD s [] = []) →
    (Q.foldl (bSpot steps) acc).length = n ∧ ∀ s ∈ P ++ Q, ∀ x, x ∈ (Q.foldl (bSpot steps) acc).getD s [] ↔ ∃ t ∈ steps.getD s [], x = t ∨ x ∈ (Q.foldl (bSpot steps) acc).getD t.toNat []
  | [], P, acc, hl, _, _, _, h, _ => ⟨hl, fun s hs => h s (by simpa using hs)⟩
  | s :: Q, P, acc, hl, nd, hn, ho, h, he => by
    have hs : s < n := hn s (by simp)
    have hstep := ho P s Q rfl
    have hsP : s ∉ P := fun hm => (List.nodup_append.mp nd).2.2 s hm s List.mem_cons_self rfl
    obtain ⟨h1, h2, h3⟩ := later_fold s (steps.getD s []) acc (by omega) fun t ht e => hsP (e ▸ hstep t ht)
    have hb : bSpot steps acc s = (steps.getD s []).foldl (bLater s) acc := rfl
    have eq : P ++ s :: Q = (P ++ [s]) ++ Q := by simp
    rw [eq] at nd hn ho ⊢
    rw [List.foldl_cons, hb]
    refine spots_fold steps n Q (P ++ [s]) _ (h1.trans hl) nd hn ho (fun u hu x => ?_) fun u hu => ?_
    · rcases List.mem_append.mp hu with hu | hu
      · have us : u ≠ s := fun e => hsP (e ▸ hu)
        rw [h2 u us, h u hu x]
        constructor
        · rintro ⟨t, ht, hx⟩
          refine ⟨t, ht, ?_⟩
          obtain ⟨A, B, e⟩ := List.append_of_mem hu
          have hA := ho A u (B ++ [s] ++ Q) (by rw [e]; simp) t ht
          have ts : t.toNat ≠ s := fun e' => hsP (by rw [e, ← e']; exact List.mem_append_left _ hA)
          rw [h2 _ ts]
          exact hx
        · rintro ⟨t, ht, hx⟩
          refine ⟨t, ht, ?_⟩
          obtain ⟨A, B, e⟩ := List.append_of_mem hu
          have hA := ho A u (B ++ [s] ++ Q) (by rw [e]; simp) t ht
          have ts : t.toNat ≠ s := fun e' => hsP (by rw [e, ← e']; exact List.mem_append_left _ hA)
          rw [h2 _ ts] at hx
          exact hx
      · rw [List.mem_singleton.mp hu, h3 x, he s hsP]
        constructor
        · rintro (h0 | ⟨t, ht, hx⟩)
          · cases h0
          · have ts : t.toNat ≠ s := fun e' => hsP (e' ▸ hstep t ht)
            exact ⟨t, ht, by rw [h2 _ ts]; exact hx⟩
        · rintro ⟨t, ht, hx⟩
          have ts : t.toNat ≠ s := fun e' => hsP (e' ▸ hstep t ht)
          rw [h2 _ ts] at hx
          exact .inr ⟨t, ht, hx⟩
    · have us : u ≠ s := fun e => hu (by rw [e]; simp)
      rw [h2 u us]
      exact he u fun hm => hu (List.mem_append_left _ hm)
end GL
set_option Elab.async false
set_option linter.all false
set_option maxRecDepth 100000
set_option maxHeartbeats 2000000
/-! # theorem G: what behindsF is, of panes that have an extent -/
namespace GL
open PySem PySem.Spec PyProof.Rows L2 Geo Rel Bx
theorem mem_steps {ps : List Pn} {ax E : Int} {s : Nat} {t : Int} (h : t ∈ (stepsF ps ax E).getD s []) : ∃ (p : Pn) (j : Nat) (q : Pn), ps[s]? = some p ∧ t = (j : Int) ∧ ps[j]? = some q ∧ cm q ax = cm p (ax + 2) := by
  unfold stepsF at h
  rw [List.getD_eq_getElem?_getD, List.getElem?_map] at h
  cases e : ps[s]? with
  | none =>
    rw [e] at h
    cases h
  | some p =>
    rw [e] at h
    obtain ⟨j, q, h1, h2, h3⟩ := mem_later h
    exact ⟨p, j, q, rfl, h1, h2, h3⟩
theorem order_perm (ps : List Pn) (ax : Int) : ((orderF ps ax).map fun z => z.2.toNat).Perm (List.range ps.length) := by
  unfold orderF
  refine ((isort_perm p2 _).map _).trans ?_
  rw [List.map_map]
  have e : (enumL ps).map ((fun z : Int × Int => z.2.toNat) ∘ fun u : Nat × Pn => (0 - cm u.2 ax, (u.1 : Int))) = (enumL ps).map fun u => u.1 := List.map_congr_left fun u _ => by
    show ((u.1 : Int)).toNat = u.1
    omega
  rw [e]
  unfold enumL
  rw [List.map_map]
  have : ps.zipIdx.map ((fun u : Nat × Pn => u.1) ∘ fun u : Pn × Nat => (u.2, u.1)) = List.range ps.length := by
    refine List.ext_getElem? fun i => ?_
    rw [List.getElem?_map, List.getElem?_zipIdx]
    by_cases c : i < ps.length
    · rw [List.getElem?_eq_getElem c, List.getElem?_range c]
      simp
    · rw [List.getElem?_eq_none (by omega), List.getElem?_eq_none (by simp; omega)]
      rfl
  rw [this]
theorem behinds_rec {ps : List Pn} {ax E : Int} (hp : ∀ p ∈ ps, cm p ax < cm p (ax + 2)) : (behindsF ps ax E).length = ps.length ∧ ∀ s, s < ps.length → ∀ x, x ∈ (behindsF ps ax E).getD s [] ↔ ∃ t ∈ (stepsF ps ax E).getD s [], x = t ∨ x ∈ (behindsF ps ax E).getD t.toNat [] := by
  have perm := order_perm ps ax
  have hfold : behindsF ps ax E = ((orderF ps ax).map fun z => z.2.toNat).foldl (bSpot (stepsF ps ax E)) (ps.map fun _ => []) := by
    unfold behindsF
    rw [List.foldl_map]
  have srt : (orderF ps ax).Pairwise fun a b => LeP a b := (isort_srt p2 _).imp fun h => lex_p2.mp h
  have z := spots_fold (stepsF ps ax E) ps.length ((orderF ps ax).map fun z => z.2.toNat) [] (ps.map fun _ => []) (by rw [List.length_map]) (by
      rw [List.nil_append]
      exact perm.nodup_iff.mpr List.nodup_range) (fun s hs => List.mem_range.mp (perm.mem_iff.mp (by simpa using hs))) (fun A s B e t ht => ?_) (fun s hs => by cases hs) fun s _ => by
        rw [List.getD_eq_getElem?_getD, List.getElem?_map]
        cases ps[s]? <;> rfl
  · rw [← hfold] at z
    exact ⟨z.1, fun s hs x => z.2 s (by rw [List.nil_append]; exact perm.mem_iff.mpr (List.mem_range.mpr hs)) x⟩
  · rw [List.nil_append] at e
    obtain ⟨p, j, q, h1, rfl, h3, h4⟩ := mem_steps ht
    have hj : j < ps.length := (List.getElem?_eq_some_iff.mp h3).1
    obtain ⟨A', w, B', e1, e2, e3⟩ : ∃ A' w B', orderF ps ax = A' ++ w :: B' ∧ A'.map (fun z => z.2.toNat) = A ∧ w.2.toNat = s := by
      obtain ⟨A', R', e1, e2, e3⟩ := List.map_eq_append_iff.mp e
      obtain ⟨w, B', e4, e5, e6⟩ := List.map_eq_cons_iff.mp e3
      exact ⟨A', w, B', by rw [e1, e4], e2, e5⟩
    have hm : j ∈ (orderF ps ax).map fun z => z.2.toNat := perm.mem_iff.mpr (List.mem_range.mpr hj)
    obtain ⟨v, hv, hvj⟩ := List.mem_map.mp hm
    rw [Int.toNat_natCast, ← e2]
    refine List.mem_map.mpr ⟨v, ?_, hvj⟩
    have key : ∀ u ∈ orderF ps ax, ∀ r, ps[u.2.toNat]? = some r → u.1 = 0 - cm r ax := fun u hu r hr => by
      obtain ⟨s', p', h5, h6, h7⟩ := order_mem hu
      rw [h5, Int.toNat_natCast, h6] at hr
      cases hr
      exact h7
    have hvk := key v hv q (by rw [hvj]; exact h3)
    have hw : w ∈ orderF ps ax := by rw [e1]; simp
    have hwk := key w hw p (by rw [e3]; exact h1)
    have hpp := hp p (List.mem_of_getElem? h1)
    have hlt : v.1 < w.1 := by omega
    rw [e1] at hv srt
    rcases List.mem_append.mp hv with hv | hv
    · exact hv
    · rcases List.mem_cons.mp hv with rfl | hv
      · omega
      · have := (List.pairwise_cons.mp (List.pairwise_append.mp srt).2.1).1 v hv
        unfold LeP at this
        omega
end GL
set_option linter.all false
set_option maxHeartbeats 2000000
/-! # theorem G: a layout that grew, by the indexes of its panes -/
namespace TG
open Geo
structure GS (n : Nat) (f : Nat → Pn) (W H : Int) (q : Nat → Int) : Prop where
  n0 : 0 < n
  w : 0 < W
  h : 0 < H
  box : ∀ i, i < n → 0 ≤ (f i).x0 ∧ (f i).x0 < (f i).x1 ∧ (f i).x1 ≤ W ∧ 0 ≤ (f i).y0 ∧ (f i).y0 < (f i).y1 ∧ (f i).y1 ≤ H
  sx : ∀ c, 0 < c → c < W → ∃ B E, B < E ∧ (∀ i, i < n → (f i).x0 = c ∨ (f i).x1 = c → B ≤ (f i).y0 ∧ (f i).y1 ≤ E) ∧ ∀ y, B ≤ y → y < E → ∃ i, i < n ∧ (f i).x0 = c ∧ (f i).y0 ≤ y ∧ y < (f i).y1
  sy : ∀ c, 0 < c → c < H → ∃ B E, B < E ∧ (∀ i, i < n → (f i).y0 = c ∨ (f i).y1 = c → B ≤ (f i).x0 ∧ (f i).x1 ≤ E) ∧ ∀ x, B ≤ x → x < E → ∃ i, i < n ∧ (f i).y0 = c ∧ (f i).x0 ≤ x ∧ x < (f i).x1
  inj : ∀ i j, i < n → j < n → q i = q j → i = j
  rx : ∀ s x, s < n → x < n → ((s < x ∧ q s < q x) ↔ ∃ t, t < n ∧ (f t).x0 = (f s).x1 ∧ (x = t ∨ (t < x ∧ q t < q x)))
  ry : ∀ s x, s < n → x < n → ((s < x ∧ q x < q s) ↔ ∃ t, t < n ∧ (f t).y0 = (f s).y1 ∧ (x = t ∨ (t < x ∧ q x < q t)))
section
variable {n : Nat} {f : Nat → Pn} {W H : Int} {q : Nat → Int}
theorem GS.swap (g : GS n f W H q) : GS n (fun i => (f i).swap) H W (fun i => -q i) where
  n0 := g.n0
  w := g.h
  h := g.w
  box := fun i hi => by
    obtain ⟨a, b, c, d, e, k⟩ := g.box i hi
    exact ⟨d, e, k, a, b, c⟩
  sx := g.sy
  sy := g.sx
  inj := fun i j hi hj e => g.inj i j hi hj (by have e : -q i = -q j := e; omega)
  rx := fun s x hs hx => by
    have z := g.ry s x hs hx
    constructor
    · rintro ⟨h1, h2⟩
      have h2 : -q s < -q x := h2
      obtain ⟨t, ht, e, hh⟩ := z.mp ⟨h1, by omega⟩
      refine ⟨t, ht, e, hh.imp id fun hh => ⟨hh.1, ?_⟩⟩
      show -q t < -q x
      omega
    · rintro ⟨t, ht, e, hh⟩
      obtain ⟨h1, h2⟩ := z.mpr ⟨t, ht, e, hh.imp id fun hh => ⟨hh.1, by have h3 : -q t < -q x := hh.2; omega⟩⟩
      refine ⟨h1, ?_⟩
      show -q s < -q x
      omega
  ry := fun s x hs hx => by
    have z := g.rx s x hs hx
    constructor
    · rintro ⟨h1, h2⟩
      have h2 : -q x < -q s := h2
      obtain ⟨t, ht, e, hh⟩ := z.mp ⟨h1, by omega⟩
      refine ⟨t, ht, e, hh.imp id fun hh => ⟨hh.1, ?_⟩⟩
      show -q x < -q t
      omega
    · rintro ⟨t, ht, e, hh⟩
      obtain ⟨h1, h2⟩ := z.mpr ⟨t, ht, e, hh.imp id fun hh => ⟨hh.1, by have h3 : -q x < -q t := hh.2; omega⟩⟩
      refine ⟨h1, ?_⟩
      show -q x < -q s
      omega
/-- nothing is right of a pane at the right border -/
theorem GS.end_x (g : GS n f W H q) {s x : Nat} (hs : s < n) (hx : x < n) (e : (f s).x1 = W) : ¬(s < x ∧ q s < q x) := fun h => by
  obtain ⟨t, ht, e2, _⟩ := (g.rx s x hs hx).mp h
  have := g.box t ht
  omega
theorem GS.end_y (g : GS n f W H q) {s x : Nat} (hs : s < n) (hx : x < n) (e : (f s).y1 = H) : ¬(s < x ∧ q x < q s) := fun h => by
  obtain ⟨t, ht, e2, _⟩ := (g.ry s x hs hx).mp h
  have := g.box t ht
  omega
/-- those below are below -/
theorem GS.under (g : GS n f W H q) {x : Nat} (hx : x < n) : ∀ (m s : Nat), x - s ≤ m → s < n → s < x → q x < q s → (f s).y1 ≤ (f x).y0
  | 0, s, hm, hs, h1, h2 => by omega
  | m + 1, s, hm, hs, h1, h2 => by
    obtain ⟨t, ht, e, hh⟩ := (g.ry s x hs hx).mp ⟨h1, h2⟩
    have st := ((g.ry s t hs ht).mpr ⟨t, ht, e, .inl rfl⟩).1
    rcases hh with rfl | ⟨h3, h4⟩
    · omega
    · have := g.under hx m t (by omega) ht h3 h4
      have := g.box t ht
      omega
/-- the panes at the right border stand one below the other -/
theorem GS.col (g : GS n f W H q) {i j : Nat} (hi : i < n) (hj : j < n) (hij : i < j) (e1 : (f i).x1 = W) : (f i).y1 ≤ (f j).y0 := by
  have h1 := g.end_x hi hj e1
  have h2 : q i ≠ q j := fun e => by have := g.inj i j hi hj e; omega
  exact g.under hj _ i (Nat.le_refl _) hi hij (by omega)
theorem GS.row (g : GS n f W H q) {i j : Nat} (hi : i < n) (hj : j < n) (hij : i < j) (e1 : (f i).y1 = H) : (f i).x1 ≤ (f j).x0 := g.swap.col hi hj hij e1
/-- what is right of a pane that does not end at the border -/
theorem GS.next (g : GS n f W H q) {s : Nat} (hs : s < n) (e : (f s).x1 < W) : ∃ t, t < n ∧ (f t).x0 = (f s).x1 ∧ s < t ∧ q s < q t := by
  have b := g.box s hs
  obtain ⟨B, E, h1, _, h3⟩ := g.sx (f s).x1 (by omega) e
  obtain ⟨t, ht, e2, _⟩ := h3 B (by omega) h1
  exact ⟨t, ht, e2, (g.rx s t hs ht).mpr ⟨t, ht, e2, .inl rfl⟩⟩
theorem GS.wide (g : GS n f W H q) {c B E : Int} (h1 : B < E) (h3 : ∀ x, B ≤ x → x < E → ∃ i, i < n ∧ (f i).y0 = c ∧ (f i).x0 ≤ x ∧ x < (f i).x1) : E ≤ W := by
  obtain ⟨t, ht, _, _, h⟩ := h3 (E - 1) (by omega) (by omega)
  have := g.box t ht
  omega
/-- a pane more at the right -/
theorem GS.push (g : GS n f W H q) {r : Nat} {f' : Nat → Pn} {q' : Nat → Int} (hr : r < n) (er : (f r).x1 = W)
    (hf : ∀ i, i < n → f' i = if (f i).x1 = W ∧ i < r then { f i with x1 := W + 1 } else f i) (hn : f' n = ⟨W, (f r).y0, W + 1, H⟩)
    (hq : ∀ i j, i < n → j < n → (q' i < q' j ↔ q i < q j)) (hq1 : ∀ i, i < n → (q' i < q' n ↔ q i ≤ q r)) (hq2 : ∀ i, i < n → (q' n < q' i ↔ q r < q i)) : GS (n + 1) f' (W + 1) H q' := by
  have y0' : ∀ i, i < n → (f' i).y0 = (f i).y0 ∧ (f' i).y1 = (f i).y1 ∧ (f' i).x0 = (f i).x0 := fun i hi => by
    rw [hf i hi]
    split <;> exact ⟨rfl, rfl, rfl⟩
  have x1' : ∀ i, i < n → ((f' i).x1 = W + 1 ∧ (f i).x1 = W ∧ i < r) ∨ ((f' i).x1 = (f i).x1 ∧ ¬((f i).x1 = W ∧ i < r)) := fun i hi => by
    rw [hf i hi]
    split
    · exact .inl ⟨rfl, by assumption⟩
    · exact .inr ⟨rfl, by assumption⟩
  have n0 : (f' n).x0 = W ∧ (f' n).x1 = W + 1 ∧ (f' n).y0 = (f r).y0 ∧ (f' n).y1 = H := by
    rw [hn]
    exact ⟨rfl, rfl, rfl, rfl⟩
  have br := g.box r hr
  have hh := g.h
  have hw := g.w
  have lt : ∀ i, i < n + 1 → i < n ∨ i = n := fun i hi => by omega
  have dis : ∀ i j, i < n → j < n → i ≠ j → q i ≠ q j := fun i j hi hj hne e => hne (g.inj i j hi hj e)
  refine ⟨by omega, by omega, hh, fun i hi => ?_, fun c c0 cW => ?_, fun c c0 cH => ?_, fun i j hi hj e => ?_, fun s x hs hx => ?_, fun s x hs hx => ?_⟩
  · rcases lt i hi with hi | rfl
    · have b := g.box i hi
      have := y0' i hi
      have := x1' i hi
      omega
    · omega
  · -- upright
    by_cases cc : c = W
    · subst cc
      refine ⟨(f r).y0, H, by omega, fun i hi hs => ?_, fun y h1 h2 => ⟨n, by omega, n0.1, by omega, by omega⟩⟩
      rcases lt i hi with hi | rfl
      · have b := g.box i hi
        have e1 := y0' i hi
        have e2 := x1' i hi
        have z : (f i).x1 = c ∧ ¬ i < r := by omega
        by_cases c2 : i = r
        · subst c2
          omega
        · have := g.col hr hi (by omega) er
          omega
      · omega
    · obtain ⟨B, E, h1, h2, h3⟩ := g.sx c c0 (by omega)
      refine ⟨B, E, h1, fun i hi hs => ?_, fun y k1 k2 => ?_⟩
      · rcases lt i hi with hi | rfl
        · have b := g.box i hi
          have e1 := y0' i hi
          have e2 := x1' i hi
          have := h2 i hi (by omega)
          omega
        · omega
      · obtain ⟨i, hi, e, k3, k4⟩ := h3 y k1 k2
        have e1 := y0' i hi
        exact ⟨i, by omega, by omega, by omega, by omega⟩
  · -- level
    obtain ⟨B, E, h1, h2, h3⟩ := g.sy c c0 cH
    have hE := g.wide h1 h3
    by_cases ex : ∃ i, i < n + 1 ∧ ((f' i).y0 = c ∨ (f' i).y1 = c) ∧ (f' i).x1 = W + 1
    · have hEW : E = W ∧ B < W := by
        obtain ⟨i, hi, k1, k2⟩ := ex
        rcases lt i hi with hi | rfl
        · have b := g.box i hi
          have e1 := y0' i hi
          have e2 := x1' i hi
          have := h2 i hi (by omega)
          omega
        · have := h2 r hr (by omega)
          omega
      refine ⟨B, W + 1, by omega, fun i hi hs => ?_, fun z k1 k2 => ?_⟩
      · rcases lt i hi with hi | rfl
        · have e1 := y0' i hi
          have e2 := x1' i hi
          have := h2 i hi (by omega)
          omega
        · have := h2 r hr (by omega)
          omega
      · by_cases zE : z < E
        · obtain ⟨i, hi, e, k3, k4⟩ := h3 z k1 zE
          have e1 := y0' i hi
          have e2 := x1' i hi
          exact ⟨i, by omega, by omega, by omega, by omega⟩
        · have zW : z = W := by omega
          subst zW
          obtain ⟨i, hi, k3, k4⟩ := ex
          rcases lt i hi with hi | rfl
          · have b := g.box i hi
            have e1 := y0' i hi
            have e2 := x1' i hi
            have b2 := h2 i hi (by omega)
            rcases k3 with k3 | k3
            · exact ⟨i, by omega, k3, by omega, by omega⟩
            · obtain ⟨b, hb, e, k5, k6⟩ := h3 (z - 1) (by omega) (by omega)
              have bb := g.box b hb
              have e3 := y0' b hb
              have e4 := x1' b hb
              have ex1 : (f b).x1 = z := by omega
              by_cases cb : b < r
              · exact ⟨b, by omega, by omega, by omega, by omega⟩
              · have o1 := g.col hi hr (by omega) (by omega)
                have o2 : (f r).y0 ≤ (f b).y0 := by
                  by_cases c2 : b = r
                  · rw [c2]
                    omega
                  · have := g.col hr hb (by omega) er
                    omega
                exact ⟨n, by omega, by omega, by omega, by omega⟩
          · exact ⟨i, by omega, by omega, by omega, by omega⟩
    · refine ⟨B, E, h1, fun i hi hs => ?_, fun z k1 k2 => ?_⟩
      · rcases lt i hi with hi' | rfl
        · have e1 := y0' i hi'
          have e2 := x1' i hi'
          have := h2 i hi' (by omega)
          have : ¬(f' i).x1 = W + 1 := fun e => ex ⟨i, hi, hs, e⟩
          omega
        · exact absurd ⟨i, hi, hs, n0.2.1⟩ ex
      · obtain ⟨i, hi, e, k3, k4⟩ := h3 z k1 k2
        have e1 := y0' i hi
        have e2 := x1' i hi
        exact ⟨i, by omega, by omega, by omega, by omega⟩
  · rcases lt i hi with hi | rfl <;> rcases lt j hj with hj | rfl
    · refine g.inj i j hi hj ?_
      have := hq i j hi hj
      have := hq j i hj hi
      omega
    · have := hq1 i hi
      have := hq2 i hi
      omega
    · have := hq1 j hj
      have := hq2 j hj
      omega
    · rfl
  · -- right of
    rcases lt s hs with hs | rfl
    · rcases lt x hx with hx | rfl
      · have z := g.rx s x hs hx
        rw [hq s x hs hx, z]
        constructor
        · rintro ⟨t, ht, e, hh⟩
          have bt := g.box t ht
          have e1 := y0' t ht
          have e2 := x1' s hs
          refine ⟨t, by omega, by omega, hh.imp id fun k => ⟨k.1, (hq t x ht hx).mpr k.2⟩⟩
        · rintro ⟨t, ht, e, hh⟩
          rcases lt t ht with ht | rfl
          · have bt := g.box t ht
            have e1 := y0' t ht
            have e2 := x1' s hs
            exact ⟨t, ht, by omega, hh.imp id fun k => ⟨k.1, (hq t x ht hx).mp k.2⟩⟩
          · omega
      · have bs := g.box s hs
        have e2 := x1' s hs
        constructor
        · rintro ⟨_, h1⟩
          have h1 := (hq1 s hs).mp h1
          by_cases c : (f s).x1 = W
          · have : ¬ s < r := fun hlt => g.end_x hs hr c ⟨hlt, by have := dis s r hs hr (by omega); omega⟩
            exact ⟨x, by omega, by omega, .inl rfl⟩
          · by_cases c2 : s < r
            · obtain ⟨t, ht, e, hh⟩ := (g.rx s r hs hr).mp ⟨c2, by have := dis s r hs hr (by omega); omega⟩
              have e1 := y0' t ht
              refine ⟨t, by omega, by omega, .inr ⟨ht, (hq1 t ht).mpr ?_⟩⟩
              rcases hh with rfl | hh
              · exact Int.le_refl _
              · omega
            · obtain ⟨t, ht, e, k1, k2⟩ := g.next hs (by omega)
              have e1 := y0' t ht
              refine ⟨t, by omega, by omega, .inr ⟨ht, (hq1 t ht).mpr ?_⟩⟩
              have := g.end_x hr ht er
              omega
        · rintro ⟨t, ht, e, hh⟩
          refine ⟨hs, (hq1 s hs).mpr ?_⟩
          rcases lt t ht with ht | rfl
          · have e1 := y0' t ht
            have bt := g.box t ht
            have z := (g.rx s t hs ht).mpr ⟨t, ht, by omega, .inl rfl⟩
            have : q' t < q' x := hh.elim (fun e => by omega) fun k => k.2
            have := (hq1 t ht).mp this
            omega
          · by_cases c : s = r
            · subst c
              omega
            · have := g.end_x hr hs er
              omega
    · constructor
      · rintro ⟨h1, _⟩
        omega
      · rintro ⟨t, ht, e, hh⟩
        rcases lt t ht with ht | rfl
        · have e1 := y0' t ht
          have bt := g.box t ht
          omega
        · omega
  · -- below
    rcases lt s hs with hs | rfl
    · rcases lt x hx with hx | rfl
      · have z := g.ry s x hs hx
        rw [hq x s hx hs, z]
        constructor
        · rintro ⟨t, ht, e, hh⟩
          have e1 := y0' t ht
          have e2 := y0' s hs
          refine ⟨t, by omega, by omega, hh.imp id fun k => ⟨k.1, (hq x t hx ht).mpr k.2⟩⟩
        · rintro ⟨t, ht, e, hh⟩
          rcases lt t ht with ht | rfl
          · have e1 := y0' t ht
            have e2 := y0' s hs
            exact ⟨t, ht, by omega, hh.imp id fun k => ⟨k.1, (hq x t hx ht).mp k.2⟩⟩
          · omega
      · have e2 := y0' s hs
        constructor
        · rintro ⟨_, h1⟩
          have h1 := (hq2 s hs).mp h1
          have := g.end_x hr hs er
          have hsr : s < r := by
            by_cases c : s = r
            · subst c
              omega
            · omega
          obtain ⟨t, ht, e, hh⟩ := (g.ry s r hs hr).mp ⟨hsr, h1⟩
          rcases hh with rfl | ⟨k1, k2⟩
          · exact ⟨x, by omega, by omega, .inl rfl⟩
          · have e1 := y0' t ht
            exact ⟨t, by omega, by omega, .inr ⟨ht, (hq2 t ht).mpr k2⟩⟩
        · rintro ⟨t, ht, e, hh⟩
          refine ⟨hs, (hq2 s hs).mpr ?_⟩
          rcases lt t ht with ht | rfl
          · have e1 := y0' t ht
            have z := (g.ry s t hs ht).mpr ⟨t, ht, by omega, .inl rfl⟩
            have : q' x < q' t := hh.elim (fun e => by omega) fun k => k.2
            have := (hq2 t ht).mp this
            omega
          · exact ((g.ry s r hs hr).mpr ⟨r, hr, by omega, .inl rfl⟩).2
    · constructor
      · rintro ⟨h1, _⟩
        omega
      · rintro ⟨t, ht, e, hh⟩
        rcases lt t ht with ht | rfl
        · have e1 := y0' t ht
          have bt := g.box t ht
          omega
        · omega
end
theorem gs_one {q : Nat → Int} : GS 1 (fun _ => ⟨0, 0, 1, 1⟩) 1 1 q where
  n0 := by omega
  w := by omega
  h := by omega
  box := fun i _ => by simp
  sx := fun c _ _ => by omega
  sy := fun c _ _ => by omega
  inj := fun i j _ _ _ => by omega
  rx := fun s x hs hx => ⟨fun h => by omega, fun ⟨t, ht, e, _⟩ => by simp at e⟩
  ry := fun s x hs hx => ⟨fun h => by omega, fun ⟨t, ht, e, _⟩ => by simp at e⟩
/-- a pane more below -/
theorem GS.pushd {n : Nat} {f : Nat → Pn} {W H : Int} {q : Nat → Int} (g : GS n f W H q) {r : Nat} {f' : Nat → Pn} {q' : Nat → Int} (hr : r < n) (er : (f r).y1 = H)
    (hf : ∀ i, i < n → f' i = if (f i).y1 = H ∧ i < r then { f i with y1 := H + 1 } else f i) (hn : f' n = ⟨(f r).x0, H, W, H + 1⟩)
    (hq : ∀ i j, i < n → j < n → (q' i < q' j ↔ q i < q j)) (hq1 : ∀ i, i < n → (q' n < q' i ↔ q r ≤ q i)) (hq2 : ∀ i, i < n → (q' i < q' n ↔ q i < q r)) : GS (n + 1) f' W (H + 1) q' := by
  have z := GS.push g.swap (r := r) (f' := fun i => (f' i).swap) (q' := fun i => -q' i) hr er (fun i hi => ?_) (by rw [hn]; rfl) (fun i j hi hj => ?_) (fun i hi => ?_) (fun i hi => ?_)
  · have z2 := z.swap
    have e1 : (fun i => ((f' i).swap).swap) = f' := rfl
    have e2 : (fun i => - -q' i) = q' := funext fun i => Int.neg_neg _
    rw [show (fun i => ((fun i => (f' i).swap) i).swap) = f' from rfl, show (fun i => -(fun i => -q' i) i) = q' from funext fun i => Int.neg_neg _] at z2
    exact z2
  · show (f' i).swap = _
    rw [hf i hi]
    by_cases c : (f i).y1 = H ∧ i < r
    · rw [if_pos c]
      exact (if_pos (show (f i).swap.x1 = H ∧ i < r from c)).symm
    · rw [if_neg c]
      exact (if_neg (show ¬((f i).swap.x1 = H ∧ i < r) from c)).symm
  · have := hq j i hj hi
    show -q' i < -q' j ↔ -q i < -q j
    omega
  · have := hq1 i hi
    show -q' i < -q' n ↔ -q i ≤ -q r
    omega
  · have := hq2 i hi
    show -q' n < -q' i ↔ -q r < -q i
    omega
end TG
set_option Elab.async false
set_option linter.all false
set_option maxRecDepth 100000
set_option maxHeartbeats 2000000
/-! # theorem G: the segment at a place, where there is one -/
namespace GL
open PySem PySem.Spec PyProof.Rows L2 Geo Rel Bx
def LeT (x y : Tr) : Prop := x.1 < y.1 ∨ (x.1 = y.1 ∧ x.2.1 ≤ y.2.1)
theorem lex_t3 {x y : Tr} (h : HT.lexLt (t3 y) (t3 x) = false) : LeT x y := by
  unfold t3 at h
  unfold LeT
  rw [HT.lexLt_cons] at h
  by_cases c : y.1 = x.1
  · rw [if_pos c, HT.lexLt_cons] at h
    by_cases d : y.2.1 = x.2.1
    · omega
    · rw [if_neg d] at h
      have := of_decide_eq_false h
      omega
  · rw [if_neg c] at h
    have := of_decide_eq_false h
    omega
theorem split3 (c : Int) : ∀ {so : List Tr}, so.Pairwise LeT → ∃ L1 Lc L2, so = L1 ++ (Lc ++ L2) ∧ (∀ l ∈ L1, l.1 < c) ∧ (∀ l ∈ Lc, l.1 = c) ∧ ∀ l ∈ L2, c < l.1
  | [], _ => ⟨[], [], [], rfl, by simp, by simp, by simp⟩
  | a :: so, h => by
    obtain ⟨h1, h2⟩ := List.pairwise_cons.mp h
    obtain ⟨L1, Lc, L2, rfl, k1, k2, k3⟩ := split3 c h2
    have le : ∀ l ∈ L1 ++ (Lc ++ L2), a.1 ≤ l.1 := fun l hl => by
      have := h1 l hl
      unfold LeT at this
      omega
    by_cases c1 : a.1 < c
    · refine ⟨a :: L1, Lc, L2, rfl, fun l hl => ?_, k2, k3⟩
      rcases List.mem_cons.mp hl with rfl | hl
      · exact c1
      · exact k1 l hl
    · have e1 : L1 = [] := List.eq_nil_iff_forall_not_mem.mpr fun l hl => by
        have := k1 l hl
        have := le l (List.mem_append_left _ hl)
        omega
      subst e1
      by_cases c2 : a.1 = c
      · refine ⟨[], a :: Lc, L2, rfl, k1, fun l hl => ?_, k3⟩
        rcases List.mem_cons.mp hl with rfl | hl
        · exact c2
        · exact k2 l hl
      · have e2 : Lc = [] := List.eq_nil_iff_forall_not_mem.mpr fun l hl => by
          have := k2 l hl
          have := le l (List.mem_append_right _ (List.mem_append_left _ hl))
          omega
        subst e2
        refine ⟨[], [], a :: L2, rfl, k1, k2, fun l hl => ?_⟩
        rcases List.mem_cons.mp hl with rfl | hl
        · omega
        · exact k3 l hl
theorem mstep_app {acc : List Tr} {r : Tr} (h : ∀ l ∈ acc, l.1 ≠ r.1) : mstep acc r = acc ++ [r] := by
  unfold mstep
  cases e : acc.getLast? with
  | none => rfl
  | some q =>
    have := h q (List.mem_of_getLast? e)
    show (if q.1 = r.1 ∧ _ then _ else _) = _
    rw [if_neg fun h => this h.1]
theorem mstep_snoc {A : List Tr} {q r : Tr} : mstep (A ++ [q]) r = if q.1 = r.1 ∧ r.2.1 ≤ q.2.2 then A ++ [(r.1, q.2.1, if q.2.2 > r.2.2 then q.2.2 else r.2.2)] else A ++ [q] ++ [r] := by
  unfold mstep
  rw [List.getLast?_concat]
  show (if _ then (A ++ [q]).dropLast ++ _ else _) = _
  rw [List.dropLast_concat]
theorem mstep_mem {acc : List Tr} {r l : Tr} (h : l ∈ mstep acc r) : l ∈ acc ∨ l.1 = r.1 := by
  unfold mstep at h
  split at h
  · split at h
    · rcases List.mem_append.mp h with h | h
      · exact .inl ((List.dropLast_sublist _).subset h)
      · rw [List.mem_singleton.mp h]
        exact .inr rfl
    · rcases List.mem_append.mp h with h | h
      · exact .inl h
      · rw [List.mem_singleton.mp h]
        exact .inr rfl
  · rcases List.mem_append.mp h with h | h
    · exact .inl h
    · rw [List.mem_singleton.mp h]
      exact .inr rfl
theorem fold_lt {c : Int} : ∀ (rs acc : List Tr), (∀ r ∈ rs, r.1 < c) → (∀ l ∈ acc, l.1 < c) → ∀ l ∈ rs.foldl mstep acc, l.1 < c
  | [], acc, _, h => h
  | r :: rs, acc, h1, h2 => fold_lt rs (mstep acc r) (fun x hx => h1 x (List.mem_cons_of_mem _ hx)) fun l hl => by
    rcases mstep_mem hl with h | h
    · exact h2 l h
    · have := h1 r List.mem_cons_self
      omega
theorem fold_gt {c : Int} {A : List Tr} {x : Tr} (hx : x.1 = c) : ∀ (rs C : List Tr), (∀ r ∈ rs, c < r.1) → (∀ l ∈ C, c < l.1) → ∃ C', rs.foldl mstep (A ++ x :: C) = A ++ x :: C' ∧ ∀ l ∈ C', c < l.1
  | [], C, _, h => ⟨C, rfl, h⟩
  | r :: rs, C, h1, h2 => by
    have hr := h1 r List.mem_cons_self
    have h1' : ∀ r ∈ rs, c < r.1 := fun x hx => h1 x (List.mem_cons_of_mem _ hx)
    obtain ⟨C1, e, h3⟩ : ∃ C1, mstep (A ++ x :: C) r = A ++ x :: C1 ∧ ∀ l ∈ C1, c < l.1 := by
      rcases List.eq_nil_or_concat C with rfl | ⟨C0, q, rfl⟩
      · rw [mstep_snoc, if_neg (by omega)]
        exact ⟨[r], by simp, fun l hl => by rw [List.mem_singleton.mp hl]; exact hr⟩
      · rw [show A ++ x :: (C0.concat q) = (A ++ x :: C0) ++ [q] by simp, mstep_snoc]
        have hC0 : ∀ l ∈ C0, c < l.1 := fun l hl => h2 l (by simp [hl])
        have hq : c < q.1 := h2 q (by simp)
        split
        · exact ⟨C0 ++ [(r.1, q.2.1, if q.2.2 > r.2.2 then q.2.2 else r.2.2)], by simp, fun l hl => by
            rcases List.mem_append.mp hl with hl | hl
            · exact hC0 l hl
            · rw [List.mem_singleton.mp hl]
              exact hr⟩
        · exact ⟨C0 ++ [q] ++ [r], by simp, fun l hl => by
            rcases List.mem_append.mp hl with hl | hl
            · rcases List.mem_append.mp hl with hl | hl
              · exact hC0 l hl
              · rw [List.mem_singleton.mp hl]
                exact hq
            · rw [List.mem_singleton.mp hl]
              exact hr⟩
    rw [List.foldl_cons, e]
    exact fold_gt hx rs C1 h1' h3
theorem fold_eq {c B E : Int} {A : List Tr} : ∀ (rs : List Tr) (M : Int), (∀ r ∈ rs, r.1 = c ∧ r.2.1 < r.2.2 ∧ r.2.2 ≤ E) → M ≤ E → B < M → rs.Pairwise (fun a b => a.2.1 ≤ b.2.1) →
    (∀ y, B ≤ y → y < E → y < M ∨ ∃ r ∈ rs, r.2.1 ≤ y ∧ y < r.2.2) → rs.foldl mstep (A ++ [(c, B, M)]) = A ++ [(c, B, E)]
  | [], M, _, hM, hB, _, hc => by
    have : M = E := by
      by_cases k : M < E
      · rcases hc M (by omega) k with h | ⟨r, h, _⟩
        · omega
        · cases h
      · omega
    subst this
    rfl
  | r :: rs, M, h, hM, hB, hs, hc => by
    obtain ⟨h1, h2, h3⟩ := h r List.mem_cons_self
    obtain ⟨s1, s2⟩ := List.pairwise_cons.mp hs
    have hle : r.2.1 ≤ M := Classical.byContradiction fun k => by
      rcases hc M (by omega) (by omega) with h | ⟨x, hx, k1, k2⟩
      · omega
      · rcases List.mem_cons.mp hx with rfl | hx
        · omega
        · have := s1 x hx
          omega
    rw [List.foldl_cons, mstep_snoc, if_pos ⟨h1.symm, hle⟩, h1]
    refine fold_eq rs _ (fun x hx => h x (List.mem_cons_of_mem _ hx)) ?_ ?_ s2 fun y y1 y2 => ?_
    · show (if M > r.2.2 then M else r.2.2) ≤ E
      split <;> omega
    · show B < (if M > r.2.2 then M else r.2.2)
      split <;> omega
    · have hm : M ≤ (if M > r.2.2 then M else r.2.2) ∧ r.2.2 ≤ (if M > r.2.2 then M else r.2.2) := by split <;> omega
      show y < (if M > r.2.2 then M else r.2.2) ∨ _
      rcases hc y y1 y2 with k | ⟨x, hx, k1, k2⟩
      · exact .inl (by omega)
      · rcases List.mem_cons.mp hx with rfl | hx
        · exact .inl (by omega)
        · exact .inr ⟨x, hx, k1, k2⟩
/-- the sides at a place: where they cover from B to E, there is one segment there -/
theorem one_line {c B E : Int} {so : List Tr} (hs : so.Pairwise LeT) (hB : B < E) (h1 : ∀ r ∈ so, r.1 = c → B ≤ r.2.1 ∧ r.2.1 < r.2.2 ∧ r.2.2 ≤ E) (h2 : ∀ y, B ≤ y → y < E → ∃ r ∈ so, r.1 = c ∧ r.2.1 ≤ y ∧ y < r.2.2) :
    ∃ A C, so.foldl mstep [] = A ++ (c, B, E) :: C ∧ (∀ l ∈ A, l.1 ≠ c) ∧ ∀ l ∈ C, l.1 ≠ c := by
  obtain ⟨L1, Lc, L2, rfl, k1, k2, k3⟩ := split3 c hs
  rw [List.foldl_append, List.foldl_append]
  have hA := fold_lt (c := c) L1 [] k1 (by simp)
  generalize L1.foldl mstep [] = A at hA
  have cov : ∀ y, B ≤ y → y < E → ∃ r ∈ Lc, r.2.1 ≤ y ∧ y < r.2.2 := fun y y1 y2 => by
    obtain ⟨r, hr, e, k⟩ := h2 y y1 y2
    rcases List.mem_append.mp hr with hr | hr
    · have := k1 r hr
      omega
    · rcases List.mem_append.mp hr with hr | hr
      · exact ⟨r, hr, k⟩
      · have := k3 r hr
        omega
  have sLc : Lc.Pairwise fun a b => a.2.1 ≤ b.2.1 := by
    have z := (List.pairwise_append.mp (List.pairwise_append.mp hs).2.1).1
    refine List.Pairwise.imp_of_mem (fun {a b} ha hb h => ?_) z
    have := k2 a ha
    have := k2 b hb
    unfold LeT at h
    omega
  have inL : ∀ r ∈ Lc, B ≤ r.2.1 ∧ r.2.1 < r.2.2 ∧ r.2.2 ≤ E := fun r hr => h1 r (by simp [hr]) (k2 r hr)
  cases Lc with
  | nil =>
    obtain ⟨r, hr, _⟩ := cov B (Int.le_refl _) hB
    cases hr
  | cons r0 rs =>
    obtain ⟨s1, s2⟩ := List.pairwise_cons.mp sLc
    have e0 := k2 r0 List.mem_cons_self
    have b0 := inL r0 List.mem_cons_self
    have hB0 : r0.2.1 = B := by
      obtain ⟨r, hr, k4, _⟩ := cov B (Int.le_refl _) hB
      rcases List.mem_cons.mp hr with rfl | hr
      · omega
      · have := s1 r hr
        omega
    have er : r0 = (c, B, r0.2.2) := by
      rw [← e0, ← hB0]
    have z := fold_eq (c := c) (B := B) (E := E) (A := A) rs r0.2.2 (fun x hx => ⟨k2 x (List.mem_cons_of_mem _ hx), (inL x (List.mem_cons_of_mem _ hx)).2⟩) b0.2.2 (by omega) s2 fun y y1 y2 => by
      obtain ⟨r, hr, k⟩ := cov y y1 y2
      rcases List.mem_cons.mp hr with rfl | hr
      · exact .inl k.2
      · exact .inr ⟨r, hr, k⟩
    rw [List.foldl_cons, mstep_app fun l hl => by have := hA l hl; omega, er, z]
    obtain ⟨C', e, hC⟩ := fold_gt (c := c) (A := A) (x := (c, B, E)) rfl L2 [] k3 (by simp)
    exact ⟨A, C', e, fun l hl => by have := hA l hl; omega, fun l hl => by have := hC l hl; omega⟩
/-- panes of which the sides at each place cover one stretch -/
def SegA (ps : List Pn) (ax E : Int) : Prop := ∀ c, 0 < c → c < E → ∃ B F, B < F ∧ (∀ p ∈ ps, cm p ax = c ∨ cm p (ax + 2) = c → B ≤ cm p (1 - ax) ∧ cm p (3 - ax) ≤ F) ∧
  ∀ y, B ≤ y → y < F → ∃ p ∈ ps, cm p ax = c ∧ cm p (1 - ax) ≤ y ∧ y < cm p (3 - ax)
theorem lines_at {ps : List Pn} {ax E c B F : Int} (hp : ∀ p ∈ ps, cm p (1 - ax) < cm p (3 - ax)) (c0 : 0 < c) (cE : c < E) (hB : B < F) (h1 : ∀ p ∈ ps, cm p ax = c ∨ cm p (ax + 2) = c → B ≤ cm p (1 - ax) ∧ cm p (3 - ax) ≤ F)
    (h2 : ∀ y, B ≤ y → y < F → ∃ p ∈ ps, cm p ax = c ∧ cm p (1 - ax) ≤ y ∧ y < cm p (3 - ax)) : ∃ A C, linesF ps ax E = A ++ (c, B, F) :: C ∧ (∀ l ∈ A, l.1 ≠ c) ∧ ∀ l ∈ C, l.1 ≠ c := by
  unfold linesF
  have perm := isort_perm t3 (ps.flatMap (sidesOf ax E))
  refine one_line ((isort_srt t3 _).imp fun h => lex_t3 h) hB (fun r hr e => ?_) fun y y1 y2 => ?_
  · obtain ⟨p, hp1, hr⟩ := List.mem_flatMap.mp (perm.mem_iff.mp hr)
    have := hp p hp1
    unfold sidesOf at hr
    rcases List.mem_append.mp hr with hr | hr
    · split at hr
      · rw [List.mem_singleton.mp hr] at e ⊢
        have := h1 p hp1 (.inl e)
        show B ≤ cm p (1 - ax) ∧ cm p (1 - ax) < cm p (3 - ax) ∧ cm p (3 - ax) ≤ F
        omega
      · cases hr
    · split at hr
      · rw [List.mem_singleton.mp hr] at e ⊢
        have := h1 p hp1 (.inr e)
        show B ≤ cm p (1 - ax) ∧ cm p (1 - ax) < cm p (3 - ax) ∧ cm p (3 - ax) ≤ F
        omega
      · cases hr
  · obtain ⟨p, hp1, e, k1, k2⟩ := h2 y y1 y2
    refine ⟨(cm p ax, cm p (1 - ax), cm p (3 - ax)), perm.mem_iff.mpr (List.mem_flatMap.mpr ⟨p, hp1, ?_⟩), e, k1, k2⟩
    unfold sidesOf
    rw [if_pos (by omega)]
    exact List.mem_append_left _ List.mem_cons_self
theorem later_one {ps : List Pn} {ax : Int} {p : Pn} {ln : Tr} : ∀ {A C : List Tr} (acc : List Int), (∀ l ∈ A, ¬coversF ax p l) → (∀ l ∈ C, ¬coversF ax p l) → coversF ax p ln →
    (A ++ ln :: C).foldl (fun acc ln => if coversF ax p ln then behindF ps ln ax else acc) acc = behindF ps ln ax
  | [], C, acc, _, hC, hl => by
    rw [List.nil_append, List.foldl_cons, if_pos hl]
    clear hl
    induction C with
    | nil => rfl
    | cons l C ih =>
      rw [List.foldl_cons, if_neg (hC l List.mem_cons_self)]
      exact ih fun x hx => hC x (List.mem_cons_of_mem _ hx)
  | l :: A, C, acc, hA, hC, hl => by
    rw [List.cons_append, List.foldl_cons, if_neg (hA l List.mem_cons_self)]
    exact later_one acc (fun x hx => hA x (List.mem_cons_of_mem _ hx)) hC hl
end GL
set_option Elab.async false
set_option linter.all false
set_option maxRecDepth 100000
set_option maxHeartbeats 2000000
/-! # theorem G: the steps of a grown layout, and those behind each -/
namespace GL
open PySem PySem.Spec PyProof.Rows L2 Geo Rel Bx
/-- the steps are to those that begin where the pane ends -/
theorem steps_iff {ps : List Pn} {ax E : Int} (hax : ax = 0 ∨ ax = 1) (hb : ∀ p ∈ ps, 0 ≤ cm p ax ∧ cm p ax < cm p (ax + 2) ∧ cm p (ax + 2) ≤ E ∧ cm p (1 - ax) < cm p (3 - ax)) (hs : SegA ps ax E) {s : Nat} (hsl : s < ps.length) {t : Int} :
    t ∈ (stepsF ps ax E).getD s [] ↔ ∃ (p : Pn) (j : Nat) (q : Pn), ps[s]? = some p ∧ t = (j : Int) ∧ ps[j]? = some q ∧ cm q ax = cm p (ax + 2) := by
  constructor
  · exact mem_steps
  · rintro ⟨p, j, q, h1, rfl, h3, h4⟩
    have hp := hb p (List.mem_of_getElem? h1)
    have hq := hb q (List.mem_of_getElem? h3)
    obtain ⟨B, F, hBF, k1, k2⟩ := hs (cm p (ax + 2)) (by omega) (by omega)
    obtain ⟨A, C, e, hA, hC⟩ := lines_at (E := E) (fun p hp => (hb p hp).2.2.2) (by omega) (by omega) hBF k1 k2
    have bp := k1 p (List.mem_of_getElem? h1) (.inr rfl)
    have bq := k1 q (List.mem_of_getElem? h3) (.inl h4)
    have es : (stepsF ps ax E).getD s [] = laterF ps ax (linesF ps ax E) p := by
      unfold stepsF
      rw [List.getD_eq_getElem?_getD, List.getElem?_map, h1]
      rfl
    rw [es]
    unfold laterF
    rw [e, later_one [] (fun l hl h => hA l hl h.1) (fun l hl h => hC l hl h.1) ⟨rfl, bp.1, bp.2⟩]
    unfold behindF sideF
    refine List.mem_map.mpr ⟨(cm q (1 - ax), (j : Int)), (isort_perm p2 _).mem_iff.mpr (List.mem_map.mpr ⟨(j, q), List.mem_filter.mpr ⟨?_, decide_eq_true h4⟩, rfl⟩), rfl⟩
    unfold nearF
    exact List.mem_filter.mpr ⟨mem_enumL h3, Bool.and_eq_true_iff.mpr ⟨decide_eq_true bq.1, decide_eq_true bq.2⟩⟩
/-- those behind a pane are told by what keeps to the steps -/
theorem behinds_of {ps : List Pn} {ax E : Int} (hax : ax = 0 ∨ ax = 1) (hb : ∀ p ∈ ps, 0 ≤ cm p ax ∧ cm p ax < cm p (ax + 2) ∧ cm p (ax + 2) ≤ E ∧ cm p (1 - ax) < cm p (3 - ax)) (hs : SegA ps ax E) (R : Nat → Nat → Prop)
    (hR : ∀ s x, s < ps.length → x < ps.length → (R s x ↔ ∃ t, t < ps.length ∧ cm (ps.getD t ⟨0, 0, 0, 0⟩) ax = cm (ps.getD s ⟨0, 0, 0, 0⟩) (ax + 2) ∧ (x = t ∨ R t x))) (hlt : ∀ s x, s < ps.length → x < ps.length → R s x → s < x) :
    ∀ (m s : Nat), ps.length - s ≤ m → s < ps.length → ∀ x : Int, x ∈ (behindsF ps ax E).getD s [] ↔ ∃ j : Nat, x = (j : Int) ∧ j < ps.length ∧ R s j
  | 0, s, hm, hsl, x => by omega
  | m + 1, s, hm, hsl, x => by
    have gd : ∀ {i : Nat} {p : Pn}, ps[i]? = some p → ps.getD i ⟨0, 0, 0, 0⟩ = p := fun h => by
      rw [List.getD_eq_getElem?_getD, h]
      rfl
    rw [(behinds_rec (ax := ax) (E := E) fun p hp => (hb p hp).2.1).2 s hsl x]
    have hsp : ps[s]? = some ps[s] := List.getElem?_eq_getElem hsl
    constructor
    · rintro ⟨t, ht, hx⟩
      obtain ⟨p, j, q, h1, rfl, h3, h4⟩ := (steps_iff hax hb hs hsl).mp ht
      have hj : j < ps.length := (List.getElem?_eq_some_iff.mp h3).1
      have e : cm (ps.getD j ⟨0, 0, 0, 0⟩) ax = cm (ps.getD s ⟨0, 0, 0, 0⟩) (ax + 2) := by rw [gd h3, gd h1, h4]
      have sj : s < j := hlt s j hsl hj ((hR s j hsl hj).mpr ⟨j, hj, e, .inl rfl⟩)
      rcases hx with rfl | hx
      · exact ⟨j, rfl, hj, (hR s j hsl hj).mpr ⟨j, hj, e, .inl rfl⟩⟩
      · rw [Int.toNat_natCast] at hx
        obtain ⟨i, rfl, hi, hRi⟩ := (behinds_of hax hb hs R hR hlt m j (by omega) hj x).mp hx
        exact ⟨i, rfl, hi, (hR s i hsl hi).mpr ⟨j, hj, e, .inr hRi⟩⟩
    · rintro ⟨i, rfl, hi, hRi⟩
      obtain ⟨t, ht, e, hh⟩ := (hR s i hsl hi).mp hRi
      have st : s < t := hlt s t hsl ht ((hR s t hsl ht).mpr ⟨t, ht, e, .inl rfl⟩)
      have htp : ps[t]? = some ps[t] := List.getElem?_eq_getElem ht
      rw [gd htp, gd hsp] at e
      refine ⟨(t : Int), (steps_iff hax hb hs hsl).mpr ⟨_, t, _, hsp, rfl, htp, e⟩, ?_⟩
      rcases hh with rfl | hh
      · exact .inl rfl
      · right
        rw [Int.toNat_natCast]
        exact (behinds_of hax hb hs R hR hlt m t (by omega) ht _).mpr ⟨i, rfl, hi, hh⟩
theorem later_nd (s : Nat) : ∀ (ts : List Int) (acc : List (List Int)), (∀ l ∈ acc, l.Nodup) → ∀ l ∈ ts.foldl (bLater s) acc, l.Nodup
  | [], acc, h => h
  | t :: ts, acc, h => later_nd s ts (bLater s acc t) fun l hl => by
    have hb : bLater s acc t = acc.set s (addAll (addKey (acc.getD s []) t) (acc.getD t.toNat [])) := rfl
    rw [hb] at hl
    rcases List.mem_or_eq_of_mem_set hl with hl | rfl
    · exact h l hl
    · have key : ∀ {ks : List Int} {k : Int}, ks.Nodup → (addKey ks k).Nodup := fun {ks k} h => by
        unfold addKey
        split
        · exact h
        · rw [List.nodup_append]
          exact ⟨h, by simp, fun a ha b hb e => by
            rw [List.mem_singleton.mp hb] at e
            subst e
            contradiction⟩
      have all : ∀ (l ks : List Int), ks.Nodup → (addAll ks l).Nodup := fun l => by
        induction l with
        | nil => exact fun ks h => h
        | cons a l ih => exact fun ks h => ih _ (key h)
      refine all _ _ (key ?_)
      rw [List.getD_eq_getElem?_getD]
      cases e : acc[s]? with
      | none => exact List.nodup_nil
      | some l => exact h l (List.mem_of_getElem? e)
theorem behinds_nd (ps : List Pn) (ax E : Int) : ∀ l ∈ behindsF ps ax E, l.Nodup := by
  unfold behindsF
  have go : ∀ (zs : List (Int × Int)) (acc : List (List Int)), (∀ l ∈ acc, l.Nodup) → ∀ l ∈ zs.foldl (fun acc z => bSpot (stepsF ps ax E) acc z.2.toNat) acc, l.Nodup := fun zs => by
    induction zs with
    | nil => exact fun acc h => h
    | cons z zs ih => exact fun acc h => ih _ (later_nd _ _ _ h)
  refine go _ _ fun l hl => ?_
  obtain ⟨_, _, rfl⟩ := List.mem_map.mp hl
  exact List.nodup_nil
theorem len_cnt {l : List Int} {n : Nat} {f : Nat → Bool} (nd : l.Nodup) (h : ∀ x : Int, x ∈ l ↔ ∃ j : Nat, x = (j : Int) ∧ j < n ∧ f j = true) : l.length = cntN n f := by
  have p : l.Perm (((List.range n).filter f).map fun j : Nat => (j : Int)) := by
    refine (List.perm_ext_iff_of_nodup nd ?_).mpr fun x => ?_
    · rw [List.Nodup, List.pairwise_map]
      exact (List.nodup_range.sublist List.filter_sublist).imp fun h e => h (Int.ofNat.inj e)
    · rw [h x, List.mem_map]
      constructor
      · rintro ⟨j, rfl, h1, h2⟩
        exact ⟨j, List.mem_filter.mpr ⟨List.mem_range.mpr h1, h2⟩, rfl⟩
      · rintro ⟨j, hj, rfl⟩
        obtain ⟨h1, h2⟩ := List.mem_filter.mp hj
        exact ⟨j, rfl, List.mem_range.mp h1, h2⟩
  rw [p.length_eq, List.length_map]
  rfl
open TG in
/-- where a layout grew, the law's rows of it are 0, 1, 2 .. and the plan -/
theorem plan_of_gs {ps : List Pn} {W H : Int} {plan : List Int} (g : GS ps.length (fun i => ps.getD i ⟨0, 0, 0, 0⟩) W H fun i => posF plan (i : Int)) (hm : IsPm plan ps.length) :
    fallF ps W H = ((List.range ps.length).map fun i : Nat => (i : Int)) ∧ riseF ps W H = plan ∧ planF ps W H = plan := by
  have at_ : ∀ p ∈ ps, ∃ i, i < ps.length ∧ ps.getD i ⟨0, 0, 0, 0⟩ = p := fun p hp => by
    obtain ⟨i, hi, e⟩ := List.getElem_of_mem hp
    exact ⟨i, hi, by rw [List.getD_eq_getElem?_getD, List.getElem?_eq_getElem hi, ← e]; rfl⟩
  have mem_ : ∀ i, i < ps.length → ps.getD i ⟨0, 0, 0, 0⟩ ∈ ps := fun i hi => by
    rw [List.getD_eq_getElem?_getD, List.getElem?_eq_getElem hi]
    exact List.getElem_mem hi
  have b0 : ∀ p ∈ ps, 0 ≤ cm p 0 ∧ cm p 0 < cm p (0 + 2) ∧ cm p (0 + 2) ≤ W ∧ cm p (1 - 0) < cm p (3 - 0) := fun p hp => by
    obtain ⟨i, hi, rfl⟩ := at_ p hp
    have := g.box i hi
    exact ⟨this.1, this.2.1, this.2.2.1, this.2.2.2.2.1⟩
  have b1 : ∀ p ∈ ps, 0 ≤ cm p 1 ∧ cm p 1 < cm p (1 + 2) ∧ cm p (1 + 2) ≤ H ∧ cm p (1 - 1) < cm p (3 - 1) := fun p hp => by
    obtain ⟨i, hi, rfl⟩ := at_ p hp
    have := g.box i hi
    exact ⟨this.2.2.2.1, this.2.2.2.2.1, this.2.2.2.2.2, this.2.1⟩
  have s0 : SegA ps 0 W := fun c c0 cW => by
    obtain ⟨B, F, h1, h2, h3⟩ := g.sx c c0 cW
    refine ⟨B, F, h1, fun p hp h => ?_, fun y y1 y2 => ?_⟩
    · obtain ⟨i, hi, rfl⟩ := at_ p hp
      exact h2 i hi h
    · obtain ⟨i, hi, e⟩ := h3 y y1 y2
      exact ⟨_, mem_ i hi, e⟩
  have s1 : SegA ps 1 H := fun c c0 cW => by
    obtain ⟨B, F, h1, h2, h3⟩ := g.sy c c0 cW
    refine ⟨B, F, h1, fun p hp h => ?_, fun y y1 y2 => ?_⟩
    · obtain ⟨i, hi, rfl⟩ := at_ p hp
      exact h2 i hi h
    · obtain ⟨i, hi, e⟩ := h3 y y1 y2
      exact ⟨_, mem_ i hi, e⟩
  have m0 := fun s hs => behinds_of (.inl rfl) b0 s0 (fun s x => s < x ∧ posF plan (s : Int) < posF plan (x : Int)) (fun s x hs hx => g.rx s x hs hx) (fun s x _ _ h => h.1) ps.length s (by omega) hs
  have m1 := fun s hs => behinds_of (.inr rfl) b1 s1 (fun s x => s < x ∧ posF plan (x : Int) < posF plan (s : Int)) (fun s x hs hx => g.ry s x hs hx) (fun s x _ _ h => h.1) ps.length s (by omega) hs
  have l0 := (behinds_rec (ps := ps) (ax := 0) (E := W) fun p hp => (b0 p hp).2.1).1
  have l1 := (behinds_rec (ps := ps) (ax := 1) (E := H) fun p hp => (b1 p hp).2.1).1
  have nd : ∀ (ax E : Int) (s : Nat), ((behindsF ps ax E).getD s []).Nodup := fun ax E s => by
    rw [List.getD_eq_getElem?_getD]
    cases e : (behindsF ps ax E)[s]? with
    | none => exact List.nodup_nil
    | some l => exact behinds_nd ps ax E l (List.mem_of_getElem? e)
  refine planF_of hm rfl (fun s hs => ?_) (fun s hs => ?_) fun s hs => ?_
  · refine len_cnt (nd _ _ _) fun x => (m0 s hs x).trans ⟨fun ⟨j, e, hj, h⟩ => ⟨j, e, hj, ?_⟩, fun ⟨j, e, hj, h⟩ => ⟨j, e, hj, ?_⟩⟩
    · rw [decide_eq_true h.1, decide_eq_true h.2]
      rfl
    · obtain ⟨h1, h2⟩ := Bool.and_eq_true_iff.mp h
      exact ⟨of_decide_eq_true h1, of_decide_eq_true h2⟩
  · refine len_cnt (nd _ _ _) fun x => (m1 s hs x).trans ⟨fun ⟨j, e, hj, h⟩ => ⟨j, e, hj, ?_⟩, fun ⟨j, e, hj, h⟩ => ⟨j, e, hj, ?_⟩⟩
    · rw [decide_eq_true h.1, decide_eq_true h.2]
      rfl
    · obtain ⟨h1, h2⟩ := Bool.and_eq_true_iff.mp h
      exact ⟨of_decide_eq_true h1, of_decide_eq_true h2⟩
  · unfold overF cntN
    congr 1
    refine List.filter_congr fun o ho => ?_
    have ho := List.mem_range.mp ho
    have z := m1 o ho (s : Int)
    rw [Bool.eq_iff_iff, decide_eq_true_iff, z, Bool.and_eq_true_iff, decide_eq_true_iff, decide_eq_true_iff]
    constructor
    · rintro ⟨j, e, hj, h⟩
      obtain rfl : j = s := by omega
      exact h
    · intro h
      exact ⟨s, rfl, hs, h⟩
end GL
set_option Elab.async false
set_option linter.all false
set_option maxRecDepth 100000
set_option maxHeartbeats 2000000
/-! # theorem G: a pane pushed as the law does -/
namespace GL
open PySem PySem.Spec PyProof.Rows L2 Geo Rel Bx TG
abbrev pn0 : Pn := ⟨0, 0, 0, 0⟩
abbrev getP (ps : List Pn) (i : Nat) : Pn := ps.getD i pn0
theorem getP_at {ps : List Pn} {i : Nat} {p : Pn} (h : ps[i]? = some p) : getP ps i = p := by
  show ps.getD i pn0 = p
  rw [List.getD_eq_getElem?_getD, h]
  rfl
theorem at_getP {ps : List Pn} {i : Nat} (h : i < ps.length) : ps[i]? = some (getP ps i) := by
  rw [List.getElem?_eq_getElem h, getP_at (List.getElem?_eq_getElem h)]
theorem getP_mem {ps : List Pn} {i : Nat} (h : i < ps.length) : getP ps i ∈ ps := List.mem_of_getElem? (at_getP h)
theorem mem_getP {ps : List Pn} {p : Pn} (h : p ∈ ps) : ∃ i, i < ps.length ∧ getP ps i = p := by
  obtain ⟨i, hi, e⟩ := List.getElem_of_mem h
  exact ⟨i, hi, getP_at (by rw [List.getElem?_eq_getElem hi, e])⟩
/-- where the numbers up to n stand, when n comes in between -/
theorem pos_ins {X Y : List Int} {n : Nat} (h : IsPm (X ++ Y) n) (h' : IsPm (X ++ (n : Int) :: Y) (n + 1)) : posF (X ++ (n : Int) :: Y) (n : Int) = (X.length : Int) ∧
    ∀ i : Nat, i < n → (posF (X ++ Y) (i : Int) < X.length ∧ posF (X ++ (n : Int) :: Y) (i : Int) = posF (X ++ Y) (i : Int)) ∨ ((X.length : Int) ≤ posF (X ++ Y) (i : Int) ∧ posF (X ++ (n : Int) :: Y) (i : Int) = posF (X ++ Y) (i : Int) + 1) := by
  have key : ∀ {l : List Int} {m : Nat} (h : IsPm l m) {v : Int} {j : Nat}, l[j]? = some v → posF l v = (j : Int) := fun {l m} h {v j} e => by
    obtain ⟨hj, rfl⟩ := List.getElem?_eq_some_iff.mp e
    exact place_at h hj
  refine ⟨key h' (by rw [List.getElem?_append_right (Nat.le_refl _), Nat.sub_self]; rfl), fun i hi => ?_⟩
  obtain ⟨j, hj, e1, e2⟩ := pos_at h (v := (i : Int)) (by omega)
  have e1' : (X ++ Y)[j]? = some (i : Int) := by rw [List.getElem?_eq_getElem hj, e1]
  by_cases c : j < X.length
  · left
    rw [List.getElem?_append_left c] at e1'
    rw [key h' (j := j) (by rw [List.getElem?_append_left c]; exact e1')]
    omega
  · right
    rw [List.getElem?_append_right (by omega)] at e1'
    rw [key h' (j := j + 1) (by rw [List.getElem?_append_right (by omega), show j + 1 - X.length = (j - X.length) + 1 by omega, List.getElem?_cons_succ]; exact e1')]
    omega
section
variable {ps : List Pn} {ax E : Int} {bl : List Int}
structure Bord (ps : List Pn) (ax E : Int) (bl : List Int) : Prop where
  s : bl.Pairwise (· < ·)
  m : ∀ i, i < ps.length → ((i : Int) ∈ bl ↔ cm (getP ps i) (ax + 2) = E)
  r : ∀ x ∈ bl, 0 ≤ x ∧ x < ps.length
  up : ∀ i j, i < ps.length → j < ps.length → i < j → cm (getP ps i) (ax + 2) = E → cm (getP ps j) (ax + 2) = E → cm (getP ps i) (1 - ax) < cm (getP ps j) (1 - ax)
  top : topF (ps.map fun p => cm p (ax + 2)) = E
theorem Bord.row (b : Bord ps ax E bl) : rowF ps ax = bl.map fun v => (cm (getP ps v.toNat) (1 - ax), v) := by
  unfold rowF
  rw [b.top]
  have nd : ∀ {zs : List (Nat × Pn)}, (zs.map (·.1)).Nodup → ((zs.map fun u : Nat × Pn => (cm u.2 (1 - ax), (u.1 : Int))).Nodup) := fun {zs} h => by
    rw [List.Nodup, List.pairwise_map] at h ⊢
    exact h.imp fun h e => h (Int.ofNat.inj (congrArg (·.2) e))
  have e1 : (enumL ps).map (·.1) = List.range ps.length := by
    unfold enumL
    rw [List.map_map]
    refine List.ext_getElem? fun i => ?_
    rw [List.getElem?_map, List.getElem?_zipIdx]
    by_cases c : i < ps.length
    · rw [List.getElem?_eq_getElem c, List.getElem?_range c]
      simp
    · rw [List.getElem?_eq_none (by omega), List.getElem?_eq_none (by simp; omega)]
      rfl
  refine isort_eq ?_ ?_
  · refine (List.perm_ext_iff_of_nodup (nd ?_) ?_).mpr fun z => ?_
    · exact List.Nodup.sublist (List.filter_sublist.map _) (e1 ▸ List.nodup_range)
    · rw [List.Nodup, List.pairwise_map]
      exact b.s.imp fun h e => by have := congrArg (·.2) e; simp only at this; omega
    · rw [List.mem_map, List.mem_map]
      constructor
      · rintro ⟨u, hu, rfl⟩
        obtain ⟨h1, h2⟩ := List.mem_filter.mp hu
        have h1 := enumL_mem h1
        have hi := (List.getElem?_eq_some_iff.mp h1).1
        refine ⟨(u.1 : Int), (b.m u.1 hi).mpr ?_, ?_⟩
        · rw [getP_at h1]
          exact of_decide_eq_true h2
        · rw [Int.toNat_natCast, getP_at h1]
      · rintro ⟨v, hv, rfl⟩
        have hr := b.r v hv
        have hi : v.toNat < ps.length := by omega
        have e : ((v.toNat : Nat) : Int) = v := by omega
        refine ⟨(v.toNat, getP ps v.toNat), List.mem_filter.mpr ⟨mem_enumL (at_getP hi), decide_eq_true ?_⟩, by rw [e]⟩
        exact (b.m _ hi).mp (by rw [e]; exact hv)
  · rw [List.pairwise_map]
    refine List.Pairwise.imp_of_mem (fun {a c} ha hc h => ?_) b.s
    have ra := b.r a ha
    have rc := b.r c hc
    have ea : ((a.toNat : Nat) : Int) = a := by omega
    have ec : ((c.toNat : Nat) : Int) = c := by omega
    exact b.up a.toNat c.toNat (by omega) (by omega) (by omega) ((b.m _ (by omega)).mp (by rw [ea]; exact ha)) ((b.m _ (by omega)).mp (by rw [ec]; exact hc))
theorem Bord.border (b : Bord ps ax E bl) : borderF ps ax = bl.length := by
  have z := congrArg List.length b.row
  rw [List.length_map] at z
  rw [← z]
  unfold rowF borderF
  rw [(isort_perm p2 _).length_eq, List.length_map]
  have : ps = (enumL ps).map (·.2) := by
    unfold enumL
    rw [List.map_map]
    exact (List.zipIdx_map_fst 0 ps).symm
  generalize topF (ps.map fun p => cm p (ax + 2)) = T
  conv => lhs; rw [this]
  rw [List.filter_map, List.length_map]
  rfl
/-- the layout with one pane more -/
theorem Bord.pushed (b : Bord ps ax E bl) {k : Nat} (h1 : 0 < k) (h2 : k ≤ bl.length) : (pushA ps ax k).length = ps.length + 1 ∧
    (∀ i, i < ps.length → getP (pushA ps ax k) i = if cm (getP ps i) (ax + 2) = E ∧ (i : Int) < bl[bl.length - k]'(by omega) then sc (getP ps i) (ax + 2) (E + 1) else getP ps i) ∧
    getP (pushA ps ax k) ps.length = sc (sc (sc (sc pn0 ax E) (ax + 2) (E + 1)) (1 - ax) (cm (getP ps (bl[bl.length - k]'(by omega)).toNat) (1 - ax))) (3 - ax) (topF (ps.map fun p => cm p (3 - ax))) := by
  have hlen : (enumL ps).length = ps.length := enumL_len ps
  have hcut : (rowF ps ax).drop ((rowF ps ax).length - k) = (bl.drop (bl.length - k)).map fun v => (cm (getP ps v.toNat) (1 - ax), v) := by
    rw [b.row, List.length_map, List.map_drop]
  have hd : bl.drop (bl.length - k) = bl[bl.length - k]'(by omega) :: bl.drop (bl.length - k + 1) := List.drop_eq_getElem_cons (by omega)
  refine ⟨?_, fun i hi => ?_, ?_⟩
  · unfold pushA
    rw [List.length_append, List.length_map, hlen]
    rfl
  · refine getP_at ?_
    unfold pushA
    rw [List.getElem?_append_left (by rw [List.length_map, hlen]; exact hi), List.getElem?_map]
    have e : (enumL ps)[i]? = some (i, getP ps i) := by
      unfold enumL
      rw [List.getElem?_map, List.getElem?_zipIdx, at_getP hi]
      simp
    rw [e, Option.map_some]
    congr 1
    unfold outp
    rw [b.top, hcut, List.map_map]
    have em : ((fun x : Int × Int => x.2) ∘ fun v : Int => (cm (getP ps v.toNat) (1 - ax), v)) = id := rfl
    rw [em, List.map_id]
    have iff : (cm (getP ps i) (ax + 2) = E ∧ (i : Int) ∉ bl.drop (bl.length - k)) ↔ (cm (getP ps i) (ax + 2) = E ∧ (i : Int) < bl[bl.length - k]'(by omega)) := by
      refine and_congr_right fun e => ?_
      have hm := (b.m i hi).mpr e
      constructor
      · intro hn
        have ht : (i : Int) ∈ bl.take (bl.length - k) := by
          rw [← List.take_append_drop (bl.length - k) bl] at hm
          exact (List.mem_append.mp hm).resolve_right hn
        exact take_lt b.s (by omega) _ ht
      · intro hlt hin
        have := drop_ge b.s (by omega) _ hin
        omega
    by_cases c : cm (getP ps i) (ax + 2) = E ∧ (i : Int) ∉ bl.drop (bl.length - k)
    · rw [if_pos c, if_pos (iff.mp c)]
    · rw [if_neg c, if_neg fun h => c (iff.mpr h)]
  · refine getP_at ?_
    unfold pushA
    rw [List.getElem?_append_right (by rw [List.length_map, hlen]; exact Nat.le_refl _), List.length_map, hlen, Nat.sub_self, hcut, hd, b.top]
    rfl
end
theorem top_at {f : Pn → Int} {ps : List Pn} {m : Int} (h1 : ∃ i, i < ps.length ∧ f (getP ps i) = m) (h2 : ∀ i, i < ps.length → f (getP ps i) ≤ m) : topF (ps.map f) = m := by
  obtain ⟨i, hi, e⟩ := h1
  have ne : ps ≠ [] := fun h => by
    rw [h] at hi
    simp at hi
  refine top_one (topF_top ne) ⟨⟨_, getP_mem hi, e⟩, fun p hp => ?_⟩
  obtain ⟨j, hj, rfl⟩ := mem_getP hp
  exact h2 j hj
section
variable {st : StC} {m : Nat} {lo ri W H : Int} {ps : List Pn}
theorem pm_of (g : GpC st m lo ri) : IsPm st.1 m := ⟨g.nd, g.mem, g.len⟩
/-- the panes at the right border are those of the state -/
theorem bord0 (g : GpC st m lo ri) (hl : ps.length = m) (G : GS m (getP ps) W H fun i => posF st.1 (i : Int)) : Bord ps 0 W st.2.2 where
  s := g.rS
  r := fun x hx => by
    obtain ⟨A, B, e, _⟩ := g.ri x hx
    have := (g.mem x).mp (by rw [e]; simp)
    omega
  m := fun i hi => by
    rw [hl] at hi
    have hp : (i : Int) ∈ st.1 := (g.mem _).mpr (by omega)
    have e : (i : Int) ∈ st.2.2 ↔ RM st.1 i := ⟨g.ri _, g.rC _⟩
    rw [e, whole_rm (pm_of g) hp]
    show _ ↔ (getP ps i).x1 = W
    have b := G.box i hi
    constructor
    · intro h
      refine Classical.byContradiction fun c => ?_
      obtain ⟨t, ht, _, h1, h2⟩ := G.next hi (by omega)
      have := h t (by omega) ht
      omega
    · intro e w h1 h2
      have h3 := G.end_x hi h2 e
      have h4 : posF st.1 (i : Int) ≠ posF st.1 (w : Int) := fun e => by
        have := G.inj i w hi h2 e
        omega
      omega
  up := fun i j hi hj hij e1 e2 => by
    rw [hl] at hi hj
    have z := G.col hi hj hij e1
    have b := G.box i hi
    show (getP ps i).y0 < (getP ps j).y0
    omega
  top := top_at (f := fun p => cm p (0 + 2)) (by
    have hm := G.n0
    refine ⟨m - 1, by omega, ?_⟩
    have b := G.box (m - 1) (by omega)
    refine Classical.byContradiction fun c => ?_
    have c : ¬(getP ps (m - 1)).x1 = W := c
    obtain ⟨t, ht, _, h1, h2⟩ := G.next (s := m - 1) (by omega) (by omega)
    omega) fun i hi => (G.box i (by omega)).2.2.1
theorem bord1 (g : GpC st m lo ri) (hl : ps.length = m) (G : GS m (getP ps) W H fun i => posF st.1 (i : Int)) : Bord ps 1 H st.2.1 where
  s := g.lS
  r := fun x hx => by
    obtain ⟨A, B, e, _⟩ := g.lo x hx
    have := (g.mem x).mp (by rw [e]; simp)
    omega
  m := fun i hi => by
    rw [hl] at hi
    have hp : (i : Int) ∈ st.1 := (g.mem _).mpr (by omega)
    have e : (i : Int) ∈ st.2.1 ↔ LM st.1 i := ⟨g.lo _, g.lC _⟩
    rw [e, whole_lm (pm_of g) hp]
    show _ ↔ (getP ps i).y1 = H
    have b := G.box i hi
    constructor
    · intro h
      refine Classical.byContradiction fun c => ?_
      obtain ⟨t, ht, _, h1, h2⟩ := G.swap.next hi (show (getP ps i).y1 < H by omega)
      have := h t (by omega) ht
      have h2 : -posF st.1 (i : Int) < -posF st.1 (t : Int) := h2
      omega
    · intro e w h1 h2
      have h3 := G.end_y hi h2 e
      have h4 : posF st.1 (i : Int) ≠ posF st.1 (w : Int) := fun e => by
        have := G.inj i w hi h2 e
        omega
      omega
  up := fun i j hi hj hij e1 e2 => by
    rw [hl] at hi hj
    have z := G.row hi hj hij e1
    have b := G.box i hi
    show (getP ps i).x0 < (getP ps j).x0
    omega
  top := top_at (f := fun p => cm p (1 + 2)) (by
    have hm := G.n0
    refine ⟨m - 1, by omega, ?_⟩
    have b := G.box (m - 1) (by omega)
    refine Classical.byContradiction fun c => ?_
    have c : ¬(getP ps (m - 1)).y1 = H := c
    obtain ⟨t, ht, _, h1, h2⟩ := G.swap.next (s := m - 1) (by omega) (show (getP ps (m - 1)).y1 < H by omega)
    omega) fun i hi => (G.box i (by omega)).2.2.2.2.2
theorem borders_gs (g : GpC st m lo ri) (hl : ps.length = m) (G : GS m (getP ps) W H fun i => posF st.1 (i : Int)) : (borderF ps 0 : Int) = ri ∧ (borderF ps 1 : Int) = lo := by
  rw [(bord0 g hl G).border, (bord1 g hl G).border]
  exact ⟨g.rL, g.lL⟩
/-- one number more -/
theorem step_gs (g : GpC st m lo ri) (hl : ps.length = m) (G : GS m (getP ps) W H fun i => posF st.1 (i : Int)) {n : Int} (hn : n ∈ numbersF lo ri) :
    ∃ st' W' H', stepC st m n = some st' ∧ GpC st' (m + 1) (growB lo ri n).1 (growB lo ri n).2 ∧ (pushF ps n).length = m + 1 ∧ GS (m + 1) (getP (pushF ps n)) W' H' fun i => posF st'.1 (i : Int) := by
  obtain ⟨st', A, B, e1, g1, e2, e3, _⟩ := gpc_step g hn
  have b0 := bord0 g hl G
  have b1 := bord1 g hl G
  have rL := g.rL
  have lL := g.lL
  have hc : (-ri ≤ n ∧ n < 0) ∨ (1 ≤ n ∧ n ≤ lo) := by
    unfold numbersF at hn
    rcases List.mem_append.mp hn with h | h
    · obtain ⟨i, hi, rfl⟩ := List.mem_map.mp h
      have := List.mem_range.mp hi
      omega
    · obtain ⟨i, hi, rfl⟩ := List.mem_map.mp h
      have := List.mem_range.mp hi
      omega
  rcases hc with hc | hc
  · obtain ⟨k, rfl⟩ : ∃ k : Nat, n = -(k : Int) := ⟨(-n).toNat, by omega⟩
    have hk1 : 0 < k := by omega
    have hk2 : k ≤ st.2.2.length := by omega
    have hpf : pushF ps (-(k : Int)) = pushA ps 0 k := by
      unfold pushF
      rw [if_neg (by omega), Int.natAbs_neg, Int.natAbs_natCast]
    rw [hpf]
    obtain ⟨p1, p2, p3⟩ := b0.pushed hk1 hk2
    have hrm : st.2.2[st.2.2.length - k]'(by omega) ∈ st.2.2 := List.getElem_mem _
    have e1' := e1
    unfold stepC at e1'
    rw [if_neg (by omega), atI_neg hk1 hk2] at e1'
    generalize st.2.2[st.2.2.length - k]'(by omega) = r at p2 p3 hrm e1'
    obtain ⟨C, D, eC, _⟩ := g.ri r hrm
    have hrr := b0.r r hrm
    obtain ⟨rn, rfl⟩ : ∃ rn : Nat, r = (rn : Int) := ⟨r.toNat, by omega⟩
    have hrn : rn < m := by omega
    have er := (b0.m rn (by omega)).mp hrm
    have hin : (rn : Int) ∈ st.1 := by rw [eC]; simp
    rw [Option.bind_some, if_pos hin, eC, idx_mid (by rw [← eC]; exact g.nd), insF_mid1] at e1'
    have est : st'.1 = (C ++ [(rn : Int)]) ++ (m : Int) :: D := by
      have := congrArg (·.1) (Option.some.inj e1')
      rw [← this]
      simp
    have eC2 : st.1 = (C ++ [(rn : Int)]) ++ D := by rw [eC]; simp
    have hpm := pm_of g
    have hpm' := pm_of g1
    rw [est] at hpm'
    have hpm2 := hpm
    rw [eC2] at hpm2
    obtain ⟨q1, q2⟩ := pos_ins hpm2 hpm'
    have qr : posF ((C ++ [(rn : Int)]) ++ D) (rn : Int) = (C.length : Int) := by
      have z := place_at hpm2 (i := C.length) (by simp)
      have e : (C ++ [(rn : Int)] ++ D)[C.length]'(by simp) = (rn : Int) := by simp
      rw [e] at z
      exact z
    rw [← est] at q1
    rw [List.length_append, List.length_singleton] at q1 q2
    rw [← est, ← eC2] at q2
    rw [← eC2] at qr
    refine ⟨st', W + 1, H, e1, g1, by rw [p1, hl], ?_⟩
    refine G.push (r := rn) (q' := fun i => posF st'.1 (i : Int)) hrn er (fun i hi => ?_) ?_ (fun i j hi hj => ?_) (fun i hi => ?_) fun i hi => ?_
    · rw [p2 i (by omega)]
      show (if (getP ps i).x1 = W ∧ (i : Int) < (rn : Int) then _ else _) = if (getP ps i).x1 = W ∧ i < rn then _ else _
      by_cases c : (getP ps i).x1 = W ∧ i < rn
      · rw [if_pos c, if_pos ⟨c.1, by omega⟩]
        rfl
      · rw [if_neg c, if_neg fun h => c ⟨h.1, by omega⟩]
    · rw [← hl, p3]
      have t1 : topF (ps.map fun p => cm p (3 - 0)) = H := b1.top
      rw [t1, Int.toNat_natCast]
      rfl
    · show posF st'.1 (i : Int) < posF st'.1 (j : Int) ↔ posF st.1 (i : Int) < posF st.1 (j : Int)
      have := q2 i hi
      have := q2 j hj
      omega
    · show posF st'.1 (i : Int) < posF st'.1 (m : Int) ↔ posF st.1 (i : Int) ≤ posF st.1 (rn : Int)
      have := q2 i hi
      omega
    · show posF st'.1 (m : Int) < posF st'.1 (i : Int) ↔ posF st.1 (rn : Int) < posF st.1 (i : Int)
      have := q2 i hi
      omega
  · obtain ⟨k, rfl⟩ : ∃ k : Nat, n = (k : Int) := ⟨n.toNat, by omega⟩
    have hk1 : 0 < k := by omega
    have hk2 : k ≤ st.2.1.length := by omega
    have hpf : pushF ps (k : Int) = pushA ps 1 k := by
      unfold pushF
      rw [if_pos (by omega), Int.natAbs_natCast]
    rw [hpf]
    obtain ⟨p1, p2, p3⟩ := b1.pushed hk1 hk2
    have hrm : st.2.1[st.2.1.length - k]'(by omega) ∈ st.2.1 := List.getElem_mem _
    have e1' := e1
    unfold stepC at e1'
    rw [if_pos (by omega), atI_neg hk1 hk2] at e1'
    generalize st.2.1[st.2.1.length - k]'(by omega) = r at p2 p3 hrm e1'
    obtain ⟨C, D, eC, _⟩ := g.lo r hrm
    have hrr := b1.r r hrm
    obtain ⟨rn, rfl⟩ : ∃ rn : Nat, r = (rn : Int) := ⟨r.toNat, by omega⟩
    have hrn : rn < m := by omega
    have er := (b1.m rn (by omega)).mp hrm
    have hin : (rn : Int) ∈ st.1 := by rw [eC]; simp
    rw [Option.bind_some, if_pos hin, eC, idx_mid (by rw [← eC]; exact g.nd), insF_mid] at e1'
    have est : st'.1 = C ++ (m : Int) :: ((rn : Int) :: D) := by
      have := congrArg (·.1) (Option.some.inj e1')
      rw [← this]
    have hpm := pm_of g
    have hpm' := pm_of g1
    rw [est] at hpm'
    have hpm2 := hpm
    rw [eC] at hpm2
    obtain ⟨q1, q2⟩ := pos_ins hpm2 hpm'
    have qr : posF (C ++ (rn : Int) :: D) (rn : Int) = (C.length : Int) := by
      have z := place_at hpm2 (i := C.length) (by simp)
      have e : (C ++ (rn : Int) :: D)[C.length]'(by simp) = (rn : Int) := by simp
      rw [e] at z
      exact z
    rw [← est] at q1
    rw [← est, ← eC] at q2
    rw [← eC] at qr
    refine ⟨st', W, H + 1, e1, g1, by rw [p1, hl], ?_⟩
    refine G.pushd (r := rn) (q' := fun i => posF st'.1 (i : Int)) hrn er (fun i hi => ?_) ?_ (fun i j hi hj => ?_) (fun i hi => ?_) fun i hi => ?_
    · rw [p2 i (by omega)]
      show (if (getP ps i).y1 = H ∧ (i : Int) < (rn : Int) then _ else _) = if (getP ps i).y1 = H ∧ i < rn then _ else _
      by_cases c : (getP ps i).y1 = H ∧ i < rn
      · rw [if_pos c, if_pos ⟨c.1, by omega⟩]
        rfl
      · rw [if_neg c, if_neg fun h => c ⟨h.1, by omega⟩]
    · rw [← hl, p3]
      have t1 : topF (ps.map fun p => cm p (3 - 1)) = W := b0.top
      rw [t1, Int.toNat_natCast]
      rfl
    · show posF st'.1 (i : Int) < posF st'.1 (j : Int) ↔ posF st.1 (i : Int) < posF st.1 (j : Int)
      have := q2 i hi
      have := q2 j hj
      omega
    · show posF st'.1 (m : Int) < posF st'.1 (i : Int) ↔ posF st.1 (rn : Int) ≤ posF st.1 (i : Int)
      have := q2 i hi
      omega
    · show posF st'.1 (i : Int) < posF st'.1 (m : Int) ↔ posF st.1 (i : Int) < posF st.1 (rn : Int)
      have := q2 i hi
      omega
theorem run_gs : ∀ (ns : List Int) (st : StC) (m : Nat) (lo ri : Int) (ps : List Pn) (W H : Int), GpC st m lo ri → ps.length = m → GS m (getP ps) W H (fun i => posF st.1 (i : Int)) → ValidC lo ri ns →
    ∃ st' W' H', runC st (m : Int) ns = some st' ∧ GpC st' (m + ns.length) (endB lo ri ns).1 (endB lo ri ns).2 ∧ (ns.foldl pushF ps).length = m + ns.length ∧ GS (m + ns.length) (getP (ns.foldl pushF ps)) W' H' fun i => posF st'.1 (i : Int)
  | [], st, m, lo, ri, ps, W, H, g, hl, G, _ => ⟨st, W, H, rfl, g, hl, G⟩
  | n :: ns, st, m, lo, ri, ps, W, H, g, hl, G, h => by
    obtain ⟨st1, W1, H1, h1, g1, l1, G1⟩ := step_gs g hl G h.1
    obtain ⟨st', W', H', h2, g2, l2, G2⟩ := run_gs ns st1 (m + 1) _ _ _ W1 H1 g1 l1 G1 h.2
    refine ⟨st', W', H', ?_, ?_, ?_, ?_⟩
    · show (stepC st m n).bind _ = _
      rw [h1]
      exact h2
    · rw [List.length_cons, show m + (ns.length + 1) = m + 1 + ns.length by omega]
      exact g2
    · rw [List.length_cons, List.foldl_cons, l2]
      omega
    · rw [List.length_cons, List.foldl_cons, show m + (ns.length + 1) = m + 1 + ns.length by omega]
      exact G2
end
/-- the layout of a code, as the law makes it -/
def layF (ns : List Int) : List Pn := ns.foldl pushF [⟨0, 0, 1, 1⟩]
structure Grown (ns : List Int) (ps : List Pn) (plan : List Int) (W H : Int) : Prop where
  len : ps.length = ns.length + 1
  made : codePlanF ns = some plan
  pl : IsPl plan (ns.length + 1)
  gs : GS ps.length (getP ps) W H fun i => posF plan (i : Int)
  fall : fallF ps W H = (List.range ps.length).map fun i : Nat => (i : Int)
  rise : riseF ps W H = plan
  plan : planF ps W H = plan
  right : (borderF ps 0 : Int) = (endB 1 1 ns).2
  lower : (borderF ps 1 : Int) = (endB 1 1 ns).1
theorem grown_of {ns : List Int} (h : ValidC 1 1 ns) : ∃ plan W H, Grown ns (layF ns) plan W H := by
  obtain ⟨st', W, H, h1, g, l, G⟩ := run_gs ns ([0], [0], [0]) 1 1 1 [⟨0, 0, 1, 1⟩] 1 1 gpc_one rfl (by
    have z := gs_one (q := fun i : Nat => posF [0] (i : Int))
    refine ⟨z.n0, z.w, z.h, fun i hi => ?_, fun c _ _ => by omega, fun c _ _ => by omega, z.inj, fun s x hs hx => ?_, fun s x hs hx => ?_⟩
    · obtain rfl : i = 0 := by omega
      decide
    · obtain rfl : s = 0 := by omega
      obtain rfl : x = 0 := by omega
      exact ⟨fun h => absurd h.1 (Nat.lt_irrefl 0), fun ⟨t, ht, e, _⟩ => by
        obtain rfl : t = 0 := by omega
        exact absurd e (by decide)⟩
    · obtain rfl : s = 0 := by omega
      obtain rfl : x = 0 := by omega
      exact ⟨fun h => absurd h.1 (Nat.lt_irrefl 0), fun ⟨t, ht, e, _⟩ => by
        obtain rfl : t = 0 := by omega
        exact absurd e (by decide)⟩) h
  have em : codePlanF ns = some st'.1 := by
    unfold codePlanF
    have h1' : runC ([0], [0], [0]) 1 ns = some st' := h1
    rw [h1']
    rfl
  have el : (layF ns).length = ns.length + 1 := by rw [show (layF ns).length = 1 + ns.length from l, Nat.add_comm]
  have G' : GS (layF ns).length (getP (layF ns)) W H fun i => posF st'.1 (i : Int) := by rw [show (layF ns).length = 1 + ns.length from l]; exact G
  have hpm : IsPm st'.1 (layF ns).length := by rw [show (layF ns).length = 1 + ns.length from l]; exact pm_of g
  obtain ⟨f1, f2, f3⟩ := plan_of_gs G' hpm
  obtain ⟨b1, b2⟩ := borders_gs g l G
  exact ⟨st'.1, W, H, el, em, ⟨by rw [← el]; exact hpm, g.pt⟩, G', f1, f2, f3, b1, b2⟩
end GL
set_option linter.all false
namespace Geo
/-! # the pushed pane in the words of a law, and in those of the mathematics -/
/-- a pane's corners by their number -/
def nth (p : Pn) (i : Int) : Int := if i = 0 then p.x0 else if i = 1 then p.y0 else if i = 2 then p.x1 else p.y1
def put (p : Pn) (i v : Int) : Pn := if i = 0 then { p with x0 := v } else if i = 1 then { p with y0 := v } else if i = 2 then { p with x1 := v } else { p with y1 := v }
def ipn (ps : List Pn) : List (Nat × Pn) := ps.zipIdx.map fun p => (p.2, p.1)
def Lp (x y : Int × Int) : Prop := x.1 < y.1 ∨ (x.1 = y.1 ∧ x.2 ≤ y.2)
def out (ax E : Int) (kept : List (Int × Int)) (i : Nat) (p : Pn) : Pn := if nth p (ax + 2) = E ∧ (i : Int) ∉ kept.map (·.2) then put p (ax + 2) (E + 1) else p
structure MadeP (ps : List Pn) (ax : Int) (n : Nat) (E W : Int) (row : List (Int × Int)) (k0 : Int × Int) (r : List (Int × Int)) (ps' : List Pn) : Prop where
  e1 : ∃ p ∈ ps, nth p (ax + 2) = E
  e2 : ∀ p ∈ ps, nth p (ax + 2) ≤ E
  w1 : ∃ p ∈ ps, nth p (3 - ax) = W
  w2 : ∀ p ∈ ps, nth p (3 - ax) ≤ W
  perm : row.Perm (((ipn ps).filter fun u => decide (nth u.2 (ax + 2) = E)).map fun u => (nth u.2 (1 - ax), (u.1 : Int)))
  srt : row.Pairwise Lp
  cut : row.drop (row.length - n) = k0 :: r
  out : ps' = ((ipn ps).map fun u => out ax E (k0 :: r) u.1 u.2) ++ [put (put (put (put ⟨0, 0, 0, 0⟩ ax E) (ax + 2) (E + 1)) (1 - ax) k0.1) (3 - ax) W]
theorem ipn_at {ps : List Pn} {i : Nat} {p : Pn} : (i, p) ∈ ipn ps ↔ ps[i]? = some p := by
  unfold ipn
  rw [List.mem_map]
  constructor
  · rintro ⟨⟨q, j⟩, h, e⟩
    cases e
    exact List.mem_zipIdx_iff_getElem?.mp h
  · intro h
    exact ⟨(p, i), List.mem_zipIdx_iff_getElem?.mpr h, rfl⟩
theorem ipn_snd (ps : List Pn) : (ipn ps).map (·.2) = ps := by
  unfold ipn
  rw [List.map_map]
  exact List.zipIdx_map_fst 0 ps
theorem sorted_eq {α : Type} {f : α → Int} : ∀ {l m : List α}, l.Perm m → l.Pairwise (fun a b => f a ≤ f b) → m.Pairwise (fun a b => f a < f b) → l = m
  | l, [], h, _, _ => h.eq_nil
  | [], b :: t, h, _, _ => absurd h.length_eq (by simp)
  | a :: s, b :: t, h, h1, h2 => by
    obtain ⟨h3, h4⟩ := List.pairwise_cons.mp h1
    obtain ⟨h5, h6⟩ := List.pairwise_cons.mp h2
    have ea : a = b := by
      rcases List.mem_cons.mp (h.mem_iff.mp List.mem_cons_self) with e | hm
      · exact e
      · rcases List.mem_cons.mp (h.mem_iff.mpr (List.mem_cons_self (a := b) (l := t))) with e | hm2
        · exact e.symm
        · have := h5 a hm
          have := h3 b hm2
          omega
    subst ea
    rw [sorted_eq h.cons_inv h4 h6]
theorem ChX.strict {b : Int} : ∀ {r : List Pn} {a : Int}, ChX a r b → (∀ p ∈ r, p.x0 < p.x1) → r.Pairwise fun p q => p.x0 < q.x0
  | [], _, _, _ => .nil
  | p :: r, a, h, v => by
    obtain ⟨_, h⟩ := h.inv
    have v2 : ∀ z ∈ r, z.x0 < z.x1 := fun z hz => v z (List.mem_cons_of_mem _ hz)
    refine List.pairwise_cons.mpr ⟨fun q hq => ?_, h.strict v2⟩
    have z := (h.mem id v2 q hq).1
    have w := v p List.mem_cons_self
    simp only [id] at z
    omega
/-- a pushed pane below is push -/
theorem made_gr1 {ps ps' : List Pn} {W H E Wd : Int} {n : Nat} {row r : List (Int × Int)} {k0 : Int × Int} (g : Gr ps W H) (m : MadeP ps 1 n E Wd row k0 r ps') : Gr ps' W (H + 1) := by
  -- the sides
  have hE : E = H := by
    obtain ⟨p, hp, ep⟩ := m.e1
    have ep' : p.y1 = E := ep
    obtain ⟨R, h1, h2⟩ := g.rig
    rcases h2.tail with z | ⟨q', hq', z⟩
    · have := g.h
      omega
    · obtain ⟨q, hq, rfl⟩ := List.mem_map.mp hq'
      have mm := h1.mem_iff.mp hq
      rw [List.mem_filter] at mm
      have a1 : q.y1 ≤ E := m.e2 q mm.1
      have a2 : q.y1 = H := z
      have := g.pos p hp
      omega
  have hW : Wd = W := by
    obtain ⟨p, hp, ep⟩ := m.w1
    have ep' : p.x1 = Wd := ep
    obtain ⟨B, h1, h2⟩ := g.bot
    rcases h2.tail with z | ⟨q, hq, z⟩
    · have := g.w
      omega
    · have mm := h1.mem_iff.mp hq
      rw [List.mem_filter] at mm
      have a1 : q.x1 ≤ Wd := m.w2 q mm.1
      have := g.pos p hp
      omega
  subst hE hW
  -- the row's panes
  have row_at : ∀ u ∈ row, ∃ (i : Nat) (p : Pn), ps[i]? = some p ∧ p.y1 = E ∧ u = (p.x0, (i : Int)) := fun u hu => by
    obtain ⟨⟨i, p⟩, h1, h2⟩ := List.mem_map.mp (m.perm.mem_iff.mp hu)
    rw [List.mem_filter] at h1
    exact ⟨i, p, ipn_at.mp h1.1, of_decide_eq_true h1.2, h2.symm⟩
  let pane : Int × Int → Pn := fun u => (ps[u.2.toNat]?).getD ⟨0, 0, 0, 0⟩
  have pane_of : ∀ {i : Nat} {p : Pn} (x : Int), ps[i]? = some p → pane (x, (i : Int)) = p := fun {i p} x h => by
    show (ps[(i : Int).toNat]?).getD _ = p
    rw [Int.toNat_natCast, h]
    rfl
  have bperm : (row.map pane).Perm (ps.filter fun p => decide (p.y1 = E)) := by
    have z := m.perm.map pane
    rw [List.map_map] at z
    refine z.trans ?_
    have e : ((ipn ps).filter fun u => decide (nth u.2 (1 + 2) = E)).map (pane ∘ fun u : Nat × Pn => (nth u.2 (1 - 1), (u.1 : Int))) = ((ipn ps).filter fun u => decide (u.2.y1 = E)).map (·.2) := by
      refine List.map_congr_left fun u hu => ?_
      rw [List.mem_filter] at hu
      exact pane_of _ (ipn_at.mp hu.1)
    rw [e]
    have e2 : (ps.filter fun p => decide (p.y1 = E)) = ((ipn ps).filter fun u => decide (u.2.y1 = E)).map (·.2) := by
      have z2 := List.filter_map (f := fun u : Nat × Pn => u.2) (p := fun p : Pn => decide (p.y1 = E)) (l := ipn ps)
      rw [ipn_snd] at z2
      exact z2
    rw [e2]
  obtain ⟨B, h1, h2⟩ := g.bot
  have vB : ∀ p ∈ B, p.x0 < p.x1 := fun p hp => by
    have mm := h1.mem_iff.mp hp
    rw [List.mem_filter] at mm
    exact (g.pos p mm.1).2.1
  have eB : row.map pane = B := by
    refine sorted_eq (f := fun p : Pn => p.x0) (bperm.trans h1.symm) ?_ (h2.strict vB)
    rw [List.pairwise_map]
    refine m.srt.imp_of_mem fun {u v} hu hv hl => ?_
    obtain ⟨i, p, a1, a2, rfl⟩ := row_at u hu
    obtain ⟨j, q, b1, b2, rfl⟩ := row_at v hv
    rw [pane_of _ a1, pane_of _ b1]
    rcases hl with hl | hl
    · exact Int.le_of_lt hl
    · exact Int.le_of_eq hl.1
  -- the two parts
  have spl : row.map pane = (row.take (row.length - n)).map pane ++ (k0 :: r).map pane := by
    rw [← List.map_append, ← m.cut, List.take_append_drop]
  have k0row : k0 ∈ row := List.mem_of_mem_drop (by rw [m.cut]; exact List.mem_cons_self)
  rw [← eB, spl] at h2
  obtain ⟨b, c1, c2⟩ := h2.cut
  have hb : b = k0.1 := by
    obtain ⟨i, p, a1, a2, e⟩ := row_at k0 k0row
    have z := c2.head
    rw [e, pane_of _ a1] at z
    rw [e]
    exact z.symm
  subst hb
  have c : Cut ps ((row.take (row.length - n)).map pane) ((k0 :: r).map pane) Wd E k0.1 := ⟨by rw [← spl]; exact bperm, c1, c2, by simp⟩
  have eo : ps' = push ps Wd E k0.1 := by
    rw [m.out]
    unfold push
    congr 1
    have e3 : (ipn ps).map (fun u => out 1 E (k0 :: r) u.1 u.2) = (ipn ps).map fun u => ext E k0.1 u.2 := by
      refine List.map_congr_left fun u hu => ?_
      obtain ⟨i, p⟩ := u
      have hi := ipn_at.mp hu
      unfold out ext
      by_cases y : p.y1 = E
      · -- at the border
        have inrow : (p.x0, (i : Int)) ∈ row := m.perm.mem_iff.mpr (List.mem_map.mpr ⟨(i, p), List.mem_filter.mpr ⟨hu, decide_eq_true y⟩, rfl⟩)
        by_cases k : (i : Int) ∈ (k0 :: r).map (·.2)
        · obtain ⟨u, hu2, eu⟩ := List.mem_map.mp k
          have hur : u ∈ row := List.mem_of_mem_drop (by rw [m.cut]; exact hu2)
          obtain ⟨j, q, b1, b2, e⟩ := row_at u hur
          have ej : j = i := by
            rw [e] at eu
            have : (j : Int) = (i : Int) := eu
            omega
          subst ej
          have eq : q = p := Option.some.inj (b1.symm.trans hi)
          subst eq
          have mem2 : q ∈ (k0 :: r).map pane := List.mem_map.mpr ⟨u, hu2, by rw [e, pane_of _ b1]⟩
          have ge := c.ge g q mem2
          rw [if_neg fun z => z.2 k, if_neg fun z => by have z2 : q.x0 < k0.1 := z.2; omega]
        · have intake : (p.x0, (i : Int)) ∈ row.take (row.length - n) := by
            rw [← List.take_append_drop (row.length - n) row, m.cut] at inrow
            rcases List.mem_append.mp inrow with h | h
            · exact h
            · exact absurd (List.mem_map.mpr ⟨_, h, rfl⟩) k
          have mem1 : p ∈ (row.take (row.length - n)).map pane := List.mem_map.mpr ⟨_, intake, pane_of _ hi⟩
          have lt := c.lt g p mem1
          rw [if_pos ⟨y, k⟩, if_pos ⟨y, lt⟩]
          rfl
      · rw [if_neg fun z => y z.1, if_neg fun z => y z.1]
    rw [e3]
    have e4 := congrArg (List.map (ext E k0.1)) (ipn_snd ps)
    rw [List.map_map] at e4
    exact e4
  rw [eo]
  exact push_gr g c
/-- a pushed pane to the right is one below, with x and y exchanged -/
theorem made_swap {ps ps' : List Pn} {E Wd : Int} {n : Nat} {row r : List (Int × Int)} {k0 : Int × Int} (m : MadeP ps 0 n E Wd row k0 r ps') : MadeP (ps.map Pn.swap) 1 n E Wd row k0 r (ps'.map Pn.swap) := by
  have ei : ipn (ps.map Pn.swap) = (ipn ps).map fun u => (u.1, u.2.swap) := by
    unfold ipn
    rw [List.zipIdx_map, List.map_map, List.map_map]
    rfl
  refine ⟨?_, fun p hp => ?_, ?_, fun p hp => ?_, ?_, m.srt, m.cut, ?_⟩
  · obtain ⟨p, hp, e⟩ := m.e1
    exact ⟨p.swap, List.mem_map_of_mem hp, e⟩
  · obtain ⟨q, hq, rfl⟩ := List.mem_map.mp hp
    exact m.e2 q hq
  · obtain ⟨p, hp, e⟩ := m.w1
    exact ⟨p.swap, List.mem_map_of_mem hp, e⟩
  · obtain ⟨q, hq, rfl⟩ := List.mem_map.mp hp
    exact m.w2 q hq
  · rw [ei, List.filter_map, List.map_map]
    exact m.perm
  · rw [m.out, ei, List.map_append, List.map_map, List.map_map]
    congr 1
    refine List.map_congr_left fun u hu => ?_
    show (out 0 E (k0 :: r) u.1 u.2).swap = out 1 E (k0 :: r) u.1 u.2.swap
    unfold out
    by_cases c : nth u.2 (0 + 2) = E ∧ (u.1 : Int) ∉ (k0 :: r).map (·.2)
    · rw [if_pos c, if_pos (show nth u.2.swap (1 + 2) = E ∧ _ from c)]
      rfl
    · rw [if_neg c, if_neg (show ¬ (nth u.2.swap (1 + 2) = E ∧ _) from c)]
theorem made_gr0 {ps ps' : List Pn} {W H E Wd : Int} {n : Nat} {row r : List (Int × Int)} {k0 : Int × Int} (g : Gr ps W H) (m : MadeP ps 0 n E Wd row k0 r ps') : Gr ps' (W + 1) H := by
  have z := (made_gr1 g.swap (made_swap m)).swap
  rw [map_swap2] at z
  exact z
end Geo
set_option Elab.async false
set_option linter.all false
set_option maxRecDepth 100000
set_option maxHeartbeats 8000000
/-! # grown layouts -/
namespace GL
open PySem PySem.Spec PyProof.Rows L2 Geo Rel
abbrev nGrown : List Str := ["jar", "many", "panes", "entries_here", "axis", "entry"]
theorem scGrown : FnScope nGrown ["jar", "many"] (defScope sGrown) := ⟨rfl, rfl, rfl, by decide +kernel, rfl, by decide +kernel, by decide +kernel⟩
/-- how a def of this text stands -/
structure Kd (K : PySem.W.Frag) (mg : Str → Option Value) (x : Str) (f : Addr) (fd : FuncData) (ps : List Str) : Prop where
  g : mg x = some (.ref f)
  k : PySem.W.keepIn K (.ref f) = true
  b : Binds K fd ps []
theorem made_of {zs : List (Addr × Pn)} {ax : Int} {n : Nat} {E W : Int} {row r : List (Int × Int)} {k0 : Int × Int} {ps' : List Pn} (m : Made zs ax n E W row k0 r ps') : MadeP (zs.map (·.2)) ax n E W row k0 r ps' := by
  have ei : ipn (zs.map (·.2)) = (zs.zipIdx.map fun p => (p.2, p.1)).map fun u : Nat × (Addr × Pn) => (u.1, u.2.2) := by
    unfold ipn
    rw [List.zipIdx_map, List.map_map, List.map_map]
    rfl
  refine ⟨?_, fun p hp => ?_, ?_, fun p hp => ?_, ?_, m.srt, m.cut, ?_⟩
  · obtain ⟨z, hz, e⟩ := m.e.1
    exact ⟨z.2, List.mem_map_of_mem hz, e⟩
  · obtain ⟨z, hz, rfl⟩ := List.mem_map.mp hp
    exact m.e.2 z hz
  · obtain ⟨z, hz, e⟩ := m.w.1
    exact ⟨z.2, List.mem_map_of_mem hz, e⟩
  · obtain ⟨z, hz, rfl⟩ := List.mem_map.mp hp
    exact m.w.2 z hz
  · rw [ei, List.filter_map, List.map_map]
    exact m.perm
  · rw [m.out, ei, List.map_map, List.map_map, List.map_map]
    rfl
theorem made_gr {zs : List (Addr × Pn)} {ax : Int} {n : Nat} {E W A B : Int} {row r : List (Int × Int)} {k0 : Int × Int} {ps' : List Pn} (hx : ax = 0 ∨ ax = 1) (g : Gr (zs.map (·.2)) A B) (m : Made zs ax n E W row k0 r ps') : ∃ A' B', Gr ps' A' B' := by
  rcases hx with rfl | rfl
  · exact ⟨_, _, made_gr0 g (made_of m)⟩
  · exact ⟨_, _, made_gr1 g (made_of m)⟩
theorem made_len {zs : List (Addr × Pn)} {ax : Int} {n : Nat} {E W : Int} {row r : List (Int × Int)} {k0 : Int × Int} {ps' : List Pn} (m : Made zs ax n E W row k0 r ps') : ps'.length = zs.length + 1 := by
  rw [m.out]
  simp
theorem But.none {j a : Addr} {H H' : Hp} (b : But j H H') (hj : ∃ o, H' j = some o) (h : H' a = none) : H a = none := by
  obtain ⟨o, ho⟩ := hj
  cases e : H a with
  | none => rfl
  | some u =>
    have n : a ≠ j := fun z => by
      rw [z, ho] at h
      cases h
    rw [b a u n e] at h
    cases h
theorem Jar.some {H : Hp} {j : Addr} {m : Nat} (h : Jar H j m) : ∃ o, H j = some o := by
  obtain ⟨a, b, c, e, _⟩ := h
  exact ⟨_, e⟩
section
variable {P : Program} {w : World} {K : PySem.W.Frag} {mg : Str → Option Value} {base : Heap}
def spGrown : Sp := fun vs H Q _ => ∃ (j : Addr) (many : Int) (m : Nat), vs = [.ref j, .int many] ∧ 1 ≤ many ∧ many ≤ 60 ∧ Jar H j m ∧ m + 120 ≤ 1000000 ∧
  ∀ (H' : Hp) (t l le : Addr) (zs : List (Addr × Pn)) (es : List Int) (A B : Int), But j H H' → Jar H' j (m + 120) → H t = none → H l = none → H' t = some (.tup [.ref l, .ref le]) → H' le = some (.lst (es.map V.int)) → Lay H' l zs → (zs.length : Int) = many → Gr (zs.map (·.2)) A B → Q (.ref t) H'
/-- the layout zs at l, the numbers es at le, at a turn of the loop -/
structure Gw (H H' : Hp) (j : Addr) (l le : Addr) (zs : List (Addr × Pn)) (es : List Int) : Prop where
  but : But j H H'
  l0 : H l = none
  le0 : H le = none
  ll : l ≠ le
  lay : Lay H' l zs
  ent : H' le = some (.lst (es.map V.int))
  el : es.length + 1 = zs.length
  jar : ∃ o, H j = some o
  gr : ∃ A B, Gr (zs.map (·.2)) A B
theorem Gw.ne {H H' : Hp} {j l le : Addr} {zs : List (Addr × Pn)} {es : List Int} (g : Gw H H' j l le zs es) : zs ≠ [] := fun z => by
  have := g.el
  rw [z] at this
  cases this
theorem Gw.same {H H' H2 : Hp} {j l le : Addr} {zs : List (Addr × Pn)} {es : List Int} (g : Gw H H' j l le zs es) (e : Same H' H2) : Gw H H2 j l le zs es :=
  ⟨g.but.same e, g.l0, g.le0, g.ll, g.lay.same e, e _ _ g.ent, g.el, g.jar, g.gr⟩
theorem Gw.dip {H H' H2 : Hp} {j l le : Addr} {m : Nat} {zs : List (Addr × Pn)} {es : List Int} (g : Gw H H' j l le zs es) (hj : Jar H' j m) (b : But j H' H2) : Gw H H2 j l le zs es :=
  ⟨g.but.trans b, g.l0, g.le0, g.ll, g.lay.but hj b g.ne, b _ _ (fun z => by
    obtain ⟨o, ho⟩ := g.jar
    have := g.le0
    rw [z, ho] at this
    cases this) g.ent, g.el, g.jar, g.gr⟩
theorem ok_grown {f fD fB fP : Addr} {fd dD dB dP : FuncData} (F : Fun K "_law_grown" "_law_grown" sGrown f fd)
    (GD : FnOk P w K mg base CX0 1 fD dD ["jar", "many"] spDip) (KD : Kd K mg "_law_dip" fD dD ["jar", "many"])
    (GB : FnOk P w K mg base CX0 1 fB dB ["panes", "axis"] spBorder) (KB : Kd K mg "_law_border" fB dB ["panes", "axis"])
    (GP : FnOk P w K mg base CX0 1 fP dP ["panes", "entry"] spPushed) (KP : Kd K mg "_law_pushed" fP dP ["panes", "entry"]) (m : BI mg) :
    FnOk P w K mg base CX0 2 f fd ["jar", "many"] spGrown := by
  refine F.ok scGrown (fun vs H Q E h => ?_) (fun cdv A outer s H vs Q E hr h => ?_)
  · obtain ⟨j, n, m, rfl, _⟩ := h
    rfl
  · obtain ⟨j, many, mj, rfl, hm1, hm2, hj, hmj, q⟩ := h
    refine ⟨_, pss_cons (ps_par (i := 2) (j := 3) rfl scGrown.nd rfl rfl (by decide) rfl rfl (pa_cons (pe_lst (pa_cons (pe_tup (pa_cons pe_int (pa_cons pe_int (pa_cons pe_int (pa_cons pe_int pa_nil))))) pa_nil)) (pa_cons (pe_lst pa_nil) pa_nil)) (by rfl))
      (pss_cons (ps_while PassesOwn.never (pt_cmpR op_lt (pe_callB call_len_seq (by rfl) m.le PySem.boot_len (pa_cons (pv 2) pa_nil)) (pv 1) (nomark _))
        (pss_cons (ps_set (i := 4) scGrown.nd rfl (Or.inl rfl) (pe_call GD hr (by rfl) KD.g KD.k KD.b .nil pass0 (by exact (pa_cons (pv 0) (pa_cons pe_int pa_nil)))))
        (pss_cons (ps_set (i := 5) scGrown.nd rfl (Or.inl rfl) (pe_op op_add pe_int (pe_call GD hr (by rfl) KD.g KD.k KD.b .nil pass0 (by exact (pa_cons (pv 0) (pa_cons (pe_call GB hr (by rfl) KB.g KB.k KB.b .nil pass0 (by exact (pa_cons (pv 2) (pa_cons (pv 4) pa_nil)))) pa_nil))))))
        (Evl.pss_cut (ps_set (i := 5) scGrown.nd rfl (Or.inl rfl) (pe_ifExp (pt_cmpR op_eq (pv 4) pe_int (nomark _)) (pv 5) (pe_op op_sub pe_int (pv 5))))
        (pss_cons (ps_set (i := 2) scGrown.nd rfl (Or.inl rfl) (pe_call GP hr (by rfl) KP.g KP.k KP.b .nil pass0 (by exact (pa_cons (pv 2) (pa_cons (pv 5) pa_nil)))))
        (pss_one (ps_expr (pe_bm PySem.F.plainAttrs_list PySem.F.slot_list_append PySem.F.type_list_append mt_append (pv 3) (pa_cons (pv 5) pa_nil)))))))))
      (pss_one (ps_ret (pe_tup (pa_cons (pv 2) (pa_cons (pv 3) pa_nil)))))), ?_⟩
    have e200 : (2 : Int) ^ 200 = 1606938044258990275541962092341162602522202993782792835301376 := by decide +kernel
    refine ⟨(show 4 ≤ sizeLine by decide), fun T nT => ⟨(show 1 ≤ sizeLine by decide), fun l nl => ⟨(show 0 ≤ sizeLine by decide), fun le nle => ⟨_, _, rfl, ?_⟩⟩⟩⟩
    have e0 : Same H (upd (upd (upd H T (.tup [.int 0, .int 0, .int 1, .int 1])) l (.lst [.ref T])) le (.lst [])) := ((Evl.Ex.new nT).trans (Evl.Ex.new nl)).trans (Evl.Ex.new nle)
    have e1 : Same H (upd (upd H T (.tup [.int 0, .int 0, .int 1, .int 1])) l (.lst [.ref T])) := (Evl.Ex.new nT).trans (Evl.Ex.new nl)
    have lle : l ≠ le := fun z => by
      rw [← z, upd_same] at nle
      cases nle
    have Tl : T ≠ l := fun z => by
      rw [← z, upd_same] at nl
      cases nl
    have Tle : T ≠ le := fun z => by
      rw [← z, upd_ne Tl, upd_same] at nle
      cases nle
    refine Evl.q_while (fun k σ H' => ∃ (l le : Addr) (zs : List (Addr × Pn)) (es : List Int) (y4 y5 : Option V), σ = [some (.ref j), some (.int many), some (.ref l), some (.ref le), y4, y5] ∧ Gw H H' j l le zs es ∧ Jar H' j (mj + 2 * (zs.length - 1)) ∧ (zs.length : Int) + k = many) (many.toNat - 1)
      ⟨l, le, [(T, ⟨0, 0, 1, 1⟩)], [], none, none, rfl, ⟨Same.but e0, Same.free (Evl.Ex.new nT) nl, Same.free e1 nle, lle, ⟨?_, fun z hz => ?_⟩, ?_, rfl, hj.some, 1, 1, gr_one⟩, ?_, ?_⟩ ?_
    · rw [upd_ne lle, upd_same]
      rfl
    · obtain rfl := List.mem_singleton.mp hz
      rw [upd_ne Tle, upd_ne Tl, upd_same]
      rfl
    · rw [upd_same]
      rfl
    · exact (hj.same e0).mono (by simp)
    · show (1 : Int) + ((many.toNat - 1 : Nat) : Int) = many
      omega
    rintro k σ H1 ⟨l, le, zs, es, y4, y5, rfl, g, hj1, hk⟩
    refine ⟨decide (((zs.map fun z => V.ref z.1).length : Int) < many), Evl.et_test (Evl.ev_op (Evl.ev_len (Evl.ev_var rfl) (SqL.of g.lay.l)) (Evl.ev_var rfl) Evl.rv_I0), fun z H2 e2 => ⟨_, fun _ _ h => h, ?_⟩, fun z H2 e2 => ?_⟩
    · have hlt := of_decide_eq_true z
      rw [List.length_map] at hlt
      have g2 := g.same e2
      have hj2 := hj1.same e2
      have zl : 1 ≤ zs.length := by
        have := g.el
        omega
      refine ⟨.ref j, rfl, j, 2, _, rfl, by decide, by rw [e200]; decide, hj2, by omega, fun H3 ax a0 a1 b3 j3 => ?_⟩
      have g3 := g2.dip hj2 b3
      refine ⟨.ref j, rfl, .ref l, rfl, .int ax, rfl, l, zs, ax, rfl, g3.lay, g3.ne, by omega, ⟨a0, by omega⟩, fun H4 Eb s4 top => ?_⟩
      have g4 := g3.same s4
      have cb : 0 < (zs.filter fun z => decide (cm z.2 (ax + 2) = Eb)).length := by
        obtain ⟨⟨z, hz, e⟩, _⟩ := top
        exact List.length_pos_of_mem (List.mem_filter.mpr ⟨hz, decide_eq_true e⟩)
      have cl : (zs.filter fun z => decide (cm z.2 (ax + 2) = Eb)).length ≤ zs.length := List.length_filter_le _ _
      refine ⟨j, _, _, rfl, (show (0 : Int) < _ by omega), by rw [e200]; omega, j3.same s4, by omega, fun H5 r r0 r1 b5 j5 => ⟨1, r, rfl, rfl, ?_⟩⟩
      have g5 := g4.dip (j3.same s4) b5
      have hx01 : ax = 0 ∨ ax = 1 := by omega
      refine ⟨fun σ' H6 => σ' = [some (.ref j), some (.int many), some (.ref l), some (.ref le), some (.int ax), some (.int (if ax = 1 then 1 + r else 0 - (1 + r)))] ∧ H6 = H5, ?_, ?_⟩
      · refine ⟨.int ax, rfl, rfl, _, rfl, ite2 (fun z => ?_) (fun z => ?_)⟩
        · refine ⟨.int (1 + r), rfl, ?_, rfl⟩
          rw [if_pos (V.int.inj (of_decide_eq_true z))]
          rfl
        · refine ⟨.int (1 + r), rfl, 0, 1 + r, rfl, rfl, ?_, rfl⟩
          rw [if_neg fun y => z (decide_eq_true (by rw [y]))]
          rfl
      rintro σ' H6 ⟨rfl, rfl⟩
      have g6 := g5
      have j6 := j5
      refine ⟨.ref l, rfl, .int (if ax = 1 then 1 + r else 0 - (1 + r)), rfl, l, zs, _, ax, rfl, g6.lay, g6.ne, by omega, by split <;> omega, by split <;> split <;> omega, fun E2 top2 => ?_, fun H7 l' zs' E2 W2 row k0 r2 s7 nl' lay' made => ?_⟩
      · rw [← top_one top top2]
        split <;> omega
      have ml := made_len made
      rw [List.length_map] at ml
      have g7 := g6.same s7
      have hle7 : H7 le = some (.lst (es.map V.int)) := g7.ent
      have hl' : l' ≠ le := fun z => by
        rw [z, g6.ent] at nl'
        cases nl'
      have l'0 : H l' = none := g6.but.none j6.some nl'
      have jle : j ≠ le := fun z => by
        obtain ⟨o, ho⟩ := hj.some
        have := g.le0
        rw [← z, ho] at this
        cases this
      have g7e := g7.el
      refine ⟨.ref le, rfl, .inl ⟨rfl, _, SqL.of hle7⟩, .int (if ax = 1 then 1 + r else 0 - (1 + r)), rfl, le, es.map V.int, _, rfl, rfl, hle7, ?_, k - 1, ?_, l', le, zs', es ++ [if ax = 1 then 1 + r else 0 - (1 + r)], some (.int ax), some (.int (if ax = 1 then 1 + r else 0 - (1 + r))), rfl, ⟨?_, l'0, g.le0, hl', ⟨?_, fun z hz => ?_⟩, ?_, ?_, hj.some, ?_⟩, ?_, ?_⟩
      · rw [List.length_map]
        exact small1000 (by omega)
      · omega
      · intro a o n h
        rw [upd_ne (ne_of_none h g.le0)]
        exact g7.but a o n h
      · rw [upd_ne hl']
        exact lay'.l
      · have t := lay'.t z hz
        rw [upd_ne (fun y => by rw [y, hle7] at t; cases t)]
        exact t
      · rw [upd_same, List.map_append]
        rfl
      · rw [List.length_append, List.length_singleton]
        omega
      · obtain ⟨A, B, gg⟩ := g.gr
        exact made_gr hx01 gg made
      · obtain ⟨a, b, c, e, h1, h2, h3, h4⟩ := j6.same s7
        refine ⟨a, b, c, by rw [upd_ne jle]; exact e, h1, h2, h3, ?_⟩
        rw [ml]
        omega
      · rw [ml]
        omega
    · have hge := of_decide_eq_false z
      rw [List.length_map] at hge
      have g2 := g.same e2
      obtain ⟨A, B, gg⟩ := g.gr
      refine ⟨.ref l, rfl, .ref le, rfl, (show 2 ≤ sizeLine by decide), fun t nt => ?_⟩
      refine q _ t l le zs es A B (g2.but.same (Evl.Ex.new nt)) (((hj1.same e2).same (Evl.Ex.new nt)).mono (by omega)) (g2.but.none (hj1.same e2).some nt) g.l0 upd_same ?_ (g2.lay.same (Evl.Ex.new nt)) (by omega) gg
      exact Evl.Ex.new nt _ _ g2.ent
end
end GL
set_option Elab.async false
set_option linter.all false
set_option maxRecDepth 100000
set_option maxHeartbeats 8000000
/-! # grown layouts, exactly -/
namespace GL
open PySem PySem.Spec PyProof.Rows L2 Geo Rel Bx
theorem lay_snoc (es : List Int) (e : Int) : layF (es ++ [e]) = pushF (layF es) e := by
  unfold layF
  rw [List.foldl_append]
  rfl
theorem lay_bord {es : List Int} {ps : List Pn} {ax Eb : Int} (h : ValidC 1 1 es) (e : ps = layF es) (ne : ps ≠ []) (hx : ax = 0 ∨ ax = 1) (top : Top (fun p : Pn => cm p (ax + 2)) ps Eb) :
    (((ps.filter fun p => decide (cm p (ax + 2) = Eb)).length : Nat) : Int) = (if ax = 1 then (endB 1 1 es).1 else (endB 1 1 es).2) := by
  obtain ⟨plan, W, H, g⟩ := grown_of h
  have z : borderF ps ax = (ps.filter fun p => decide (cm p (ax + 2) = Eb)).length := by
    unfold borderF
    rw [top_one (topF_top ne) top]
  rw [← z, e]
  rcases hx with rfl | rfl
  · rw [if_neg (by decide)]
    exact g.right
  · rw [if_pos rfl]
    exact g.lower
section
variable {P : Program} {w : World} {K : PySem.W.Frag} {mg : Str → Option Value} {base : Heap}
def spGrownE : Sp := fun vs H Q _ => ∃ (j : Addr) (many : Int) (m : Nat), vs = [.ref j, .int many] ∧ 1 ≤ many ∧ many ≤ 60 ∧ Jar H j m ∧ m + 120 ≤ 1000000 ∧
  ∀ (H' : Hp) (t l le : Addr) (es : List Int), But j H H' → Jar H' j (m + 120) → H t = none → H l = none → H le = none → H' t = some (.tup [.ref l, .ref le]) → H' le = some (.lst (es.map V.int)) → Pns H' l (layF es) → (es.length : Int) + 1 = many → ValidC 1 1 es → Q (.ref t) H'
/-- the layout zs at l, the numbers es at le, at a turn of the loop -/
structure GwE (H H' : Hp) (j : Addr) (l le : Addr) (zs : List (Addr × Pn)) (es : List Int) : Prop where
  but : But j H H'
  l0 : H l = none
  le0 : H le = none
  ll : l ≠ le
  lay : Lay H' l zs
  ent : H' le = some (.lst (es.map V.int))
  el : es.length + 1 = zs.length
  jar : ∃ o, H j = some o
  vc : ValidC 1 1 es
  lf : zs.map (·.2) = layF es
theorem GwE.ne {H H' : Hp} {j l le : Addr} {zs : List (Addr × Pn)} {es : List Int} (g : GwE H H' j l le zs es) : zs ≠ [] := fun z => by
  have := g.el
  rw [z] at this
  cases this
theorem GwE.same {H H' H2 : Hp} {j l le : Addr} {zs : List (Addr × Pn)} {es : List Int} (g : GwE H H' j l le zs es) (e : Same H' H2) : GwE H H2 j l le zs es :=
  ⟨g.but.same e, g.l0, g.le0, g.ll, g.lay.same e, e _ _ g.ent, g.el, g.jar, g.vc, g.lf⟩
theorem GwE.dip {H H' H2 : Hp} {j l le : Addr} {m : Nat} {zs : List (Addr × Pn)} {es : List Int} (g : GwE H H' j l le zs es) (hj : Jar H' j m) (b : But j H' H2) : GwE H H2 j l le zs es :=
  ⟨g.but.trans b, g.l0, g.le0, g.ll, g.lay.but hj b g.ne, b _ _ (fun z => by
    obtain ⟨o, ho⟩ := g.jar
    have := g.le0
    rw [z, ho] at this
    cases this) g.ent, g.el, g.jar, g.vc, g.lf⟩
theorem ok_grownE {f fD fB fP : Addr} {fd dD dB dP : FuncData} (F : Fun K "_law_grown" "_law_grown" sGrown f fd)
    (GD : FnOk P w K mg base CX0 1 fD dD ["jar", "many"] spDip) (KD : Kd K mg "_law_dip" fD dD ["jar", "many"])
    (GB : FnOk P w K mg base CX0 1 fB dB ["panes", "axis"] spBorder) (KB : Kd K mg "_law_border" fB dB ["panes", "axis"])
    (GP : FnOk P w K mg base CX0 1 fP dP ["panes", "entry"] spPushed) (KP : Kd K mg "_law_pushed" fP dP ["panes", "entry"]) (m : BI mg) :
    FnOk P w K mg base CX0 2 f fd ["jar", "many"] spGrownE := by
  refine F.ok scGrown (fun vs H Q E h => ?_) (fun cdv A outer s H vs Q E hr h => ?_)
  · obtain ⟨j, n, m, rfl, _⟩ := h
    rfl
  · obtain ⟨j, many, mj, rfl, hm1, hm2, hj, hmj, q⟩ := h
    refine ⟨_, pss_cons (ps_par (i := 2) (j := 3) rfl scGrown.nd rfl rfl (by decide) rfl rfl (pa_cons (pe_lst (pa_cons (pe_tup (pa_cons pe_int (pa_cons pe_int (pa_cons pe_int (pa_cons pe_int pa_nil))))) pa_nil)) (pa_cons (pe_lst pa_nil) pa_nil)) (by rfl))
      (pss_cons (ps_while PassesOwn.never (pt_cmpR op_lt (pe_callB call_len_seq (by rfl) m.le PySem.boot_len (pa_cons (pv 2) pa_nil)) (pv 1) (nomark _))
        (pss_cons (ps_set (i := 4) scGrown.nd rfl (Or.inl rfl) (pe_call GD hr (by rfl) KD.g KD.k KD.b .nil pass0 (by exact (pa_cons (pv 0) (pa_cons pe_int pa_nil)))))
        (pss_cons (ps_set (i := 5) scGrown.nd rfl (Or.inl rfl) (pe_op op_add pe_int (pe_call GD hr (by rfl) KD.g KD.k KD.b .nil pass0 (by exact (pa_cons (pv 0) (pa_cons (pe_call GB hr (by rfl) KB.g KB.k KB.b .nil pass0 (by exact (pa_cons (pv 2) (pa_cons (pv 4) pa_nil)))) pa_nil))))))
        (Evl.pss_cut (ps_set (i := 5) scGrown.nd rfl (Or.inl rfl) (pe_ifExp (pt_cmpR op_eq (pv 4) pe_int (nomark _)) (pv 5) (pe_op op_sub pe_int (pv 5))))
        (pss_cons (ps_set (i := 2) scGrown.nd rfl (Or.inl rfl) (pe_call GP hr (by rfl) KP.g KP.k KP.b .nil pass0 (by exact (pa_cons (pv 2) (pa_cons (pv 5) pa_nil)))))
        (pss_one (ps_expr (pe_bm PySem.F.plainAttrs_list PySem.F.slot_list_append PySem.F.type_list_append mt_append (pv 3) (pa_cons (pv 5) pa_nil)))))))))
      (pss_one (ps_ret (pe_tup (pa_cons (pv 2) (pa_cons (pv 3) pa_nil)))))), ?_⟩
    have e200 : (2 : Int) ^ 200 = 1606938044258990275541962092341162602522202993782792835301376 := by decide +kernel
    refine ⟨(show 4 ≤ sizeLine by decide), fun T nT => ⟨(show 1 ≤ sizeLine by decide), fun l nl => ⟨(show 0 ≤ sizeLine by decide), fun le nle => ⟨_, _, rfl, ?_⟩⟩⟩⟩
    have e0 : Same H (upd (upd (upd H T (.tup [.int 0, .int 0, .int 1, .int 1])) l (.lst [.ref T])) le (.lst [])) := ((Evl.Ex.new nT).trans (Evl.Ex.new nl)).trans (Evl.Ex.new nle)
    have e1 : Same H (upd (upd H T (.tup [.int 0, .int 0, .int 1, .int 1])) l (.lst [.ref T])) := (Evl.Ex.new nT).trans (Evl.Ex.new nl)
    have lle : l ≠ le := fun z => by
      rw [← z, upd_same] at nle
      cases nle
    have Tl : T ≠ l := fun z => by
      rw [← z, upd_same] at nl
      cases nl
    have Tle : T ≠ le := fun z => by
      rw [← z, upd_ne Tl, upd_same] at nle
      cases nle
    refine Evl.q_while (fun k σ H' => ∃ (l le : Addr) (zs : List (Addr × Pn)) (es : List Int) (y4 y5 : Option V), σ = [some (.ref j), some (.int many), some (.ref l), some (.ref le), y4, y5] ∧ GwE H H' j l le zs es ∧ Jar H' j (mj + 2 * (zs.length - 1)) ∧ (zs.length : Int) + k = many) (many.toNat - 1)
      ⟨l, le, [(T, ⟨0, 0, 1, 1⟩)], [], none, none, rfl, ⟨Same.but e0, Same.free (Evl.Ex.new nT) nl, Same.free e1 nle, lle, ⟨?_, fun z hz => ?_⟩, ?_, rfl, hj.some, trivial, rfl⟩, ?_, ?_⟩ ?_
    · rw [upd_ne lle, upd_same]
      rfl
    · obtain rfl := List.mem_singleton.mp hz
      rw [upd_ne Tle, upd_ne Tl, upd_same]
      rfl
    · rw [upd_same]
      rfl
    · exact (hj.same e0).mono (by simp)
    · show (1 : Int) + ((many.toNat - 1 : Nat) : Int) = many
      omega
    rintro k σ H1 ⟨l, le, zs, es, y4, y5, rfl, g, hj1, hk⟩
    refine ⟨decide (((zs.map fun z => V.ref z.1).length : Int) < many), Evl.et_test (Evl.ev_op (Evl.ev_len (Evl.ev_var rfl) (SqL.of g.lay.l)) (Evl.ev_var rfl) Evl.rv_I0), fun z H2 e2 => ⟨_, fun _ _ h => h, ?_⟩, fun z H2 e2 => ?_⟩
    · have hlt := of_decide_eq_true z
      rw [List.length_map] at hlt
      have g2 := g.same e2
      have hj2 := hj1.same e2
      have zl : 1 ≤ zs.length := by
        have := g.el
        omega
      refine ⟨.ref j, rfl, j, 2, _, rfl, by decide, by rw [e200]; decide, hj2, by omega, fun H3 ax a0 a1 b3 j3 => ?_⟩
      have g3 := g2.dip hj2 b3
      refine ⟨.ref j, rfl, .ref l, rfl, .int ax, rfl, l, zs, ax, rfl, g3.lay, g3.ne, by omega, ⟨a0, by omega⟩, fun H4 Eb s4 top => ?_⟩
      have g4 := g3.same s4
      have cb : 0 < (zs.filter fun z => decide (cm z.2 (ax + 2) = Eb)).length := by
        obtain ⟨⟨z, hz, e⟩, _⟩ := top
        exact List.length_pos_of_mem (List.mem_filter.mpr ⟨hz, decide_eq_true e⟩)
      have cl : (zs.filter fun z => decide (cm z.2 (ax + 2) = Eb)).length ≤ zs.length := List.length_filter_le _ _
      refine ⟨j, _, _, rfl, (show (0 : Int) < _ by omega), by rw [e200]; omega, j3.same s4, by omega, fun H5 r r0 r1 b5 j5 => ⟨1, r, rfl, rfl, ?_⟩⟩
      have g5 := g4.dip (j3.same s4) b5
      have hx01 : ax = 0 ∨ ax = 1 := by omega
      refine ⟨fun σ' H6 => σ' = [some (.ref j), some (.int many), some (.ref l), some (.ref le), some (.int ax), some (.int (if ax = 1 then 1 + r else 0 - (1 + r)))] ∧ H6 = H5, ?_, ?_⟩
      · refine ⟨.int ax, rfl, rfl, _, rfl, ite2 (fun z => ?_) (fun z => ?_)⟩
        · refine ⟨.int (1 + r), rfl, ?_, rfl⟩
          rw [if_pos (V.int.inj (of_decide_eq_true z))]
          rfl
        · refine ⟨.int (1 + r), rfl, 0, 1 + r, rfl, rfl, ?_, rfl⟩
          rw [if_neg fun y => z (decide_eq_true (by rw [y]))]
          rfl
      rintro σ' H6 ⟨rfl, rfl⟩
      have g6 := g5
      have j6 := j5
      refine ⟨.ref l, rfl, .int (if ax = 1 then 1 + r else 0 - (1 + r)), rfl, l, zs, _, ax, rfl, g6.lay, g6.ne, by omega, by split <;> omega, by split <;> split <;> omega, fun E2 top2 => ?_, fun H7 l' zs' E2 W2 row k0 r2 s7 nl' lay' made => ?_⟩
      · rw [← top_one top top2]
        split <;> omega
      have ml := made_len made
      rw [List.length_map] at ml
      have g7 := g6.same s7
      have hle7 : H7 le = some (.lst (es.map V.int)) := g7.ent
      have hl' : l' ≠ le := fun z => by
        rw [z, g6.ent] at nl'
        cases nl'
      have l'0 : H l' = none := g6.but.none j6.some nl'
      have jle : j ≠ le := fun z => by
        obtain ⟨o, ho⟩ := hj.some
        have := g.le0
        rw [← z, ho] at this
        cases this
      have g7e := g7.el
      refine ⟨.ref le, rfl, .inl ⟨rfl, _, SqL.of hle7⟩, .int (if ax = 1 then 1 + r else 0 - (1 + r)), rfl, le, es.map V.int, _, rfl, rfl, hle7, ?_, k - 1, ?_, l', le, zs', es ++ [if ax = 1 then 1 + r else 0 - (1 + r)], some (.int ax), some (.int (if ax = 1 then 1 + r else 0 - (1 + r))), rfl, ⟨?_, l'0, g.le0, hl', ⟨?_, fun z hz => ?_⟩, ?_, ?_, hj.some, ?_, ?_⟩, ?_, ?_⟩
      · rw [List.length_map]
        exact small1000 (by omega)
      · omega
      · intro a o n h
        rw [upd_ne (ne_of_none h g.le0)]
        exact g7.but a o n h
      · rw [upd_ne hl']
        exact lay'.l
      · have t := lay'.t z hz
        rw [upd_ne (fun y => by rw [y, hle7] at t; cases t)]
        exact t
      · rw [upd_same, List.map_append]
        rfl
      · rw [List.length_append, List.length_singleton]
        omega
      · have tp := top_map (f := fun p : Pn => cm p (ax + 2)) (g := fun z : Addr × Pn => z.2) top
        have nb := lay_bord g.vc g.lf (fun e => g.ne (List.map_eq_nil_iff.mp e)) hx01 tp
        rw [List.filter_map, List.length_map] at nb
        have nb : (((zs.filter fun z => decide (cm z.2 (ax + 2) = Eb)).length : Nat) : Int) = (if ax = 1 then (endB 1 1 es).1 else (endB 1 1 es).2) := nb
        rw [valid_snoc]
        refine ⟨g.vc, ?_⟩
        unfold numbersF
        rcases hx01 with rfl | rfl
        · rw [if_neg (by decide)] at nb ⊢
          exact List.mem_append_left _ (List.mem_map.mpr ⟨((endB 1 1 es).2 - 1 - r).toNat, List.mem_range.mpr (by omega), by omega⟩)
        · rw [if_pos rfl] at nb ⊢
          exact List.mem_append_right _ (List.mem_map.mpr ⟨r.toNat, List.mem_range.mpr (by omega), by omega⟩)
      · rw [lay_snoc, ← g.lf, made_push made g.ne]
        unfold pushF
        rcases hx01 with rfl | rfl
        · rw [if_neg (by decide), if_neg (by omega)]
        · rw [if_pos rfl, if_pos (by omega)]
      · obtain ⟨a, b, c, e, h1, h2, h3, h4⟩ := j6.same s7
        refine ⟨a, b, c, by rw [upd_ne jle]; exact e, h1, h2, h3, ?_⟩
        rw [ml]
        omega
      · rw [ml]
        omega
    · have hge := of_decide_eq_false z
      rw [List.length_map] at hge
      have g2 := g.same e2
      refine ⟨.ref l, rfl, .ref le, rfl, (show 2 ≤ sizeLine by decide), fun t nt => ?_⟩
      refine q _ t l le es (g2.but.same (Evl.Ex.new nt)) (((hj1.same e2).same (Evl.Ex.new nt)).mono (by omega)) (g2.but.none (hj1.same e2).some nt) g.l0 g.le0 upd_same ?_ (g.lf ▸ lay_pns (g2.lay.same (Evl.Ex.new nt))) (by have := g.el; omega) g.vc
      exact Evl.Ex.new nt _ _ g2.ent
end
end GL
set_option Elab.async false
set_option linter.all false
set_option maxRecDepth 100000
set_option maxHeartbeats 4000000
/-! # lists of whole numbers compared by < -/
namespace SoL
open PySem PySem.Spec PyProof.Rows L2 Rel
theorem data_lt (xs ys : List Int) : PySem.W.dataLt (encL xs) (encL ys) = decide (xs < ys) := by
  have e := PySem.W.dataLe_rows (fun z : List Int => z)
  have e' : PySem.W.dataLe false encL = leL := e
  have z := congrFun (congrFun e' ys) xs
  have z2 : (!PySem.W.dataLt (encL xs) (encL ys)) = decide (ys ≤ xs) := z
  by_cases c : xs < ys
  · rw [decide_eq_true c]
    rw [decide_eq_false (List.not_le.mpr c)] at z2
    simpa using z2
  · rw [decide_eq_false c]
    rw [decide_eq_true (List.not_lt.mp c)] at z2
    simpa using z2
def rLtL (K : PySem.W.Frag) : R2 := fun x y H Q => ∃ (a b : Addr) (ns ms : List Int), x = .ref a ∧ y = .ref b ∧ SqL K H a (ns.map V.int) ∧ SqL K H b (ms.map V.int) ∧ Q (.bl (decide (ns < ms))) H
theorem op_ltL {X : Cx} (hu : X.A.units + 64 < cLine) : OpR X (compareOp .Lt) (rLtL X.K) := by
  intro pins s σ H x y v u Q I rx ry h
  obtain ⟨a, b, ns, ms, rfl, rfl, ha, hb, q⟩ := h
  obtain rfl : v = Value.ref a := rx
  obtain rfl : u = Value.ref b := ry
  obtain ⟨as, ra⟩ := Dp.reads I (encL ns) (.ref a) (.ref a) (.lst ha (dp_ints X.K H ns)) rfl
  obtain ⟨bs, rb⟩ := Dp.reads I (encL ms) (.ref b) (.ref b) (.lst hb (dp_ints X.K H ms)) rfl
  refine PySem.W.lt_data ra rb ?_ (fun e => by cases e) ?_ ?_
  · rw [PySem.W.alike.eq_5]
    exact PySem.W.alike_ints ns ms
  · have : PyData.depth (encL ns) = 1 := by
      show PyData.depthAll (ns.map PyData.int) + 1 = 1
      rw [dep_ints]
    have : PyData.depth (encL ms) = 1 := by
      show PyData.depthAll (ms.map PyData.int) + 1 = 1
      rw [dep_ints]
    omega
  · rw [data_lt]
    exact ⟨.bl (decide (ns < ms)), H, I, rfl, q⟩
theorem rv_ltL {K : PySem.W.Frag} {H : Hp} {a b : Addr} {ns ms : List Int} (ha : H a = some (.lst (ns.map V.int))) (hb : H b = some (.lst (ms.map V.int))) : Evl.RV (rLtL K) (.ref a) (.ref b) H (.bl (decide (ns < ms))) := fun H1 e Q q =>
  ⟨a, b, ns, ms, rfl, rfl, SqL.of (e _ _ ha), SqL.of (e _ _ hb), q H1 (Evl.Ex.refl H1)⟩
end SoL
set_option Elab.async false
set_option linter.all false
set_option maxRecDepth 100000
set_option maxHeartbeats 8000000
/-! # grown layouts in laws: rules -/
namespace GL
open PySem PySem.Spec PyProof.Rows L2 Geo Rel Bx
theorem valid_take : ∀ (i : Nat) (ns : List Int) (lo ri : Int), ValidC lo ri ns → ValidC lo ri (ns.take i)
  | 0, _, _, _, _ => by rw [List.take_zero]; trivial
  | _ + 1, [], _, _, _ => trivial
  | i + 1, n :: ns, lo, ri, h => ⟨h.1, valid_take i ns _ _ h.2⟩
theorem psok {ns plan : List Int} {ps : List Pn} {W H : Int} (g : Grown ns ps plan W H) (hl : ns.length ≤ 900) : PsOk ps W H := by
  have hlen := g.len
  have n0 : 0 < ps.length := by omega
  refine ⟨fun e => by rw [e] at n0; simp at n0, by omega, ⟨⟨getP ps (ps.length - 1), getP_mem (by omega), ?_⟩, fun p hp => ?_⟩, ⟨⟨getP ps (ps.length - 1), getP_mem (by omega), ?_⟩, fun p hp => ?_⟩, fun p hp => ?_⟩
  · have b := g.gs.box (ps.length - 1) (by omega)
    refine Classical.byContradiction fun c => ?_
    have c : ¬(getP ps (ps.length - 1)).x1 = W := c
    obtain ⟨t, ht, _, h1, h2⟩ := g.gs.next (s := ps.length - 1) (by omega) (by omega)
    omega
  · obtain ⟨i, hi, rfl⟩ := mem_getP hp
    exact (g.gs.box i hi).2.2.1
  · have b := g.gs.box (ps.length - 1) (by omega)
    refine Classical.byContradiction fun c => ?_
    have c : ¬(getP ps (ps.length - 1)).y1 = H := c
    obtain ⟨t, ht, _, h1, h2⟩ := g.gs.swap.next (s := ps.length - 1) (by omega) (show (getP ps (ps.length - 1)).y1 < H by omega)
    omega
  · obtain ⟨i, hi, rfl⟩ := mem_getP hp
    exact (g.gs.box i hi).2.2.2.2.2
  · obtain ⟨i, hi, rfl⟩ := mem_getP hp
    have := g.gs.box i hi
    exact ⟨this.2.1, this.2.2.2.2.1⟩
/-- the next number of a code fits the layout so far -/
theorem fit_next {ns : List Int} {i : Nat} {e : Int} (h : ValidC 1 1 ns) (he : ns[i]? = some e) : e ≠ 0 ∧ e.natAbs ≤ borderF (layF (ns.take i)) (if 0 < e then 1 else 0) ∧ layF (ns.take (i + 1)) = pushF (layF (ns.take i)) e := by
  have et : ns.take (i + 1) = ns.take i ++ [e] := by rw [List.take_add_one, he]; rfl
  have hv := valid_take (i + 1) ns 1 1 h
  rw [et, valid_snoc] at hv
  obtain ⟨plan, W, H, g⟩ := grown_of hv.1
  have r := g.right
  have l := g.lower
  have c := num_cases hv.2
  refine ⟨by omega, ?_, by rw [et, lay_snoc]⟩
  by_cases c2 : 0 < e
  · rw [if_pos c2]
    omega
  · rw [if_neg c2]
    omega
theorem lay_len {ns : List Int} (h : ValidC 1 1 ns) : (layF ns).length = ns.length + 1 := by
  obtain ⟨_, _, _, g⟩ := grown_of h
  exact g.len
section
variable {P : Program} {w : World} {K : PySem.W.Frag} {mg : Str → Option Value} {base : Heap} {σ : L2.St} {H : Hp}
theorem it_name {k : Nat} {x : V} {Q : L2.St → Hp → Prop} (h : Q (σ.set k (some x)) H) : gName k x σ H Q := h
theorem rg_eq {n : Nat} : rgV 0 (n : Int) = ((List.range n).map fun i : Nat => (i : Int)).map V.int := by
  unfold rgV
  rw [List.map_map, Int.sub_zero, Int.toNat_natCast]
  exact List.map_congr_left fun i _ => by simp
theorem el_listRg1 {ta : TE} {n : Nat} (ha : Evl.Ev ta σ H (.int (n : Int))) (hn : n ≤ 1000) : Evl.EvL (tLstRg (tRg1 ta)) σ H (((List.range n).map fun i : Nat => (i : Int)).map V.int) := fun H1 e Q q =>
  ha H1 e _ fun H2 e2 => ⟨(n : Int), rfl, RgOk.of_le (by omega) (by omega) (by omega) (by omega), fun r nr => q r _ (Evl.fresh_back e2 nr) (e2.trans (Evl.Ex.new nr)) (by rw [upd_same, rg_eq])⟩
theorem el_sortPm {t : TE} {l : Addr} {plan : List Int} {n : Nat} (h : Evl.Ev t σ H (.ref l)) (hl : H l = some (.lst (plan.map V.int))) (hp : IsPm plan n) : Evl.EvL (tCB (rSortedI K) (tCons t tNil)) σ H (((List.range n).map fun i : Nat => (i : Int)).map V.int) := fun H1 e Q q =>
  el_sortI h hl H1 e Q fun p ms H2 np e2 pm pw hp2 => q p H2 np e2 (by
    have : ms = (List.range n).map fun i : Nat => (i : Int) := by
      refine SoL.perm_eq (r := fun a b : Int => a ≤ b) (fun a b h1 h2 => by omega) pw ?_ (pm.trans (plan_perm hp))
      rw [List.pairwise_map]
      exact List.pairwise_lt_range.imp fun h => by omega
    rw [hp2, this])
theorem ev_op1L {ta tb : TE} {x z : V} {r : R2} {xs : List V} (ha : Evl.Ev ta σ H x) (hb : Evl.EvL tb σ H xs) (h : ∀ p H1, H1 p = some (.lst xs) → Evl.Ex H H1 → Evl.RV r x (.ref p) H1 z) : Evl.Ev (tOp r ta tb) σ H z := fun H1 e Q q =>
  ha H1 e _ fun H2 e2 => hb H2 (e.trans e2) _ fun p H3 np e3 hp => h p H3 hp ((e.trans e2).trans e3) H3 (Evl.Ex.refl H3) Q fun H4 e4 => q H4 ((e2.trans e3).trans e4)
theorem tab_jar {tb j : Addr} {m : Nat} (ht : H tb = some (GnR.TabO tb)) (hj : Jar H j m) : tb ≠ j := fun e => by
  obtain ⟨a, b, c, h, _⟩ := hj
  rw [← e, ht] at h
  cases h
theorem sq_ex {H H' : Hp} {a : Addr} {xs : List V} (h : SqL K H a xs) (e : Evl.Ex H H') : SqL K H' a xs := by
  rcases h with (h | ⟨o, h⟩) | h
  · exact .inl (.inl (e _ _ h))
  · exact .inl (.inr ⟨o, e _ _ h⟩)
  · exact .inr h
theorem jar_ex {H H1 H2 : Hp} {j : Addr} (e : Evl.Ex H H1) (n : H j = none) (b : But j H1 H2) : Evl.Ex H H2 := fun x o h => b x o (fun e' => by
  rw [e', n] at h
  cases h) (e _ _ h)
def rMin2 : List V → Hp → VK → Prop := fun xs H Q => ∃ i j, xs = [V.int i, V.int j] ∧ Q (V.int (if j < i then j else i)) H
theorem ev_min2 {ta tb : TE} {i j : Int} (h1 : Evl.Ev ta σ H (.int i)) (h2 : Evl.Ev tb σ H (.int j)) : Evl.Ev (tCB rMin2 (tCons ta (tCons tb tNil))) σ H (.int (if j < i then j else i)) := Evl.ev_cb (Evl.ea_cons h1 (Evl.ea_cons h2 Evl.ea_nil)) fun H1 e Q q => ⟨i, j, rfl, q H1 (Evl.Ex.refl H1)⟩
end
end GL
set_option Elab.async false
set_option linter.all false
set_option maxRecDepth 100000
set_option maxHeartbeats 8000000
/-! # k10: pattern_in exactly, the law's pattern by trying -/
namespace GL
open PySem PySem.Spec PyProof.Rows L2 Geo Rel Bx Ch3
instance decPt (row : List Int) (i j k : Nat) : Decidable (PtAt row i j k) := by unfold PtAt; infer_instance
section
variable {P : Program} {w : World} {K : PySem.W.Frag} {mg : Str → Option Value} {base : Heap} {σ : L2.St} {H : Hp}
def spPatIn (tb : Addr) : Sp := fun vs H Q _ => ∃ (l : Addr) (row : List Int), vs = [.ref l] ∧ H l = some (.lst (row.map V.int)) ∧ row.length ≤ 1000 ∧ rowB row = true ∧ H tb = some (GnR.TabO tb) ∧ ∀ r v H', Evl.Ex H H' → LeastP row r → optR r v H' → Q v H'
theorem ok_pattern_inE {f f1 f2 : Addr} {fd fd1 fd2 : FuncData} {tb : Addr} (F : Fun K "pattern_in" "pattern_in" s_pattern_in f fd) (C_is_row : Cal P w K mg base "is_row" 2 f1 fd1 ["thing"] (spIsRowA tb)) (C_find_pattern : Cal P w K mg base "find_pattern" 2 f2 fd2 ["row"] spPatE) : FnOk P w K mg base CX0 3 f fd ["row"] (spPatIn tb) := by
  refine F.ok sc_pattern_in (fun vs H Q E h => ?_) (fun cdv A outer s H vs Q E hr h => ?_)
  · obtain ⟨l, row, rfl, _⟩ := h
    rfl
  · obtain ⟨l, row, rfl, hl, hlen, hrow, ht, q⟩ := h
    refine ⟨_, (pss_cons (ps_if (pt_not (pt_val (pe_call C_is_row.G (hr.mono (by decide)) (by rfl) C_is_row.g C_is_row.k C_is_row.b .nil pass0 (by exact (pa_cons (pv 0) pa_nil))))) (pss_one ps_never) pss_nil)
      (pss_one (ps_ret (pe_call C_find_pattern.G (hr.mono (by decide)) (by rfl) C_find_pattern.g C_find_pattern.k C_find_pattern.b .nil pass0 (by exact (pa_cons (pv 0) pa_nil)))))), ?_⟩
    refine Evl.q_when (b := false) (Evl.et_is (Evl.et_not (Evl.et_B (Evl.ev_call (vs := [.ref l]) (z := .bl (rowB row)) (Evl.ea_cons (Evl.ev_var rfl) Evl.ea_nil) fun H1 e1 Q q2 E => ⟨.ref l, _, _, rfl, .num ⟨l, rfl, e1 _ _ hl, hlen⟩, e1 _ _ ht, q2⟩))) (by rw [hrow]; rfl)) (fun h => by cases h) fun _ H1 e1 => ?_
    exact ⟨.ref l, rfl, l, row, rfl, e1 _ _ hl, hlen, pm_of_row hrow, fun r v H2 e2 h1 h2 => q r v H2 (e1.trans e2) h1 h2⟩
theorem ev_ixI {te ti : TE} {l : Addr} {row : List Int} {i : Nat} (h : Evl.Ev te σ H (.ref l)) (hl : H l = some (.lst (row.map V.int))) (hi : Evl.Ev ti σ H (.int (i : Int))) (hlt : i < row.length) : Evl.Ev (tOp (rIxL K) te ti) σ H (.int (row.getD i 0)) :=
  Evl.ev_op h hi (Evl.rv_ixL (SqL.of hl) (atI_nat (by rw [List.getElem?_map, List.getElem?_eq_getElem hlt, getD_eq hlt]; rfl)))
def spLawPat : Sp := fun vs H Q _ => ∃ (l : Addr) (row : List Int), vs = [.ref l] ∧ H l = some (.lst (row.map V.int)) ∧ row.length ≤ 1000 ∧ ∀ r v H', Evl.Ex H H' → LeastP row r → optR r v H' → Q v H'
theorem ok_law_pattern {f : Addr} {fd : FuncData} (F : Fun K "_law_pattern" "_law_pattern" s__law_pattern f fd) (B : BN mg) : FnOk P w K mg base CX0 1 f fd ["row_here"] spLawPat := by
  refine F.ok sc__law_pattern (fun vs H Q E h => ?_) (fun cdv A outer s H vs Q E hr h => ?_)
  · obtain ⟨l, row, rfl, _⟩ := h
    rfl
  · obtain ⟨l, row, rfl, hl, hlen, q⟩ := h
    refine ⟨_, (pss_cons (ps_set (i := 1) sc__law_pattern.nd rfl (.inl rfl) (pe_callB (lenK (K := K) rfl) (by rfl) B.len_ (by decide +kernel) (pa_cons (pv 0) pa_nil)))
      (pss_cons (ps_for PassesOwn.never rfl (pi_range1 (by rfl) B.range_ (pa_cons (pv 1) pa_nil)) (pg_name (i := 2) sc__law_pattern.nd rfl (Or.inl rfl)) (pss_one (ps_for PassesOwn.never rfl (pi_range2 (by rfl) B.range_ (pa_cons (pe_op op_add (pv 2) pe_int) (pa_cons (pe_op op_sub (pv 1) pe_int) pa_nil))) (pg_name (i := 3) sc__law_pattern.nd rfl (Or.inl rfl)) (pss_one (ps_for PassesOwn.never rfl (pi_range2 (by rfl) B.range_ (pa_cons (pe_op op_add (pv 3) pe_int) (pa_cons (pv 1) pa_nil))) (pg_name (i := 4) sc__law_pattern.nd rfl (Or.inl rfl)) (pss_cons (ps_par (i := 5) (j := 6) rfl sc__law_pattern.nd rfl rfl (by decide) rfl rfl (pa_cons (pe_ix (ixLK (K := K) rfl) (pv 0) (pv 2) (fun _ _ => rfl)) (pa_cons (pe_ix (ixLK (K := K) rfl) (pv 0) (pv 4) (fun _ _ => rfl)) pa_nil)) (by rfl))
      (pss_cons (ps_par (i := 7) (j := 8) rfl sc__law_pattern.nd rfl rfl (by decide) rfl rfl (pa_cons (pe_ix (ixLK (K := K) rfl) (pv 0) (pe_op op_add (pv 3) pe_int) (fun _ _ => rfl)) (pa_cons (pe_ix (ixLK (K := K) rfl) (pv 0) (pv 3) (fun _ _ => rfl)) pa_nil)) (by rfl))
      (pss_one (ps_if (PW.pt (pw_or (pt_chain3 op_lt op_lt op_lt (pv 7) (pv 5) (pv 6) (pv 8)) (pw_or1 (pt_chain3 op_lt op_lt op_lt (pv 8) (pv 6) (pv 5) (pv 7))))) (pss_one (ps_ret (pe_tup (pa_cons (pv 2) (pa_cons (pv 3) (pa_cons (pv 4) pa_nil)))))) pss_nil)))))))))
      (pss_one (ps_ret pe_non)))), ?_⟩
    generalize hn : row.length = n at hlen
    refine Evl.q_asg (v := .int (n : Int)) (Evl.ev_is (Evl.ev_len (Evl.ev_var rfl) (SqL.of hl)) (by rw [List.length_map, hn])) fun H1 e1 => ?_
    refine Evl.q_forR1 (n := (n : Int)) (Evl.ea_cons (Evl.ev_var rfl) Evl.ea_nil) (by omega) (fun i σ H' => ∃ o2 o3 o4 o5 o6 o7 o8, σ = [some (.ref l), some (.int (n : Int)), o2, o3, o4, o5, o6, o7, o8] ∧ Evl.Ex H H' ∧ ∀ i' j' k', i' < i → ¬PtAt row i' j' k')
      (fun H2 e2 => ⟨_, _, _, _, _, _, _, rfl, e1.trans e2, fun _ _ _ h => absurd h (Nat.not_lt_zero _)⟩) (fun i σ H2 hi hv => ?_) (fun σ H2 hv => ?_)
    · obtain ⟨o2, o3, o4, o5, o6, o7, o8, rfl, e2, no⟩ := hv
      show tFor _ _ _ _ [some (.ref l), some (.int (n : Int)), some (.int (i : Int)), o3, o4, o5, o6, o7, o8] H2
      refine Evl.s_forR2 (lo := (i : Int) + 1) (n := (n : Int) - 2) (Evl.ea_cons (Evl.ev_op (Evl.ev_var rfl) Evl.ev_c Evl.rv_I0) (Evl.ea_cons (Evl.ev_op (Evl.ev_var rfl) Evl.ev_c Evl.rv_I0) Evl.ea_nil)) (by omega)
        (fun j σ H' => ∃ o3 o4 o5 o6 o7 o8, σ = [some (.ref l), some (.int (n : Int)), some (.int (i : Int)), o3, o4, o5, o6, o7, o8] ∧ Evl.Ex H H' ∧ ∀ j' k', j' < i + 1 + j → ¬PtAt row i j' k')
        (fun H3 e3 => ⟨_, _, _, _, _, _, rfl, e2.trans e3, fun j' k' hj hp => by have := hp.1; omega⟩) (fun j σ H3 hj hv => ?_) (fun σ H3 hv => ?_)
      · obtain ⟨o3, o4, o5, o6, o7, o8, rfl, e3, no2⟩ := hv
        show tFor _ _ _ _ [some (.ref l), some (.int (n : Int)), some (.int (i : Int)), some (.int ((i : Int) + 1 + (j : Int))), o4, o5, o6, o7, o8] H3
        generalize hm : i + 1 + j = m at no2
        rw [show (i : Int) + 1 + (j : Int) = (m : Int) by omega]
        refine Evl.s_forR2 (lo := (m : Int) + 2) (n := (n : Int)) (Evl.ea_cons (Evl.ev_op (Evl.ev_var rfl) Evl.ev_c Evl.rv_I0) (Evl.ea_cons (Evl.ev_var rfl) Evl.ea_nil)) (by omega)
          (fun k σ H' => ∃ o4 o5 o6 o7 o8, σ = [some (.ref l), some (.int (n : Int)), some (.int (i : Int)), some (.int (m : Int)), o4, o5, o6, o7, o8] ∧ Evl.Ex H H' ∧ ∀ k', k' < m + 2 + k → ¬PtAt row i m k')
          (fun H4 e4 => ⟨_, _, _, _, _, rfl, e3.trans e4, fun k' hk hp => by have := hp.2.1; omega⟩) (fun k σ H4 hk hv => ?_) (fun σ H4 hv => ?_)
        · obtain ⟨o4, o5, o6, o7, o8, rfl, e4, no3⟩ := hv
          show tSeq _ _ _ [some (.ref l), some (.int (n : Int)), some (.int (i : Int)), some (.int (m : Int)), some (.int ((m : Int) + 2 + (k : Int))), o5, o6, o7, o8] H4
          generalize hu : m + 2 + k = u at no3
          rw [show (m : Int) + 2 + (k : Int) = (u : Int) by omega]
          have hl4 := e4 _ _ hl
          have ix : ∀ {σ : L2.St} {H' : Hp} {te ti : TE} {x : Nat}, Evl.Ex H4 H' → Evl.Ev te σ H' (.ref l) → Evl.Ev ti σ H' (.int (x : Int)) → x < n → Evl.Ev (tOp (rIxL K) te ti) σ H' (.int (row.getD x 0)) := fun {σ H' te ti x} e h1 h2 h3 => ev_ixI h1 (e _ _ hl4) h2 (by omega)
          refine q_parI (ix (Evl.Ex.refl _) (Evl.ev_var rfl) (Evl.ev_var rfl) (by omega)) (fun H5 e5 => ix e5 (Evl.ev_var rfl) (Evl.ev_var rfl) (by omega)) fun H5 e5 => ?_
          refine q_parI (ix e5 (Evl.ev_var rfl) (Evl.ev_is (Evl.ev_op (Evl.ev_var rfl) Evl.ev_c Evl.rv_I0) (by show V.int ((m : Int) + 1) = V.int ((m + 1 : Nat) : Int); congr 1)) (by omega)) (fun H6 e6 => ix (e5.trans e6) (Evl.ev_var rfl) (Evl.ev_var rfl) (by omega)) fun H6 e6 => ?_
          refine Evl.s_when (b := decide (PtAt row i m u)) (Evl.et_is (Evl.et_or (et_chain3 (Evl.ev_var rfl) (Evl.ev_var rfl) (Evl.ev_var rfl) (Evl.ev_var rfl)) (fun _ => et_chain3 (Evl.ev_var rfl) (Evl.ev_var rfl) (Evl.ev_var rfl) (Evl.ev_var rfl))) ?_) (fun hb H7 e7 => ?_) (fun hb H7 e7 => ?_)
          · rw [← Bool.decide_or]
            refine decide_eq_decide.mpr ⟨fun h => ⟨by omega, by omega, by omega, ?_⟩, fun h => ?_⟩
            · exact h
            · exact h.2.2.2
          · have hp := of_decide_eq_true hb
            refine Evl.s_retU (Evl.eu_tup (vs := [.int (i : Int), .int (m : Int), .int (u : Int)]) (Evl.ea_cons (Evl.ev_var rfl) (Evl.ea_cons (Evl.ev_var rfl) (Evl.ea_cons (Evl.ev_var rfl) Evl.ea_nil))) (by show 3 ≤ 100000; decide)) fun t H8 nt e8 ht => ?_
            refine q (some [(i : Int), (m : Int), (u : Int)]) (.ref t) H8 ((((e4.trans e5).trans e6).trans e7).trans e8) ⟨i, m, u, rfl, hp, fun i' j' k' hp' => ?_⟩ ⟨t, rfl, ht⟩
            by_cases c1 : i' < i
            · exact absurd hp' (no i' j' k' c1)
            · by_cases c2 : i < i'
              · exact .inl c2
              · obtain rfl : i = i' := by omega
                by_cases c3 : j' < m
                · exact absurd hp' (no2 j' k' c3)
                · by_cases c4 : m < j'
                  · exact .inr ⟨rfl, .inl c4⟩
                  · obtain rfl : m = j' := by omega
                    by_cases c5 : k' < u
                    · exact absurd hp' (no3 k' c5)
                    · exact .inr ⟨rfl, .inr ⟨rfl, by omega⟩⟩
          · have hp := of_decide_eq_false hb
            refine ⟨_, _, _, _, _, rfl, ((e4.trans e5).trans e6).trans e7, fun k' hk' hp' => ?_⟩
            by_cases c : k' < u
            · exact no3 k' c hp'
            · obtain rfl : k' = u := by omega
              exact hp hp'
        · obtain ⟨o4, o5, o6, o7, o8, rfl, e4, no3⟩ := hv
          refine ⟨_, _, _, _, _, _, rfl, e4, fun j' k' hj' hp => ?_⟩
          by_cases c : j' < m
          · exact no2 j' k' c hp
          · obtain rfl : j' = m := by omega
            refine no3 k' ?_ hp
            have := hp.2.2.1
            omega
      · obtain ⟨o3, o4, o5, o6, o7, o8, rfl, e3, no2⟩ := hv
        refine ⟨_, _, _, _, _, _, _, rfl, e3, fun i' j' k' hi' hp => ?_⟩
        by_cases c : i' < i
        · exact no i' j' k' c hp
        · obtain rfl : i' = i := by omega
          refine no2 j' k' ?_ hp
          have h1 := hp.2.1
          have h2 := hp.2.2.1
          have h3 := hp.1
          omega
    · obtain ⟨o2, o3, o4, o5, o6, o7, o8, rfl, e2, no⟩ := hv
      refine Evl.s_ret Evl.ev_c fun H3 e3 => q none .non H3 (e2.trans e3) (fun i j k hp => ?_) rfl
      refine no i j k ?_ hp
      have h1 := hp.1
      have h2 := hp.2.1
      have h3 := hp.2.2.1
      omega
end
end GL
set_option Elab.async false
set_option linter.all false
set_option maxRecDepth 100000
set_option maxHeartbeats 8000000
/-! # k36: all rows of so many panes; a row without one -/
namespace GL
open PySem PySem.Spec PyProof.Rows L2 Geo Rel
section
variable {P : Program} {w : World} {K : PySem.W.Frag} {mg : Str → Option Value} {base : Heap} {σ : L2.St} {H : Hp}
theorem evr_lstI {te : TE} {ns : List Int} (h : Evl.EvL te σ H (ns.map V.int)) : EvR te σ H (lstI ns) := fun H1 e Q q => h H1 e _ fun p H2 np e2 hp => q (.ref p) H2 e2 ⟨p, rfl, hp⟩
def insL (t : Nat) (one : List Int) (s : Nat) : List Int := one.take s ++ [(t : Int)] ++ one.drop s
def partL (t : Nat) (one : List Int) (j : Nat) : List (List Int) := (List.range j).map (insL t one)
def listsF : Nat → List (List Int)
  | 0 => [[]]
  | t + 1 => (listsF t).flatMap fun one => partL t one (t + 1)
theorem lists_len : ∀ (t : Nat), ∀ z ∈ listsF t, z.length = t
  | 0, z, h => by
    rw [List.mem_singleton.mp h]
    rfl
  | t + 1, z, h => by
    obtain ⟨o, ho, hz⟩ := List.mem_flatMap.mp h
    obtain ⟨s, hs, rfl⟩ := List.mem_map.mp hz
    have := lists_len t o ho
    have := List.mem_range.mp hs
    unfold insL
    simp
    omega
theorem lists_le : ∀ t : Fin 7, (listsF t.val).length ≤ 720 := by decide +kernel
abbrev KL (D : Addr) (z : List Int) (v : V) (H : Hp) : Prop := lstI z v (hide D H)
theorem rl_kl {H H' : Hp} {D : Addr} {us : List (List Int)} {xs : List V} (h : Paired (fun y z => KL D z y H) xs us) (b : But1 D H H') : Paired (fun y z => KL D z y H') xs us := by
  induction h with
  | nil => exact .nil
  | cons h _ ih => exact .cons (lstI_e _ _ _ _ (hide_but b) h) ih
theorem unhideL {H : Hp} {D l : Addr} {us : List (List Int)} (h : RL (KL D) H l us) : RL lstI H l us := by
  obtain ⟨ys, h1, h2⟩ := h
  refine ⟨ys, h1, ?_⟩
  clear h1
  induction h2 with
  | nil => exact .nil
  | cons h _ ih => exact .cons (lstI_e _ _ _ _ hide_ex h) ih
theorem cut_to {xs : List V} {s : Nat} (h : s ≤ xs.length) : cutV xs none (some (s : Int)) = xs.take s := by
  unfold cutV HT.sIx
  simp [Nat.min_eq_left h, show ¬((s : Int) < 0) by omega]
theorem cut_atN {xs : List V} {s : Nat} (h : s ≤ xs.length) : cutV xs (some (s : Int)) none = xs.drop s := by
  unfold cutV HT.sIx
  simp [Nat.min_eq_left h, show ¬((s : Int) < 0) by omega]
  exact List.take_of_length_le (by rw [List.length_drop]; exact Nat.le_refl _)
def spLists : Sp := fun vs H Q _ => ∃ (m : Nat), vs = [.int (m : Int)] ∧ m ≤ 6 ∧ ∀ H' l, Evl.Ex H H' → H l = none → RL lstI H' l (listsF m) → Q (.ref l) H'
theorem ok_lists {f : Addr} {fd : FuncData} (F : Fun K "_law_lists" "_law_lists" s__law_lists f fd) (B : BN mg) : FnOk P w K mg base CX0 1 f fd ["many"] spLists := by
  refine F.ok sc__law_lists (fun vs H Q E h => ?_) (fun cdv A outer s H vs Q E hr h => ?_)
  · obtain ⟨m, rfl, _⟩ := h
    rfl
  · obtain ⟨m, rfl, hm, q⟩ := h
    refine ⟨_, (pss_cons (ps_set (i := 1) sc__law_lists.nd rfl (.inl rfl) (pe_lst (pa_cons (pe_lst pa_nil) pa_nil)))
      (pss_cons (ps_for PassesOwn.never rfl (pi_range1 (by rfl) B.range_ (pa_cons (pv 0) pa_nil)) (pg_name (i := 2) sc__law_lists.nd rfl (Or.inl rfl)) (pss_cons (ps_set (i := 3) sc__law_lists.nd rfl (.inl rfl) (pe_lst pa_nil))
      (pss_cons (ps_for PassesOwn.never rfl (pi_list (pv 1)) (pg_name (i := 4) sc__law_lists.nd rfl (Or.inl rfl)) (pss_one (ps_for PassesOwn.never rfl (pi_range1 (by rfl) B.range_ (pa_cons (pe_op op_add (pv 2) pe_int) pa_nil)) (pg_name (i := 5) sc__law_lists.nd rfl (Or.inl rfl)) (pss_one (ps_expr (pe_bm PySem.F.plainAttrs_list PySem.F.slot_list_append PySem.F.type_list_append mt_append (pv 3) (pa_cons (pe_op op_cat (pe_op op_cat (pe_slice sl_list (pv 4) po_none (po_some (pv 5))) (pe_lst (pa_cons (pv 2) pa_nil))) (pe_slice sl_list (pv 4) (po_some (pv 5)) po_none)) pa_nil)))))))
      (pss_one (ps_set (i := 1) sc__law_lists.nd rfl (.inl rfl) (pv 3))))))
      (pss_one (ps_ret (pv 1))))), ?_⟩
    refine q_asgRL (R := lstI) (zs := listsF 0) (er_lst lstI_e (ear_cons lstI_e (evr_lstI (ns := []) (Evl.el_lst Evl.ea_nil (by decide))) ear_nil) (by decide)) fun f0 H1 nf e1 hf => ?_
    refine Evl.q_forR1 (n := (m : Int)) (Evl.ea_cons (Evl.ev_var rfl) Evl.ea_nil) (by omega) (fun i σ H' => ∃ fa o2 o3 o4 o5, σ = [some (.int (m : Int)), some (.ref fa), o2, o3, o4, o5] ∧ Evl.Ex H H' ∧ H fa = none ∧ RL lstI H' fa (listsF i))
      (fun H2 e2 => ⟨_, _, _, _, _, rfl, e1.trans e2, nf, hf.ex lstI_e e2⟩) (fun i σ H2 hi hv => ?_) (fun σ H2 hv => ?_)
    · obtain ⟨fa, o2, o3, o4, o5, rfl, e2, nfa, hfa⟩ := hv
      show tSeq _ _ _ [some (.int (m : Int)), some (.ref fa), some (.int (i : Int)), o3, o4, o5] H2
      refine Evl.q_asgL (xs := []) (Evl.el_lst Evl.ea_nil (by decide)) fun Dl H3 nD e3 hD => ?_
      have hi5 : i < 6 := by omega
      refine q_forRLn (K := K) (R := KL Dl) (zs := listsF i) (p := fa) (Evl.ev_var rfl) (fun k σ H4 => ∃ o4 o5, σ = [some (.int (m : Int)), some (.ref fa), some (.int (i : Int)), some (.ref Dl), o4, o5] ∧ Evl.Ex H2 H4 ∧ RL (KL Dl) H4 Dl (((listsF i).take k).flatMap fun one => partL i one (i + 1)))
        (fun H4 e4 => ⟨_, _, rfl, e3.trans e4, ⟨[], e4 _ _ hD, .nil⟩⟩) (fun k σ H4 _ hv => ?_) (fun k z y σ H4 hz hy hv => ?_) (fun σ H4 hv => ?_)
      · obtain ⟨_, _, _, e4, _⟩ := hv
        have e5 : Evl.Ex H2 (hide Dl H4) := fun p o h => hide_of (fun e => by
          rw [e, nD] at h
          cases h) (e4 _ _ h)
        obtain ⟨ys, h1, h2⟩ := hfa.ex lstI_e e5
        exact ⟨ys, hide_ex _ _ h1, h2⟩
      · obtain ⟨o4, o5, rfl, e4, hDl⟩ := hv
        obtain ⟨a, rfl, ha'⟩ := hy
        have hzl := lists_len i z (List.mem_of_getElem? hz)
        have pre : ∀ j, j ≤ i + 1 → (((listsF i).take k).flatMap fun one => partL i one (i + 1)).length + (partL i z j).length ≤ 720 := fun j hj => by
          have h1 : (partL i z j).length ≤ (partL i z (i + 1)).length := by
            unfold partL
            rw [List.length_map, List.length_map, List.length_range, List.length_range]
            exact hj
          have h2 : (listsF (i + 1)).length = ((((listsF i).take k) ++ (listsF i).drop k).flatMap fun one => partL i one (i + 1)).length := by rw [List.take_append_drop]; rfl
          have h3 : (listsF i).drop k = z :: (listsF i).drop (k + 1) := by
            obtain ⟨hk, e⟩ := List.getElem?_eq_some_iff.mp hz
            rw [← e]
            exact List.drop_eq_getElem_cons hk
          have h4 := lists_le ⟨i + 1, by omega⟩
          rw [h2, h3, List.flatMap_append, List.flatMap_cons, List.length_append, List.length_append] at h4
          omega
        rw [show ((listsF i).take (k + 1)) = (listsF i).take k ++ [z] by rw [List.take_add_one, hz]; rfl, List.flatMap_append, List.flatMap_cons, List.flatMap_nil, List.append_nil]
        generalize ((listsF i).take k).flatMap (fun one => partL i one (i + 1)) = dn at hDl pre
        show tFor _ _ _ _ [some (.int (m : Int)), some (.ref fa), some (.int (i : Int)), some (.ref Dl), some (.ref a), o5] H4
        refine Evl.s_forR1 (n := (i : Int) + 1) (Evl.ea_cons (Evl.ev_op (Evl.ev_var rfl) Evl.ev_c Evl.rv_I0) Evl.ea_nil) (by omega)
          (fun j σ H5 => ∃ o5, σ = [some (.int (m : Int)), some (.ref fa), some (.int (i : Int)), some (.ref Dl), some (.ref a), o5] ∧ Evl.Ex H2 H5 ∧ hide Dl H5 a = some (.lst (z.map V.int)) ∧ RL (KL Dl) H5 Dl (dn ++ partL i z j))
          (fun H5 e5 => ⟨_, rfl, e4.trans e5, hide_but (But1.of e5) _ _ ha', ?_⟩) (fun j σ H5 hj hv => ?_) (fun σ H5 hv => ?_)
        · have hd0 : dn ++ partL i z 0 = dn := List.append_nil _
          rw [hd0]
          obtain ⟨ys, h1, h2⟩ := hDl
          exact ⟨ys, e5 _ _ h1, rl_kl h2 (But1.of e5)⟩
        · obtain ⟨o5, rfl, e5, ha5', ⟨ys, hy1, hy2⟩⟩ := hv
          have ha5 := hide_ex _ _ ha5'
          have hlen := pr_len hy2
          have hpre := pre j (by omega)
          rw [← List.length_append] at hpre
          have hstep : partL i z (j + 1) = partL i z j ++ [insL i z j] := by
            unfold partL
            rw [List.range_succ, List.map_append]
            rfl
          rw [hstep]
          show tDrop _ _ [some (.int (m : Int)), some (.ref fa), some (.int (i : Int)), some (.ref Dl), some (.ref a), some (.int (j : Int))] H5
          have hjz : j ≤ (z.map V.int).length := by rw [List.length_map]; omega
          have el : Evl.EvL (tOp rCat (tOp rCat (tSl (rSlL K) (tVar 4) tNoPart (tPart (tVar 5))) (tLst (tCons (tVar 2) tNil))) (tSl (rSlL K) (tVar 4) (tPart (tVar 5)) tNoPart)) [some (.int (m : Int)), some (.ref fa), some (.int (i : Int)), some (.ref Dl), some (.ref a), some (.int (j : Int))] H5 ((insL i z j).map V.int) := by
            have z1 := Evl.el_sl (K := K) (σ := [some (.int (m : Int)), some (.ref fa), some (.int (i : Int)), some (.ref Dl), some (.ref a), some (.int (j : Int))]) (H := H5) (te := tVar 4) (tl := tNoPart) (th := tPart (tVar 5)) (a := a) (xs := z.map V.int) (lo := none) (hi := some (j : Int)) (Evl.ev_var rfl) Evl.eo_none (Evl.eo_some (Evl.ev_var rfl)) (SqL.of ha5)
            have z2 := Evl.el_sl (K := K) (σ := [some (.int (m : Int)), some (.ref fa), some (.int (i : Int)), some (.ref Dl), some (.ref a), some (.int (j : Int))]) (H := H5) (te := tVar 4) (tl := tPart (tVar 5)) (th := tNoPart) (a := a) (xs := z.map V.int) (lo := some (j : Int)) (hi := none) (Evl.ev_var rfl) (Evl.eo_some (Evl.ev_var rfl)) Evl.eo_none (SqL.of ha5)
            rw [cut_to hjz] at z1
            rw [cut_atN hjz] at z2
            have z0 : Evl.EvL (tLst (tCons (tVar 2) tNil)) [some (.int (m : Int)), some (.ref fa), some (.int (i : Int)), some (.ref Dl), some (.ref a), some (.int (j : Int))] H5 [.int (i : Int)] := Evl.el_lst (Evl.ea_cons (Evl.ev_var rfl) Evl.ea_nil) (by show 1 ≤ 100000; decide)
            have z3 := el_catN (el_catN z1 z0 (by simp; omega)) z2 (by simp; omega)
            unfold insL
            rw [List.map_append, List.map_append, List.map_take, List.map_drop]
            exact z3
          refine s_appN (R := fun v H7 => ∃ p, v = .ref p ∧ H7 p = some (.lst ((insL i z j).map V.int)) ∧ p ≠ Dl) hy1 (Evl.ev_var rfl) (fun H7 e7 Q q => el H7 e7 _ fun p H8 np e8 hp => q (.ref p) H8 e8 ⟨p, rfl, hp, fun e => by
            rw [e, e7 _ _ hy1] at np
            cases np⟩) (by omega) fun v H7 e7 hv => ?_
          obtain ⟨p, rfl, hp, npD⟩ := hv
          have b : But1 Dl H5 (upd H7 Dl (.lst (ys ++ [.ref p]))) := (But1.of e7).upd
          refine ⟨_, rfl, b.ex nD e5, hide_but b _ _ ha5', ys ++ [.ref p], upd_same, ?_⟩
          rw [← List.append_assoc]
          exact pr_app (rl_kl hy2 b) (.cons ⟨p, rfl, hide_of npD (by rw [upd_ne npD]; exact hp)⟩ .nil)
        · obtain ⟨o5, rfl, e5, _, hr⟩ := hv
          rw [show ((i : Int) + 1).toNat = i + 1 by omega] at hr
          exact ⟨_, _, rfl, e5, hr⟩
      · obtain ⟨o4, o5, rfl, e4, hDl⟩ := hv
        rw [List.take_length] at hDl
        exact Evl.s_asg (Evl.ev_var rfl) fun H5 e5 => ⟨Dl, _, _, _, _, rfl, (e2.trans e4).trans e5, Evl.fresh_back e2 nD, (unhideL hDl).ex lstI_e e5⟩
    · obtain ⟨fa, o2, o3, o4, o5, rfl, e2, nfa, hfa⟩ := hv
      rw [Int.toNat_natCast] at hfa
      exact Evl.s_ret (Evl.ev_var rfl) fun H3 e3 => q H3 fa (e2.trans e3) nfa (hfa.ex lstI_e e3)
end
end GL
set_option Elab.async false
set_option linter.all false
set_option maxRecDepth 100000
set_option maxHeartbeats 8000000
/-! # k10: all layouts of so many panes, grown -/
namespace GL
open PySem PySem.Spec PyProof.Rows L2 Geo Rel Bx
def lowP (ps : List Pn) (j : Nat) : List (List Pn) := (List.range j).map fun i : Nat => pushF ps (1 + (i : Int))
def rigP (ps : List Pn) (j : Nat) : List (List Pn) := (List.range j).map fun i : Nat => pushF ps (0 - (1 + (i : Int)))
def nextP (ps : List Pn) : List (List Pn) := lowP ps (borderF ps 1) ++ rigP ps (borderF ps 0)
def gridF : Nat → List (List Pn)
  | 0 => [[⟨0, 0, 1, 1⟩]]
  | n + 1 => (gridF n).flatMap nextP
theorem grid_len : ∀ n, ∀ ps ∈ gridF n, ps.length = n + 1
  | 0, ps, h => by rw [List.mem_singleton.mp h]; rfl
  | n + 1, ps, h => by
    obtain ⟨qs, hq, h⟩ := List.mem_flatMap.mp h
    have hl := grid_len n qs hq
    unfold nextP lowP rigP at h
    rcases List.mem_append.mp h with h | h
    · obtain ⟨i, _, rfl⟩ := List.mem_map.mp h
      unfold pushF
      rw [pushA_len, hl]
    · obtain ⟨i, _, rfl⟩ := List.mem_map.mp h
      unfold pushF
      rw [pushA_len, hl]
def layR (ps : List Pn) (v : V) (H : Hp) : Prop := ∃ b, v = .ref b ∧ Pns H b ps
theorem layR_e : MonoE layR := fun z v H H' e ⟨b, h1, h2⟩ => ⟨b, h1, h2.ex panR_e e⟩
abbrev KG (D : Addr) (z : List Pn) (v : V) (H : Hp) : Prop := layR z v (hide D H)
theorem rl_kg {H H' : Hp} {D : Addr} {us : List (List Pn)} {xs : List V} (h : Paired (fun y z => KG D z y H) xs us) (b : But1 D H H') : Paired (fun y z => KG D z y H') xs us := by
  induction h with
  | nil => exact .nil
  | cons h _ ih => exact .cons (layR_e _ _ _ _ (hide_but b) h) ih
theorem unhideY {H : Hp} {D l : Addr} {us : List (List Pn)} (h : RL (KG D) H l us) : RL layR H l us := by
  obtain ⟨ys, h1, h2⟩ := h
  refine ⟨ys, h1, ?_⟩
  clear h1
  induction h2 with
  | nil => exact .nil
  | cons h _ ih => exact .cons (layR_e _ _ _ _ hide_ex h) ih
theorem kg_of {H : Hp} {D b : Addr} {ps : List Pn} {xs : List V} (hD : H D = some (.lst xs)) (hb : Pns H b ps) (nb : b ≠ D) : KG D ps (.ref b) H := by
  refine ⟨b, rfl, ?_⟩
  obtain ⟨ys, h1, h2⟩ := hb
  refine ⟨ys, hide_of nb h1, ?_⟩
  clear h1
  induction h2 with
  | nil => exact .nil
  | cons h _ ih =>
    obtain ⟨T, rfl, hT⟩ := h
    exact .cons ⟨T, rfl, hide_of (fun e => by rw [e, hD] at hT; cases hT) hT⟩ ih
section
variable {P : Program} {w : World} {K : PySem.W.Frag} {mg : Str → Option Value} {base : Heap} {σ : L2.St} {H : Hp}
def spAllG : Sp := fun vs H Q _ => ∃ (m : Nat), vs = [.int (m : Int)] ∧ 1 ≤ m ∧ m ≤ 100 ∧ (∀ i < m, (gridF i).length < 40000) ∧ ∀ H' l, Evl.Ex H H' → H l = none → RL layR H' l (gridF (m - 1)) → Q (.ref l) H'
theorem ok_all_grown {f f1 f2 : Addr} {fd fd1 fd2 : FuncData} (F : Fun K "_law_all_grown" "_law_all_grown" s__law_all_grown f fd) (B : BN mg) (C__law_border : Cal P w K mg base "_law_border" 1 f1 fd1 ["panes", "axis"] spBorderE) (C__law_pushed : Cal P w K mg base "_law_pushed" 1 f2 fd2 ["panes", "entry"] spPushedE) :
    FnOk P w K mg base CX0 2 f fd ["many"] spAllG := by
  refine F.ok sc__law_all_grown (fun vs H Q E h => ?_) (fun cdv A outer s H vs Q E hr h => ?_)
  · obtain ⟨m, rfl, _⟩ := h
    rfl
  · obtain ⟨m, rfl, m1, m100, hsz, q⟩ := h
    refine ⟨_, (pss_cons (ps_set (i := 1) sc__law_all_grown.nd rfl (.inl rfl) (pe_lst (pa_cons (pe_lst (pa_cons (pe_tup (pa_cons pe_int (pa_cons pe_int (pa_cons pe_int (pa_cons pe_int pa_nil))))) pa_nil)) pa_nil)))
      (pss_cons (ps_for PassesOwn.never rfl (pi_range1 (by rfl) B.range_ (pa_cons (pe_op op_sub (pv 0) pe_int) pa_nil)) (pg_name (i := 2) sc__law_all_grown.nd rfl (Or.inl rfl)) (pss_cons (ps_set (i := 3) sc__law_all_grown.nd rfl (.inl rfl) (pe_lst pa_nil))
      (pss_cons (ps_for PassesOwn.never rfl (pi_list (pv 1)) (pg_name (i := 4) sc__law_all_grown.nd rfl (Or.inl rfl)) (pss_cons (ps_for PassesOwn.never rfl (pi_range2 (by rfl) B.range_ (pa_cons pe_int (pa_cons (pe_op op_add (pe_call C__law_border.G (hr.mono (by decide)) (by rfl) C__law_border.g C__law_border.k C__law_border.b .nil pass0 (by exact (pa_cons (pv 4) (pa_cons pe_int pa_nil)))) pe_int) pa_nil))) (pg_name (i := 5) sc__law_all_grown.nd rfl (Or.inl rfl)) (pss_one (ps_expr (pe_bm PySem.F.plainAttrs_list PySem.F.slot_list_append PySem.F.type_list_append mt_append (pv 3) (pa_cons (pe_call C__law_pushed.G (hr.mono (by decide)) (by rfl) C__law_pushed.g C__law_pushed.k C__law_pushed.b .nil pass0 (by exact (pa_cons (pv 4) (pa_cons (pv 5) pa_nil)))) pa_nil)))))
      (pss_one (ps_for PassesOwn.never rfl (pi_range2 (by rfl) B.range_ (pa_cons pe_int (pa_cons (pe_op op_add (pe_call C__law_border.G (hr.mono (by decide)) (by rfl) C__law_border.g C__law_border.k C__law_border.b .nil pass0 (by exact (pa_cons (pv 4) (pa_cons pe_int pa_nil)))) pe_int) pa_nil))) (pg_name (i := 5) sc__law_all_grown.nd rfl (Or.inl rfl)) (pss_one (ps_expr (pe_bm PySem.F.plainAttrs_list PySem.F.slot_list_append PySem.F.type_list_append mt_append (pv 3) (pa_cons (pe_call C__law_pushed.G (hr.mono (by decide)) (by rfl) C__law_pushed.g C__law_pushed.k C__law_pushed.b .nil pass0 (by exact (pa_cons (pv 4) (pa_cons (pe_op op_sub pe_int (pv 5)) pa_nil)))) pa_nil))))))))
      (pss_one (ps_set (i := 1) sc__law_all_grown.nd rfl (.inl rfl) (pv 3))))))
      (pss_one (ps_ret (pv 1))))), ?_⟩
    have init : EvRL (tLst (tCons (tLst (tCons (tTup (tCons (tC (.int 0)) (tCons (tC (.int 0)) (tCons (tC (.int 1)) (tCons (tC (.int 1)) tNil))))) tNil)) tNil)) [some (.int (m : Int)), none, none, none, none, none] H layR (gridF 0) := fun H1 e Q q =>
      ⟨(show 4 ≤ sizeLine by decide), fun T nT => ⟨(show 1 ≤ sizeLine by decide), fun b nb => ⟨(show 1 ≤ sizeLine by decide), fun l nl => q l _ (Evl.fresh_back (Evl.Ex.new nT) (Evl.fresh_back (Evl.Ex.new nb) nl)) (((Evl.Ex.new nT).trans (Evl.Ex.new nb)).trans (Evl.Ex.new nl))
        ⟨[.ref b], upd_same, .cons ⟨b, rfl, ⟨[.ref T], Evl.Ex.new nl _ _ upd_same, .cons ⟨T, rfl, ((Evl.Ex.new nb).trans (Evl.Ex.new nl)) _ _ upd_same⟩ .nil⟩⟩ .nil⟩⟩⟩⟩
    refine q_asgRL init fun f0 H1 nf e1 hf => ?_
    refine Evl.q_forR1 (n := (m : Int) - 1) (Evl.ea_cons (Evl.ev_op (Evl.ev_var rfl) Evl.ev_c Evl.rv_I0) Evl.ea_nil) (by omega) (fun i σ H' => ∃ fa o2 o3 o4 o5, σ = [some (.int (m : Int)), some (.ref fa), o2, o3, o4, o5] ∧ Evl.Ex H H' ∧ H fa = none ∧ RL layR H' fa (gridF i))
      (fun H2 e2 => ⟨_, _, _, _, _, rfl, e1.trans e2, nf, hf.ex layR_e e2⟩) (fun i σ H2 hi hv => ?_) (fun σ H2 hv => ?_)
    · obtain ⟨fa, o2, o3, o4, o5, rfl, e2, nfa, hfa⟩ := hv
      show tSeq _ _ _ [some (.int (m : Int)), some (.ref fa), some (.int (i : Int)), o3, o4, o5] H2
      refine Evl.q_asgL (xs := []) (Evl.el_lst Evl.ea_nil (by decide)) fun Dl H3 nD e3 hD => ?_
      have him : i + 1 < m := by omega
      have hlt := hsz (i + 1) him
      refine q_forRLn (K := K) (R := KG Dl) (zs := gridF i) (p := fa) (Evl.ev_var rfl) (fun k σ H4 => ∃ o4 o5, σ = [some (.int (m : Int)), some (.ref fa), some (.int (i : Int)), some (.ref Dl), o4, o5] ∧ Evl.Ex H2 H4 ∧ RL (KG Dl) H4 Dl (((gridF i).take k).flatMap nextP))
        (fun H4 e4 => ⟨_, _, rfl, e3.trans e4, ⟨[], e4 _ _ hD, .nil⟩⟩) (fun k σ H4 _ hv => ?_) (fun k z y σ H4 hz hy hv => ?_) (fun σ H4 hv => ?_)
      · obtain ⟨_, _, _, e4, _⟩ := hv
        have e5 : Evl.Ex H2 (hide Dl H4) := fun p o h => hide_of (fun e => by
          rw [e, nD] at h
          cases h) (e4 _ _ h)
        obtain ⟨ys, h1, h2⟩ := hfa.ex layR_e e5
        exact ⟨ys, hide_ex _ _ h1, h2⟩
      · obtain ⟨o4, o5, rfl, e4, hDl⟩ := hv
        obtain ⟨b, rfl, hb'⟩ := hy
        have hb := hb'.ex panR_e hide_ex
        have hzl := grid_len i z (List.mem_of_getElem? hz)
        have zne : z ≠ [] := fun e => by rw [e] at hzl; cases hzl
        have b0 := border_le z 0
        have b1 := border_le z 1
        have pre : ∀ (zs : List (List Pn)), zs.length ≤ (nextP z).length → (((gridF i).take k).flatMap nextP).length + zs.length < 40000 := fun zs hj => by
          have h2 : (gridF (i + 1)).length = ((((gridF i).take k) ++ (gridF i).drop k).flatMap nextP).length := by rw [List.take_append_drop]; rfl
          have h3 : (gridF i).drop k = z :: (gridF i).drop (k + 1) := by
            obtain ⟨hk, e⟩ := List.getElem?_eq_some_iff.mp hz
            rw [← e]
            exact List.drop_eq_getElem_cons hk
          rw [h2, h3, List.flatMap_append, List.flatMap_cons, List.length_append, List.length_append] at hlt
          omega
        rw [show ((gridF i).take (k + 1)) = (gridF i).take k ++ [z] by rw [List.take_add_one, hz]; rfl, List.flatMap_append, List.flatMap_cons, List.flatMap_nil, List.append_nil]
        generalize ((gridF i).take k).flatMap nextP = dn at hDl pre
        have nlen : (nextP z).length = borderF z 1 + borderF z 0 := by unfold nextP lowP rigP; simp
        have llen : ∀ j, (lowP z j).length = j := fun j => by unfold lowP; simp
        have rlen : ∀ j, (rigP z j).length = j := fun j => by unfold rigP; simp
        -- one pane pushed and kept
        have app : ∀ {te : TE} {o5 : Option V} {H5 : Hp} {us : List (List Pn)} {en : Int} (e5 : Evl.Ex H2 H5) (hb5' : Pns (hide Dl H5) b z) (hu : RL (KG Dl) H5 Dl us) (hul : us.length < 40000) (hen : en ≠ 0) (hbd : en.natAbs ≤ borderF z (if 0 < en then 1 else 0)) (ht : ∀ H', Evl.Ex H5 H' → Evl.Ev te [some (.int (m : Int)), some (.ref fa), some (.int (i : Int)), some (.ref Dl), some (.ref b), o5] H' (.int en)) (D : Ends)
            (k : ∀ H6, Evl.Ex H2 H6 → Pns (hide Dl H6) b z → RL (KG Dl) H6 Dl (us ++ [pushF z en]) → D.nx [some (.int (m : Int)), some (.ref fa), some (.int (i : Int)), some (.ref Dl), some (.ref b), o5] H6),
            tDrop (tBM K "list" rAppend (tVar 3) (tCons (tCall spPushedE [] E0 (tCons (tVar 4) (tCons te tNil))) tNil)) D [some (.int (m : Int)), some (.ref fa), some (.int (i : Int)), some (.ref Dl), some (.ref b), o5] H5 := fun {te o5 H5 us en} e5 hb5' hu hul hen hbd ht D k => by
          obtain ⟨ys, hy1, hy2⟩ := hu
          have hlen := pr_len hy2
          have hb5 := hb5'.ex panR_e hide_ex
          refine s_appN (R := fun v H7 => ∃ p, v = .ref p ∧ Pns H7 p (pushF z en) ∧ p ≠ Dl) hy1 (Evl.ev_var rfl) (fun H7 e7 Q q => ?_) (by omega) fun v H7 e7 hv => ?_
          · refine ⟨.ref b, rfl, ?_⟩
            refine ht H7 e7 H7 (Evl.Ex.refl H7) _ fun H8 e8 => ⟨b, z, en, rfl, hb5.ex panR_e (e7.trans e8), zne, by omega, hen, hbd, fun H9 b' e9 nb' hb' => q (.ref b') H9 (e8.trans e9) ⟨b', rfl, hb', fun e => by
              rw [e, (e7.trans e8) _ _ hy1] at nb'
              cases nb'⟩⟩
          · obtain ⟨p, rfl, hp, npD⟩ := hv
            have b7 : But1 Dl H5 (upd H7 Dl (.lst (ys ++ [.ref p]))) := (But1.of e7).upd
            refine k _ (b7.ex nD e5) (hb5'.ex panR_e (hide_but b7)) ⟨ys ++ [.ref p], upd_same, ?_⟩
            exact pr_app (rl_kg hy2 b7) (.cons (layR_e _ _ _ _ (hide_but ((But1.of (Evl.Ex.refl H7)).upd)) (kg_of (e7 _ _ hy1) hp npD)) .nil)
        show tSeq _ _ _ [some (.int (m : Int)), some (.ref fa), some (.int (i : Int)), some (.ref Dl), some (.ref b), o5] H4
        refine Evl.q_forR2 (lo := 1) (n := (borderF z 1 : Int) + 1) (Evl.ea_cons Evl.ev_c (Evl.ea_cons (Evl.ev_op (Evl.ev_call (Evl.ea_cons (Evl.ev_var rfl) (Evl.ea_cons Evl.ev_c Evl.ea_nil)) (bCall hb zne (by omega) (by omega))) Evl.ev_c Evl.rv_I0) Evl.ea_nil)) (by omega)
          (fun j σ H5 => ∃ o5, σ = [some (.int (m : Int)), some (.ref fa), some (.int (i : Int)), some (.ref Dl), some (.ref b), o5] ∧ Evl.Ex H2 H5 ∧ Pns (hide Dl H5) b z ∧ RL (KG Dl) H5 Dl (dn ++ lowP z j))
          (fun H5 e5 => ⟨_, rfl, e4.trans e5, hb'.ex panR_e (hide_but (But1.of e5)), ?_⟩) (fun j σ H5 hj hv => ?_) (fun σ H5 hv => ?_)
        · have hd0 : dn ++ lowP z 0 = dn := List.append_nil _
          rw [hd0]
          obtain ⟨ys, h1, h2⟩ := hDl
          exact ⟨ys, e5 _ _ h1, rl_kg h2 (But1.of e5)⟩
        · obtain ⟨o5, rfl, e5, hb5', hu⟩ := hv
          show tDrop _ _ [some (.int (m : Int)), some (.ref fa), some (.int (i : Int)), some (.ref Dl), some (.ref b), some (.int (1 + (j : Int)))] H5
          have hp := pre (lowP z j) (by rw [llen, nlen]; omega)
          refine app (en := 1 + (j : Int)) e5 hb5' hu (by rw [List.length_append]; exact hp) (by omega) (by rw [if_pos (by omega)]; omega) (fun H' _ => Evl.ev_var rfl) _ fun H6 e6 hb6 hr6 => ⟨_, rfl, e6, hb6, ?_⟩
          have hstep : lowP z (j + 1) = lowP z j ++ [pushF z (1 + (j : Int))] := by
            unfold lowP
            rw [List.range_succ, List.map_append]
            rfl
          rw [hstep, ← List.append_assoc]
          exact hr6
        · obtain ⟨o5, rfl, e5, hb5', hu⟩ := hv
          rw [show ((borderF z 1 : Int) + 1 - 1).toNat = borderF z 1 by omega] at hu
          have hb5 := hb5'.ex panR_e hide_ex
          refine Evl.s_forR2 (lo := 1) (n := (borderF z 0 : Int) + 1) (Evl.ea_cons Evl.ev_c (Evl.ea_cons (Evl.ev_op (Evl.ev_call (Evl.ea_cons (Evl.ev_var rfl) (Evl.ea_cons Evl.ev_c Evl.ea_nil)) (bCall hb5 zne (by omega) (by omega))) Evl.ev_c Evl.rv_I0) Evl.ea_nil)) (by omega)
            (fun j σ H5 => ∃ o5, σ = [some (.int (m : Int)), some (.ref fa), some (.int (i : Int)), some (.ref Dl), some (.ref b), o5] ∧ Evl.Ex H2 H5 ∧ Pns (hide Dl H5) b z ∧ RL (KG Dl) H5 Dl ((dn ++ lowP z (borderF z 1)) ++ rigP z j))
            (fun H6 e6 => ⟨_, rfl, e5.trans e6, hb5'.ex panR_e (hide_but (But1.of e6)), ?_⟩) (fun j σ H6 hj hv => ?_) (fun σ H6 hv => ?_)
          · have hd0 : (dn ++ lowP z (borderF z 1)) ++ rigP z 0 = dn ++ lowP z (borderF z 1) := List.append_nil _
            rw [hd0]
            obtain ⟨ys, h1, h2⟩ := hu
            exact ⟨ys, e6 _ _ h1, rl_kg h2 (But1.of e6)⟩
          · obtain ⟨o5, rfl, e6, hb6', hu⟩ := hv
            show tDrop _ _ [some (.int (m : Int)), some (.ref fa), some (.int (i : Int)), some (.ref Dl), some (.ref b), some (.int (1 + (j : Int)))] H6
            have hp := pre (lowP z (borderF z 1) ++ rigP z j) (by rw [List.length_append, llen, rlen, nlen]; omega)
            refine app (en := 0 - (1 + (j : Int))) e6 hb6' hu (by rw [List.append_assoc, List.length_append]; exact hp) (by omega) (by rw [if_neg (by omega)]; omega) (fun H' _ => Evl.ev_op Evl.ev_c (Evl.ev_var rfl) Evl.rv_I0) _ fun H7 e7 hb7 hr7 => ⟨_, rfl, e7, hb7, ?_⟩
            have hstep : rigP z (j + 1) = rigP z j ++ [pushF z (0 - (1 + (j : Int)))] := by
              unfold rigP
              rw [List.range_succ, List.map_append]
              rfl
            rw [hstep, ← List.append_assoc]
            exact hr7
          · obtain ⟨o5, rfl, e6, _, hu⟩ := hv
            rw [show ((borderF z 0 : Int) + 1 - 1).toNat = borderF z 0 by omega, List.append_assoc] at hu
            exact ⟨_, _, rfl, e6, hu⟩
      · obtain ⟨o4, o5, rfl, e4, hDl⟩ := hv
        rw [List.take_length] at hDl
        exact Evl.s_asg (Evl.ev_var rfl) fun H5 e5 => ⟨Dl, _, _, _, _, rfl, (e2.trans e4).trans e5, Evl.fresh_back e2 nD, (unhideY hDl).ex layR_e e5⟩
    · obtain ⟨fa, o2, o3, o4, o5, rfl, e2, nfa, hfa⟩ := hv
      rw [show ((m : Int) - 1).toNat = m - 1 by omega] at hfa
      exact Evl.s_ret (Evl.ev_var rfl) fun H3 e3 => q H3 fa (e2.trans e3) nfa (hfa.ex layR_e e3)
end
end GL
set_option Elab.async false
set_option linter.all false
set_option maxRecDepth 100000
set_option maxHeartbeats 4000000
/-! # each plan has a code; the plans of so many panes -/
namespace GL
open PySem PySem.Spec PyProof.Rows L2 Geo Rel Bx
theorem nd_flat {α β : Type} {f : α → List β} : ∀ {l : List α}, (∀ x ∈ l, (f x).Nodup) → l.Pairwise (fun a b => ∀ x, x ∈ f a → x ∈ f b → False) → (l.flatMap f).Nodup
  | [], _, _ => by simp
  | a :: l, h1, h2 => by
    obtain ⟨p1, p2⟩ := List.pairwise_cons.mp h2
    rw [List.flatMap_cons, List.nodup_append]
    refine ⟨h1 a List.mem_cons_self, nd_flat (fun x hx => h1 x (List.mem_cons_of_mem _ hx)) p2, fun x hx y hy e => ?_⟩
    subst e
    obtain ⟨b, hb, hxb⟩ := List.mem_flatMap.mp hy
    exact p1 b hb x hx hxb
theorem flat_congr {α β : Type} {f g : α → List β} : ∀ {l : List α}, (∀ x ∈ l, f x = g x) → l.flatMap f = l.flatMap g
  | [], _ => rfl
  | a :: l, h => by rw [List.flatMap_cons, List.flatMap_cons, h a List.mem_cons_self, flat_congr fun x hx => h x (List.mem_cons_of_mem _ hx)]
theorem rem_max {A B : List Int} {n : Nat} (h : IsPl (A ++ (n : Int) :: B) (n + 1)) : IsPl (A ++ B) n := by
  have nd := h.nd
  obtain ⟨n1, n2, n3⟩ := List.nodup_append.mp nd
  obtain ⟨n4, n5⟩ := List.nodup_cons.mp n2
  have mem : ∀ v : Int, v ∈ A ++ B ↔ 0 ≤ v ∧ v < n := fun v => by
    have hv := h.mem v
    rw [List.mem_append, List.mem_cons] at hv
    rw [List.mem_append]
    constructor
    · intro hm
      have := hv.mp (hm.elim .inl fun h => .inr (.inr h))
      have hne : v ≠ (n : Int) := fun e => by
        subst e
        rcases hm with hm | hm
        · exact n3 _ hm _ List.mem_cons_self rfl
        · exact n4 hm
      omega
    · intro hb
      rcases hv.mpr (by omega) with hm | hm | hm
      · exact .inl hm
      · omega
      · exact .inr hm
  refine ⟨⟨?_, mem, ?_⟩, fun hp => h.pt (rem_mid (.inl fun x hx => ((mem x).mp hx).2) hp)⟩
  · exact List.nodup_append.mpr ⟨n1, n5, fun a ha b hb => n3 a ha b (List.mem_cons_of_mem _ hb)⟩
  · have := h.len
    simp at this ⊢
    omega
theorem code_exists : ∀ (n : Nat) (plan : List Int), IsPl plan (n + 1) → ∃ ns, ValidC 1 1 ns ∧ ns.length = n ∧ codePlanF ns = some plan
  | 0, plan, h => by
    have hl := h.len
    match plan, hl with
    | [v], _ =>
      have := (h.mem v).mp List.mem_cons_self
      obtain rfl : v = 0 := by omega
      exact ⟨[], trivial, rfl, rfl⟩
  | n + 1, plan, h => by
    have hm : ((n + 1 : Nat) : Int) ∈ plan := (h.mem _).mpr (by omega)
    obtain ⟨A, B, rfl⟩ := List.append_of_mem hm
    have h0 := rem_max h
    obtain ⟨ns0, hv, hl, hmade⟩ := code_exists n (A ++ B) h0
    obtain ⟨st, h1, g⟩ := run_end ns0 ([0], [0], [0]) 1 1 1 gpc_one hv
    have hst : st.1 = A ++ B := by
      unfold codePlanF at hmade
      have h1' : runC ([0], [0], [0]) 1 ns0 = some st := h1
      rw [h1'] at hmade
      exact Option.some.inj hmade
    have nd := h0.nd
    have hlt : ∀ x ∈ A ++ B, x < ((n + 1 : Nat) : Int) := fun x hx => ((h0.mem x).mp hx).2
    have hgl := g.lL
    have hgr := g.rL
    have fin : ∀ e, e ∈ numbersF (endB 1 1 ns0).1 (endB 1 1 ns0).2 → (∃ st', stepC st ((n + 1 : Nat) : Int) e = some st' ∧ st'.1 = A ++ ((n + 1 : Nat) : Int) :: B) → ∃ ns, ValidC 1 1 ns ∧ ns.length = n + 1 ∧ codePlanF ns = some (A ++ ((n + 1 : Nat) : Int) :: B) := fun e he ⟨st', hs, hs1⟩ => by
      refine ⟨ns0 ++ [e], (valid_snoc ns0 1 1 e).mpr ⟨hv, he⟩, by simp [hl], ?_⟩
      unfold codePlanF
      have h1' : runC ([0], [0], [0]) 1 ns0 = some st := h1
      rw [run_snoc, h1', show (1 : Int) + (ns0.length : Int) = ((n + 1 : Nat) : Int) by omega]
      show Option.map _ (stepC st ((n + 1 : Nat) : Int) e) = _
      rw [hs, Option.map_some, hs1]
    by_cases cR : ∃ A' a, A = A' ++ [a] ∧ ∀ y ∈ B, y < a
    · obtain ⟨A', a, rfl, hy⟩ := cR
      have ha : a ∈ st.2.2 := g.rC a ⟨A', B, by rw [hst]; simp, hy⟩
      obtain ⟨j, hj, ej⟩ := List.getElem_of_mem ha
      refine fin (-((st.2.2.length - j : Nat) : Int)) (List.mem_append_left _ (List.mem_map.mpr ⟨j, List.mem_range.mpr (by omega), by omega⟩)) ?_
      unfold stepC
      rw [if_neg (by omega), atI_neg (by omega) (by omega), Option.bind_some]
      have ej' : st.2.2[st.2.2.length - (st.2.2.length - j)]'(by omega) = a := by
        rw [← ej]
        congr 1
        omega
      rw [ej', if_pos (by rw [hst]; simp), hst]
      refine ⟨_, rfl, ?_⟩
      show insF (A' ++ [a] ++ B) _ _ = _
      have ndl : (A' ++ a :: B).Nodup := by simpa using nd
      rw [show A' ++ [a] ++ B = A' ++ a :: B by simp, idx_mid ndl, insF_mid1]
      simp
    · by_cases cL : ∃ b B', B = b :: B' ∧ ∀ x ∈ A, x < b
      · obtain ⟨b, B', rfl, hx⟩ := cL
        have hb : b ∈ st.2.1 := g.lC b ⟨A, B', by rw [hst], hx⟩
        obtain ⟨j, hj, ej⟩ := List.getElem_of_mem hb
        refine fin ((st.2.1.length - j : Nat) : Int) (List.mem_append_right _ (List.mem_map.mpr ⟨st.2.1.length - j - 1, List.mem_range.mpr (by omega), by omega⟩)) ?_
        unfold stepC
        rw [if_pos (by omega), atI_neg (by omega) (by omega), Option.bind_some]
        have ej' : st.2.1[st.2.1.length - (st.2.1.length - j)]'(by omega) = b := by
          rw [← ej]
          congr 1
          omega
        rw [ej', if_pos (by rw [hst]; simp), hst]
        refine ⟨_, rfl, ?_⟩
        show insF (A ++ b :: B') _ _ = _
        rw [idx_mid nd, insF_mid]
      · exfalso
        have hAB : A ++ B ≠ [] := fun z => by
          have := h0.len
          rw [z] at this
          cases this
        rcases List.eq_nil_or_concat A with rfl | ⟨A', a, rfl⟩
        · cases B with
          | nil => exact hAB rfl
          | cons b B' => exact cL ⟨b, B', rfl, fun x hx => by cases hx⟩
        · rw [List.concat_eq_append] at *
          cases B with
          | nil => exact cR ⟨A', a, rfl, fun y hy => by cases hy⟩
          | cons b B' =>
            obtain ⟨y0, hy0, hy1⟩ : ∃ y0 ∈ b :: B', ¬y0 < a := Classical.byContradiction fun c => cR ⟨A', a, rfl, fun y hy => Classical.byContradiction fun k => c ⟨y, hy, k⟩⟩
            obtain ⟨x0, hx0, hx1⟩ : ∃ x0 ∈ A' ++ [a], ¬x0 < b := Classical.byContradiction fun c => cL ⟨b, B', rfl, fun x hx => Classical.byContradiction fun k => c ⟨x, hx, k⟩⟩
            have dis := (List.nodup_append.mp nd).2.2
            have hya : y0 ≠ a := fun e => dis a (by simp) y0 hy0 e.symm
            have hxb : x0 ≠ b := dis x0 hx0 b List.mem_cons_self
            have hab : a ≠ b := dis a (by simp) b List.mem_cons_self
            have la := hlt a (by simp)
            have lb := hlt b (by simp)
            have ly := hlt y0 (List.mem_append_right _ hy0)
            have lx := hlt x0 (List.mem_append_left _ hx0)
            by_cases c : a < b
            · have hxA : x0 ∈ A' := by
                rcases List.mem_append.mp hx0 with hx | hx
                · exact hx
                · rw [List.mem_singleton] at hx
                  omega
              exact h.pt ⟨A', a, ((n + 1 : Nat) : Int), b :: B', x0, b, by simp, hxA, List.mem_cons_self, .inr ⟨by omega, by omega, lx⟩⟩
            · have hyB : y0 ∈ B' := by
                rcases List.mem_cons.mp hy0 with hy | hy
                · omega
                · exact hy
              exact h.pt ⟨A' ++ [a], ((n + 1 : Nat) : Int), b, B', a, y0, by simp, by simp, hyB, .inl ⟨by omega, by omega, ly⟩⟩
/-- the rows of so many panes, each once -/
theorem ins_filter {one : List Int} {t s : Nat} (h : IsPm one t) : (insL t one s).filter (fun v => !decide (v = (t : Int))) = one := by
  unfold insL
  have no : ∀ l : List Int, (∀ x ∈ l, x ∈ one) → l.filter (fun v => !decide (v = (t : Int))) = l := fun l hl => by
    rw [List.filter_eq_self]
    intro x hx
    have := (h.mem x).mp (hl x hx)
    rw [decide_eq_false (by omega)]
    rfl
  rw [List.filter_append, List.filter_append, no _ fun x hx => List.mem_of_mem_take hx, no _ fun x hx => List.mem_of_mem_drop hx]
  simp
theorem lists_pm : ∀ t, (∀ z, z ∈ listsF t ↔ IsPm z t) ∧ (listsF t).Nodup
  | 0 => ⟨fun z => by
      show z ∈ [[]] ↔ _
      rw [List.mem_singleton]
      constructor
      · rintro rfl
        exact ⟨List.nodup_nil, fun v => by simp, rfl⟩
      · intro h
        exact List.length_eq_zero_iff.mp h.len, by simp [listsF]⟩
  | t + 1 => by
    obtain ⟨ih1, ih2⟩ := lists_pm t
    refine ⟨fun z => ?_, ?_⟩
    · show z ∈ (listsF t).flatMap _ ↔ _
      rw [List.mem_flatMap]
      constructor
      · rintro ⟨one, ho, hz⟩
        have h := (ih1 one).mp ho
        obtain ⟨s, hs, rfl⟩ := List.mem_map.mp hz
        have e : insL t one s = one.take s ++ (t : Int) :: one.drop s := by unfold insL; simp
        have nd : (one.take s ++ one.drop s).Nodup := by rw [List.take_append_drop]; exact h.nd
        have mem : ∀ v : Int, v ∈ one.take s ++ one.drop s ↔ 0 ≤ v ∧ v < t := by rw [List.take_append_drop]; exact h.mem
        rw [e]
        refine ⟨put_nd nd fun v hv => ((mem v).mp hv).2, fun v => put_mem mem v, ?_⟩
        have := h.len
        have := List.mem_range.mp hs
        simp
        omega
      · intro h
        have hm : (t : Int) ∈ z := (h.mem _).mpr (by omega)
        obtain ⟨A, B, rfl⟩ := List.append_of_mem hm
        have nd := h.nd
        obtain ⟨n1, n2, n3⟩ := List.nodup_append.mp nd
        obtain ⟨n4, n5⟩ := List.nodup_cons.mp n2
        have hl := h.len
        rw [List.length_append, List.length_cons] at hl
        refine ⟨A ++ B, (ih1 _).mpr ⟨List.nodup_append.mpr ⟨n1, n5, fun a ha b hb => n3 a ha b (List.mem_cons_of_mem _ hb)⟩, fun v => ?_, by rw [List.length_append]; omega⟩, List.mem_map.mpr ⟨A.length, List.mem_range.mpr (by omega), ?_⟩⟩
        · have hv := h.mem v
          rw [List.mem_append, List.mem_cons] at hv
          rw [List.mem_append]
          constructor
          · intro hm
            have := hv.mp (hm.elim .inl fun h => .inr (.inr h))
            have hne : v ≠ (t : Int) := fun e => by
              subst e
              rcases hm with hm | hm
              · exact n3 _ hm _ List.mem_cons_self rfl
              · exact n4 hm
            omega
          · intro hb
            rcases hv.mpr (by omega) with hm | hm | hm
            · exact .inl hm
            · omega
            · exact .inr hm
        · unfold insL
          rw [List.take_left, List.drop_left]
          simp
    · show ((listsF t).flatMap _).Nodup
      refine nd_flat (fun one ho => ?_) ?_
      · have h := (ih1 one).mp ho
        unfold partL
        rw [List.Nodup, List.pairwise_map]
        refine List.Pairwise.imp_of_mem (fun {a b} ha hb hab e => hab ?_) List.nodup_range
        have ha := List.mem_range.mp ha
        have hb := List.mem_range.mp hb
        have hl := h.len
        have key : ∀ s, s < t + 1 → (insL t one s).idxOf (t : Int) = s := fun s hs => by
          have e : insL t one s = one.take s ++ (t : Int) :: one.drop s := by unfold insL; simp
          have nd : (one.take s ++ (t : Int) :: one.drop s).Nodup := put_nd (by rw [List.take_append_drop]; exact h.nd) fun v hv => by
            rw [List.take_append_drop] at hv
            exact ((h.mem v).mp hv).2
          rw [e, idx_mid nd, List.length_take]
          omega
        rw [← key a ha, e, key b hb]
      · refine List.Pairwise.imp_of_mem (fun {a b} ha hb hab => ?_) ih2
        intro x hxa hxb
        obtain ⟨s1, _, rfl⟩ := List.mem_map.mp hxa
        obtain ⟨s2, _, e⟩ := List.mem_map.mp hxb
        refine hab ?_
        rw [← ins_filter ((ih1 a).mp ha) (s := s1), ← e, ins_filter ((ih1 b).mp hb)]
/-- a pattern has its places -/
theorem at_of_pt {r : List Int} (h : Pt r) : ∃ i j k : Nat, PtAt r i j k := by
  obtain ⟨X, p, q, Y, x, y, rfl, hx, hy, hb⟩ := h
  obtain ⟨i, hi, rfl⟩ := List.getElem_of_mem hx
  obtain ⟨k, hk, rfl⟩ := List.getElem_of_mem hy
  refine ⟨i, X.length, X.length + 2 + k, hi, by omega, by simp; omega, ?_⟩
  have e1 : (X ++ p :: q :: Y).getD X.length 0 = p := by rw [List.getD_eq_getElem?_getD, List.getElem?_append_right (Nat.le_refl _), Nat.sub_self]; rfl
  have e2 : (X ++ p :: q :: Y).getD (X.length + 1) 0 = q := by rw [List.getD_eq_getElem?_getD, List.getElem?_append_right (by omega), Nat.add_sub_cancel_left]; rfl
  have e3 : (X ++ p :: q :: Y).getD i 0 = X[i] := by rw [List.getD_eq_getElem?_getD, List.getElem?_append_left hi, List.getElem?_eq_getElem hi]; rfl
  have e4 : (X ++ p :: q :: Y).getD (X.length + 2 + k) 0 = Y[k] := by
    rw [List.getD_eq_getElem?_getD, List.getElem?_append_right (by omega), show X.length + 2 + k - X.length = k + 1 + 1 by omega, List.getElem?_cons_succ, List.getElem?_cons_succ, List.getElem?_eq_getElem hk]
    rfl
  rw [e1, e2, e3, e4]
  exact hb
theorem pl_iff {z : List Int} {n : Nat} : IsPl z n ↔ IsPm z n ∧ ∀ i j k : Nat, ¬PtAt z i j k := ⟨fun h => ⟨h.toIsPm, fun i j k hp => h.pt (pt_of_at hp)⟩, fun h => ⟨h.1, fun hp => by
  obtain ⟨i, j, k, h2⟩ := at_of_pt hp
  exact h.2 i j k h2⟩⟩
/-- the codes of so many numbers -/
def lowC (ns : List Int) (j : Nat) : List (List Int) := (List.range j).map fun i : Nat => ns ++ [1 + (i : Int)]
def rigC (ns : List Int) (j : Nat) : List (List Int) := (List.range j).map fun i : Nat => ns ++ [0 - (1 + (i : Int))]
def nextC (ns : List Int) : List (List Int) := lowC ns (endB 1 1 ns).1.toNat ++ rigC ns (endB 1 1 ns).2.toNat
def codesQ : Nat → List (List Int)
  | 0 => [[]]
  | n + 1 => (codesQ n).flatMap nextC
theorem next_mem {ns x : List Int} : x ∈ nextC ns ↔ ∃ e, x = ns ++ [e] ∧ e ∈ numbersF (endB 1 1 ns).1 (endB 1 1 ns).2 := by
  unfold nextC lowC rigC numbersF
  rw [List.mem_append, List.mem_map, List.mem_map]
  constructor
  · rintro (⟨i, hi, rfl⟩ | ⟨i, hi, rfl⟩)
    · have := List.mem_range.mp hi
      exact ⟨_, rfl, List.mem_append_right _ (List.mem_map.mpr ⟨i, List.mem_range.mpr (by omega), by omega⟩)⟩
    · have := List.mem_range.mp hi
      exact ⟨_, rfl, List.mem_append_left _ (List.mem_map.mpr ⟨((endB 1 1 ns).2 - 1 - (i : Int)).toNat, List.mem_range.mpr (by omega), by omega⟩)⟩
  · rintro ⟨e, rfl, he⟩
    rcases num_cases he with c | c
    · exact .inr ⟨(-e - 1).toNat, List.mem_range.mpr (by omega), by congr 2; omega⟩
    · exact .inl ⟨(e - 1).toNat, List.mem_range.mpr (by omega), by congr 2; omega⟩
theorem codes_mem : ∀ (n : Nat) (ns : List Int), ns ∈ codesQ n ↔ ValidC 1 1 ns ∧ ns.length = n
  | 0, ns => by
    show ns ∈ [[]] ↔ _
    rw [List.mem_singleton]
    exact ⟨fun h => by subst h; exact ⟨trivial, rfl⟩, fun h => List.length_eq_zero_iff.mp h.2⟩
  | n + 1, ns => by
    show ns ∈ (codesQ n).flatMap nextC ↔ _
    rw [List.mem_flatMap]
    constructor
    · rintro ⟨ms, hm, hx⟩
      obtain ⟨e, rfl, he⟩ := next_mem.mp hx
      obtain ⟨h1, h2⟩ := (codes_mem n ms).mp hm
      exact ⟨(valid_snoc ms 1 1 e).mpr ⟨h1, he⟩, by simp [h2]⟩
    · rintro ⟨hv, hl⟩
      rcases List.eq_nil_or_concat ns with rfl | ⟨ms, e, rfl⟩
      · cases hl
      · rw [List.concat_eq_append] at *
        obtain ⟨h1, h2⟩ := (valid_snoc ms 1 1 e).mp hv
        exact ⟨ms, (codes_mem n ms).mpr ⟨h1, by simpa using hl⟩, next_mem.mpr ⟨e, rfl, h2⟩⟩
theorem codes_nd : ∀ n, (codesQ n).Nodup
  | 0 => by simp [codesQ]
  | n + 1 => by
    show ((codesQ n).flatMap nextC).Nodup
    refine nd_flat (fun ns _ => ?_) ?_
    · unfold nextC lowC rigC
      rw [List.nodup_append]
      refine ⟨?_, ?_, fun a ha b hb e => ?_⟩
      · rw [List.Nodup, List.pairwise_map]
        refine List.nodup_range.imp fun hab e => hab ?_
        have := (List.append_cancel_left e)
        simp at this
        omega
      · rw [List.Nodup, List.pairwise_map]
        refine List.nodup_range.imp fun hab e => hab ?_
        have := (List.append_cancel_left e)
        simp at this
        omega
      · obtain ⟨i, _, rfl⟩ := List.mem_map.mp ha
        obtain ⟨k, _, rfl⟩ := List.mem_map.mp hb
        have := (List.append_cancel_left e)
        simp at this
        omega
    · refine (codes_nd n).imp fun {a b} hab => ?_
      intro x hxa hxb
      obtain ⟨e, rfl, _⟩ := next_mem.mp hxa
      obtain ⟨e', h, _⟩ := next_mem.mp hxb
      exact hab (List.append_inj_left' h rfl)
theorem grid_codes : ∀ n, gridF n = (codesQ n).map layF
  | 0 => rfl
  | n + 1 => by
    show (gridF n).flatMap nextP = ((codesQ n).flatMap nextC).map layF
    rw [grid_codes n, List.flatMap_map, List.map_flatMap]
    refine flat_congr fun ns hns => ?_
    obtain ⟨hv, _⟩ := (codes_mem n ns).mp hns
    obtain ⟨plan, W, H, g⟩ := grown_of hv
    have hr := g.right
    have hl := g.lower
    show nextP (layF ns) = (nextC ns).map layF
    unfold nextP nextC lowP rigP lowC rigC
    rw [show borderF (layF ns) 1 = (endB 1 1 ns).1.toNat by omega, show borderF (layF ns) 0 = (endB 1 1 ns).2.toNat by omega, List.map_append, List.map_map, List.map_map]
    congr 1
    · exact List.map_congr_left fun i _ => (lay_snoc ns _).symm
    · exact List.map_congr_left fun i _ => (lay_snoc ns _).symm
def planC (ns : List Int) : List Int := (codePlanF ns).getD []
theorem planC_of {ns plan : List Int} (h : codePlanF ns = some plan) : planC ns = plan := by unfold planC; rw [h]; rfl
/-- the plans of all codes are the rows without a pattern -/
theorem plans_perm {n : Nat} : ((codesQ n).map planC).Perm ((listsF (n + 1)).filter patB) := by
  obtain ⟨l1, l2⟩ := lists_pm (n + 1)
  have nd : ((codesQ n).map planC).Nodup := by
    rw [List.Nodup, List.pairwise_map]
    refine List.Pairwise.imp_of_mem (fun {a b} ha hb hab e => hab ?_) (codes_nd n)
    obtain ⟨va, _⟩ := (codes_mem n a).mp ha
    obtain ⟨vb, _⟩ := (codes_mem n b).mp hb
    obtain ⟨pa, ma, _⟩ := code_plan va
    obtain ⟨pb, mb, _⟩ := code_plan vb
    rw [planC_of ma, planC_of mb] at e
    subst e
    exact code_one va vb ma mb
  refine (List.perm_ext_iff_of_nodup nd (l2.filter _)).mpr fun z => ?_
  rw [List.mem_map, List.mem_filter, l1]
  constructor
  · rintro ⟨ns, hns, rfl⟩
    obtain ⟨hv, hl⟩ := (codes_mem n ns).mp hns
    obtain ⟨p, hm, hp⟩ := code_plan hv
    rw [hl] at hp
    rw [planC_of hm]
    exact ⟨hp.toIsPm, pat_of hp⟩
  · rintro ⟨hpm, hpat⟩
    have hpl : IsPl z (n + 1) := pl_iff.mpr ⟨hpm, fun i j k hp => by
      have h1 := hp.1
      have h2 := hp.2.1
      have h3 := hp.2.2.1
      have hl := hpm.len
      unfold patB at hpat
      have z := List.all_eq_true.mp hpat (j - 1) (List.mem_range.mpr (by omega))
      rw [show j - 1 + 1 = j by omega] at z
      exact at_none hpm ⟨by omega, by omega⟩ z i k hp⟩
    obtain ⟨ns, hv, hl, hm⟩ := code_exists n z hpl
    exact ⟨ns, (codes_mem n ns).mpr ⟨hv, hl⟩, planC_of hm⟩
end GL
set_option Elab.async false
set_option linter.all false
set_option maxRecDepth 100000
set_option maxHeartbeats 4000000
/-! # repr of numbers and of lists of them -/
namespace GL
open PySem PySem.Spec PyProof.Rows L2 Rel
theorem reprK {X : Cx} {K : PySem.W.Frag} {k : Nat} (e : X.K = K) (hc : Gd.Calm X.A) (hr : Room k X.A) : CallR X (.builtin "repr") (Gd.rRepr K) := e ▸ Gd.cr_repr hc hr
theorem textFrom_up : ∀ (ts : List Str) (k : Nat) (acc : Str) (b : Nat), (∀ t ∈ ts, t.length ≤ b) → (textFrom k acc ts).length ≤ acc.length + ts.length * (b + 2)
  | [], k, acc, b, _ => by
    show acc.length ≤ _
    omega
  | t :: r, k, acc, b, h => by
    show (textFrom (k + 1) (acc ++ (if k > 0 then ", " else "" : String) ++ t) r).length ≤ _
    have z := textFrom_up r (k + 1) (acc ++ (if k > 0 then ", " else "" : String) ++ t) b fun t ht => h t (List.mem_cons_of_mem _ ht)
    have h1 := h t List.mem_cons_self
    have e1 : (acc ++ (if k > 0 then ", " else "" : String) ++ t).length ≤ acc.length + 2 + t.length := by
      rw [strLen_append, strLen_append]
      by_cases c : k > 0
      · rw [if_pos c]
        have : (Str.ofString ", ").length = 2 := by decide +kernel
        omega
      · rw [if_neg c]
        have : (Str.ofString "").length = 0 := by decide +kernel
        omega
    rw [List.length_cons, Nat.add_mul, Nat.one_mul]
    omega
theorem shown_int {i : Int} (h : i.natAbs < 10 ^ 30) : (PyData.int i).showable = true ∧ (PyData.int i).shown.length ≤ 31 := by
  refine ⟨?_, ?_⟩
  · show decide (i.natAbs.log2 < 1920) = true
    refine decide_eq_true ?_
    by_cases c : i.natAbs = 0
    · rw [c]
      decide
    · exact (Nat.log2_lt c).mpr (Nat.lt_of_lt_of_le h (Nat.le_trans (by decide +kernel : 10 ^ 30 ≤ 2 ^ 100) (Nat.pow_le_pow_right (by decide) (by decide))))
  · show (Str.ofString (toString i)).length ≤ 31
    rw [PySem.ofString_length]
    exact int_text_length_le10 (by decide) h
theorem shownAll_ints : ∀ ns : List Int, PyData.shownAll (ns.map PyData.int) = ns.map fun i => (PyData.int i).shown
  | [] => rfl
  | n :: ns => by
    show (PyData.int n).shown :: PyData.shownAll (ns.map PyData.int) = _
    rw [shownAll_ints ns]
    rfl
theorem showAll_ints : ∀ ns : List Int, (∀ i ∈ ns, i.natAbs < 10 ^ 30) → PyData.showableAll (ns.map PyData.int) = true
  | [], _ => rfl
  | n :: ns, h => by
    show (PyData.showable (PyData.int n) && PyData.showableAll (ns.map PyData.int)) = true
    rw [showAll_ints ns fun i hi => h i (List.mem_cons_of_mem _ hi), (shown_int (h n List.mem_cons_self)).1]
    rfl
def lstD (ns : List Int) : PyData := .list (ns.map PyData.int)
theorem shown_lst {ns : List Int} (hl : ns.length ≤ 1000) (h : ∀ i ∈ ns, i.natAbs < 10 ^ 30) : (lstD ns).showable = true ∧ (lstD ns).shown.length ≤ sizeLine := by
  refine ⟨showAll_ints ns h, ?_⟩
  show (listText (PyData.shownAll (ns.map PyData.int))).length ≤ sizeLine
  rw [shownAll_ints]
  unfold listText
  have z := textFrom_up (ns.map fun i => (PyData.int i).shown) 0 "[" 31 fun t ht => by
    obtain ⟨i, hi, rfl⟩ := List.mem_map.mp ht
    exact (shown_int (h i hi)).2
  rw [List.length_map] at z
  have e1 : (Str.ofString "[").length = 1 := by decide +kernel
  have e2 : (Str.ofString "]").length = 1 := by decide +kernel
  rw [strLen_append]
  have : sizeLine = 16777216 := by decide
  omega
section
variable {K : PySem.W.Frag} {σ : L2.St} {H : Hp} {te : TE}
theorem ev_reprI {i : Int} (h : Evl.Ev te σ H (.int i)) (hi : i.natAbs < 10 ^ 30) : Evl.Ev (tCB (Gd.rRepr K) (tCons te tNil)) σ H (.str (PyData.int i).shown) := fun H1 e Q q =>
  h H1 e _ fun H2 e2 => ⟨.int i, .int i, rfl, .int i, fun _ => datI.shaped (by decide) i, (shown_int hi).1, Nat.le_trans (shown_int hi).2 (by decide), q H2 e2⟩
theorem lst_dp {l : Addr} {ns : List Int} (hl : H l = some (.lst (ns.map V.int))) : Dp K H (.ref l) (lstD ns) := datLst.dp K ns (.ref l) H ⟨l, rfl, hl⟩
theorem ev_reprL {l : Addr} {ns : List Int} (h : Evl.Ev te σ H (.ref l)) (hl : H l = some (.lst (ns.map V.int))) (hn : ns.length ≤ 1000) (hi : ∀ i ∈ ns, i.natAbs < 10 ^ 30) : Evl.Ev (tCB (Gd.rRepr K) (tCons te tNil)) σ H (.str (lstD ns).shown) := fun H1 e Q q =>
  h H1 e _ fun H2 e2 => ⟨.ref l, lstD ns, rfl, lst_dp ((e.trans e2) _ _ hl), fun _ => datLst.shaped (by decide) ns, (shown_lst hn hi).1, (shown_lst hn hi).2, q H2 e2⟩
end
end GL
set_option Elab.async false
set_option linter.all false
set_option maxRecDepth 100000
set_option maxHeartbeats 8000000
/-! # k10: all rows of so many panes -/
namespace GL
open PySem PySem.Spec PyProof.Rows L2 Geo Rel Bx
structure BQ (mg : Str → Option Value) : Prop extends BP mg where
  repr_ : mg "repr" = none
theorem lstI_m2 : Mono lstI := fun z v H H' D n k ⟨p, e, h⟩ => ⟨p, e, k p _ (fun e' => n (by rw [e, e'])) h⟩
theorem rl_map {α : Type} {g : α → List Int} {H : Hp} {l : Addr} {zs : List α} (h : RL (fun i => lstI (g i)) H l zs) : RL lstI H l (zs.map g) := by
  obtain ⟨ys, h1, h2⟩ := h
  refine ⟨ys, h1, ?_⟩
  clear h1
  induction h2 with
  | nil => exact .nil
  | cons h _ ih => exact .cons h ih
theorem pr_unmap {α : Type} {R : List Pn → V → Hp → Prop} {g : α → List Pn} {H : Hp} : ∀ {zs : List α} {ys : List V}, Paired (fun y z => R z y H) ys (zs.map g) → Paired (fun y z => R (g z) y H) ys zs
  | [], _, h => by cases h; exact .nil
  | z :: zs, _, h => by
    cases h with
    | cons h t => exact .cons h (pr_unmap t)
theorem rl_unmap {α : Type} {R : List Pn → V → Hp → Prop} {g : α → List Pn} {H : Hp} {l : Addr} {zs : List α} (h : RL R H l (zs.map g)) : RL (fun i => R (g i)) H l zs := by
  obtain ⟨ys, h1, h2⟩ := h
  exact ⟨ys, h1, pr_unmap h2⟩
def optD : Option (List Int) → PyData
  | none => .none
  | some l => .tuple (l.map PyData.int)
def dueD (r : Option (List Int)) : PyData := .list [optD r, .bool r.isNone]
def Small (r : Option (List Int)) : Prop := ∀ l, r = some l → ∃ i j k : Int, l = [i, j, k] ∧ i.natAbs < 10 ^ 30 ∧ j.natAbs < 10 ^ 30 ∧ k.natAbs < 10 ^ 30
theorem opt_shown {r : Option (List Int)} (h : Small r) : (optD r).showable = true ∧ (optD r).shown.length ≤ 100 ∧ (optD r).canLay0 = true ∧ (optD r).depth ≤ 1 := by
  cases r with
  | none => exact ⟨rfl, by decide +kernel, rfl, by decide⟩
  | some l =>
    obtain ⟨i, j, k, rfl, hi, hj, hk⟩ := h l rfl
    have h1 := shown_int hi
    have h2 := shown_int hj
    have h3 := shown_int hk
    refine ⟨?_, ?_, rfl, ?_⟩
    · show (PyData.showable (PyData.int i) && (PyData.showable (PyData.int j) && (PyData.showable (PyData.int k) && true))) = true
      rw [h1.1, h2.1, h3.1]
      rfl
    · show (tupleText [(PyData.int i).shown, (PyData.int j).shown, (PyData.int k).shown]).length ≤ 100
      unfold tupleText
      have ej : ∀ a b c : Str, (Str.ofString ", ").join [a, b, c] = a ++ Str.ofString ", " ++ (b ++ Str.ofString ", " ++ c) := fun a b c => by simp [Str.join]
      rw [ej]
      simp only [strLen_append]
      have e1 : (Str.ofString "(").length = 1 := by decide +kernel
      have e2 : (Str.ofString ", ").length = 2 := by decide +kernel
      have e3 : (Str.ofString (if ([(PyData.int i).shown, (PyData.int j).shown, (PyData.int k).shown].length == 1) = true then ",)" else ")")).length = 1 := by
        show (Str.ofString ")").length = 1
        decide +kernel
      have g1 := h1.2
      have g2 := h2.2
      have g3 := h3.2
      omega
    · show max (PyData.int i).depth (max (PyData.int j).depth (max (PyData.int k).depth 0)) + 1 ≤ 1
      rw [show (PyData.int i).depth = 0 from rfl, show (PyData.int j).depth = 0 from rfl, show (PyData.int k).depth = 0 from rfl]
      decide
theorem bool_shown (b : Bool) : (PyData.bool b).showable = true ∧ (PyData.bool b).shown.length ≤ 10 := by cases b <;> exact ⟨rfl, by decide +kernel⟩
theorem due_shown {r : Option (List Int)} (h : Small r) : (dueD r).showable = true ∧ (dueD r).shown.length ≤ sizeLine ∧ SeqAt.shaped (dueD r) = true := by
  obtain ⟨h1, h2, h3, h4⟩ := opt_shown h
  have b := bool_shown r.isNone
  refine ⟨?_, ?_, ?_⟩
  · show ((optD r).showable && ((PyData.bool r.isNone).showable && true)) = true
    rw [h1, b.1]
    rfl
  · show (listText [(optD r).shown, (PyData.bool r.isNone).shown]).length ≤ sizeLine
    unfold listText
    have z := textFrom_up [(optD r).shown, (PyData.bool r.isNone).shown] 0 "[" 100 fun t ht => by
      rcases List.mem_cons.mp ht with rfl | ht
      · exact h2
      · rw [List.mem_singleton.mp ht]
        exact Nat.le_trans b.2 (by decide)
    have e1 : (Str.ofString "[").length = 1 := by decide +kernel
    have e2 : (Str.ofString "]").length = 1 := by decide +kernel
    rw [strLen_append]
    have : [(optD r).shown, (PyData.bool r.isNone).shown].length = 2 := rfl
    have : sizeLine = 16777216 := by decide
    rw [show ([(optD r).shown, (PyData.bool r.isNone).shown] : List Str).length = 2 from rfl] at z
    omega
  · unfold SeqAt.shaped
    refine Bool.and_eq_true_iff.mpr ⟨?_, decide_eq_true ?_⟩
    · show ((optD r).canLay0 && ((PyData.bool r.isNone).canLay0 && true)) = true
      rw [h3]
      rfl
    · show max (optD r).depth (max (PyData.bool r.isNone).depth 0) + 1 ≤ 64
      rw [show (PyData.bool r.isNone).depth = 0 from rfl]
      omega
theorem least_small {row : List Int} {r : Option (List Int)} (h : LeastP row r) (hl : row.length ≤ 1000) : Small r := fun l e => by
  subst e
  obtain ⟨i, j, k, rfl, hp, _⟩ := h
  obtain ⟨h1, h2, h3, _⟩ := hp
  have : (1000 : Nat) < 10 ^ 30 := by decide
  exact ⟨i, j, k, rfl, by omega, by omega, by omega⟩
/-- every row has its least pattern, and it is a plan if it has none -/
theorem least_pat {row : List Int} {n : Nat} (h : IsPm row n) {r : Option (List Int)} (hr : LeastP row r) : patB row = r.isNone := by
  cases r with
  | none => exact pat_of (pl_iff.mpr ⟨h, hr⟩)
  | some l =>
    obtain ⟨i, j, k, _, hp, _⟩ := hr
    cases c : patB row with
    | false => rfl
    | true =>
      have h1 := hp.1
      have h2 := hp.2.1
      have h3 := hp.2.2.1
      have hl := h.len
      unfold patB at c
      have z := List.all_eq_true.mp c (j - 1) (List.mem_range.mpr (by omega))
      rw [show j - 1 + 1 = j by omega] at z
      exact absurd hp (at_none h ⟨by omega, by omega⟩ z i k)
section
variable {P : Program} {w : World} {K : PySem.W.Frag} {mg : Str → Option Value} {base : Heap} {σ : L2.St} {H : Hp}
theorem opt_none {r : Option (List Int)} {v : V} {H : Hp} (h : optR r v H) : decide (v = .non) = r.isNone := by
  cases r with
  | none =>
    obtain rfl : v = .non := h
    simp
  | some l =>
    obtain ⟨p, rfl, _⟩ := h
    simp
theorem due_dp {t : Addr} {v : V} {r : Option (List Int)} (ht : H t = some (.lst [v, .bl r.isNone])) (hv : optR r v H) : Dp K H (.ref t) (dueD r) := by
  refine .lst (SqL.of ht) (.cons ?_ (.cons (.bl _) .nil))
  cases r with
  | none =>
    obtain rfl : v = .non := hv
    exact .non
  | some l =>
    obtain ⟨p, rfl, hp⟩ := hv
    refine .tup (SqT.of hp) ?_
    clear hp ht
    induction l with
    | nil => exact .nil
    | cons i l ih => exact .cons (.int i) ih
theorem ev_reprDue {tA tB : TE} {r : Option (List Int)} (hs : Small r) (h1 : EvR tA σ H (optR r)) (h2 : ∀ H', Evl.Ex H H' → Evl.Ev tB σ H' (.bl r.isNone)) : Evl.Ev (tCB (Gd.rRepr K) (tCons (tLst (tCons tA (tCons tB tNil))) tNil)) σ H (.str (dueD r).shown) := fun H1 e1 Q q =>
  h1 H1 e1 _ fun v H2 e2 hv => h2 H2 (e1.trans e2) H2 (Evl.Ex.refl _) _ fun H3 e3 => ⟨(show 2 ≤ sizeLine by decide), fun t nt =>
    ⟨.ref t, dueD r, rfl, due_dp upd_same (optR_e _ _ _ _ (e3.trans (Evl.Ex.new nt)) hv), fun _ => (due_shown hs).2.2, (due_shown hs).1, (due_shown hs).2.1, q _ ((e2.trans e3).trans (Evl.Ex.new nt))⟩⟩
theorem evr_var {n : Nat} {v : V} {R : V → Hp → Prop} (h : σ[n]? = some (some v)) (hR : ∀ H', Evl.Ex H H' → R v H') : EvR (tVar n) σ H R := fun H1 e Q q => ⟨v, h, q v H1 (Evl.Ex.refl _) (hR H1 e)⟩
theorem er_sortLL {te : TE} {zs : List (List Int)} (h : EvRL te σ H lstI zs) (hz : zs.length ≤ 50000) : EvRL (tCB (SoL.rSortLL K) (tCons te tNil)) σ H lstI (SoL.sortL zs) := fun H1 e Q q =>
  h H1 e (fun x H' => SoL.rSortLL K [x] H' Q) fun p H2 np e2 hp => by
    obtain ⟨ys, hy, hpr⟩ := hp
    exact ⟨p, ys, zs, rfl, SqL.of hy, hpr, hz, fun out r hr nr => q r _ (Evl.fresh_back e2 nr) (e2.trans (Evl.Ex.new nr)) ⟨out, upd_same, pr_e lstI_e (Evl.Ex.new nr) hr⟩⟩
theorem er_sortV {te : TE} {p : Addr} {zs : List (List Int)} (h : Evl.Ev te σ H (.ref p)) (hl : RL lstI H p zs) (hz : zs.length ≤ 50000) : EvRL (tCB (SoL.rSortLL K) (tCons te tNil)) σ H lstI (SoL.sortL zs) := fun H1 e Q q =>
  h H1 e (fun x H' => SoL.rSortLL K [x] H' Q) fun H2 e2 => by
    obtain ⟨ys, hy, hpr⟩ := hl.ex lstI_e (e.trans e2)
    exact ⟨p, ys, zs, rfl, SqL.of hy, hpr, hz, fun out r hr nr => q r _ (Evl.fresh_back e2 nr) (e2.trans (Evl.Ex.new nr)) ⟨out, upd_same, pr_e lstI_e (Evl.Ex.new nr) hr⟩⟩
theorem er_map {α : Type} {g : α → List Int} {te : TE} {zs : List α} (h : EvRL te σ H (fun i => lstI (g i)) zs) : EvRL te σ H lstI (zs.map g) := fun H1 e Q q => h H1 e Q fun p H2 np e2 hp => q p H2 np e2 (rl_map hp)
/-- what te makes == a name's value, the same numbers -/
theorem ev_eqV {te : TE} {n : Nat} {p : Addr} {zs ws : List (List Int)} (h2 : EvRL te σ H lstI ws) (h1 : σ[n]? = some (some (.ref p))) (hp : RL lstI H p zs) (e : ws = zs) : Evl.Ev (tOp (rEqD K) te (tVar n)) σ H (.bl true) := by
  refine Evl.ev_is (v := .bl (decide (ws = zs))) (fun H1 e1 Q q => h2 H1 e1 (fun x H2 => tVar n σ H2 fun y H3 => rEqD K x y H3 Q) fun p' H2 np e2 hp' => ⟨.ref p, h1, ?_⟩) (by rw [decide_eq_true e])
  exact datLst.list.rv_eq (by decide) (rlR_e lstI_e) ⟨p', rfl, hp'⟩ ⟨p, rfl, hp.ex lstI_e (e1.trans e2)⟩ H2 (Evl.Ex.refl _) Q fun H3 e3 => q H3 (e2.trans e3)
theorem kl_of {H : Hp} {D l : Addr} {zs : List (List Int)} (hD : H D = some (.lst [])) (hl : RL lstI H l zs) (hz : ∀ z ∈ zs, z ≠ []) (ne : l ≠ D) {H' : Hp} (b : But1 D H H') : RL (KL D) H' l zs := by
  obtain ⟨ys, h1, h2⟩ := hl
  refine ⟨ys, b l _ ne h1, ?_⟩
  have h3 : Paired (fun y z => KL D z y H) ys zs := by
    clear h1
    induction h2 with
    | nil => exact .nil
    | cons h t ih =>
      obtain ⟨p, rfl, hp⟩ := h
      refine .cons ⟨p, rfl, hide_of (fun e => ?_) hp⟩ (ih fun z hz' => hz z (List.mem_cons_of_mem _ hz'))
      rw [e, hD] at hp
      have := hz _ List.mem_cons_self
      injection hp with hp
      injection hp with hp
      exact this (List.map_eq_nil_iff.mp hp.symm)
  exact rl_kl h3 b
theorem grid_le {i : Nat} (h : i < 6) : (gridF i).length ≤ 720 := by
  have h1 := plans_perm (n := i)
  have h2 := lists_le ⟨i + 1, by omega⟩
  have h2 : (listsF (i + 1)).length ≤ 720 := h2
  have h3 := h1.length_eq
  rw [List.length_map] at h3
  rw [grid_codes, List.length_map, h3]
  exact Nat.le_trans (List.length_filter_le _ _) h2
def spAllRight (tb : Addr) : Sp := fun vs H Q _ => ∃ (n : Nat), vs = [.int (n : Int)] ∧ (1 ≤ n ∧ n ≤ 6) ∧ H tb = some (GnR.TabO tb) ∧ ∀ H', Evl.Ex H H' → Q (.bl true) H'
theorem ok_all_right {f f1 f2 f3 f4 f5 f6 : Addr} {fd fd1 fd2 fd3 fd4 fd5 fd6 : FuncData} {tb : Addr} (F : Fun K "_law_all_right" "_law_all_right" s__law_all_right f fd) (B : BQ mg) (C__law_all_grown : Cal P w K mg base "_law_all_grown" 2 f1 fd1 ["many"] spAllG) (C__law_plan : Cal P w K mg base "_law_plan" 5 f2 fd2 ["panes"] spPlan)
    (C__law_lists : Cal P w K mg base "_law_lists" 1 f3 fd3 ["many"] spLists) (C__law_pattern : Cal P w K mg base "_law_pattern" 1 f4 fd4 ["row_here"] spLawPat) (C_pattern_in : Cal P w K mg base "pattern_in" 3 f5 fd5 ["row"] (spPatIn tb)) (C_is_plan : Cal P w K mg base "is_plan" 3 f6 fd6 ["thing"] (spIsPlanA tb))
    (B_pattern_in : KB0 fd5 ["row"] ["row"] (fun ws => ws) (fun zs => zs)) (B_is_plan : KB0 fd6 ["thing"] ["thing"] (fun ws => ws) (fun zs => zs)) : Gd.FnG P w K mg base CX0 6 f fd ["many"] (spAllRight tb) := by
  refine Gd.fun_g F sc__law_all_right (fun vs H Q E h => ?_) (fun cdv A outer s H vs Q E hc hr h => ?_)
  · obtain ⟨n, rfl, _⟩ := h
    rfl
  · obtain ⟨n, rfl, ⟨hn1, hn2⟩, ht, q⟩ := h
    refine ⟨_, (pss_cons (ps_set (i := 1) sc__law_all_right.nd rfl (.inl rfl) (pe_callB (SoL.cr_sortedLL hr.units) (by rfl) B.sorted_ (by decide +kernel) (pa_cons (pe_lc (own := [("panes", 5)]) (g := gName 5) (tt := tYes) rfl sc__law_all_right.nd (pi_list (pe_call C__law_all_grown.G (hr.mono (by decide)) (by rfl) C__law_all_grown.g C__law_all_grown.k C__law_all_grown.b .nil pass0 (by exact (pa_cons (pv 0) pa_nil)))) (blkOk_by (N := n__law_all_right) (sc := (defScope s__law_all_right)) (by decide +kernel)) (fun _ _ _ _ _ => (pg_name (i := 5) sc__law_all_right.nd rfl (Or.inl rfl))) (fun _ _ _ _ _ => pts_nil) (fun _ _ _ _ _ => (pe_call C__law_plan.G (hr.mono (by decide)) (by rfl) C__law_plan.g C__law_plan.k C__law_plan.b .nil pass0 (by exact (pa_cons (pv 5) pa_nil))))) pa_nil)))
      (pss_cons (ps_set (i := 2) sc__law_all_right.nd rfl (.inl rfl) (pe_lst pa_nil))
      (pss_cons (ps_for PassesOwn.never rfl (pi_list (pe_call C__law_lists.G (hr.mono (by decide)) (by rfl) C__law_lists.g C__law_lists.k C__law_lists.b .nil pass0 (by exact (pa_cons (pv 0) pa_nil)))) (pg_name (i := 3) sc__law_all_right.nd rfl (Or.inl rfl)) (pss_cons (ps_set (i := 4) sc__law_all_right.nd rfl (.inl rfl) (pe_call C__law_pattern.G (hr.mono (by decide)) (by rfl) C__law_pattern.g C__law_pattern.k C__law_pattern.b .nil pass0 (by exact (pa_cons (pv 3) pa_nil))))
      (pss_cons (ps_if (pt_cmpR op_ne (pe_callB (reprK (K := K) rfl hc hr) (by rfl) B.repr_ (by decide +kernel) (pa_cons (pe_lst (pa_cons (pe_callK0 C_pattern_in.G (hr.mono (by decide)) (by rfl) C_pattern_in.g C_pattern_in.k B_pattern_in pass0 (pk_cons (pv 3) pk_nil)) (pa_cons (pe_callK0 C_is_plan.G (hr.mono (by decide)) (by rfl) C_is_plan.g C_is_plan.k B_is_plan pass0 (pk_cons (pv 3) pk_nil)) pa_nil))) pa_nil)) (pe_callB (reprK (K := K) rfl hc hr) (by rfl) B.repr_ (by decide +kernel) (pa_cons (pe_lst (pa_cons (pv 4) (pa_cons (pe_cmpR op_isN (pv 4) pe_non (nomark _)) pa_nil))) pa_nil)) (nomark _)) (pss_one (ps_ret pe_bl)) pss_nil)
      (pss_one (ps_if (pt_cmpR op_isN (pv 4) pe_non (nomark _)) (pss_one (ps_expr (pe_bm PySem.F.plainAttrs_list PySem.F.slot_list_append PySem.F.type_list_append mt_append (pv 2) (pa_cons (pv 3) pa_nil)))) pss_nil)))))
      (pss_one (ps_ret (pe_cmpR (op_eqD hr.units) (pe_callB (SoL.cr_sortedLL hr.units) (by rfl) B.sorted_ (by decide +kernel) (pa_cons (pv 2) pa_nil)) (pv 1) (nomark _))))))), ?_⟩
    obtain ⟨i, rfl⟩ : ∃ i, n = i + 1 := ⟨n - 1, by omega⟩
    have hgl := grid_le (i := i) (by omega)
    have hcl : (codesQ i).length ≤ 720 := by rw [grid_codes, List.length_map] at hgl; exact hgl
    -- plans_here
    refine q_asgRL (R := lstI) (zs := SoL.sortL ((codesQ i).map planC)) ?_ fun pp H1 np e1 hp => ?_
    · refine er_sortLL (er_map (g := planC) ?_) (by rw [List.length_map]; omega)
      have fy : (codesQ i).filter (fun _ => true) = codesQ i := List.filter_eq_self.mpr fun _ _ => rfl
      have z := er_lcNRL (K := K) (R := fun ns => layR (layF ns)) (fun z v H H' e h => layR_e _ v H H' e h) (S := fun ns => lstI (planC ns)) (fun z v H H' D k1 k2 h => lstI_m2 _ v H H' D k1 k2 h) (zs := codesQ i) (σ := [some (.int ((i + 1 : Nat) : Int)), none, none, none, none, none]) (H := H) (tl := tCall spAllG [] E0 (tCons (tVar 0) tNil)) (t := tYes) (te := tCall spPlan [] E0 (tCons (tVar 5) tNil)) (j := 5) (vs := [5]) (fun _ => true)
        (fun H3 e3 Q q => (Evl.ea_cons (Evl.ev_var rfl) Evl.ea_nil : Evl.EvA (tCons (tVar 0) tNil) _ H [.int ((i + 1 : Nat) : Int)]) H3 e3 _ fun H4 e4 => ⟨i + 1, rfl, by omega, by omega, fun k hk => Nat.lt_of_le_of_lt (grid_le (by omega)) (by decide), fun H5 l e5 nl hl => q l H5 (Evl.fresh_back e4 nl) (e4.trans e5) (by
          rw [show i + 1 - 1 = i from rfl, grid_codes] at hl
          exact rl_unmap hl)⟩) (by omega) (fun _ => rfl) (fun ns hns y H3 e3 hy => et_yes) (fun ns hns y H3 e3 hy _ => ?_)
      · rw [fy] at z
        exact z
      · obtain ⟨a, rfl, ha⟩ := hy
        obtain ⟨hv, hlen⟩ := (codes_mem i ns).mp hns
        obtain ⟨plan, W, H0, g⟩ := grown_of hv
        have el : Evl.EvL (tCall spPlan [] E0 (tCons (tVar 5) tNil)) ([some (.int ((i + 1 : Nat) : Int)), none, none, none, none, some (.ref a)] : L2.St) H3 ((planC ns).map V.int) :=
          Evl.el_call (vs := [.ref a]) (Evl.ea_cons (Evl.ev_var rfl) Evl.ea_nil) fun H9 e9 Q q2 E => ⟨a, layF ns, W, H0, rfl, ha.ex panR_e e9, psok g (by omega), fun H10 a' e10 ha' na => q2 a' H10 na e10 (by rw [ha', g.plan, planC_of g.made])⟩
        exact fun H4 e4 Q q => el H4 e4 _ fun p H5 np e5 hp => q (.ref p) H5 e5 (fun p' hp' => .inl (by cases hp'; exact np)) ⟨p, rfl, hp⟩
    dsimp only [List.set]
    -- found
    refine Evl.q_asgL (xs := []) (Evl.el_lst Evl.ea_nil (by decide)) fun Dl H2 nD e2 hD => ?_
    show tSeq _ _ _ [some (.int ((i + 1 : Nat) : Int)), some (.ref pp), some (.ref Dl), none, none, none] H2
    have hzl := lists_len (i + 1)
    have hll : (listsF (i + 1)).length ≤ 720 := lists_le ⟨i + 1, by omega⟩
    obtain ⟨hpm, _⟩ := lists_pm (i + 1)
    have hp2 := hp.ex lstI_e e2
    have pD : pp ≠ Dl := fun e => by
      obtain ⟨ys, h1, _⟩ := hp
      rw [e, nD] at h1
      cases h1
    have hpD : RL lstI (hide Dl H2) pp (SoL.sortL ((codesQ i).map planC)) := hp.ex lstI_e fun p o h => hide_of (fun e => by
      rw [e, nD] at h
      cases h) (e2 _ _ h)
    have tD : tb ≠ Dl := fun e => by
      have := e1 _ _ ht
      rw [e, nD] at this
      cases this
    have ht2 := e2 _ _ (e1 _ _ ht)
    have hne : ∀ z ∈ listsF (i + 1), z ≠ [] := fun z hz e => by
      have := hzl z hz
      rw [e] at this
      cases this
    have hit : EvRL (tCall spLists [] E0 (tCons (tVar 0) tNil)) [some (.int ((i + 1 : Nat) : Int)), some (.ref pp), some (.ref Dl), none, none, none] H2 (KL Dl) (listsF (i + 1)) := fun H3 e3 Q q => (Evl.ea_cons (Evl.ev_var rfl) Evl.ea_nil : Evl.EvA (tCons (tVar 0) tNil) _ H2 [.int ((i + 1 : Nat) : Int)]) H3 e3 _ fun H4 e4 => ⟨i + 1, rfl, hn2, fun H5 l e5 nl hl => q l H5 (Evl.fresh_back e4 nl) (e4.trans e5) (kl_of (((e3.trans e4).trans e5) _ _ hD) hl hne (fun e => by
      rw [e, (e3.trans e4) _ _ hD] at nl
      cases nl) (But1.of (Evl.Ex.refl _)))⟩
    refine q_forNRL (K := K) (g := gName 3) hit (fun fa k σ H4 => ∃ o3 o4, σ = [some (.int ((i + 1 : Nat) : Int)), some (.ref pp), some (.ref Dl), o3, o4, none] ∧ But1 Dl H2 H4 ∧ RL (KL Dl) H4 fa (listsF (i + 1)) ∧ fa ≠ Dl ∧ RL (KL Dl) H4 Dl (((listsF (i + 1)).take k).filter patB))
      (fun fa H3 nfa e3 hfa => ⟨_, _, rfl, But1.of e3, hfa, (fun e => by
        rw [e, hD] at nfa
        cases nfa), ⟨[], e3 _ _ hD, .nil⟩⟩) (fun fa k σ H4 _ hv => ?_) (fun fa k one y σ H4 hz hy hv => ?_) (fun fa σ H4 hv => ?_)
    · obtain ⟨_, _, _, _, h, _⟩ := hv
      exact h
    · obtain ⟨o3, o4, rfl, b4, hfa, nfD, hDl⟩ := hv
      have keep : ∀ {H5 : Hp}, But1 Dl H4 H5 → RL (KL Dl) H5 fa (listsF (i + 1)) := fun {H5} b => by
        obtain ⟨ys, h1, h2⟩ := hfa
        exact ⟨ys, b _ _ nfD h1, rl_kl h2 b⟩
      obtain ⟨a, rfl, ha'⟩ := hy
      have ha := hide_ex _ _ ha'
      have h1 := (hpm one).mp (List.mem_of_getElem? hz)
      have hol := h1.len
      have ht4 := b4 _ _ tD ht2
      refine it_name ?_
      show tSeq _ _ _ [some (.int ((i + 1 : Nat) : Int)), some (.ref pp), some (.ref Dl), some (.ref a), o4, none] H4
      refine ⟨.ref a, rfl, a, one, rfl, ha, by omega, fun r v H5 e5 hr hv => ?_⟩
      refine it_name ?_
      dsimp only [List.set]
      have hpt := least_pat h1 hr
      have hrow : rowB one = true := row_of h1 (by omega) (by omega)
      have hsm := least_small hr (by omega)
      have evN : ∀ {H' : Hp}, Evl.Ev (tOp (fun x y H Q => y = .non ∧ Q (.bl (decide (x = .non))) H) (tVar 4) (tC .non)) [some (.int ((i + 1 : Nat) : Int)), some (.ref pp), some (.ref Dl), some (.ref a), some v, none] H' (.bl r.isNone) := fun {H'} => Evl.ev_op (Evl.ev_var rfl) Evl.ev_c fun H6 e6 Q q => ⟨rfl, by rw [opt_none hv]; exact q H6 (Evl.Ex.refl _)⟩
      refine Evl.q_when (b := false) (Evl.et_is (Evl.et_test (Evl.ev_op (ev_reprDue (r := r) hsm ?_ ?_) (ev_reprDue (r := r) hsm (evr_var (n := 4) (v := v) rfl fun H' e => optR_e _ _ _ _ e hv) fun H' e => evN) (Evl.rv_ne rfl))) (by simp)) (fun h => by cases h) fun _ H6 e6 => ?_
      · intro H6 e6 Q q
        refine ⟨.ref a, rfl, rfl, a, one, rfl, (e5.trans e6) _ _ ha, by omega, hrow, (e5.trans e6) _ _ ht4, fun r' v' H7 e7 hr' hv' => ?_⟩
        rw [least_one hr' hr] at hv'
        exact q v' H7 e7 hv'
      · intro H6 e6
        exact ev_callK0 (vs := [.ref a]) (Evl.ea_cons (Evl.ev_var rfl) Evl.ea_nil) rfl fun H7 e7 Q q E => ⟨.ref a, _, _, rfl, .num ⟨a, rfl, ((e5.trans e6).trans e7) _ _ ha, by omega⟩, ((e5.trans e6).trans e7) _ _ ht4, fun H8 e8 => by rw [hrow, hpt]; exact q H8 e8⟩
      · have e46 := e5.trans e6
        obtain ⟨ys, hy1, hy2⟩ := hDl
        have hyl := pr_len hy2
        have hyl2 : ys.length ≤ 720 := by
          rw [hyl]
          refine Nat.le_trans (List.length_filter_le _ _) (Nat.le_trans ?_ hll)
          rw [List.length_take]
          exact Nat.min_le_right _ _
        have hst : ((listsF (i + 1)).take (k + 1)).filter patB = ((listsF (i + 1)).take k).filter patB ++ (if r.isNone then [one] else []) := by
          rw [List.take_add_one, hz, List.filter_append, ← hpt]
          cases hh : patB one <;> simp [hh]
        refine Evl.s_when (b := r.isNone) (Evl.et_test evN) (fun hb H7 e7 => ?_) (fun hb H7 e7 => ?_)
        · have e47 := e46.trans e7
          refine s_appN (R := fun v _ => v = .ref a) (e47 _ _ hy1) (Evl.ev_var rfl) (fun H8 e8 Q q => ⟨.ref a, rfl, q _ H8 (Evl.Ex.refl _) rfl⟩) (by omega) fun v' H8 e8 hv' => ?_
          subst hv'
          have b : But1 Dl H4 (upd H8 Dl (.lst (ys ++ [.ref a]))) := (But1.of (e47.trans e8)).upd
          refine ⟨_, _, rfl, b4.tr b, keep b, nfD, ys ++ [.ref a], upd_same, ?_⟩
          rw [hst, hb, if_pos rfl]
          exact pr_app (rl_kl hy2 b) (.cons (lstI_e _ _ _ _ (hide_but b) ⟨a, rfl, ha'⟩) .nil)
        · have e47 := e46.trans e7
          refine ⟨_, _, rfl, b4.tr (But1.of e47), keep (But1.of e47), nfD, ys, e47 _ _ hy1, ?_⟩
          rw [hst, hb, if_neg (by decide), List.append_nil]
          exact rl_kl hy2 (But1.of e47)
    · obtain ⟨o3, o4, rfl, b4, _, _, hDl⟩ := hv
      rw [List.take_length] at hDl
      have hp4 : RL lstI H4 pp (SoL.sortL ((codesQ i).map planC)) := by
        have z := hpD.ex lstI_e (hide_but b4)
        exact z.ex lstI_e hide_ex
      have ex4 : Evl.Ex H H4 := fun x o h => by
        have nx : x ≠ Dl := fun e => by
          have := e1 _ _ h
          rw [e, nD] at this
          cases this
        exact b4 _ _ nx (e2 _ _ (e1 _ _ h))
      exact Evl.s_ret (ev_eqV (er_sortV (Evl.ev_var rfl) (unhideL hDl) (by
        refine Nat.le_trans (List.length_filter_le _ _) (Nat.le_trans hll (by decide)))) rfl hp4 (SoL.sort_eq plans_perm.symm)) fun H5 e5 => q H5 (ex4.trans e5)
end
end GL
set_option Elab.async false
set_option linter.all false
set_option maxRecDepth 100000
set_option maxHeartbeats 8000000
/-! # k10: a long plan, two of its panes changed, other things -/
namespace GL
open PySem PySem.Spec PyProof.Rows L2 Geo Rel Bx AvR
def swapL (row : List Int) (i j : Nat) : List Int := (row.set i (row.getD j 0)).set j (row.getD i 0)
theorem swap_perm {row : List Int} {i j : Nat} (hi : i < row.length) (hj : j < row.length) : (swapL row i j).Perm row := by
  have z := Array.swap_perm (xs := row.toArray) (i := i) (j := j) (by simpa using hi) (by simpa using hj)
  have e : (row.toArray.swap i j (by simpa using hi) (by simpa using hj)).toList = swapL row i j := by
    unfold swapL
    rw [getD_eq hi, getD_eq hj]
    simp [Array.swap]
  have z2 := z.toList
  rw [e] at z2
  simpa using z2
theorem swap_pm {row : List Int} {n i j : Nat} (h : IsPm row n) (hi : i < n) (hj : j < n) : IsPm (swapL row i j) n := by
  have hl := h.len
  have p := swap_perm (row := row) (i := i) (j := j) (by omega) (by omega)
  exact ⟨p.nodup_iff.mpr h.nd, fun v => p.mem_iff.trans (h.mem v), by rw [p.length_eq, hl]⟩
abbrev FStr : Str := Str.ofString "False"
def ThgF (_ : Unit) (v : V) (H : Hp) : Prop := ∃ r, Thg H v r false
theorem thgF_e : MonoE ThgF := fun _ v H H' e ⟨r, h⟩ => ⟨r, h.ex e⟩
def strF (_ : Unit) (v : V) (_ : Hp) : Prop := v = .str FStr
theorem strF_m : Mono strF := fun _ _ _ _ _ _ _ h => h
section
variable {P : Program} {w : World} {K : PySem.W.Frag} {mg : Str → Option Value} {base : Heap} {σ : L2.St} {H : Hp}
def rTupOf (K : PySem.W.Frag) : List V → Hp → VK → Prop := fun xs H Q => ∃ p ys, xs = [V.ref p] ∧ ((SqL K H p ys ∧ ∀ (l : Addr), H l = none → Q (V.ref l) (upd H l (HO.tup ys))) ∨ SqT K H p ys ∧ Q (V.ref p) H)
theorem tupOfK {X : Cx} (e : X.K = K) : CallR X (.type "tuple") (rTupOf K) := e ▸ call_tuple_of
theorem q_dip {t1 t2 : TE} {i : Nat} {j : Addr} {n : Int} {m : Nat} {E : XK} {tz : TS} {D : Ends} (h1 : Evl.Ev t1 σ H (.ref j)) (h2 : Evl.Ev t2 σ H (.int n)) (n0 : 0 < n) (n1 : n < 2 ^ 200) (hj : Jar H j m) (hm : m ≤ 1000000)
    (k : ∀ H' r, 0 ≤ r → r < n → But j H H' → Jar H' j (m + 1) → tz D (σ.set i (some (.int r))) H') : tSeq (tAsg (tCall spDip [] E (tCons t1 (tCons t2 tNil))) (gName i)) tz D σ H :=
  h1 H (Evl.Ex.refl _) _ fun H1 e1 => h2 H1 e1 _ fun H2 e2 => ⟨j, n, m, rfl, n0, n1, hj.same (e1.trans e2), hm, fun H3 r r0 r1 b hj' => k H3 r r0 r1 (fun x o nx h => b _ _ nx (e2 _ _ (e1 _ _ h))) hj'⟩
/-- x = a + 1 if dip == 0 else dip -/
theorem q_dipIf {t1 t2 t3 t4 ta : TE} {i : Nat} {j : Addr} {n a : Int} {m : Nat} {E E' : XK} {tz : TS} {D : Ends} (h1 : Evl.Ev t1 σ H (.ref j)) (h2 : Evl.Ev t2 σ H (.int 2)) (ha : ∀ H', Evl.Ev ta σ H' (.int a)) (a0 : 0 ≤ a ∧ a < n) (h3 : ∀ H', Evl.Ev t3 σ H' (.ref j)) (h4 : ∀ H', Evl.Ev t4 σ H' (.int n)) (n1 : n < 2 ^ 200) (hj : Jar H j m) (hm : m < 1000000)
    (k : ∀ H' r m', 0 ≤ r → r < n → But j H H' → Jar H' j m' → m' ≤ m + 2 → tz D (σ.set i (some (.int r))) H') : tSeq (tAsg (tIf (tTest (tOp rEq (tCall spDip [] E (tCons t1 (tCons t2 tNil))) (tC (.int 0)))) ta (tCall spDip [] E' (tCons t3 (tCons t4 tNil)))) (gName i)) tz D σ H :=
  h1 H (Evl.Ex.refl _) _ fun H1 e1 => h2 H1 e1 _ fun H2 e2 => ⟨j, 2, m, rfl, by decide, by decide, hj.same (e1.trans e2), by omega, fun H3 r r0 r1 b hj' => ⟨rfl, _, rfl, by
    have b1 : But j H H3 := fun x o nx h => b _ _ nx (e2 _ _ (e1 _ _ h))
    show (if decide (V.int r = V.int 0) = true then _ else _)
    by_cases c : r = 0
    · rw [if_pos (by rw [c]; rfl)]
      exact ha H3 H3 (Evl.Ex.refl _) _ fun H4 e4 => k H4 a (m + 1) a0.1 a0.2 (fun x o nx h => e4 _ _ (b1 _ _ nx h)) (hj'.same e4) (by omega)
    · rw [if_neg (by
        intro h
        have := of_decide_eq_true h
        cases this
        exact c rfl)]
      exact h3 H3 H3 (Evl.Ex.refl _) _ fun H4 e4 => h4 H3 H4 e4 _ fun H5 e5 => ⟨j, n, m + 1, rfl, by omega, n1, hj'.same (e4.trans e5), by omega, fun H6 r' r0' r1' b' hj'' => k H6 r' (m + 1 + 1) r0' r1' (fun x o nx h => b' _ _ nx (e5 _ _ (e4 _ _ (b1 _ _ nx h)))) hj'' (by omega)⟩⟩⟩
/-- xs[i], xs[j] = xs[j], xs[i] -/
theorem q_swap {n si sj : Nat} {D : Ends} {tz : TS} {p : Addr} {row : List Int} {i j : Nat} (hn : σ[n]? = some (some (.ref p))) (hsi : σ[si]? = some (some (.int (i : Int)))) (hsj : σ[sj]? = some (some (.int (j : Int)))) (hp : H p = some (.lst (row.map V.int))) (hi : i < row.length) (hj : j < row.length)
    (k : ∀ H1, But p H H1 → H1 p = some (.lst ((swapL row i j).map V.int)) → tz D σ H1) :
    tSeq (tAsg (tTup (tCons (tOp (rIxL K) (tVar n) (tVar sj)) (tCons (tOp (rIxL K) (tVar n) (tVar si)) tNil))) (gTup K 2 (gCons (gSub (tVar n) (tVar si) rSetL) (gCons (gSub (tVar n) (tVar sj) rSetL) gNil)))) tz D σ H := by
  refine (ev_ixI (Evl.ev_var hn) hp (Evl.ev_var hsj) hj) H (Evl.Ex.refl H) _ fun H1 e1 => (ev_ixI (Evl.ev_var hn) (e1 _ _ hp) (Evl.ev_var hsi) hi) H1 (Evl.Ex.refl H1) _ fun H2 e2 => ⟨(show 2 ≤ sizeLine by decide), fun T nT => ?_⟩
  have e3 : Evl.Ex H (upd H2 T (.tup [.int (row.getD j 0), .int (row.getD i 0)])) := (e1.trans e2).trans (Evl.Ex.new nT)
  refine ⟨T, [.int (row.getD j 0), .int (row.getD i 0)], rfl, .inl (.inl upd_same), rfl, .int (row.getD j 0), [.int (row.getD i 0)], rfl, .ref p, hn, .int (i : Int), hsi, ?_⟩
  refine ⟨p, row.map V.int, (i : Int), i, rfl, rfl, e3 _ _ hp, Evl.ixN_nat (by rw [List.length_map]; exact hi), .int (row.getD i 0), [], rfl, .ref p, hn, .int (j : Int), hsj, ?_⟩
  refine ⟨p, (row.map V.int).set i (.int (row.getD j 0)), (j : Int), j, rfl, rfl, upd_same, Evl.ixN_nat (by rw [List.length_set, List.length_map]; exact hj), rfl, ?_⟩
  refine k _ (fun c o nc h => ?_) ?_
  · rw [upd_ne nc, upd_ne nc]
    exact e3 _ _ h
  · rw [upd_same]
    unfold swapL
    rw [List.map_set, List.map_set]
theorem evr_nums {te : TE} {row : List Int} (h : Evl.EvL te σ H (row.map V.int)) (hl : row.length ≤ 1000) (hr : (rowB row && patB row) = false) : EvR te σ H (ThgF ()) := fun H1 e Q q => h H1 e _ fun p H2 np e2 hp => q (.ref p) H2 e2 ⟨rowB row, by
  rw [← hr]
  exact .num ⟨p, rfl, hp, hl⟩⟩
theorem evr_odd {te : TE} {xs : List V} (h : Evl.EvL te σ H xs) (hl : xs.length ≤ 1000) (hi : ∀ y ∈ xs, Itm1 H y) (ho : xs.all isIntV = false) : EvR te σ H (ThgF ()) := fun H1 e Q q => h H1 e _ fun p H2 np e2 hp => q (.ref p) H2 e2 ⟨false, .lst ⟨p, xs, rfl, hp, hl, fun y hy => (hi y hy).ex (e.trans e2), ho⟩⟩
theorem evr_c {v : V} (h : Odd H v) : EvR (tC v) σ H (ThgF ()) := fun H1 e Q q => q v H1 (Evl.Ex.refl _) ⟨false, .odd (h.ex e)⟩
theorem evr_dnew : EvR tDNewK σ H (ThgF ()) := fun H1 e Q q p np => q (.ref p) _ (Evl.Ex.new np) ⟨false, .odd (.dct upd_same)⟩
theorem evr_tup0 : EvR (tTup tNil) σ H (ThgF ()) := fun H1 e Q q => (Evl.eu_tup Evl.ea_nil (Nat.zero_le _)) H1 e Q fun p H2 np e2 hp => q (.ref p) H2 e2 ⟨false, .odd (.tup hp)⟩
theorem evr_tupOf {n : Nat} {l : Addr} {xs : List V} (hn : σ[n]? = some (some (.ref l))) (hl : H l = some (.lst xs)) : EvR (tCB (rTupOf K) (tCons (tVar n) tNil)) σ H (ThgF ()) := fun H1 e Q q => ⟨.ref l, hn, l, xs, rfl, .inl ⟨SqL.of (e _ _ hl), fun r nr => q (.ref r) _ (Evl.Ex.new nr) ⟨false, .odd (.tup upd_same)⟩⟩⟩
theorem evr_ltup {ta : TA} {xs : List V} (h : Evl.EvA ta σ H xs) (hl : xs.length ≤ 1000) : EvR (tLst (tCons (tTup ta) tNil)) σ H (ThgF ()) := fun H1 e Q q =>
  (Evl.eu_tup h (by omega)) H1 e (fun v H2 => tNil σ H2 fun vs H3 => (v :: vs).length ≤ sizeLine ∧ ∀ p, H3 p = none → Q (.ref p) (upd H3 p (.lst (v :: vs)))) fun t H2 nt e2 ht => ⟨(show 1 ≤ sizeLine by decide), fun p np => q (.ref p) _ (e2.trans (Evl.Ex.new np)) ⟨false, .lst ⟨p, [.ref t], rfl, upd_same, by show 1 ≤ 1000; decide, fun y hy => by
    rw [List.mem_singleton.mp hy]
    exact .inl (.tup (Evl.Ex.new np _ _ ht)), rfl⟩⟩⟩
theorem er_catV {α : Type} {R : α → V → Hp → Prop} (m : MonoE R) {te : TE} {n : Nat} {p : Addr} {zs ws : List α} (hn : σ[n]? = some (some (.ref p))) (hp : RL R H p zs) (h : EvRL te σ H R ws) (hl : zs.length + ws.length ≤ 100000) : EvRL (tOp rCat (tVar n) te) σ H R (zs ++ ws) := fun H1 e Q q =>
  ⟨.ref p, hn, h H1 e _ fun p' H2 np e2 hp' => by
    obtain ⟨ys, h1, h2⟩ := hp.ex m (e.trans e2)
    obtain ⟨us, h3, h4⟩ := hp'
    have l1 := pr_len h2
    have l2 := pr_len h4
    exact ⟨p, p', ys, us, rfl, rfl, h1, h3, Nat.le_trans (by omega) (show 100000 ≤ sizeLine by decide), fun r nr => q r _ (Evl.fresh_back e2 nr) (e2.trans (Evl.Ex.new nr)) ⟨ys ++ us, upd_same, pr_app (pr_e m (Evl.Ex.new nr) h2) (pr_e m (Evl.Ex.new nr) h4)⟩⟩⟩
theorem str_pr {H : Hp} : ∀ {zs : List Unit} {ys : List V}, Paired (fun y z => strF z y H) ys zs → ys = List.replicate zs.length (.str FStr)
  | [], _, h => by cases h; rfl
  | z :: zs, _, h => by
    cases h with
    | cons h t =>
      rw [str_pr t, show _ = V.str FStr from h]
      rfl
theorem str_all {H : Hp} {l : Addr} {zs : List Unit} (h : RL strF H l zs) : H l = some (.lst (List.replicate zs.length (.str FStr))) := by
  obtain ⟨ys, h1, h2⟩ := h
  rw [h1, str_pr h2]
theorem dp_strs {H : Hp} (s : Str) : ∀ n, DpAll K H (List.replicate n (.str s)) (List.replicate n (PyData.str s))
  | 0 => .nil
  | n + 1 => .cons (.str s) (dp_strs s n)
def dF : PyData := .list (List.replicate 21 (.str FStr))
theorem dF_ok : SeqAt.shaped dF = true ∧ PyData.eqv dF dF = true := by decide +kernel
theorem no_plan0 {plan : List Int} {n : Nat} (h : IsPm plan n) (hn : 1 ≤ n) : (rowB (plan ++ [0]) && patB (plan ++ [0])) = false := by
  cases c : rowB (plan ++ [0]) with
  | false => rfl
  | true =>
    have z := (pm_of_row c).nd
    have h0 := (h.mem 0).mpr (by omega)
    exact absurd rfl ((List.nodup_append.mp z).2.2 0 h0 0 (List.mem_singleton.mpr rfl))
theorem no_planN {plan : List Int} {n : Nat} (h : IsPm plan n) (hn : 1 ≤ n) : (rowB (plan.drop 1 ++ [(n : Int)]) && patB (plan.drop 1 ++ [(n : Int)])) = false := by
  cases c : rowB (plan.drop 1 ++ [(n : Int)]) with
  | false => rfl
  | true =>
    have z := ((pm_of_row c).mem n).mp (List.mem_append_right _ (List.mem_singleton.mpr rfl))
    have hl := h.len
    rw [List.length_append, List.length_drop, List.length_singleton] at z
    omega
theorem row_61 : (rowB ((List.range 61).map fun i : Nat => (i : Int)) && patB ((List.range 61).map fun i : Nat => (i : Int))) = false := by decide +kernel
theorem row_60 : (rowB ((List.range 60).map fun i : Nat => (i : Int)).reverse && patB ((List.range 60).map fun i : Nat => (i : Int)).reverse) = true := by decide +kernel
end
end GL
set_option Elab.async false
set_option linter.all false
set_option maxRecDepth 100000
set_option maxHeartbeats 8000000
/-! # k10: a long plan, two of its panes changed, other things: the def -/
namespace GL
open PySem PySem.Spec PyProof.Rows L2 Geo Rel Bx AvR
section
variable {P : Program} {w : World} {K : PySem.W.Frag} {mg : Str → Option Value} {base : Heap} {σ : L2.St} {H : Hp}
theorem el_rep1 {te : TE} {v : V} {n : Nat} (hn : n ≤ 1000) (h : Evl.Ev te σ H (.int n)) : Evl.EvL (tOp rRep (tLst (tCons (tC v) tNil)) te) σ H (List.replicate n v) := fun H1 e Q q =>
  ⟨(show 1 ≤ sizeLine by decide), fun l nl => h _ (e.trans (Evl.Ex.new nl)) _ fun H2 e2 => by
    have z63 : (2 : Int) ^ 63 = 9223372036854775808 := by decide
    refine ⟨l, (n : Int), [v], rfl, rfl, e2 _ _ upd_same, by rw [z63]; omega, by rw [z63]; omega, ?_, fun p np => ?_⟩
    · have : sizeLine = 16777216 := by decide
      simp
      omega
    · refine q p _ (Evl.fresh_back ((Evl.Ex.new nl).trans e2) np) (((Evl.Ex.new nl).trans e2).trans (Evl.Ex.new np)) ?_
      rw [upd_same]
      simp [List.flatten_replicate_singleton]⟩
theorem el_listOf {t : TE} {l : Addr} {xs : List V} (h : Evl.Ev t σ H (.ref l)) (hl : H l = some (.lst xs)) : Evl.EvL (tCB (Evl.rListS K) (tCons t tNil)) σ H xs := fun H1 e Q q =>
  h H1 e _ fun H2 e2 => ⟨l, xs, rfl, .inl (SqL.of ((e.trans e2) _ _ hl)), fun p np => q p _ (Evl.fresh_back e2 np) (e2.trans (Evl.Ex.new np)) upd_same⟩
theorem el_revN {t : TE} {xs : List V} (h : Evl.EvL t σ H xs) : Evl.EvL (tRevL K t) σ H xs.reverse := fun H1 e Q q =>
  h H1 e _ fun p H2 np e2 hp => ⟨p, xs, rfl, SqL.of hp, fun r nr => q r _ (Evl.fresh_back e2 nr) (e2.trans (Evl.Ex.new nr)) upd_same⟩
def spLaw18 (tb tb2 : Addr) (K : PySem.W.Frag) : Sp := fun vs H Q _ => ∃ (a : Addr) (ns : List Int), vs = [.ref a] ∧ SqL K H a (ns.map V.int) ∧ ns.length ≤ 63 ∧ H tb = some (GnR.TabO tb) ∧ H tb2 = some (GnR.TabO tb2) ∧ ∀ H', Evl.Ex H H' → Q (.bl true) H'
theorem ev_neg {t : TE} {i : Int} (h : Evl.Ev t σ H (.int i)) : Evl.Ev (tUn (rU fun i => .int (-i)) t) σ H (.int (-i)) := fun H1 e Q q => h H1 e _ fun H2 e2 => ⟨i, rfl, q H2 e2⟩
theorem el_catV {n : Nat} {l : Addr} {t2 : TE} {xs ys : List V} (hn : σ[n]? = some (some (.ref l))) (hl : H l = some (.lst xs)) (h2 : Evl.EvL t2 σ H ys) (hs : xs.length + ys.length ≤ 100000) : Evl.EvL (tOp rCat (tVar n) t2) σ H (xs ++ ys) := fun H1 e Q q =>
  ⟨.ref l, hn, h2 H1 e _ fun p' H3 np' e3 hp' => ⟨l, p', xs, ys, rfl, rfl, e3 _ _ (e _ _ hl), hp', Nat.le_trans hs (by decide), fun r nr => q r _ (Evl.fresh_back e3 nr) (e3.trans (Evl.Ex.new nr)) upd_same⟩⟩
theorem el_catW {n : Nat} {l : Addr} {t1 : TE} {xs ys : List V} (h1 : Evl.EvL t1 σ H xs) (hn : σ[n]? = some (some (.ref l))) (hl : H l = some (.lst ys)) (hs : xs.length + ys.length ≤ 100000) : Evl.EvL (tOp rCat t1 (tVar n)) σ H (xs ++ ys) := fun H1 e Q q =>
  h1 H1 e _ fun p H2 np e2 hp => ⟨.ref l, hn, p, l, xs, ys, rfl, rfl, hp, (e.trans e2) _ _ hl, Nat.le_trans hs (by decide), fun r nr => q r _ (Evl.fresh_back e2 nr) (e2.trans (Evl.Ex.new nr)) upd_same⟩
theorem ev_isPl {tb p : Addr} {n : Nat} {row : List Int} {b : Bool} {E : XK} (hn : σ[n]? = some (some (.ref p))) (hp : H p = some (.lst (row.map V.int))) (hl : row.length ≤ 1000) (ht : H tb = some (GnR.TabO tb)) (hb : (rowB row && patB row) = b) : Evl.Ev (tCall (spIsPlanA tb) [] E (tCons (tVar n) tNil)) σ H (.bl b) :=
  Evl.ev_call (vs := [.ref p]) (Evl.ea_cons (Evl.ev_var hn) Evl.ea_nil) fun H1 e1 Q q E => ⟨.ref p, _, _, rfl, .num ⟨p, rfl, e1 _ _ hp, hl⟩, e1 _ _ ht, by rw [hb]; exact q⟩
theorem evr_patIn {tb p : Addr} {n : Nat} {row : List Int} {r : Option (List Int)} {E : XK} (hn : σ[n]? = some (some (.ref p))) (hp : H p = some (.lst (row.map V.int))) (hl : row.length ≤ 1000) (hrow : rowB row = true) (ht : H tb = some (GnR.TabO tb)) (hr : LeastP row r) : EvR (tCall (spPatIn tb) [] E (tCons (tVar n) tNil)) σ H (optR r) := fun H1 e Q q =>
  ⟨.ref p, hn, p, row, rfl, e _ _ hp, hl, hrow, e _ _ ht, fun r' v H2 e2 hr' hv => by
    rw [least_one hr' hr] at hv
    exact q v H2 e2 hv⟩
theorem ev_ofNone {te : TE} (h : EvR te σ H (optR none)) : Evl.Ev te σ H .non := fun H1 e Q q => h H1 e Q fun v H2 e2 hv => by
  obtain rfl : v = .non := hv
  exact q H2 e2
def spLong (tb : Addr) : Sp := fun vs H Q _ => ∃ (j : Addr) (n m : Nat), vs = [.ref j, .int (n : Int)] ∧ (2 ≤ n ∧ n ≤ 60) ∧ Jar H j m ∧ m + 300 ≤ 1000000 ∧ H tb = some (GnR.TabO tb) ∧ ∀ H', But j H H' → Jar H' j (m + 140) → Q (.bl true) H'
theorem ok_long_right {f f1 f2 f3 f4 f5 f6 : Addr} {fd fd1 fd2 fd3 fd4 fd5 fd6 : FuncData} {tb : Addr} (F : Fun K "_law_long_right" "_law_long_right" s__law_long_right f fd) (B : BQ mg) (C__law_grown : Cal P w K mg base "_law_grown" 2 f1 fd1 ["jar", "many"] spGrownE) (C__law_plan : Cal P w K mg base "_law_plan" 5 f2 fd2 ["panes"] spPlan)
    (C__law_dip : Cal P w K mg base "_law_dip" 1 f3 fd3 ["jar", "many"] spDip) (C__law_pattern : Cal P w K mg base "_law_pattern" 1 f4 fd4 ["row_here"] spLawPat) (C_pattern_in : Cal P w K mg base "pattern_in" 3 f5 fd5 ["row"] (spPatIn tb)) (C_is_plan : Cal P w K mg base "is_plan" 3 f6 fd6 ["thing"] (spIsPlanA tb)) : Gd.FnG P w K mg base CX0 6 f fd ["jar", "many"] (spLong tb) := by
  refine Gd.fun_g F sc__law_long_right (fun vs H Q E h => ?_) (fun cdv A outer s H vs Q E hc hr h => ?_)
  · obtain ⟨j, n, m, rfl, _⟩ := h
    rfl
  · obtain ⟨j, n, m, rfl, ⟨hn1, hn2⟩, hj, hm, ht, q⟩ := h
    refine ⟨_, (pss_cons (ps_asg (pe_call C__law_grown.G (hr.mono (by decide)) (by rfl) C__law_grown.g C__law_grown.k C__law_grown.b .nil pass0 (by exact (pa_cons (pv 0) (pa_cons (pv 1) pa_nil)))) (pg_tup rfl (pgs_cons (pg_name (i := 2) sc__law_long_right.nd rfl (Or.inl rfl)) (pgs_cons (pg_name (i := 3) sc__law_long_right.nd rfl (Or.inl rfl)) pgs_nil))))
      (pss_cons (ps_set (i := 4) sc__law_long_right.nd rfl (.inl rfl) (pe_call C__law_plan.G (hr.mono (by decide)) (by rfl) C__law_plan.g C__law_plan.k C__law_plan.b .nil pass0 (by exact (pa_cons (pv 2) pa_nil))))
      (pss_cons (ps_if (PW.pt (pw_or (pt_cmpR op_notBl (pe_call C_is_plan.G (hr.mono (by decide)) (by rfl) C_is_plan.g C_is_plan.k C_is_plan.b .nil pass0 (by exact (pa_cons (pv 4) pa_nil))) pe_bl (nomark _)) (pw_or1 (pt_cmpR op_notN (pe_call C_pattern_in.G (hr.mono (by decide)) (by rfl) C_pattern_in.g C_pattern_in.k C_pattern_in.b .nil pass0 (by exact (pa_cons (pv 4) pa_nil))) pe_non (nomark _))))) (pss_one (ps_ret pe_bl)) pss_nil)
      (pss_cons (ps_for PassesOwn.never rfl (pi_range1 (by rfl) B.range_ (pa_cons pe_int pa_nil)) (pg_name (i := 5) sc__law_long_right.nd rfl (Or.inl rfl)) (pss_cons (ps_set (i := 6) sc__law_long_right.nd rfl (.inl rfl) (pe_call C__law_dip.G (hr.mono (by decide)) (by rfl) C__law_dip.g C__law_dip.k C__law_dip.b .nil pass0 (by exact (pa_cons (pv 0) (pa_cons (pe_op op_sub (pv 1) pe_int) pa_nil)))))
      (pss_cons (ps_set (i := 7) sc__law_long_right.nd rfl (.inl rfl) (pe_ifExp (pt_cmpR op_eq (pe_call C__law_dip.G (hr.mono (by decide)) (by rfl) C__law_dip.g C__law_dip.k C__law_dip.b .nil pass0 (by exact (pa_cons (pv 0) (pa_cons pe_int pa_nil)))) pe_int (nomark _)) (pe_op op_add (pv 6) pe_int) (pe_call C__law_dip.G (hr.mono (by decide)) (by rfl) C__law_dip.g C__law_dip.k C__law_dip.b .nil pass0 (by exact (pa_cons (pv 0) (pa_cons (pv 1) pa_nil))))))
      (pss_cons (ps_set (i := 8) sc__law_long_right.nd rfl (.inl rfl) (pe_callTy (T := "list") (lsK (K := K) rfl) (by rfl) B.list_ (by decide +kernel) (pa_cons (pv 4) pa_nil)))
      (pss_cons (ps_asg (pe_tup (pa_cons (pe_ix (ixLK (K := K) rfl) (pv 8) (pv 7) (fun _ _ => rfl)) (pa_cons (pe_ix (ixLK (K := K) rfl) (pv 8) (pv 6) (fun _ _ => rfl)) pa_nil))) (pg_tup rfl (pgs_cons (pg_sub (pv 8) (pv 6) set_list) (pgs_cons (pg_sub (pv 8) (pv 7) set_list) pgs_nil))))
      (pss_cons (ps_set (i := 9) sc__law_long_right.nd rfl (.inl rfl) (pe_call C__law_pattern.G (hr.mono (by decide)) (by rfl) C__law_pattern.g C__law_pattern.k C__law_pattern.b .nil pass0 (by exact (pa_cons (pv 8) pa_nil))))
      (pss_one (ps_if (pt_cmpR op_ne (pe_callB (reprK (K := K) rfl hc hr) (by rfl) B.repr_ (by decide +kernel) (pa_cons (pe_lst (pa_cons (pe_call C_pattern_in.G (hr.mono (by decide)) (by rfl) C_pattern_in.g C_pattern_in.k C_pattern_in.b .nil pass0 (by exact (pa_cons (pv 8) pa_nil))) (pa_cons (pe_call C_is_plan.G (hr.mono (by decide)) (by rfl) C_is_plan.g C_is_plan.k C_is_plan.b .nil pass0 (by exact (pa_cons (pv 8) pa_nil))) pa_nil))) pa_nil)) (pe_callB (reprK (K := K) rfl hc hr) (by rfl) B.repr_ (by decide +kernel) (pa_cons (pe_lst (pa_cons (pv 9) (pa_cons (pe_cmpR op_isN (pv 9) pe_non (nomark _)) pa_nil))) pa_nil)) (nomark _)) (pss_one (ps_ret pe_bl)) pss_nil))))))))
      (pss_cons (ps_set (i := 10) sc__law_long_right.nd rfl (.inl rfl) (pe_lst (pa_cons pe_non (pa_cons pe_int (pa_cons pe_bl (pa_cons pe_str (pa_cons pe_dnewK (pa_cons (pe_tup pa_nil) (pa_cons (pe_lst pa_nil) (pa_cons (pe_callTy (T := "tuple") (tupOfK (K := K) rfl) (by rfl) B.tuple_ (by decide +kernel) (pa_cons (pv 4) pa_nil)) (pa_cons (pe_lst (pa_cons (pv 4) pa_nil)) (pa_cons (pe_op op_cat (pv 4) (pe_lst (pa_cons pe_int pa_nil))) (pa_cons (pe_op op_cat (pe_slice sl_list (pv 4) (po_some pe_int) po_none) (pe_lst (pa_cons (pv 1) pa_nil))) (pa_cons (pe_op op_cat (pe_lst (pa_cons pe_bl pa_nil)) (pv 4)) pa_nil))))))))))))))
      (pss_cons (ps_set (i := 10) sc__law_long_right.nd rfl (.inl rfl) (pe_op op_cat (pv 10) (pe_lst (pa_cons (pe_listRg rfl (by rfl) B.list_ (prg_1 (by rfl) B.range_ pe_int)) (pa_cons (pe_lst (pa_cons pe_int (pa_cons pe_int pa_nil))) (pa_cons (pe_lst (pa_cons pe_int pa_nil)) (pa_cons (pe_lst (pa_cons (pe_un un_neg pe_int) (pa_cons pe_int pa_nil))) (pa_cons (pe_lst (pa_cons pe_int (pa_cons pe_bl (pa_cons pe_int pa_nil)))) (pa_cons (pe_lst (pa_cons pe_str pa_nil)) (pa_cons (pe_lst (pa_cons pe_non pa_nil)) (pa_cons (pe_lst (pa_cons pe_int (pa_cons pe_int pa_nil))) (pa_cons (pe_lst (pa_cons (pe_tup (pa_cons pe_int pa_nil)) pa_nil)) pa_nil))))))))))))
      (pss_cons (ps_setLc (i := 11) (own := [("thing_here", 12)]) (g := gName 12) (tt := tYes) rfl sc__law_long_right.nd rfl rfl (sw_true rfl rfl rfl (by decide +kernel)) (pi_list (pv 10)) (blkOk_by (N := n__law_long_right) (sc := (defScope s__law_long_right)) (by decide +kernel)) (fun _ _ _ _ _ => (pg_name (i := 12) sc__law_long_right.nd rfl (Or.inl rfl))) (fun _ _ _ _ _ => pts_nil) (fun _ _ _ _ _ => (pe_callB (reprK (K := K) rfl hc hr) (by rfl) B.repr_ (by decide +kernel) (pa_cons (pe_call C_is_plan.G (hr.mono (by decide)) (by rfl) C_is_plan.g C_is_plan.k C_is_plan.b .nil pass0 (by exact (pa_cons (pv 12) pa_nil))) pa_nil))))
      (pss_one (ps_ret (pe_and (pe_cmpR (op_eqD hr.units) (pv 11) (pe_op op_rep (pe_lst (pa_cons pe_str pa_nil)) (pe_callB (lenK (K := K) rfl) (by rfl) B.len_ (by decide +kernel) (pa_cons (pv 10) pa_nil))) (nomark _)) (pe_one (pe_call C_is_plan.G (hr.mono (by decide)) (by rfl) C_is_plan.g C_is_plan.k C_is_plan.b .nil pass0 (by exact (pa_cons (pe_revL (pe_listRg rfl (by rfl) B.list_ (prg_1 (by rfl) B.range_ pe_int))) pa_nil)))))))))))))), ?_⟩
    have tbj := tab_jar ht hj
    refine ⟨.ref j, rfl, .int (n : Int), rfl, j, n, m, rfl, by omega, by omega, hj, by omega, fun H1 t l le es b1 hj1 nt nl nle htt hle hL hlen hv => g_tup2v (i := 2) (j := 3) htt ?_⟩
    obtain ⟨plan, W, H0, g⟩ := grown_of hv
    have hes : es.length + 1 = n := by omega
    have hpm := g.pl.toIsPm
    rw [hes] at hpm
    have hlp := hpm.len
    have hrow : rowB plan = true := row_of hpm (by omega) (by omega)
    have hpat : patB plan = true := pat_of g.pl
    have hleast : LeastP plan none := (pl_iff.mp g.pl).2
    show tSeq _ _ _ [some (.ref j), some (.int (n : Int)), some (.ref l), some (.ref le), none, none, none, none, none, none, none, none, none] H1
    refine Evl.q_asgL (xs := plan.map V.int) (Evl.el_call (vs := [.ref l]) (Evl.ea_cons (Evl.ev_var rfl) Evl.ea_nil) fun H9 e9 Q q2 E => ⟨l, layF es, W, H0, rfl, hL.ex panR_e e9, psok g (by omega), fun H10 a e10 ha na => q2 a H10 na e10 (by rw [ha, g.plan])⟩) fun one H2 no e2 hone => ?_
    show tSeq _ _ _ [some (.ref j), some (.int (n : Int)), some (.ref l), some (.ref le), some (.ref one), none, none, none, none, none, none, none, none] H2
    have ht2 := e2 _ _ (b1 _ _ tbj ht)
    have hj2 := hj1.same e2
    have oj : one ≠ j := fun e => by
      obtain ⟨o, h⟩ := hj1.some
      rw [e, h] at no
      cases no
    have b2 : But j H H2 := fun x o nx h => e2 _ _ (b1 _ _ nx h)
    refine Evl.q_when (b := false) (Evl.et_is (Evl.et_or (a := false) (b := false) (Evl.et_is (Evl.et_test (Evl.ev_op (ev_isPl (n := 4) rfl hone (by omega) ht2 (b := true) (by rw [hrow, hpat]; rfl)) Evl.ev_c (z := .bl false) fun H6 e6 Q q => ⟨true, true, rfl, rfl, q H6 (Evl.Ex.refl _)⟩)) rfl)
      (fun _ => Evl.et_is (Evl.et_test (Evl.ev_op (ev_ofNone (evr_patIn (n := 4) rfl hone (by omega) hrow ht2 hleast)) Evl.ev_c (z := .bl false) fun H6 e6 Q q => ⟨rfl, q H6 (Evl.Ex.refl _)⟩)) rfl)) rfl) (fun h => by cases h) fun _ H3 e3 => ?_
    refine Evl.q_forR1 (n := 3) (Evl.ea_cons Evl.ev_c Evl.ea_nil) (by decide) (fun i σ H' => ∃ o5 o6 o7 o8 o9, σ = [some (.ref j), some (.int (n : Int)), some (.ref l), some (.ref le), some (.ref one), o5, o6, o7, o8, o9, none, none, none] ∧ But j H2 H' ∧ Jar H' j (m + 120 + 3 * i))
      (fun H4 e4 => ⟨_, _, _, _, _, rfl, fun x o _ h => e4 _ _ (e3 _ _ h), (hj2.same (e3.trans e4)).mono (by omega)⟩) (fun i σ H4 hi hv => ?_) (fun σ H4 hv => ?_)
    · obtain ⟨o5, o6, o7, o8, o9, rfl, b4, hj4⟩ := hv
      show tSeq _ _ _ [some (.ref j), some (.int (n : Int)), some (.ref l), some (.ref le), some (.ref one), some (.int (i : Int)), o6, o7, o8, o9, none, none, none] H4
      have big : (n : Int) < 2 ^ 200 := Int.lt_of_le_of_lt (show (n : Int) ≤ 60 by omega) (by decide)
      refine q_dip (n := (n : Int) - 1) (Evl.ev_var rfl) (Evl.ev_op (Evl.ev_var rfl) Evl.ev_c Evl.rv_I0) (by omega) (by omega) hj4 (by omega) fun H5 r r0 r1 b5 hj5 => ?_
      obtain ⟨s, rfl⟩ : ∃ s : Nat, r = s := ⟨r.toNat, by omega⟩
      show tSeq _ _ _ [some (.ref j), some (.int (n : Int)), some (.ref l), some (.ref le), some (.ref one), some (.int (i : Int)), some (.int (s : Int)), o7, o8, o9, none, none, none] H5
      refine q_dipIf (n := (n : Int)) (a := (s : Int) + 1) (Evl.ev_var rfl) Evl.ev_c (fun H' => Evl.ev_op (Evl.ev_var rfl) Evl.ev_c Evl.rv_I0) ⟨by omega, by omega⟩ (fun H' => Evl.ev_var rfl) (fun H' => Evl.ev_var rfl) big hj5 (by omega) fun H6 u m6 u0 u1 b6 hj6 hm6 => ?_
      obtain ⟨u, rfl⟩ : ∃ s : Nat, u = s := ⟨u.toNat, by omega⟩
      show tSeq _ _ _ [some (.ref j), some (.int (n : Int)), some (.ref l), some (.ref le), some (.ref one), some (.int (i : Int)), some (.int (s : Int)), some (.int (u : Int)), o8, o9, none, none, none] H6
      have b26 : But j H2 H6 := (b4.trans b5).trans b6
      refine Evl.q_asgL (xs := plan.map V.int) (el_listOf (K := K) (Evl.ev_var rfl) (b26 _ _ oj hone)) fun p H7 np e7 hp => ?_
      show tSeq _ _ _ [some (.ref j), some (.int (n : Int)), some (.ref l), some (.ref le), some (.ref one), some (.int (i : Int)), some (.int (s : Int)), some (.int (u : Int)), some (.ref p), o9, none, none, none] H7
      have hj7 := hj6.same e7
      have jp : j ≠ p := fun e => by
        obtain ⟨o, h⟩ := hj6.some
        rw [e, np] at h
        cases h
      refine q_swap (n := 8) (si := 6) (sj := 7) (row := plan) (i := s) (j := u) rfl rfl rfl hp (by omega) (by omega) fun H8 b8 hp8 => ?_
      have hpm8 := swap_pm (i := s) (j := u) hpm (by omega) (by omega)
      generalize swapL plan s u = row at hp8 hpm8
      have hl8 := hpm8.len
      have b28 : But j H2 H8 := fun x o nx h => by
        have h6 := b26 _ _ nx h
        exact b8 _ _ (fun e => by
          rw [e, np] at h6
          cases h6) (e7 _ _ h6)
      have hj8 : Jar H8 j (m + 120 + 3 * (i + 1)) := by
        obtain ⟨a, b, c, h, hh⟩ := hj7.mono (show m6 ≤ m + 120 + 3 * (i + 1) by omega)
        exact ⟨a, b, c, b8 _ _ jp h, hh⟩
      have tbj2 : tb ≠ j := tbj
      refine ⟨.ref p, rfl, p, row, rfl, hp8, by omega, fun r v H9 e9 hr hv => ?_⟩
      refine it_name ?_
      dsimp only [List.set]
      have hpt := least_pat hpm8 hr
      have hrow8 : rowB row = true := row_of hpm8 (by omega) (by omega)
      have hsm := least_small hr (by omega)
      have hp9 := e9 _ _ hp8
      have ht9 := e9 _ _ (b28 _ _ tbj ht2)
      refine Evl.s_when (b := false) (Evl.et_is (Evl.et_test (Evl.ev_op (ev_reprDue (r := r) hsm (evr_patIn (n := 8) rfl hp9 (by omega) hrow8 ht9 hr) fun H' e => ev_isPl (n := 8) rfl (e _ _ hp9) (by omega) (e _ _ ht9) (by rw [hrow8, hpt]; rfl)) (ev_reprDue (r := r) hsm (evr_var (n := 9) (v := v) rfl fun H' e => optR_e _ _ _ _ e hv) fun H' e => Evl.ev_op (Evl.ev_var (i := 9) (v := v) rfl) Evl.ev_c fun H6 e6 Q q => ⟨rfl, by rw [opt_none hv]; exact q H6 (Evl.Ex.refl _)⟩) (Evl.rv_ne rfl))) (by simp)) (fun h => by cases h) fun _ H10 e10 => ?_
      exact ⟨_, _, _, _, _, rfl, fun x o nx h => e10 _ _ (e9 _ _ (b28 _ _ nx h)), hj8.same (e9.trans e10)⟩
    · obtain ⟨o5, o6, o7, o8, o9, rfl, b4, hj4⟩ := hv
      have hone4 := b4 _ _ oj hone
      have ht4 := b4 _ _ tbj ht2
      have hone4V : Itm1 H4 (.ref one) := .inr ⟨one, _, rfl, hone4⟩
      refine q_asgRL (R := ThgF) (zs := [(), (), (), (), (), (), (), (), (), (), (), ()]) (er_lst thgF_e
        (ear_cons thgF_e (evr_c .non) (ear_cons thgF_e (evr_c (.int _)) (ear_cons thgF_e (evr_c (.bl _)) (ear_cons thgF_e (evr_c (.str _)) (ear_cons thgF_e evr_dnew (ear_cons thgF_e evr_tup0
        (ear_cons thgF_e (evr_nums (row := []) (Evl.el_lst Evl.ea_nil (by decide)) (by decide) (by decide +kernel))
        (ear_cons thgF_e (evr_tupOf (n := 4) rfl hone4)
        (ear_cons thgF_e (evr_odd (xs := [.ref one]) (Evl.el_lst (Evl.ea_cons (Evl.ev_var rfl) Evl.ea_nil) (by show 1 ≤ 100000; decide)) (by show 1 ≤ 1000; decide) (fun y hy => by rw [List.mem_singleton.mp hy]; exact hone4V) rfl)
        (ear_cons thgF_e (evr_nums (row := plan ++ [0]) ?i10 (by rw [List.length_append, List.length_singleton]; omega) (no_plan0 hpm (by omega)))
        (ear_cons thgF_e (evr_nums (row := plan.drop 1 ++ [(n : Int)]) ?i11 (by rw [List.length_append, List.length_singleton, List.length_drop]; omega) (no_planN hpm (by omega)))
        (ear_cons thgF_e (evr_odd (xs := [.bl false] ++ plan.map V.int) ?i12 (by rw [List.length_append, List.length_singleton, List.length_map]; omega) ?j12 ?k12) ear_nil)))))))))))) (by decide)) fun od H5 nod e5 hod => ?_
      case i10 =>
        rw [List.map_append]
        exact el_catV rfl hone4 (Evl.el_lst (Evl.ea_cons Evl.ev_c Evl.ea_nil) (by show 1 ≤ 100000; decide)) (by rw [List.length_map, List.length_map, List.length_singleton]; omega)
      case i11 =>
        have z1 := Evl.el_sl (K := K) (σ := [some (.ref j), some (.int (n : Int)), some (.ref l), some (.ref le), some (.ref one), o5, o6, o7, o8, o9, none, none, none]) (H := H4) (te := tVar 4) (tl := tPart (tC (.int 1))) (th := tNoPart) (a := one) (xs := plan.map V.int) (lo := some 1) (hi := none) (Evl.ev_var rfl) (Evl.eo_some Evl.ev_c) Evl.eo_none (SqL.of hone4)
        rw [show cutV (plan.map V.int) (some 1) none = (plan.map V.int).drop 1 from cut_atN (s := 1) (by rw [List.length_map]; omega)] at z1
        rw [List.map_append, List.map_drop]
        exact el_catN z1 (Evl.el_lst (Evl.ea_cons (Evl.ev_var rfl) Evl.ea_nil) (by show 1 ≤ 100000; decide)) (by rw [List.length_drop, List.length_map, List.length_map, List.length_singleton]; omega)
      case i12 => exact el_catW (Evl.el_lst (Evl.ea_cons Evl.ev_c Evl.ea_nil) (by show 1 ≤ 100000; decide)) rfl hone4 (by rw [List.length_map, List.length_singleton]; omega)
      case j12 =>
        intro y hy
        rcases List.mem_append.mp hy with hy | hy
        · rw [List.mem_singleton.mp hy]
          exact .inl (.bl _)
        · obtain ⟨i, _, rfl⟩ := List.mem_map.mp hy
          exact .inl (.int i)
      case k12 => rfl
      dsimp only [List.set]
      have l12 : ([(), (), (), (), (), (), (), (), (), (), (), ()] : List Unit).length = 12 := rfl
      refine q_asgRL (R := ThgF) (zs := [(), (), (), (), (), (), (), (), (), (), (), ()] ++ [(), (), (), (), (), (), (), (), ()]) (er_catV thgF_e rfl hod (er_lst thgF_e
        (ear_cons thgF_e (evr_nums (row := (List.range 61).map fun i : Nat => (i : Int)) (el_listRg1 (n := 61) Evl.ev_c (by decide)) (by decide) row_61)
        (ear_cons thgF_e (evr_nums (row := [0, 2]) (Evl.el_lst (Evl.ea_cons Evl.ev_c (Evl.ea_cons Evl.ev_c Evl.ea_nil)) (by show 2 ≤ 100000; decide)) (by decide) (by decide +kernel))
        (ear_cons thgF_e (evr_nums (row := [1]) (Evl.el_lst (Evl.ea_cons Evl.ev_c Evl.ea_nil) (by show 1 ≤ 100000; decide)) (by decide) (by decide +kernel))
        (ear_cons thgF_e (evr_nums (row := [-1, 0]) (Evl.el_lst (Evl.ea_cons (ev_neg Evl.ev_c) (Evl.ea_cons Evl.ev_c Evl.ea_nil)) (by show 2 ≤ 100000; decide)) (by decide) (by decide +kernel))
        (ear_cons thgF_e (evr_odd (xs := [.int 0, .bl true, .int 2]) (Evl.el_lst (Evl.ea_cons Evl.ev_c (Evl.ea_cons Evl.ev_c (Evl.ea_cons Evl.ev_c Evl.ea_nil))) (by show 3 ≤ 100000; decide)) (by show 3 ≤ 1000; decide) (fun y hy => by
          rcases List.mem_cons.mp hy with rfl | hy
          · exact .inl (.int _)
          rcases List.mem_cons.mp hy with rfl | hy
          · exact .inl (.bl _)
          rw [List.mem_singleton.mp hy]
          exact .inl (.int _)) rfl)
        (ear_cons thgF_e (evr_odd (xs := [.str "0"]) (Evl.el_lst (Evl.ea_cons Evl.ev_c Evl.ea_nil) (by show 1 ≤ 100000; decide)) (by show 1 ≤ 1000; decide) (fun y hy => by rw [List.mem_singleton.mp hy]; exact .inl (.str _)) rfl)
        (ear_cons thgF_e (evr_odd (xs := [.non]) (Evl.el_lst (Evl.ea_cons Evl.ev_c Evl.ea_nil) (by show 1 ≤ 100000; decide)) (by show 1 ≤ 1000; decide) (fun y hy => by rw [List.mem_singleton.mp hy]; exact .inl .non) rfl)
        (ear_cons thgF_e (evr_nums (row := [0, 0]) (Evl.el_lst (Evl.ea_cons Evl.ev_c (Evl.ea_cons Evl.ev_c Evl.ea_nil)) (by show 2 ≤ 100000; decide)) (by decide) (by decide +kernel))
        (ear_cons thgF_e (evr_ltup (xs := [.int 0]) (Evl.ea_cons Evl.ev_c Evl.ea_nil) (by show 1 ≤ 1000; decide)) ear_nil))))))))) (by decide)) (by decide)) fun od2 H6 nod2 e6 hod2 => ?_
      dsimp only [List.set]
      have ht6 := e6 _ _ (e5 _ _ ht4)
      refine q_asgRL (R := strF) (zs := ([(), (), (), (), (), (), (), (), (), (), (), ()] ++ [(), (), (), (), (), (), (), (), ()]).filter fun _ => true) (er_lcRL (K := K) (R := ThgF) thgF_e (S := strF) strF_m (fun _ => true) (Evl.ev_var rfl) hod2 (by decide) (fun _ => rfl) (fun z hz y H7 e7 hy => et_yes) (fun z hz y H7 e7 hy _ => ?_)) fun tl H7 ntl e7 htl => ?_
      · obtain ⟨r, hr⟩ := hy
        have ev : Evl.Ev (tCB (Gd.rRepr K) (tCons (tCall (spIsPlanA tb) [] E0 (tCons (tVar 12) tNil)) tNil)) ([some (.ref j), some (.int (n : Int)), some (.ref l), some (.ref le), some (.ref one), o5, o6, o7, o8, o9, some (.ref od2), none, some y] : L2.St) H7 (.str FStr) := fun H8 e8 Q q => (Evl.ev_call (vs := [y]) (z := .bl false) (Evl.ea_cons (Evl.ev_var rfl) Evl.ea_nil) fun H9 e9 Q q E => ⟨y, r, false, rfl, hr.ex (e8.trans e9), (e7.trans (e8.trans e9)) _ _ ht6, q⟩ : Evl.Ev (tCall (spIsPlanA tb) [] E0 (tCons (tVar 12) tNil)) _ H8 (.bl false)) H8 (Evl.Ex.refl _) _ fun H9 e9 => ⟨.bl false, .bool false, rfl, .bl false, fun _ => by decide +kernel, rfl, by decide +kernel, by
          rw [show (PyData.bool false).shown = FStr by decide +kernel]
          exact q H9 e9⟩
        exact fun H8 e8 Q q => ev H8 e8 Q fun H9 e9 => q _ H9 e9 (fun p hp => by cases hp) rfl
      · dsimp only [List.set]
        have hL7 := str_all htl
        have hL7 : H7 tl = some (.lst (List.replicate 21 (.str FStr))) := hL7
        have ht7 := e7 _ _ ht6
        obtain ⟨ys, hy1, hy2⟩ := hod2.ex thgF_e e7
        have hlen : ys.length = 21 := pr_len hy2
        refine Evl.s_ret (Evl.ev_is (Evl.ev_andV (a := true) (b := true) (ev_op1L (Evl.ev_var rfl) (el_rep1 (n := 21) (by decide) (Evl.ev_is (Evl.ev_len (Evl.ev_var rfl) (SqL.of hy1)) (by rw [hlen]))) fun p H8 hp e8 H9 e9 Q q => ⟨dF, dF, .lst (SqL.of ((e8.trans e9) _ _ hL7)) (dp_strs _ _), .lst (SqL.of (e9 _ _ hp)) (dp_strs _ _), dF_ok.1, dF_ok.1, by rw [dF_ok.2]; exact q H9 (Evl.Ex.refl _)⟩)
          (fun _ => ?_)) rfl) fun H8 e8 => q H8 (fun x o nx h => e8 _ _ (e7 _ _ (e6 _ _ (e5 _ _ (b4 _ _ nx (b2 _ _ nx h)))))) ((hj4.same (e5.trans (e6.trans (e7.trans e8)))).mono (by omega))
        have hrv : Evl.EvL (tRevL K (tLstRg (tRg1 (tC (.int 60))))) ([some (.ref j), some (.int (n : Int)), some (.ref l), some (.ref le), some (.ref one), o5, o6, o7, o8, o9, some (.ref od2), some (.ref tl), none] : L2.St) H7 ((((List.range 60).map fun i : Nat => (i : Int)).reverse).map V.int) := by
          rw [List.map_reverse]
          exact el_revN (el_listRg1 (n := 60) Evl.ev_c (by decide))
        exact fun H8 e8 Q q => hrv H8 e8 (fun x H9 => spIsPlanA tb [x] H9 Q E0) fun p H9 np e9 hp => ⟨.ref p, _, _, rfl, .num ⟨p, rfl, hp, by decide⟩, (e8.trans e9) _ _ ht7, fun H10 e10 => by
          rw [row_60]
          exact q H10 (e9.trans e10)⟩
end
end GL
set_option Elab.async false
set_option linter.all false
set_option maxRecDepth 100000
set_option maxHeartbeats 8000000
/-! # k10: the law -/
namespace GL
open PySem PySem.Spec PyProof.Rows L2 Geo Rel Bx AvR Gd
structure CalG (P : Program) (w : World) (K : PySem.W.Frag) (mg : Str → Option Value) (base : Heap) (x : Str) (l : Nat) (f : Addr) (fd : FuncData) (ps : List Str) (sp : Sp) : Prop where
  G : Gd.FnG P w K mg base CX0 l f fd ps sp
  g : mg x = some (.ref f)
  k : PySem.W.keepIn K (.ref f) = true
  b : Binds K fd ps []
theorem iteQ {b : Bool} {X Y : Prop} (h1 : b = true → X) (h2 : b = false → Y) : if b = true then X else Y := by
  cases b with
  | true => rw [if_pos rfl]; exact h1 rfl
  | false => rw [if_neg (by decide)]; exact h2 rfl
abbrev ItQ := Sum (Option (List Int)) Bool
def itR : ItQ → V → Hp → Prop
  | .inl r, v, H => optR r v H
  | .inr b, v, _ => v = .bl b
theorem itR_e : MonoE itR := fun z v H H' e h => by
  cases z with
  | inl r => exact optR_e r v H H' e h
  | inr b => exact h
def itD : ItQ → PyData
  | .inl r => optD r
  | .inr b => .bool b
theorem it_dp {K : PySem.W.Frag} {z : ItQ} {v : V} {H : Hp} (h : itR z v H) : Dp K H v (itD z) := by
  cases z with
  | inl r =>
    cases r with
    | none =>
      obtain rfl : v = .non := h
      exact .non
    | some l =>
      obtain ⟨p, rfl, hp⟩ := h
      refine .tup (SqT.of hp) ?_
      clear hp
      induction l with
      | nil => exact .nil
      | cons i l ih => exact .cons (.int i) ih
  | inr b =>
    obtain rfl : v = .bl b := h
    exact .bl b
theorem its_dp {K : PySem.W.Frag} {H : Hp} {p : Addr} {zs : List ItQ} (h : RL itR H p zs) : Dp K H (.ref p) (.list (zs.map itD)) := by
  obtain ⟨ys, h1, h2⟩ := h
  refine .lst (SqL.of h1) ?_
  clear h1
  induction h2 with
  | nil => exact .nil
  | cons h _ ih => exact .cons (it_dp h) ih
abbrev toldQ : List ItQ := [.inl (some [0, 1, 3]), .inr true, .inl (some [0, 1, 3])]
theorem told_ok : SeqAt.shaped (.list (toldQ.map itD)) = true ∧ PyData.eqv (.list (toldQ.map itD)) (.list (toldQ.map itD)) = true := by decide +kernel
theorem least4 {a b c d : Int} (h : PtAt [a, b, c, d] 0 1 3) : LeastP [a, b, c, d] (some [0, 1, 3]) := ⟨0, 1, 3, rfl, h, fun i j k hp => by
  have h1 := hp.1
  have h2 := hp.2.1
  have h3 : k < 4 := hp.2.2.1
  omega⟩
theorem pt_a : LeastP [1, 3, 0, 2] (some [0, 1, 3]) := least4 (by decide)
theorem pt_b : LeastP [2, 0, 3, 1] (some [0, 1, 3]) := least4 (by decide)
section
variable {P : Program} {w : World} {K : PySem.W.Frag} {mg : Str → Option Value} {base : Heap} {σ : L2.St} {H : Hp}
theorem q_ifF {T : TT} {ta tz : TS} {D : Ends} {R : Hp → Prop} (h : ∀ Q : Bool → Hp → Prop, (∀ H', R H' → Q false H') → T σ H Q) (k : ∀ H', R H' → tz D σ H') : tSeq (tIfS T ta tNext) tz D σ H := h _ fun H' r => by
  show (if false = true then _ else _)
  rw [if_neg (by decide)]
  exact k H' r
theorem s_ifF {T : TT} {ta : TS} {D : Ends} {R : Hp → Prop} (h : ∀ Q : Bool → Hp → Prop, (∀ H', R H' → Q false H') → T σ H Q) (k : ∀ H', R H' → D.nx σ H') : tIfS T ta tNext D σ H := h _ fun H' r => by
  show (if false = true then _ else _)
  rw [if_neg (by decide)]
  exact k H' r
theorem el_l {ta : TA} {vs : List V} (h : Evl.EvA ta σ H vs) (hl : vs.length ≤ 100) : Evl.EvL (tLst ta) σ H vs := Evl.el_lst h (Nat.le_trans hl (by decide))
theorem evr_patN {te : TE} {tb : Addr} {row : List Int} {r : Option (List Int)} {E : XK} (h : Evl.EvL te σ H (row.map V.int)) (hl : row.length ≤ 1000) (hrow : rowB row = true) (ht : H tb = some (GnR.TabO tb)) (hr : LeastP row r) : EvR (tCall (spPatIn tb) [] E (tCons te tNil)) σ H (optR r) := fun H1 e Q q =>
  h H1 e (fun x H2 => spPatIn tb [x] H2 Q E) fun p H2 np e2 hp => ⟨p, row, rfl, hp, hl, hrow, (e.trans e2) _ _ ht, fun r' v H3 e3 hr' hv => by
    rw [least_one hr' hr] at hv
    exact q v H3 (e2.trans e3) hv⟩
theorem evr_isPlN {te : TE} {tb : Addr} {row : List Int} {b : Bool} {E : XK} (h : Evl.EvL te σ H (row.map V.int)) (hl : row.length ≤ 1000) (hb : (rowB row && patB row) = b) (ht : H tb = some (GnR.TabO tb)) : EvR (tCall (spIsPlanA tb) [] E (tCons te tNil)) σ H (itR (.inr b)) := fun H1 e Q q =>
  h H1 e (fun x H2 => spIsPlanA tb [x] H2 Q E) fun p H2 np e2 hp => ⟨.ref p, _, _, rfl, .num ⟨p, rfl, hp, hl⟩, (e.trans e2) _ _ ht, fun H3 e3 => by
    rw [hb]
    exact q _ H3 (e2.trans e3) rfl⟩
def spLaw10 (tb : Addr) (K : PySem.W.Frag) : Sp := fun vs H Q _ => ∃ (a : Addr) (ns : List Int), vs = [.ref a] ∧ SqL K H a (ns.map V.int) ∧ ns.length ≤ 63 ∧ H tb = some (GnR.TabO tb) ∧ ∀ H', Evl.Ex H H' → Q (.bl true) H'
theorem ok_law10 {f f1 f2 f3 f4 f5 f6 : Addr} {fd fd1 fd2 fd3 fd4 fd5 fd6 : FuncData} {tb : Addr} (F : Fun K "law" "law" s_law f fd) (B : BQ mg) (C__law_jar : Cal P w K mg base "_law_jar" 1 f1 fd1 ["script", "k"] (spJar K)) (C__law_dip : Cal P w K mg base "_law_dip" 1 f2 fd2 ["jar", "many"] spDip)
    (C__law_all_right : CalG P w K mg base "_law_all_right" 6 f3 fd3 ["many"] (spAllRight tb)) (C__law_long_right : CalG P w K mg base "_law_long_right" 6 f4 fd4 ["jar", "many"] (spLong tb)) (C_pattern_in : Cal P w K mg base "pattern_in" 3 f5 fd5 ["row"] (spPatIn tb)) (C_is_plan : Cal P w K mg base "is_plan" 3 f6 fd6 ["thing"] (spIsPlanA tb)) :
    Gd.FnG P w K mg base CX0 8 f fd ["script"] (spLaw10 tb K) := by
  refine Gd.fun_g F sc_law (fun vs H Q E h => ?_) (fun cdv A outer s H vs Q E hc hr h => ?_)
  · obtain ⟨a, ns, rfl, _⟩ := h
    rfl
  · obtain ⟨a, ns, rfl, hS, hlen, ht, q⟩ := h
    refine ⟨_, (pss_cons (ps_if (pt_cmpR (op_neD hr.units) (pe_lc (own := [("many", 4)]) (g := gName 4) (tt := _) rfl sc_law.nd (pi_range2 (by rfl) B.range_ (pa_cons pe_int (pa_cons pe_int pa_nil))) (blkOk_by (N := n_law) (sc := (defScope s_law)) (by decide +kernel)) (fun _ _ _ _ _ => (pg_name (i := 4) sc_law.nd rfl (Or.inl rfl))) (fun _ _ _ _ _ => pts_one (pt_not (pt_val (pe_callG C__law_all_right.G hc (hr.mono (by decide)) (by rfl) C__law_all_right.g C__law_all_right.k C__law_all_right.b .nil pass0 (by exact (pa_cons (pv 4) pa_nil)))))) (fun _ _ _ _ _ => (pv 4))) (pe_lst pa_nil) (nomark _)) (pss_one (ps_ret pe_bl)) pss_nil)
      (pss_cons (ps_for PassesOwn.never rfl (pi_range1 (by rfl) B.range_ (pa_cons (pe_callB (call_max2 rfl) (by rfl) B.max_ (by decide +kernel) (pa_cons pe_int (pa_cons (pe_callB (call_min2 rfl) (by rfl) B.min_ (by decide +kernel) (pa_cons pe_int (pa_cons (pe_callB (lenK (K := K) rfl) (by rfl) B.len_ (by decide +kernel) (pa_cons (pv 0) pa_nil)) pa_nil))) pa_nil))) pa_nil)) (pg_name (i := 1) sc_law.nd rfl (Or.inl rfl)) (pss_cons (ps_set (i := 2) sc_law.nd rfl (.inl rfl) (pe_call C__law_jar.G (hr.mono (by decide)) (by rfl) C__law_jar.g C__law_jar.k C__law_jar.b .nil pass0 (by exact (pa_cons (pv 0) (pa_cons (pv 1) pa_nil)))))
      (pss_cons (ps_if (PW.pt (pw_and (pt_cmpR op_eq (pv 1) pe_int (nomark _)) (pw_and (pt_cmpR op_eq (pe_call C__law_dip.G (hr.mono (by decide)) (by rfl) C__law_dip.g C__law_dip.k C__law_dip.b .nil pass0 (by exact (pa_cons (pv 2) (pa_cons pe_int pa_nil)))) pe_int (nomark _)) (pw_and1 (pt_not (pt_val (pe_callG C__law_all_right.G hc (hr.mono (by decide)) (by rfl) C__law_all_right.g C__law_all_right.k C__law_all_right.b .nil pass0 (by exact (pa_cons pe_int pa_nil))))))))) (pss_one (ps_ret pe_bl)) pss_nil)
      (pss_one (ps_if (PW.pt (pw_or (pt_not (pt_val (pe_callG C__law_long_right.G hc (hr.mono (by decide)) (by rfl) C__law_long_right.g C__law_long_right.k C__law_long_right.b .nil pass0 (by exact (pa_cons (pv 2) (pa_cons (pe_op op_add pe_int (pe_call C__law_dip.G (hr.mono (by decide)) (by rfl) C__law_dip.g C__law_dip.k C__law_dip.b .nil pass0 (by exact (pa_cons (pv 2) (pa_cons pe_int pa_nil))))) pa_nil)))))) (pw_or1 (pt_not (pt_val (pe_callG C__law_long_right.G hc (hr.mono (by decide)) (by rfl) C__law_long_right.g C__law_long_right.k C__law_long_right.b .nil pass0 (by exact (pa_cons (pv 2) (pa_cons (pe_ix (ixLK (K := K) rfl) (pe_lst (pa_cons pe_int (pa_cons pe_int (pa_cons pe_int pa_nil)))) (pv 1) (fun _ _ => rfl)) pa_nil))))))))) (pss_one (ps_ret pe_bl)) pss_nil)))))
      (pss_cons (ps_set (i := 3) sc_law.nd rfl (.inl rfl) (pe_lst (pa_cons (pe_call C_pattern_in.G (hr.mono (by decide)) (by rfl) C_pattern_in.g C_pattern_in.k C_pattern_in.b .nil pass0 (by exact (pa_cons (pe_lst (pa_cons pe_int (pa_cons pe_int (pa_cons pe_int (pa_cons pe_int pa_nil))))) pa_nil))) (pa_cons (pe_call C_is_plan.G (hr.mono (by decide)) (by rfl) C_is_plan.g C_is_plan.k C_is_plan.b .nil pass0 (by exact (pa_cons (pe_lst (pa_cons pe_int (pa_cons pe_int (pa_cons pe_int (pa_cons pe_int (pa_cons pe_int pa_nil)))))) pa_nil))) (pa_cons (pe_call C_pattern_in.G (hr.mono (by decide)) (by rfl) C_pattern_in.g C_pattern_in.k C_pattern_in.b .nil pass0 (by exact (pa_cons (pe_lst (pa_cons pe_int (pa_cons pe_int (pa_cons pe_int (pa_cons pe_int pa_nil))))) pa_nil))) pa_nil)))))
      (pss_one (ps_ret (pe_cmpR (op_eqD hr.units) (pv 3) (pe_lst (pa_cons (pe_tup (pa_cons pe_int (pa_cons pe_int (pa_cons pe_int pa_nil)))) (pa_cons pe_bl (pa_cons (pe_tup (pa_cons pe_int (pa_cons pe_int (pa_cons pe_int pa_nil)))) pa_nil)))) (nomark _))))))), ?_⟩
    refine Evl.q_when (b := false) (Evl.et_is (Evl.et_test (b := !decide (([] : List Int) = [])) (Evl.ev_opLL (xs := ([] : List Int).map V.int) (ys := ([] : List Int).map V.int) ?_ (Evl.el_lst Evl.ea_nil (by decide)) fun p q H1 hp hq e => datLst.rv_ne (by decide) lstI_e ⟨p, rfl, hp⟩ ⟨q, rfl, hq⟩)) (by simp)) (fun h => by cases h) fun _ H1 e1 => ?_
    · have z := er_lcRg (S := fun (z : Int) (v : V) (_ : Hp) => v = V.int z) (σ := [some (.ref a), none, none, none, none]) (H := H) (val_m fun z : Int => V.int z) (fun _ => false) (j := 4) (vs := [4]) (lo := 1) (hi := 6) (ta := tCons (tC (.int 1)) (tCons (tC (.int 6)) tNil)) (t := tNot (tB (tCall (spAllRight tb) [] E0 (tCons (tVar 4) tNil)))) (te := tVar 4) (Evl.ea_cons Evl.ev_c (Evl.ea_cons Evl.ev_c Evl.ea_nil)) (by decide) (fun _ => rfl) (fun i h0 h1 H3 e3 => ?_) (fun i h0 h1 H3 e3 h => by cases h)
      · have y := el_ofRL z
        exact y
      · obtain ⟨n, rfl⟩ : ∃ n : Nat, i = n := ⟨i.toNat, by omega⟩
        exact Evl.et_is (Evl.et_not (Evl.et_B (Evl.ev_call (vs := [.int (n : Int)]) (z := .bl true) (Evl.ea_cons (Evl.ev_var rfl) Evl.ea_nil) fun H4 e4 Q q E => ⟨n, rfl, ⟨by omega, by omega⟩, (e3.trans e4) _ _ ht, q⟩))) rfl
    have hS1 := sq_ex hS e1
    have ht1 := e1 _ _ ht
    obtain ⟨N, hN, hN3⟩ : ∃ N : Int, Evl.Ev (tCB Evl.rMax2 (tCons (tC (.int 1)) (tCons (tCB rMin2 (tCons (tC (.int 3)) (tCons (tCB (Evl.rLenS K) (tCons (tVar 0) tNil)) tNil))) tNil))) [some (.ref a), none, none, none, none] H1 (.int N) ∧ 0 ≤ N ∧ N ≤ 3 := by
      refine ⟨_, Evl.ev_max2 Evl.ev_c (ev_min2 Evl.ev_c (Evl.ev_len (Evl.ev_var rfl) hS1)), ?_⟩
      split <;> split <;> omega
    refine Evl.q_forR1 (n := N) (Evl.ea_cons hN Evl.ea_nil) (by omega) (fun i σ H' => ∃ o1 o2, σ = [some (.ref a), o1, o2, none, none] ∧ Evl.Ex H1 H') (fun H2 e2 => ⟨_, _, rfl, e2⟩) (fun i σ H2 hi hv => ?_) (fun σ H2 hv => ?_)
    · obtain ⟨o1, o2, rfl, e2⟩ := hv
      show tSeq _ _ _ [some (.ref a), some (.int (i : Int)), o2, none, none] H2
      refine ⟨.ref a, rfl, .int (i : Int), rfl, a, ns, i, rfl, sq_ex hS1 e2, hlen, by omega, by omega, fun H3 j e3 nj hj => ?_⟩
      refine it_name ?_
      dsimp only [List.set]
      have ht3 := e3 _ _ (e2 _ _ ht1)
      refine q_ifF (R := fun H' => But j H3 H' ∧ Jar H' j 1) (fun Q q => ?_) (fun H4 hr => ?_)
      · refine ⟨.int (i : Int), rfl, rfl, _, rfl, iteQ (fun hb => ?_) (fun hb => q _ ⟨But.refl _ _, hj.mono (by decide)⟩)⟩
        refine ⟨.ref j, rfl, j, 3, 0, rfl, by decide, by decide, hj, by decide, fun H4 r r0 r1 b4 hj4 => ⟨rfl, _, rfl, iteQ (fun hb => ?_) (fun hb => q _ ⟨b4, hj4⟩)⟩⟩
        refine ⟨6, rfl, ⟨by decide, by decide⟩, b4 _ _ (tab_jar ht3 hj) ht3, fun H5 e5 => ⟨true, rfl, q _ ⟨fun x o nx h => e5 _ _ (b4 _ _ nx h), hj4.same e5⟩⟩⟩
      · obtain ⟨b4, hj4⟩ := hr
        have ht4 := b4 _ _ (tab_jar ht3 hj) ht3
        refine s_ifF (R := fun H' => But j H3 H') (fun Q q => ?_) (fun H5 b5 => ⟨_, _, rfl, e2.trans (jar_ex e3 nj b5)⟩)
        refine ⟨.ref j, rfl, .ref j, rfl, j, 20, 1, rfl, by decide, by decide, hj4, by decide, fun H5 r r0 r1 b5 hj5 => ⟨2, r, rfl, rfl, ?_⟩⟩
        obtain ⟨u, rfl⟩ : ∃ u : Nat, r = u := ⟨r.toNat, by omega⟩
        have ht5 := b5 _ _ (tab_jar ht4 hj4) ht4
        refine ⟨j, u + 2, 2, by show ([V.ref j, V.int (2 + (u : Int))] : List V) = _; rw [show (2 : Int) + (u : Int) = ((u + 2 : Nat) : Int) by omega], ⟨by omega, by omega⟩, hj5, by decide, ht5, fun H6 b6 hj6 => ⟨true, rfl, ?_⟩⟩
        show (if false = true then _ else _)
        rw [if_neg (by decide)]
        have ht6 := b6 _ _ (tab_jar ht5 hj5) ht5
        refine ⟨.ref j, rfl, (show 3 ≤ sizeLine by decide), fun lst nl => ⟨.int (i : Int), rfl, ?_⟩⟩
        obtain ⟨M, hM2, hM60, hM⟩ : ∃ M : Nat, 2 ≤ M ∧ M ≤ 60 ∧ atI [V.int 60, V.int 30, V.int 41] (i : Int) = some (.int (M : Int)) := by
          obtain rfl | rfl | rfl : i = 0 ∨ i = 1 ∨ i = 2 := by omega
          · exact ⟨60, by decide, by decide, rfl⟩
          · exact ⟨30, by decide, by decide, rfl⟩
          · exact ⟨41, by decide, by decide, rfl⟩
        have eL := Evl.Ex.new (o := .lst [V.int 60, V.int 30, V.int 41]) nl
        refine ⟨lst, [V.int 60, V.int 30, V.int 41], (i : Int), .int (M : Int), rfl, rfl, SqL.of upd_same, hM, ?_⟩
        refine ⟨j, M, 142, rfl, ⟨hM2, hM60⟩, hj6.same eL, by decide, eL _ _ ht6, fun H7 b7 hj7 => ⟨true, rfl, ?_⟩⟩
        exact q _ fun x o nx h => b7 _ _ nx (eL _ _ (b6 _ _ nx (b5 _ _ nx (b4 _ _ nx h))))
    · obtain ⟨o1, o2, rfl, e2⟩ := hv
      have ht2 := e2 _ _ ht1
      have la : ∀ {σ : L2.St} {H' : Hp} {a b c d : Int}, Evl.EvL (tLst (tCons (tC (.int a)) (tCons (tC (.int b)) (tCons (tC (.int c)) (tCons (tC (.int d)) tNil))))) σ H' (([a, b, c, d] : List Int).map V.int) := fun {σ H' a b c d} => el_l (Evl.ea_cons Evl.ev_c (Evl.ea_cons Evl.ev_c (Evl.ea_cons Evl.ev_c (Evl.ea_cons Evl.ev_c Evl.ea_nil)))) (by show 4 ≤ 100; decide)
      refine q_asgRL (R := itR) (zs := toldQ) (er_lst itR_e (ear_cons (z := .inl (some [0, 1, 3])) itR_e (evr_patN la (by decide) (by decide +kernel) ht2 pt_a) (ear_cons (z := .inr true) itR_e (evr_isPlN (row := [1, 4, 2, 0, 3]) (el_l (Evl.ea_cons Evl.ev_c (Evl.ea_cons Evl.ev_c (Evl.ea_cons Evl.ev_c (Evl.ea_cons Evl.ev_c (Evl.ea_cons Evl.ev_c Evl.ea_nil))))) (by show 5 ≤ 100; decide)) (by decide) (by decide +kernel) ht2) (ear_cons (z := .inl (some [0, 1, 3])) itR_e (evr_patN la (by decide) (by decide +kernel) ht2 pt_b) ear_nil))) (by decide)) fun tl H3 ntl e3 htl => ?_
      dsimp only [List.set]
      have tu : ∀ {σ : L2.St} {H' : Hp}, EvR (tTup (tCons (tC (.int 0)) (tCons (tC (.int 1)) (tCons (tC (.int 3)) tNil)))) σ H' (itR (.inl (some [0, 1, 3]))) := fun {σ H'} => evr_tupI (ns := [0, 1, 3]) (Evl.ea_cons Evl.ev_c (Evl.ea_cons Evl.ev_c (Evl.ea_cons Evl.ev_c Evl.ea_nil))) (by show 3 ≤ 1000; decide)
      have rhs : EvRL (tLst (tCons (tTup (tCons (tC (.int 0)) (tCons (tC (.int 1)) (tCons (tC (.int 3)) tNil)))) (tCons (tC (.bl true)) (tCons (tTup (tCons (tC (.int 0)) (tCons (tC (.int 1)) (tCons (tC (.int 3)) tNil)))) tNil)))) ([some (.ref a), o1, o2, some (.ref tl), none] : L2.St) H3 itR toldQ := er_lst itR_e (ear_cons itR_e tu (ear_cons (z := .inr true) itR_e (fun H4 e4 Q q => q (.bl true) H4 (Evl.Ex.refl _) rfl) (ear_cons itR_e tu ear_nil))) (by decide)
      refine Evl.s_ret (v := .bl true) (fun H4 e4 Q q => ⟨.ref tl, rfl, rhs H4 e4 (fun y H5 => rEqD K (.ref tl) y H5 Q) fun p H5 np e5 hp => ⟨_, _, its_dp (htl.ex itR_e (e4.trans e5)), its_dp hp, told_ok.1, told_ok.1, by rw [told_ok.2]; exact q H5 e5⟩⟩) fun H4 e4 => q H4 (e1.trans (e2.trans (e3.trans e4)))
end
end GL
set_option Elab.async false
set_option linter.all false
set_option maxRecDepth 100000
set_option maxHeartbeats 0
/-! # the end -/
namespace HdZ
open PySem PySem.Spec PyProof.Rows L2 GL GxR
theorem fn_weak {P : Program} {w : World} {K : PySem.W.Frag} {mg : Str → Option Value} {base : Heap} {CX : CXT} {k : Nat} {f : Addr} {fd : FuncData} {ps : List Str} {sp sp' : Sp} (F : FnOk P w K mg base CX k f fd ps sp) (h : ∀ vs H Q E, sp' vs H Q E → sp vs H Q E) : FnOk P w K mg base CX k f fd ps sp' :=
  ⟨fun vs H Q E z => F.len _ _ _ _ (h vs H Q E z), fun A outer s H args us vs Q E hr e0 hb r z => F.run A outer s H args us vs Q E hr e0 hb r (h vs H Q E z)⟩
theorem facts {P : Program} {w : World} {K : PySem.W.Frag} {h : Heap} {mg : Str → Option Value} {f : Addr} (X : K.In h) (G : h.Ns mainGlobals mg) (hfa : mg ("law" : Str) = some (.ref f)) (c : He.SaysX fa fn [] tf ex w h K) : ∃ fd : FuncData, (∀ (s : Shared) (v : Value), BindsTo s fd ⟨[v], []⟩ [("script", v)]) ∧
    ∀ base : Heap, K.In base → base.Ns mainGlobals mg → (∀ p ∈ tf.map (He.cT K), TabB base mg p.1 p.2) → Gd.FnG P w K mg base CX0 8 f fd ["script"] (spLaw10 (He.cT K ("is_row", none)).2 K) := by
  have D := c.t.d
  have mem : ∀ {x : He.Fa}, x ∈ fa → x.ok K = true := fun h => He.SaysD.facts D h
  obtain ⟨fd_is_number, F_is_number⟩ := D.def_ 0 (d := d_is_number) rfl
  have g_is_number := He.glo_ok X G (x := "is_number") (D.fact 0 rfl)
  have Fu_is_number := fun_of (st := s_is_number) F_is_number
  have b_is_number : Binds K fd_is_number ["thing"] [] := FunD.bindsN F_is_number fun _ _ _ _ _ _ us hl => match us, hl with | [_], _ => rfl
  obtain ⟨fd_is_plan, F_is_plan⟩ := D.def_ 1 (d := d_is_plan) rfl
  have g_is_plan := He.glo_ok X G (x := "is_plan") (D.fact 1 rfl)
  have Fu_is_plan := fun_of (st := s_is_plan) F_is_plan
  have b_is_plan : Binds K fd_is_plan ["thing"] [] := FunD.bindsN F_is_plan fun _ _ _ _ _ _ us hl => match us, hl with | [_], _ => rfl
  obtain ⟨fd_pattern_in, F_pattern_in⟩ := D.def_ 2 (d := d_pattern_in) rfl
  have g_pattern_in := He.glo_ok X G (x := "pattern_in") (D.fact 2 rfl)
  have Fu_pattern_in := fun_of (st := s_pattern_in) F_pattern_in
  have b_pattern_in : Binds K fd_pattern_in ["row"] [] := FunD.bindsN F_pattern_in fun _ _ _ _ _ _ us hl => match us, hl with | [_], _ => rfl
  obtain ⟨fd_is_row, F_is_row⟩ := D.def_ 3 (d := d_is_row) rfl
  have g_is_row := He.glo_ok X G (x := "is_row") (D.fact 3 rfl)
  have Fu_is_row := fun_of (st := s_is_row) F_is_row
  have b_is_row : Binds K fd_is_row ["thing"] [] := FunD.bindsN F_is_row fun _ _ _ _ _ _ us hl => match us, hl with | [_], _ => rfl
  obtain ⟨fd_find_places, F_find_places⟩ := D.def_ 4 (d := d_find_places) rfl
  have g_find_places := He.glo_ok X G (x := "find_places") (D.fact 4 rfl)
  have Fu_find_places := fun_of (st := s_find_places) F_find_places
  have b_find_places : Binds K fd_find_places ["row"] [] := FunD.bindsN F_find_places fun _ _ _ _ _ _ us hl => match us, hl with | [_], _ => rfl
  obtain ⟨fd_find_pattern, F_find_pattern⟩ := D.def_ 5 (d := d_find_pattern) rfl
  have g_find_pattern := He.glo_ok X G (x := "find_pattern") (D.fact 5 rfl)
  have Fu_find_pattern := fun_of (st := s_find_pattern) F_find_pattern
  have b_find_pattern : Binds K fd_find_pattern ["row"] [] := FunD.bindsN F_find_pattern fun _ _ _ _ _ _ us hl => match us, hl with | [_], _ => rfl
  obtain ⟨fd_find_pattern_at, F_find_pattern_at⟩ := D.def_ 6 (d := d_find_pattern_at) rfl
  have g_find_pattern_at := He.glo_ok X G (x := "find_pattern_at") (D.fact 6 rfl)
  have Fu_find_pattern_at := fun_of (st := s_find_pattern_at) F_find_pattern_at
  have b_find_pattern_at : Binds K fd_find_pattern_at ["row", "places", "middle"] [] := FunD.bindsN F_find_pattern_at fun _ _ _ _ _ _ us hl => match us, hl with | [_, _, _], _ => rfl
  obtain ⟨fd__law_jar, F__law_jar⟩ := D.def_ 7 (d := d__law_jar) rfl
  have g__law_jar := He.glo_ok X G (x := "_law_jar") (D.fact 7 rfl)
  have Fu__law_jar := fun_of (st := s__law_jar) F__law_jar
  have b__law_jar : Binds K fd__law_jar ["script", "k"] [] := FunD.bindsN F__law_jar fun _ _ _ _ _ _ us hl => match us, hl with | [_, _], _ => rfl
  obtain ⟨fd__law_dip, F__law_dip⟩ := D.def_ 8 (d := d__law_dip) rfl
  have g__law_dip := He.glo_ok X G (x := "_law_dip") (D.fact 8 rfl)
  have Fu__law_dip := fun_of (st := s__law_dip) F__law_dip
  have b__law_dip : Binds K fd__law_dip ["jar", "many"] [] := FunD.bindsN F__law_dip fun _ _ _ _ _ _ us hl => match us, hl with | [_, _], _ => rfl
  obtain ⟨fd__law_pushed, F__law_pushed⟩ := D.def_ 9 (d := d__law_pushed) rfl
  have g__law_pushed := He.glo_ok X G (x := "_law_pushed") (D.fact 9 rfl)
  have Fu__law_pushed := fun_of (st := s__law_pushed) F__law_pushed
  have b__law_pushed : Binds K fd__law_pushed ["panes", "entry"] [] := FunD.bindsN F__law_pushed fun _ _ _ _ _ _ us hl => match us, hl with | [_, _], _ => rfl
  obtain ⟨fd__law_border, F__law_border⟩ := D.def_ 10 (d := d__law_border) rfl
  have g__law_border := He.glo_ok X G (x := "_law_border") (D.fact 10 rfl)
  have Fu__law_border := fun_of (st := s__law_border) F__law_border
  have b__law_border : Binds K fd__law_border ["panes", "axis"] [] := FunD.bindsN F__law_border fun _ _ _ _ _ _ us hl => match us, hl with | [_, _], _ => rfl
  obtain ⟨fd__law_grown, F__law_grown⟩ := D.def_ 11 (d := d__law_grown) rfl
  have g__law_grown := He.glo_ok X G (x := "_law_grown") (D.fact 11 rfl)
  have Fu__law_grown := fun_of (st := s__law_grown) F__law_grown
  have b__law_grown : Binds K fd__law_grown ["jar", "many"] [] := FunD.bindsN F__law_grown fun _ _ _ _ _ _ us hl => match us, hl with | [_, _], _ => rfl
  obtain ⟨fd__law_lines, F__law_lines⟩ := D.def_ 12 (d := d__law_lines) rfl
  have g__law_lines := He.glo_ok X G (x := "_law_lines") (D.fact 12 rfl)
  have Fu__law_lines := fun_of (st := s__law_lines) F__law_lines
  have b__law_lines : Binds K fd__law_lines ["panes", "axis"] [] := FunD.bindsN F__law_lines fun _ _ _ _ _ _ us hl => match us, hl with | [_, _], _ => rfl
  obtain ⟨fd__law_at, F__law_at⟩ := D.def_ 13 (d := d__law_at) rfl
  have g__law_at := He.glo_ok X G (x := "_law_at") (D.fact 13 rfl)
  have Fu__law_at := fun_of (st := s__law_at) F__law_at
  have b__law_at : Binds K fd__law_at ["panes", "line", "axis"] [] := FunD.bindsN F__law_at fun _ _ _ _ _ _ us hl => match us, hl with | [_, _, _], _ => rfl
  obtain ⟨fd__law_steps, F__law_steps⟩ := D.def_ 14 (d := d__law_steps) rfl
  have g__law_steps := He.glo_ok X G (x := "_law_steps") (D.fact 14 rfl)
  have Fu__law_steps := fun_of (st := s__law_steps) F__law_steps
  have b__law_steps : Binds K fd__law_steps ["panes", "axis"] [] := FunD.bindsN F__law_steps fun _ _ _ _ _ _ us hl => match us, hl with | [_, _], _ => rfl
  obtain ⟨fd__law_behind, F__law_behind⟩ := D.def_ 15 (d := d__law_behind) rfl
  have g__law_behind := He.glo_ok X G (x := "_law_behind") (D.fact 15 rfl)
  have Fu__law_behind := fun_of (st := s__law_behind) F__law_behind
  have b__law_behind : Binds K fd__law_behind ["panes", "axis"] [] := FunD.bindsN F__law_behind fun _ _ _ _ _ _ us hl => match us, hl with | [_, _], _ => rfl
  obtain ⟨fd__law_rows, F__law_rows⟩ := D.def_ 16 (d := d__law_rows) rfl
  have g__law_rows := He.glo_ok X G (x := "_law_rows") (D.fact 16 rfl)
  have Fu__law_rows := fun_of (st := s__law_rows) F__law_rows
  have b__law_rows : Binds K fd__law_rows ["panes"] [] := FunD.bindsN F__law_rows fun _ _ _ _ _ _ us hl => match us, hl with | [_], _ => rfl
  obtain ⟨fd__law_plan, F__law_plan⟩ := D.def_ 17 (d := d__law_plan) rfl
  have g__law_plan := He.glo_ok X G (x := "_law_plan") (D.fact 17 rfl)
  have Fu__law_plan := fun_of (st := s__law_plan) F__law_plan
  have b__law_plan : Binds K fd__law_plan ["panes"] [] := FunD.bindsN F__law_plan fun _ _ _ _ _ _ us hl => match us, hl with | [_], _ => rfl
  obtain ⟨fd__law_lists, F__law_lists⟩ := D.def_ 18 (d := d__law_lists) rfl
  have g__law_lists := He.glo_ok X G (x := "_law_lists") (D.fact 18 rfl)
  have Fu__law_lists := fun_of (st := s__law_lists) F__law_lists
  have b__law_lists : Binds K fd__law_lists ["many"] [] := FunD.bindsN F__law_lists fun _ _ _ _ _ _ us hl => match us, hl with | [_], _ => rfl
  obtain ⟨fd__law_pattern, F__law_pattern⟩ := D.def_ 19 (d := d__law_pattern) rfl
  have g__law_pattern := He.glo_ok X G (x := "_law_pattern") (D.fact 19 rfl)
  have Fu__law_pattern := fun_of (st := s__law_pattern) F__law_pattern
  have b__law_pattern : Binds K fd__law_pattern ["row_here"] [] := FunD.bindsN F__law_pattern fun _ _ _ _ _ _ us hl => match us, hl with | [_], _ => rfl
  obtain ⟨fd__law_all_grown, F__law_all_grown⟩ := D.def_ 20 (d := d__law_all_grown) rfl
  have g__law_all_grown := He.glo_ok X G (x := "_law_all_grown") (D.fact 20 rfl)
  have Fu__law_all_grown := fun_of (st := s__law_all_grown) F__law_all_grown
  have b__law_all_grown : Binds K fd__law_all_grown ["many"] [] := FunD.bindsN F__law_all_grown fun _ _ _ _ _ _ us hl => match us, hl with | [_], _ => rfl
  obtain ⟨fd__law_all_right, F__law_all_right⟩ := D.def_ 21 (d := d__law_all_right) rfl
  have g__law_all_right := He.glo_ok X G (x := "_law_all_right") (D.fact 21 rfl)
  have Fu__law_all_right := fun_of (st := s__law_all_right) F__law_all_right
  have b__law_all_right : Binds K fd__law_all_right ["many"] [] := FunD.bindsN F__law_all_right fun _ _ _ _ _ _ us hl => match us, hl with | [_], _ => rfl
  obtain ⟨fd__law_long_right, F__law_long_right⟩ := D.def_ 22 (d := d__law_long_right) rfl
  have g__law_long_right := He.glo_ok X G (x := "_law_long_right") (D.fact 22 rfl)
  have Fu__law_long_right := fun_of (st := s__law_long_right) F__law_long_right
  have b__law_long_right : Binds K fd__law_long_right ["jar", "many"] [] := FunD.bindsN F__law_long_right fun _ _ _ _ _ _ us hl => match us, hl with | [_, _], _ => rfl
  obtain ⟨fd_law, F_law⟩ := D.def_ 23 (d := d_law) rfl
  have g_law := He.glo_ok X G (x := "law") (D.fact 23 rfl)
  have Fu_law := fun_of (st := s_law) F_law
  have b_law : Binds K fd_law ["script"] [] := FunD.bindsN F_law fun _ _ _ _ _ _ us hl => match us, hl with | [_], _ => rfl
  have z_len := He.free_ok X G (x := "len") (D.fact 24 rfl)
  have z_list := He.free_ok X G (x := "list") (D.fact 25 rfl)
  have z_tuple := He.free_ok X G (x := "tuple") (D.fact 26 rfl)
  have z_range := He.free_ok X G (x := "range") (D.fact 27 rfl)
  have z_enumerate := He.free_ok X G (x := "enumerate") (D.fact 28 rfl)
  have z_abs := He.free_ok X G (x := "abs") (D.fact 29 rfl)
  have z_int := He.free_ok X G (x := "int") (D.fact 30 rfl)
  have z_sum := He.free_ok X G (x := "sum") (D.fact 31 rfl)
  have z_zip := He.free_ok X G (x := "zip") (D.fact 32 rfl)
  have z_max := He.free_ok X G (x := "max") (D.fact 33 rfl)
  have z_min := He.free_ok X G (x := "min") (D.fact 34 rfl)
  have z_sorted := He.free_ok X G (x := "sorted") (D.fact 35 rfl)
  have z_type := He.free_ok X G (x := "type") (D.fact 36 rfl)
  have z_all := He.free_ok X G (x := "all") (D.fact 37 rfl)
  have z_isinstance := He.free_ok X G (x := "isinstance") (D.fact 38 rfl)
  have z_repr := He.free_ok X G (x := "repr") (D.fact 39 rfl)
  obtain ⟨_, v_MOST_PANES⟩ := He.int_ok X G (x := "MOST_PANES") (D.fact 40 rfl)
  have B : BQ mg := ⟨⟨⟨z_max, z_min, z_sorted, z_len, z_list, z_tuple, z_range, z_enumerate, z_abs, z_int, z_sum, z_zip⟩, z_type, z_all, z_isinstance⟩, z_repr⟩
  have B_pattern_in : KB0 fd_pattern_in ["row"] ["row"] (fun ws => ws) (fun zs => zs) := kb0 Fu_pattern_in (fun _ _ _ _ _ _ ws hl => match ws, hl with | [_], _ => rfl) fun r => r
  have B_is_plan : KB0 fd_is_plan ["thing"] ["thing"] (fun ws => ws) (fun zs => zs) := kb0 Fu_is_plan (fun _ _ _ _ _ _ ws hl => match ws, hl with | [_], _ => rfl) fun r => r
  have bd_is_number : ∀ (s : Shared) (u : Value), BindsTo s fd_is_number ⟨[u], []⟩ [("thing", u)] := fun s u => FunD.bindsA (ps := ["thing"]) F_is_number (fun _ _ _ _ _ _ us hl => match us, hl with | [_], _ => rfl) s [u] rfl
  have Fc_is_row := func_of (st := s_is_row) F_is_row
  have e := hfa.symm.trans g_law
  cases e
  refine ⟨fd_law, fun s u => FunD.bindsA (ps := ["script"]) F_law (fun _ _ _ _ _ _ us hl => match us, hl with | [_], _ => rfl) s [u] rfl, fun base hK hN hT => ?_⟩
  have T_is_row : TabB base mg (He.cT K ("is_row", none)).1 (He.cT K ("is_row", none)).2 := hT _ (List.mem_map.mpr ⟨_, List.mem_cons_self, rfl⟩)
  generalize htb_tb : (He.cT K ("is_row", none)).2 = tb at *
  have go : Gd.FnG P w K mg base CX0 8 (He.ga K "law") fd_law ["script"] (spLaw10 tb K) := by
    have C_is_number : Cal P w K mg base "is_number" 1 (He.fAd K d_is_number.at_) _ ["thing"] spIsNum := ⟨ok_is_number Fu_is_number B.toBP, g_is_number, F_is_number.kp, b_is_number⟩
    have C_is_row : Cal P w K mg base "is_row" 2 (He.fAd K d_is_row.at_) _ ["thing"] (spIsRowA tb) := ⟨ok_is_rowA Fc_is_row B.toBP v_MOST_PANES T_is_row Fu_is_number g_is_number bd_is_number, g_is_row, F_is_row.kp, b_is_row⟩
    have C_find_places : Cal P w K mg base "find_places" 1 (He.fAd K d_find_places.at_) _ ["row"] spPlaces := ⟨ok_find_places Fu_find_places B.toBP, g_find_places, F_find_places.kp, b_find_places⟩
    have C_find_pattern_at : Cal P w K mg base "find_pattern_at" 1 (He.fAd K d_find_pattern_at.at_) _ ["row", "places", "middle"] spAtX := ⟨ok_find_pattern_atX Fu_find_pattern_at B.toBP, g_find_pattern_at, F_find_pattern_at.kp, b_find_pattern_at⟩
    have C_find_pattern : Cal P w K mg base "find_pattern" 2 (He.fAd K d_find_pattern.at_) _ ["row"] spPatX := ⟨ok_find_patternX Fu_find_pattern B.toBP C_find_places C_find_pattern_at, g_find_pattern, F_find_pattern.kp, b_find_pattern⟩
    have C_is_plan : Cal P w K mg base "is_plan" 3 (He.fAd K d_is_plan.at_) _ ["thing"] (spIsPlanA tb) := ⟨ok_is_planA Fu_is_plan B.toBP C_is_row C_find_pattern, g_is_plan, F_is_plan.kp, b_is_plan⟩
    have C_find_pattern : Cal P w K mg base "find_pattern" 2 (He.fAd K d_find_pattern.at_) _ ["row"] spPatE := ⟨ok_find_patternE Fu_find_pattern B.toBP C_find_places C_find_pattern_at, g_find_pattern, F_find_pattern.kp, b_find_pattern⟩
    have C_pattern_in : Cal P w K mg base "pattern_in" 3 (He.fAd K d_pattern_in.at_) _ ["row"] (spPatIn tb) := ⟨ok_pattern_inE Fu_pattern_in C_is_row C_find_pattern, g_pattern_in, F_pattern_in.kp, b_pattern_in⟩
    have C__law_jar : Cal P w K mg base "_law_jar" 1 (He.fAd K d__law_jar.at_) _ ["script", "k"] (spJar K) := ⟨ok_jar Fu__law_jar B.len_ B.abs_ B.max_ B.int_, g__law_jar, F__law_jar.kp, b__law_jar⟩
    have C__law_dip : Cal P w K mg base "_law_dip" 1 (He.fAd K d__law_dip.at_) _ ["jar", "many"] spDip := ⟨ok_dip Fu__law_dip B.int_, g__law_dip, F__law_dip.kp, b__law_dip⟩
    have C__law_pushed : Cal P w K mg base "_law_pushed" 1 (He.fAd K d__law_pushed.at_) _ ["panes", "entry"] spPushedE := ⟨fn_weak (ok_pushed Fu__law_pushed ⟨B.max_, B.sorted_, B.enumerate_, B.len_, B.abs_, B.list_, B.tuple_⟩) fun _ _ _ _ h => pushedE h, g__law_pushed, F__law_pushed.kp, b__law_pushed⟩
    have C__law_border : Cal P w K mg base "_law_border" 1 (He.fAd K d__law_border.at_) _ ["panes", "axis"] spBorderE := ⟨fn_weak (ok_border Fu__law_border B.max_ B.len_) fun _ _ _ _ h => borderE h, g__law_border, F__law_border.kp, b__law_border⟩
    have Gb_ := (show FnOk P w K mg base CX0 1 (He.fAd K d__law_border.at_) fd__law_border ["panes", "axis"] spBorder from ok_border Fu__law_border B.max_ B.len_)
    have Gp_ := (show FnOk P w K mg base CX0 1 (He.fAd K d__law_pushed.at_) fd__law_pushed ["panes", "entry"] spPushed from ok_pushed Fu__law_pushed ⟨B.max_, B.sorted_, B.enumerate_, B.len_, B.abs_, B.list_, B.tuple_⟩)
    have C__law_grown : Cal P w K mg base "_law_grown" 2 (He.fAd K d__law_grown.at_) _ ["jar", "many"] spGrownE := ⟨ok_grownE Fu__law_grown C__law_dip.G ⟨C__law_dip.g, C__law_dip.k, C__law_dip.b⟩ Gb_ ⟨C__law_border.g, C__law_border.k, C__law_border.b⟩ Gp_ ⟨C__law_pushed.g, C__law_pushed.k, C__law_pushed.b⟩ ⟨B.max_, B.sorted_, B.enumerate_, B.len_, B.abs_, B.list_, B.tuple_⟩, g__law_grown, F__law_grown.kp, b__law_grown⟩
    have C__law_lines : Cal P w K mg base "_law_lines" 1 (He.fAd K d__law_lines.at_) _ ["panes", "axis"] spLines := ⟨ok_lines Fu__law_lines B.toBP.toBN, g__law_lines, F__law_lines.kp, b__law_lines⟩
    have C__law_at : Cal P w K mg base "_law_at" 1 (He.fAd K d__law_at.at_) _ ["panes", "line", "axis"] (spAt K) := ⟨ok_at Fu__law_at B.toBP.toBN, g__law_at, F__law_at.kp, b__law_at⟩
    have C__law_steps : Cal P w K mg base "_law_steps" 2 (He.fAd K d__law_steps.at_) _ ["panes", "axis"] spSteps := ⟨ok_steps Fu__law_steps C__law_lines C__law_at, g__law_steps, F__law_steps.kp, b__law_steps⟩
    have C__law_behind : Cal P w K mg base "_law_behind" 3 (He.fAd K d__law_behind.at_) _ ["panes", "axis"] spBehind := ⟨ok_behind Fu__law_behind B.toBP.toBN C__law_steps, g__law_behind, F__law_behind.kp, b__law_behind⟩
    have C__law_rows : Cal P w K mg base "_law_rows" 4 (He.fAd K d__law_rows.at_) _ ["panes"] spRows := ⟨ok_rows Fu__law_rows B.toBP.toBN C__law_behind, g__law_rows, F__law_rows.kp, b__law_rows⟩
    have C__law_plan : Cal P w K mg base "_law_plan" 5 (He.fAd K d__law_plan.at_) _ ["panes"] spPlan := ⟨ok_plan Fu__law_plan B.toBP.toBN C__law_rows, g__law_plan, F__law_plan.kp, b__law_plan⟩
    have C__law_lists : Cal P w K mg base "_law_lists" 1 (He.fAd K d__law_lists.at_) _ ["many"] spLists := ⟨ok_lists Fu__law_lists B.toBP.toBN, g__law_lists, F__law_lists.kp, b__law_lists⟩
    have C__law_pattern : Cal P w K mg base "_law_pattern" 1 (He.fAd K d__law_pattern.at_) _ ["row_here"] spLawPat := ⟨ok_law_pattern Fu__law_pattern B.toBP.toBN, g__law_pattern, F__law_pattern.kp, b__law_pattern⟩
    have C__law_all_grown : Cal P w K mg base "_law_all_grown" 2 (He.fAd K d__law_all_grown.at_) _ ["many"] spAllG := ⟨ok_all_grown Fu__law_all_grown B.toBP.toBN C__law_border C__law_pushed, g__law_all_grown, F__law_all_grown.kp, b__law_all_grown⟩
    have C__law_all_right : CalG P w K mg base "_law_all_right" 6 (He.fAd K d__law_all_right.at_) _ ["many"] (spAllRight tb) := ⟨ok_all_right Fu__law_all_right B C__law_all_grown C__law_plan C__law_lists C__law_pattern C_pattern_in C_is_plan B_pattern_in B_is_plan, g__law_all_right, F__law_all_right.kp, b__law_all_right⟩
    have C__law_long_right : CalG P w K mg base "_law_long_right" 6 (He.fAd K d__law_long_right.at_) _ ["jar", "many"] (spLong tb) := ⟨ok_long_right Fu__law_long_right B C__law_grown C__law_plan C__law_dip C__law_pattern C_pattern_in C_is_plan, g__law_long_right, F__law_long_right.kp, b__law_long_right⟩
    exact ok_law10 Fu_law B C__law_jar C__law_dip C__law_all_right C__law_long_right C_pattern_in C_is_plan
  exact go
end HdZ
open PySem PySem.W PySem.Calls PyProof.Rows
theorem PySem.Challenge.cw_paneplans_k10_plans_by_trying_holds : PySem.Challenge.rw_paneplans_k10_plans_by_trying.Holds := by
  w_on; o_law
  refine HandSHeadRun.head_imp (r := OpenLaw.row PySem.Challenge.rw_paneplans_k10_plans_by_trying) (q := HdZ.vw) (H := HdZ.hk) (ob := HdZ.ob) (M := 6000) (loose := HdZ.loose) (d := HandSHeadRun.topDef (OpenLaw.row PySem.Challenge.rw_paneplans_k10_plans_by_trying).prog 30) (kwd := []) HdZ.ob_eq
    HdZ.run (by kernel_rfl) (by kernel_rfl) (by kernel_rfl) (by rfl) (by first | assumption | decide +kernel) (by decide +kernel) ⟨rfl, rfl, rfl, rfl, rfl, by decide +kernel⟩ ?hw ?hc
  case hw => w_witness2
  case hc =>
    refine Gd.walk_ofGE (l := PySem.Challenge.rw_paneplans_k10_plans_by_trying) (n := 63) (k := 8) (x := "script") (CX := L2.CX0) rfl (by decide) (by kernel_rfl) ⟨rfl, by decide, by decide⟩ ?F (fun _ _ _ _ z => z)
    intro w mg fa h Y G hmg0
    obtain ⟨K, KX, c⟩ := Y
    have hmg : mg ("law" : PySem.Str) = some (.ref fa) := by
      have e : (HandSHeadRun.topDef (OpenLaw.row PySem.Challenge.rw_paneplans_k10_plans_by_trying).prog 30).name = ("law" : PySem.Str) := by kernel_rfl
      rw [← e]
      exact hmg0
    obtain ⟨fd, hb, hF⟩ := HdZ.facts (P := (PySem.Challenge.rw_paneplans_k10_plans_by_trying).prog) (w := w) KX G hmg c
    refine ⟨K, KX, fd, HdZ.tf.map (He.cT K), _, ?_, ?_, ?_, hb, ?_, hF⟩
    · intro p hp
      obtain ⟨d, hd, rfl⟩ := List.mem_map.mp hp
      exact c.empty d hd
    · intro p hp
      obtain ⟨d, hd, rfl⟩ := List.mem_map.mp hp
      exact c.out d hd
    · intro p hp
      obtain ⟨d, hd, rfl⟩ := List.mem_map.mp hp
      exact PySem.W.codeHd_of_K KX (c.hd d hd)
    · intro H a ns hl hT hS
      have ht0 := hT _ (List.mem_map.mpr ⟨(("is_row", none) : He.Defn), List.mem_cons_self, rfl⟩)
      exact ⟨a, ns, rfl, hS, hl, ht0, fun H' e => ⟨rfl, fun p hp => e _ _ (hT p hp)⟩⟩
