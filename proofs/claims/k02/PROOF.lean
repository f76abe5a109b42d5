import PyProof.Rows.All
import Wide.All
import OpenK.AllK
import Wide.FinOn
import HandS.ForMost
import HandS.ForExc
import HandS.Codes
import HandS.Evl
import HandS.Wide
import HandS.IsInst
import HandS.FStr
import HandS.Gcd
import HandS.Defaults
import HandS.Iter
import HandS.OwnEq
import HandS.RaiseMore
import PySem.Challenge.RW_splittalk_k02_formulas
set_option Elab.async false
set_option linter.all false
set_option maxRecDepth 100000
set_option maxHeartbeats 2000000
/-! SVBase: values as monotone predicates (MP), a store of owned objects, what evaluates to what (Ev), statements (Go). -/
namespace SV
open PySem L2
open Evl (Ex ex_rd ex_l ex_t sz_of sz_lt)

/-! ### heaps -/

/-- the heap without the addresses of d -/
def mask (H : Hp) (d : List Addr) : Hp := fun a => if a ∈ d then none else H a
theorem mask_in {H : Hp} {d : List Addr} {a : Addr} (h : a ∈ d) : mask H d a = none := if_pos h
theorem mask_out {H : Hp} {d : List Addr} {a : Addr} (h : a ∉ d) : mask H d a = H a := if_neg h
theorem mask_sub {H : Hp} {d : List Addr} : Ex (mask H d) H := fun a o e => by
  by_cases h : a ∈ d
  · rw [mask_in h] at e; cases e
  · rw [mask_out h] at e; exact e
theorem mask_ex {H H' : Hp} {d : List Addr} (e : Ex H H') : Ex (mask H d) (mask H' d) := fun a o q => by
  by_cases h : a ∈ d
  · rw [mask_in h] at q; cases q
  · rw [mask_out h] at q ⊢; exact e a o q
theorem mask_nil {H : Hp} : mask H [] = H := by funext a; simp [mask]
theorem mask_less {H : Hp} {d d' : List Addr} (h : ∀ a, a ∈ d' → a ∈ d) : Ex (mask H d) (mask H d') := fun a o q => by
  by_cases h' : a ∈ d
  · rw [mask_in h'] at q; cases q
  · rw [mask_out h'] at q
    rw [mask_out (fun z => h' (h a z))]; exact q

/-! ### what is known of a value -/
structure MP where
  p : Hp → V → Prop
  mono : ∀ {H H' : Hp} {v : V}, Ex H H' → p H v → p H' v
/-- a value whatever the heap -/
def C (c : V) : MP := ⟨fun _ v => v = c, fun _ h => h⟩
abbrev I (i : Int) : MP := C (.int i)
abbrev B (b : Bool) : MP := C (.bl b)
abbrev S (s : Str) : MP := C (.str s)
abbrev N : MP := C .non
abbrev R (a : Addr) : MP := C (.ref a)
def All (H : Hp) : List MP → List V → Prop := Paired fun P v => P.p H v
theorem All.mono {H H' : Hp} (e : Ex H H') : ∀ {Ps : List MP} {vs : List V}, All H Ps vs → All H' Ps vs
  | _, _, .nil => .nil
  | _, _, .cons h t => .cons (MP.mono _ e h) (All.mono e t)
theorem All.length {H : Hp} : ∀ {Ps : List MP} {vs : List V}, All H Ps vs → Ps.length = vs.length
  | _, _, .nil => rfl
  | _, _, .cons _ t => congrArg (· + 1) (All.length t)
theorem All.get {H : Hp} : ∀ {Ps : List MP} {vs : List V} {i : Nat} {P : MP}, All H Ps vs → Ps[i]? = some P → ∃ v, vs[i]? = some v ∧ P.p H v
  | _, _, _, _, .nil, e => by simp at e
  | _, _, 0, _, .cons h _, e => by simp at e; subst e; exact ⟨_, rfl, h⟩
  | _, _, i + 1, P, .cons _ t, e => by
    obtain ⟨v, h1, h2⟩ := All.get (i := i) (P := P) t (by simpa using e)
    exact ⟨v, by simpa using h1, h2⟩
theorem All.getR {H : Hp} : ∀ {Ps : List MP} {vs : List V} {i : Nat} {v : V}, All H Ps vs → vs[i]? = some v → ∃ P, Ps[i]? = some P ∧ P.p H v
  | _, _, _, _, .nil, e => by simp at e
  | _, _, 0, _, .cons h _, e => by simp at e; subst e; exact ⟨_, rfl, h⟩
  | _, _, i + 1, v, .cons _ t, e => by
    obtain ⟨P, h1, h2⟩ := All.getR (i := i) (v := v) t (by simpa using e)
    exact ⟨P, by simpa using h1, h2⟩
theorem All.append {H : Hp} : ∀ {Ps Qs : List MP} {vs us : List V}, All H Ps vs → All H Qs us → All H (Ps ++ Qs) (vs ++ us)
  | _, _, _, _, .nil, s => s
  | _, _, _, _, .cons r t, s => .cons r (All.append t s)
theorem All.set {H : Hp} {P : MP} {v : V} (h : P.p H v) : ∀ {Ps : List MP} {vs : List V} (i : Nat), All H Ps vs → All H (Ps.set i P) (vs.set i v)
  | _, _, _, .nil => .nil
  | _, _, 0, .cons _ t => .cons h t
  | _, _, i + 1, .cons q t => .cons q (All.set h i t)
theorem All.take {H : Hp} : ∀ {Ps : List MP} {vs : List V} (n : Nat), All H Ps vs → All H (Ps.take n) (vs.take n)
  | _, _, 0, _ => .nil
  | _, _, _ + 1, .nil => .nil
  | _, _, n + 1, .cons r t => .cons r (All.take n t)
theorem All.drop {H : Hp} : ∀ {Ps : List MP} {vs : List V} (n : Nat), All H Ps vs → All H (Ps.drop n) (vs.drop n)
  | _, _, 0, r => r
  | _, _, _ + 1, .nil => .nil
  | _, _, n + 1, .cons _ t => All.drop n t
/-- a tuple | a list that nobody changes any more -/
def T (K : PySem.W.Frag) (Ps : List MP) : MP := ⟨fun H v => ∃ a vs, v = .ref a ∧ SqT K H a vs ∧ All H Ps vs, fun e ⟨a, vs, h1, h2, h3⟩ => ⟨a, vs, h1, ex_t e h2, h3.mono e⟩⟩
def L (K : PySem.W.Frag) (Ps : List MP) : MP := ⟨fun H v => ∃ a vs, v = .ref a ∧ SqL K H a vs ∧ All H Ps vs, fun e ⟨a, vs, h1, h2, h3⟩ => ⟨a, vs, h1, ex_l e h2, h3.mono e⟩⟩
/-- fields by name -/
def Flds (H : Hp) : List (Str × MP) → List (Str × V) → Prop := Paired fun p q => p.1 = q.1 ∧ p.2.p H q.2
theorem Flds.mono {H H' : Hp} (e : Ex H H') : ∀ {Ps : List (Str × MP)} {vs : List (Str × V)}, Flds H Ps vs → Flds H' Ps vs
  | _, _, .nil => .nil
  | _, _, .cons h t => .cons ⟨h.1, MP.mono _ e h.2⟩ (Flds.mono e t)
theorem Flds.look {H : Hp} {f : Str} : ∀ {Ps : List (Str × MP)} {vs : List (Str × V)} {P : MP}, Flds H Ps vs → Ps.lookup f = some P → ∃ v, vs.lookup f = some v ∧ P.p H v
  | _, _, _, .nil, e => by simp at e
  | (g, P0) :: Ps, (g', v0) :: vs, P, .cons h t, e => by
    obtain ⟨h1, h2⟩ := h
    simp only at h1 h2
    subst h1
    by_cases q : f = g
    · subst q
      simp [List.lookup] at e
      subst e
      exact ⟨v0, by simp [List.lookup], h2⟩
    · have qb : (f == g) = false := by simpa using q
      simp only [List.lookup, qb] at e ⊢
      exact Flds.look t e
theorem Flds.lookN {H : Hp} {f : Str} : ∀ {Ps : List (Str × MP)} {vs : List (Str × V)}, Flds H Ps vs → Ps.lookup f = none → vs.lookup f = none
  | _, _, .nil, _ => rfl
  | (g, P0) :: Ps, (g', v0) :: vs, .cons h t, e => by
    obtain ⟨h1, _⟩ := h
    simp only at h1
    subst h1
    by_cases q : f = g
    · subst q
      simp [List.lookup] at e
    · have qb : (f == g) = false := by simpa using q
      simp only [List.lookup, qb] at e ⊢
      exact Flds.lookN t e
theorem Flds.length {H : Hp} : ∀ {Ps : List (Str × MP)} {vs : List (Str × V)}, Flds H Ps vs → Ps.length = vs.length
  | _, _, .nil => rfl
  | _, _, .cons _ t => congrArg (· + 1) (Flds.length t)
def putM (f : Str) (P : MP) : List (Str × MP) → List (Str × MP)
  | [] => [(f, P)]
  | (g, Q) :: r => if g = f then (g, P) :: r else (g, Q) :: putM f P r
theorem Flds.put {H : Hp} {f : Str} {P : MP} {v : V} (hv : P.p H v) : ∀ {Ps : List (Str × MP)} {vs : List (Str × V)}, Flds H Ps vs → Flds H (putM f P Ps) (putF f v vs)
  | _, _, .nil => .cons ⟨rfl, hv⟩ .nil
  | (g, P0) :: Ps, (g', v0) :: vs, .cons h t => by
    obtain ⟨h1, h2⟩ := h
    simp only at h1 h2
    subst h1
    unfold putM putF
    by_cases q : g = f
    · rw [if_pos q, if_pos q]
      exact .cons ⟨rfl, hv⟩ t
    · rw [if_neg q, if_neg q]
      exact .cons ⟨rfl, h2⟩ (Flds.put hv t)
/-- an instance that nobody changes any more -/
def O (C : Addr) (fs : List (Str × MP)) : MP := ⟨fun H v => ∃ a dx ws, v = .ref a ∧ H a = some (.ins C dx ws) ∧ Flds H fs ws, fun e ⟨a, dx, ws, h1, h2, h3⟩ => ⟨a, dx, ws, h1, e _ _ h2, h3.mono e⟩⟩

/-! ### the store: owned objects -/
inductive MO where
  | lst (Ps : List MP)
  | dct (kvs : List (Key × MP))
  | ins (C : Addr) (fs : List (Str × MP))
  /-- any other thing, by what is true of it -/
  | has (φ : Hp → HO → Prop) (up : ∀ {F F' : Hp} {o : HO}, Ex F F' → φ F o → φ F' o)
def KVs (H : Hp) : List (Key × MP) → List (Key × V) → Prop := Paired fun p q => p.1 = q.1 ∧ p.2.p H q.2
theorem KVs.mono {H H' : Hp} (e : Ex H H') : ∀ {Ps : List (Key × MP)} {vs : List (Key × V)}, KVs H Ps vs → KVs H' Ps vs
  | _, _, .nil => .nil
  | _, _, .cons h t => .cons ⟨h.1, MP.mono _ e h.2⟩ (KVs.mono e t)
def MO.ok (F : Hp) : MO → HO → Prop
  | .lst Ps, o => ∃ vs, o = .lst vs ∧ All F Ps vs
  | .dct kvs, o => ∃ ws, o = .dK ws ∧ KVs F kvs ws
  | .ins C fs, o => ∃ dx ws, o = .ins C dx ws ∧ Flds F fs ws
  | .has φ _, o => φ F o
theorem MO.ok.mono {F F' : Hp} (e : Ex F F') {mo : MO} {o : HO} (h : mo.ok F o) : mo.ok F' o := by
  cases mo with
  | lst Ps => obtain ⟨vs, h1, h2⟩ := h; exact ⟨vs, h1, h2.mono e⟩
  | dct kvs => obtain ⟨vs, h1, h2⟩ := h; exact ⟨vs, h1, h2.mono e⟩
  | ins C fs => obtain ⟨dx, vs, h1, h2⟩ := h; exact ⟨dx, vs, h1, h2.mono e⟩
  | has φ up => exact up e h
abbrev Sto := List (Addr × MO)
abbrev dom (m : Sto) : List Addr := m.map (·.1)
structure Own (m : Sto) (H : Hp) : Prop where
  nd : (dom m).Nodup
  ok : ∀ (i : Nat) a mo, m[i]? = some (a, mo) → ∃ o, H a = some o ∧ mo.ok (mask H (dom m)) o
theorem dom_mem {m : Sto} {i : Nat} {a : Addr} {mo : MO} (h : m[i]? = some (a, mo)) : a ∈ dom m := List.mem_map.mpr ⟨(a, mo), List.mem_of_getElem? h, rfl⟩
theorem mem_dom {m : Sto} {a : Addr} (h : a ∈ dom m) : ∃ (i : Nat) (mo : MO), m[i]? = some (a, mo) := by
  obtain ⟨⟨b, mo⟩, h1, h2⟩ := List.mem_map.mp h
  simp only at h2
  subst h2
  obtain ⟨i, hi⟩ := List.getElem?_of_mem h1
  exact ⟨i, mo, hi⟩
theorem nd_ix {α : Type} {N : List α} (hN : N.Nodup) {i j : Nat} {x : α} (a : N[i]? = some x) (b : N[j]? = some x) : i = j := by
  obtain ⟨h1, e1⟩ := List.getElem?_eq_some_iff.mp a
  obtain ⟨h2, e2⟩ := List.getElem?_eq_some_iff.mp b
  exact (List.getElem_inj hN).mp (e1.trans e2.symm)
theorem Own.there {m : Sto} {H : Hp} (o : Own m H) {a : Addr} (h : a ∈ dom m) : H a ≠ none := by
  obtain ⟨i, mo, hi⟩ := mem_dom h
  obtain ⟨u, hu, _⟩ := o.ok i a mo hi
  rw [hu]
  exact fun z => nomatch z
theorem Own.out {m : Sto} {H : Hp} (o : Own m H) {a : Addr} (h : H a = none) : a ∉ dom m := fun z => o.there z h
theorem Own.ext {m : Sto} {H H' : Hp} (o : Own m H) (e : Ex H H') : Own m H' := ⟨o.nd, fun i a mo h => by
  obtain ⟨u, hu, q⟩ := o.ok i a mo h
  exact ⟨u, e a u hu, q.mono (mask_ex e)⟩⟩
theorem Own.nil {H : Hp} : Own [] H := ⟨List.nodup_nil, fun i a mo h => by simp at h⟩
/-- the store's i-th object is written -/
theorem Own.put {m : Sto} {H : Hp} {i : Nat} {a : Addr} {mo mo' : MO} {u : HO} (o : Own m H) (h : m[i]? = some (a, mo)) (q : mo'.ok (mask H (dom m)) u) : Own (m.set i (a, mo')) (upd H a u) := by
  have hd : dom (m.set i (a, mo')) = dom m := by
    unfold dom
    rw [List.map_set]
    refine List.ext_getElem? fun j => ?_
    rw [List.getElem?_set]
    split
    · rename_i hij
      subst hij
      rw [List.getElem?_map, h]
      have : i < m.length := (List.getElem?_eq_some_iff.mp h).1
      simp [this]
    · rfl
  have hm : mask (upd H a u) (dom m) = mask H (dom m) := by
    funext b
    by_cases hb : b ∈ dom m
    · rw [mask_in hb, mask_in hb]
    · rw [mask_out hb, mask_out hb, upd_ne]
      intro z
      subst z
      exact hb (dom_mem h)
  refine ⟨by rw [hd]; exact o.nd, fun j b mb hj => ?_⟩
  rw [hd, hm]
  rw [List.getElem?_set] at hj
  split at hj
  · rename_i hij
    split at hj
    · simp only [Option.some.injEq, Prod.mk.injEq] at hj
      obtain ⟨rfl, rfl⟩ := hj
      exact ⟨u, upd_same, q⟩
    · cases hj
  · rename_i hij
    obtain ⟨v, hv, z⟩ := o.ok j b mb hj
    refine ⟨v, ?_, z⟩
    rw [upd_ne]
    · exact hv
    · intro e
      subst e
      have e1 : (dom m)[i]? = some b := by unfold dom; rw [List.getElem?_map, h]; rfl
      have e2 : (dom m)[j]? = some b := by unfold dom; rw [List.getElem?_map, hj]; rfl
      exact hij (nd_ix o.nd e1 e2)
theorem dom_put {m : Sto} {i : Nat} {a : Addr} {mo mo' : MO} (h : m[i]? = some (a, mo)) : dom (m.set i (a, mo')) = dom m := by
  unfold dom
  rw [List.map_set]
  refine List.ext_getElem? fun j => ?_
  rw [List.getElem?_set]
  split
  · rename_i hij
    subst hij
    rw [List.getElem?_map, h]
    have : i < m.length := (List.getElem?_eq_some_iff.mp h).1
    simp [this]
  · rfl
theorem mask_put {m : Sto} {H : Hp} {i : Nat} {a : Addr} {mo : MO} {u : HO} (h : m[i]? = some (a, mo)) : mask (upd H a u) (dom m) = mask H (dom m) := by
  funext b
  by_cases hb : b ∈ dom m
  · rw [mask_in hb, mask_in hb]
  · rw [mask_out hb, mask_out hb, upd_ne]
    intro z
    subst z
    exact hb (dom_mem h)
/-- a new object comes into the store -/
theorem Own.add {m : Sto} {H : Hp} {a : Addr} {mo : MO} {u : HO} (o : Own m H) (h : H a = none) (q : mo.ok (mask H (dom m)) u) : Own ((a, mo) :: m) (upd H a u) := by
  have hx : Ex (mask H (dom m)) (mask (upd H a u) (dom ((a, mo) :: m))) := fun b v e => by
    by_cases hb : b ∈ dom m
    · rw [mask_in hb] at e; cases e
    · rw [mask_out hb] at e
      have hba : b ≠ a := fun z => by subst z; rw [h] at e; cases e
      rw [mask_out (by simp [dom, hba]; simpa [dom] using hb), upd_ne hba]
      exact e
  refine ⟨List.nodup_cons.mpr ⟨o.out h, o.nd⟩, fun i b mb hi => ?_⟩
  cases i with
  | zero =>
    simp only [List.getElem?_cons_zero, Option.some.injEq, Prod.mk.injEq] at hi
    obtain ⟨rfl, rfl⟩ := hi
    exact ⟨u, upd_same, q.mono hx⟩
  | succ i =>
    have hi : m[i]? = some (b, mb) := by simpa using hi
    obtain ⟨v, hv, z⟩ := o.ok i b mb hi
    refine ⟨v, ?_, z.mono hx⟩
    rw [upd_ne (ne_of_none hv h)]
    exact hv
/-- the newest object goes out of the store -/
theorem mask_drop {m : Sto} {H : Hp} {p : Addr × MO} : Ex (mask H (dom (p :: m))) (mask H (dom m)) := mask_less fun a h => by simp [dom]; exact Or.inr (by simpa [dom] using h)
theorem Own.drop {m : Sto} {H : Hp} {p : Addr × MO} (o : Own (p :: m) H) : Own m H := ⟨(List.nodup_cons.mp o.nd).2, fun i a mo h => by
  obtain ⟨u, hu, q⟩ := o.ok (i + 1) a mo (by simpa using h)
  exact ⟨u, hu, q.mono mask_drop⟩⟩
theorem Own.dropL {l m : Sto} {H : Hp} (o : Own (l ++ m) H) : Own m H := by
  induction l with
  | nil => exact o
  | cons p l ih => exact ih o.drop
theorem mask_dropL {l m : Sto} {H : Hp} : Ex (mask H (dom (l ++ m))) (mask H (dom m)) := mask_less fun a h => by
  simp only [dom, List.map_append, List.mem_append]
  exact Or.inr h
end SV

/-! SVEv: the canonical readings; what an expression evaluates to. -/
namespace SV
open PySem L2
open Evl (Ex ex_rd ex_l ex_t sz_of sz_lt)

/-! ### canonical readings -/
def cE (X : Cx) (e : Expr) : TE := fun σ H Q => ∀ (pins : List (Addr × Obj)) (s : Shared), Inv X pins σ H s → wpAny (model X.prog X.w) X.A (eval e X.env) (EP X pins σ Q) X.xe s
def cT (X : Cx) (e : Expr) : TT := fun σ H Q => ∀ (pins : List (Addr × Obj)) (s : Shared), Inv X pins σ H s → wpAny (model X.prog X.w) X.A (isTrue e X.env (eval e X.env)) (TP X pins σ Q) X.xe s
def cW (X : Cx) (e : Expr) : TT := fun σ H Q => ∀ (whole : Sem Value) (pins : List (Addr × Obj)) (s : Shared), Inv X pins σ H s → wpAny (model X.prog X.w) X.A (isTrue e X.env whole) (TP X pins σ Q) X.xe s
def cA (X : Cx) (es : List Expr) : TA := fun σ H Q => ∀ (pos : Pos) (pins : List (Addr × Obj)) (s : Shared), Inv X pins σ H s → wpAny (model X.prog X.w) X.A (spliced (backTo pos (starEach es X.env))) (AP X pins σ Q) X.xe s
def cS (X : Cx) (st : Stmt) : TS := fun D σ H => ∀ (pins : List (Addr × Obj)) (s : Shared), Inv X pins σ H s → wpAny (model X.prog X.w) X.A (exec st X.env) (SP X pins D) X.xe s
def cSs (X : Cx) (st : List Stmt) : TS := fun D σ H => ∀ (pins : List (Addr × Obj)) (s : Shared), Inv X pins σ H s → wpAny (model X.prog X.w) X.A (execs st X.env) (SP X pins D) X.xe s
section
variable {X : Cx} {e : Expr} {es : List Expr} {st : Stmt} {sts : List Stmt} {σ : L2.St} {H : Hp}
theorem pcE : PE X e (cE X e) := ⟨fun pins s _ _ _ I h => h pins s I⟩
theorem pcT : PT X e (cT X e) := ⟨fun pins s _ _ _ I h => h pins s I⟩
theorem pcW : PW X e (cW X e) := ⟨fun w pins s _ _ _ I h => h w pins s I⟩
theorem pcA : PA X es (cA X es) := ⟨fun pos pins s _ _ _ I h => h pos pins s I⟩
theorem pcS : PS X st (cS X st) := ⟨fun pins s _ _ _ I h => h pins s I⟩
theorem pcSs : PSs X sts (cSs X sts) := ⟨fun pins s _ _ _ I h => h pins s I⟩
theorem cE_of {t : TE} {Q : VK} (p : PE X e t) (h : t σ H Q) : cE X e σ H Q := fun pins s I => p.run pins s σ H Q I h
theorem cT_of {t : TT} {Q : Bool → Hp → Prop} (p : PT X e t) (h : t σ H Q) : cT X e σ H Q := fun pins s I => p.run pins s σ H Q I h
theorem cW_of {t : TT} {Q : Bool → Hp → Prop} (p : PW X e t) (h : t σ H Q) : cW X e σ H Q := fun w pins s I => p.run w pins s σ H Q I h
theorem cA_of {t : TA} {Q : List V → Hp → Prop} (p : PA X es t) (h : t σ H Q) : cA X es σ H Q := fun pos pins s I => p.run pos pins s σ H Q I h
theorem cS_of {t : TS} {D : Ends} (p : PS X st t) (h : t D σ H) : cS X st D σ H := fun pins s I => p.run pins s σ H D I h
theorem cSs_of {t : TS} {D : Ends} (p : PSs X sts t) (h : t D σ H) : cSs X sts D σ H := fun pins s I => p.run pins s σ H D I h
end

/-! ### the state -/
abbrev Rho := List (Option MP)
/-- the slot holds what is said, or nothing is said -/
def Slot1 (H : Hp) (oP : Option MP) (ov : Option V) : Prop := ∀ P, oP = some P → ∃ v, ov = some v ∧ P.p H v
def Slots (H : Hp) : Rho → L2.St → Prop := Paired (Slot1 H)
theorem Slot1.mono {H H' : Hp} (e : Ex H H') {oP : Option MP} {ov : Option V} (h : Slot1 H oP ov) : Slot1 H' oP ov := fun P q => by
  obtain ⟨v, h1, h2⟩ := h P q
  exact ⟨v, h1, P.mono e h2⟩
theorem Slots.mono {H H' : Hp} (e : Ex H H') : ∀ {ρ : Rho} {σ : L2.St}, Slots H ρ σ → Slots H' ρ σ
  | _, _, .nil => .nil
  | _, _, .cons h t => .cons (h.mono e) (Slots.mono e t)
theorem Slots.get {H : Hp} : ∀ {ρ : Rho} {σ : L2.St} {i : Nat} {P : MP}, Slots H ρ σ → ρ[i]? = some (some P) → ∃ v, σ[i]? = some (some v) ∧ P.p H v
  | _, _, _, _, .nil, e => by simp at e
  | _, _, 0, P, .cons h _, e => by
    simp at e
    obtain ⟨v, h1, h2⟩ := h P e
    exact ⟨v, by simp [h1], h2⟩
  | _, _, i + 1, P, .cons _ t, e => by
    obtain ⟨v, h1, h2⟩ := Slots.get (i := i) (P := P) t (by simpa using e)
    exact ⟨v, by simpa using h1, h2⟩
theorem Slots.set {H : Hp} {P : MP} {v : V} (h : P.p H v) : ∀ {ρ : Rho} {σ : L2.St} (i : Nat), Slots H ρ σ → Slots H (ρ.set i (some P)) (σ.set i (some v))
  | _, _, _, .nil => .nil
  | _, _, 0, .cons _ t => .cons (fun P' e => by cases e; exact ⟨v, rfl, h⟩) t
  | _, _, i + 1, .cons q t => .cons q (Slots.set h i t)
theorem Slots.forget {H : Hp} : ∀ {ρ ρ' : Rho} {σ : L2.St}, Slots H ρ σ → Paired (fun a b => b = none ∨ b = a) ρ ρ' → Slots H ρ' σ
  | _, _, _, .nil, .nil => .nil
  | _, _, _, .cons h t, .cons q r => .cons (fun P e => by
      rcases q with q | q
      · rw [q] at e; cases e
      · rw [q] at e; exact h P e) (Slots.forget t r)
theorem Slots.length {H : Hp} : ∀ {ρ : Rho} {σ : L2.St}, Slots H ρ σ → ρ.length = σ.length
  | _, _, .nil => rfl
  | _, _, .cons _ t => congrArg (· + 1) (Slots.length t)
theorem Slots.weak {H : Hp} {P Q : MP} (hw : ∀ v, P.p H v → Q.p H v) : ∀ {ρ : Rho} {σ : L2.St} {i : Nat}, Slots H ρ σ → ρ[i]? = some (some P) → Slots H (ρ.set i (some Q)) σ
  | _, _, _, .nil, e => by simp at e
  | _, _, 0, .cons h t, e => by
    simp at e
    refine .cons (fun P' e' => ?_) t
    cases e'
    obtain ⟨v, h1, h2⟩ := h P e
    exact ⟨v, h1, hw v h2⟩
  | _, _, i + 1, .cons h t, e => .cons h (Slots.weak hw t (by simpa using e))

structure Stt (ρ : Rho) (m : Sto) (σ : L2.St) (H : Hp) : Prop where
  env : Slots (mask H (dom m)) ρ σ
  own : Own m H
abbrev Nxt (m : Sto) (H H' : Hp) : Prop := Ex (mask H (dom m)) (mask H' (dom m))
theorem Stt.go {ρ : Rho} {m m' : Sto} {σ : L2.St} {H H' : Hp} (s : Stt ρ m σ H) (hd : dom m' = dom m) (n : Nxt m H H') (o : Own m' H') : Stt ρ m' σ H' := ⟨by rw [hd]; exact s.env.mono n, o⟩
theorem Nxt.refl {m : Sto} {H : Hp} : Nxt m H H := Ex.refl _
theorem Nxt.of {m : Sto} {H H' : Hp} (e : Ex H H') : Nxt m H H' := mask_ex e
theorem Nxt.trans {m m' : Sto} {H H1 H2 : Hp} (hd : dom m' = dom m) (a : Nxt m H H1) (b : Nxt m' H1 H2) : Nxt m H H2 := by
  have b' : Ex (mask H1 (dom m)) (mask H2 (dom m)) := by rw [← hd]; exact b
  exact Ex.trans a b'

theorem Nxt.to {m m' : Sto} {H H1 : Hp} (n : Nxt m' H H1) (hd : dom m' = dom m) : Nxt m H H1 := by
  have n' : Ex (mask H (dom m')) (mask H1 (dom m')) := n
  rw [hd] at n'
  exact n'

/-- te evaluates to a value of which P is known, turning the store m into m' -/
structure Ev (te : TE) (ρ : Rho) (m : Sto) (P : MP) (m' : Sto) : Prop where
  d : dom m' = dom m
  go : ∀ (σ : L2.St) (H : Hp) (Q : VK), Stt ρ m σ H → (∀ v H', Nxt m H H' → Own m' H' → P.p (mask H' (dom m)) v → Q v H') → te σ H Q
structure EvT (te : TT) (ρ : Rho) (m : Sto) (b : Bool) (m' : Sto) : Prop where
  d : dom m' = dom m
  go : ∀ (σ : L2.St) (H : Hp) (Q : Bool → Hp → Prop), Stt ρ m σ H → (∀ H', Nxt m H H' → Own m' H' → Q b H') → te σ H Q
structure EvA (te : TA) (ρ : Rho) (m : Sto) (Ps : List MP) (m' : Sto) : Prop where
  d : dom m' = dom m
  go : ∀ (σ : L2.St) (H : Hp) (Q : List V → Hp → Prop), Stt ρ m σ H → (∀ vs H', Nxt m H H' → Own m' H' → All (mask H' (dom m)) Ps vs → Q vs H') → te σ H Q
/-- a place that new objects may take -/
def Free (d : List Addr) (H : Hp) : Prop := ∀ a, a ∈ d → H a ≠ none
theorem Own.frees {m : Sto} {H : Hp} (o : Own m H) : Free (dom m) H := fun _ h => o.there h
theorem Free.new {d : List Addr} {H : Hp} (f : Free d H) {p : Addr} (h : H p = none) : p ∉ d := fun z => f p z h
theorem Free.at {d : List Addr} {H : Hp} (f : Free d H) {p : Addr} {o : HO} (h : H p = none) : mask (upd H p o) d p = some o := by
  rw [mask_out (f.new h), upd_same]
/-- operations on values -/
def RV (r : R2) (P1 P2 P : MP) : Prop := ∀ (d : List Addr) (H : Hp) (v u : V) (Q : VK), Free d H → P1.p (mask H d) v → P2.p (mask H d) u → (∀ z H', Ex H H' → P.p (mask H' d) z → Q z H') → r v u H Q
def RU (r : V → Hp → VK → Prop) (P1 P : MP) : Prop := ∀ (d : List Addr) (H : Hp) (v : V) (Q : VK), Free d H → P1.p (mask H d) v → (∀ z H', Ex H H' → P.p (mask H' d) z → Q z H') → r v H Q
def RC (r : List V → Hp → VK → Prop) (Ps : List MP) (P : MP) : Prop := ∀ (d : List Addr) (H : Hp) (vs : List V) (Q : VK), Free d H → All (mask H d) Ps vs → (∀ z H', Ex H H' → P.p (mask H' d) z → Q z H') → r vs H Q
def RM (r : V → List V → Hp → VK → Prop) (P0 : MP) (Ps : List MP) (P : MP) : Prop := ∀ (d : List Addr) (H : Hp) (v : V) (vs : List V) (Q : VK), Free d H → P0.p (mask H d) v → All (mask H d) Ps vs → (∀ z H', Ex H H' → P.p (mask H' d) z → Q z H') → r v vs H Q
def RT (r : V → Hp → (Bool → Hp → Prop) → Prop) (P1 : MP) (b : Bool) : Prop := ∀ (d : List Addr) (H : Hp) (v : V) (Q : Bool → Hp → Prop), Free d H → P1.p (mask H d) v → (∀ H', Ex H H' → Q b H') → r v H Q

section
variable {X : Cx} {ρ : Rho} {m m1 m2 m3 : Sto} {P P1 P2 P3 : MP} {ta tb tc te : TE} {t u : TT} {A : TA} {e a b c : Expr} {es : List Expr} {pos p p2 : Pos}
theorem Ev.can (h : PE X e te) (E : Ev te ρ m P m1) : Ev (cE X e) ρ m P m1 := ⟨E.d, fun σ H Q s q => cE_of h (E.go σ H Q s q)⟩
theorem EvT.can {b : Bool} (h : PT X e t) (E : EvT t ρ m b m1) : EvT (cT X e) ρ m b m1 := ⟨E.d, fun σ H Q s q => cT_of h (E.go σ H Q s q)⟩
theorem EvT.canW {b : Bool} (h : PW X e t) (E : EvT t ρ m b m1) : EvT (cW X e) ρ m b m1 := ⟨E.d, fun σ H Q s q => cW_of h (E.go σ H Q s q)⟩
theorem EvA.can {Ps : List MP} (h : PA X es A) (E : EvA A ρ m Ps m1) : EvA (cA X es) ρ m Ps m1 := ⟨E.d, fun σ H Q s q => cA_of h (E.go σ H Q s q)⟩
/-- the value is known in other words -/
theorem Ev.to (E : Ev te ρ m P m1) (h : ∀ H v, P.p H v → P1.p H v) : Ev te ρ m P1 m1 := ⟨E.d, fun σ H Q s q => E.go σ H Q s fun v H' n o pv => q v H' n o (h _ _ pv)⟩
theorem Ev.eq (E : Ev te ρ m P m1) (h : P = P1) : Ev te ρ m P1 m1 := h ▸ E
theorem EvT.eq {b b' : Bool} (E : EvT t ρ m b m1) (h : b = b') : EvT t ρ m b' m1 := h ▸ E

theorem ev_var {i : Nat} (h : ρ[i]? = some (some P)) : Ev (tVar i) ρ m P m := ⟨rfl, fun σ H Q s q => by
  obtain ⟨v, h1, h2⟩ := s.env.get h
  exact ⟨v, h1, q v H .refl s.own h2⟩⟩
theorem ev_c {v : V} : Ev (tC v) ρ m (C v) m := ⟨rfl, fun σ H Q s q => q v H .refl s.own rfl⟩
theorem ev_op {r : R2} (ha : Ev ta ρ m P1 m1) (hb : Ev tb ρ m1 P2 m2) (hr : RV r P1 P2 P) : Ev (tOp r ta tb) ρ m P m2 := ⟨hb.d.trans ha.d, fun σ H Q s q => by
  refine ha.go σ H _ s fun v H1 n1 o1 p1 => ?_
  have s1 := s.go ha.d n1 o1
  refine hb.go σ H1 _ s1 fun u H2 n2 o2 p2 => ?_
  have hd := hb.d.trans ha.d
  refine hr (dom m2) H2 v u _ o2.frees ?_ ?_ fun z H3 e3 pz => ?_
  · rw [hd]; exact P1.mono (n2.to ha.d) p1
  · rw [hb.d]; exact p2
  · refine q z H3 ((n1.trans ha.d n2).trans rfl (Nxt.of e3)) (o2.ext e3) ?_
    rw [hd] at pz; exact pz⟩
theorem ev_un {r : V → Hp → VK → Prop} (ha : Ev ta ρ m P1 m1) (hr : RU r P1 P) : Ev (tUn r ta) ρ m P m1 := ⟨ha.d, fun σ H Q s q => by
  refine ha.go σ H _ s fun v H1 n1 o1 p1 => ?_
  refine hr (dom m1) H1 v _ o1.frees (by rw [ha.d]; exact p1) fun z H3 e3 pz => ?_
  exact q z H3 (n1.trans rfl (Nxt.of e3)) (o1.ext e3) (by rw [ha.d] at pz; exact pz)⟩
theorem ea_nil : EvA tNil ρ m [] m := ⟨rfl, fun σ H Q s q => q [] H .refl s.own .nil⟩
theorem ea_cons {Ps : List MP} (ha : Ev ta ρ m P m1) (hb : EvA A ρ m1 Ps m2) : EvA (tCons ta A) ρ m (P :: Ps) m2 := ⟨hb.d.trans ha.d, fun σ H Q s q => by
  refine ha.go σ H _ s fun v H1 n1 o1 p1 => ?_
  have s1 := s.go ha.d n1 o1
  refine hb.go σ H1 _ s1 fun vs H2 n2 o2 p2 => ?_
  refine q (v :: vs) H2 (n1.trans ha.d n2) o2 (.cons (P.mono (n2.to ha.d) p1) (by rw [← ha.d]; exact p2))⟩
theorem ev_cb {r : List V → Hp → VK → Prop} {Ps : List MP} (ha : EvA A ρ m Ps m1) (hr : RC r Ps P) : Ev (tCB r A) ρ m P m1 := ⟨ha.d, fun σ H Q s q => by
  refine ha.go σ H _ s fun vs H1 n1 o1 p1 => ?_
  refine hr (dom m1) H1 vs _ o1.frees (by rw [ha.d]; exact p1) fun z H3 e3 pz => ?_
  exact q z H3 (n1.trans rfl (Nxt.of e3)) (o1.ext e3) (by rw [ha.d] at pz; exact pz)⟩
theorem ev_tup {Ps : List MP} (ha : EvA A ρ m Ps m1) (hl : Ps.length ≤ 100000) : Ev (tTup A) ρ m (T X.K Ps) m1 := ⟨ha.d, fun σ H Q s q => by
  refine ha.go σ H _ s fun vs H1 n1 o1 p1 => ⟨sz_of (by rw [← p1.length]; exact hl), fun l h => ?_⟩
  have e : Ex H1 (upd H1 l (.tup vs)) := Ex.new h
  refine q (.ref l) _ (n1.trans rfl (Nxt.of e)) (o1.ext e) ⟨l, vs, rfl, Or.inl (Or.inl ?_), p1.mono (mask_ex e)⟩
  exact Free.at (by rw [← ha.d]; exact o1.frees) h⟩
theorem ev_lst {Ps : List MP} (ha : EvA A ρ m Ps m1) (hl : Ps.length ≤ 100000) : Ev (tLst A) ρ m (L X.K Ps) m1 := ⟨ha.d, fun σ H Q s q => by
  refine ha.go σ H _ s fun vs H1 n1 o1 p1 => ⟨sz_of (by rw [← p1.length]; exact hl), fun l h => ?_⟩
  have e : Ex H1 (upd H1 l (.lst vs)) := Ex.new h
  refine q (.ref l) _ (n1.trans rfl (Nxt.of e)) (o1.ext e) ⟨l, vs, rfl, Or.inl (Or.inl ?_), p1.mono (mask_ex e)⟩
  exact Free.at (by rw [← ha.d]; exact o1.frees) h⟩
/-! tests -/
theorem et_tst {b : Bool} (ha : Ev te ρ m (B b) m1) : EvT (tTest te) ρ m b m1 := ⟨ha.d, fun σ H Q s q => ha.go σ H _ s fun v H1 n1 o1 p1 => ⟨b, p1, q H1 n1 o1⟩⟩
theorem et_b {b : Bool} (ha : Ev te ρ m (B b) m1) : EvT (tB te) ρ m b m1 := ⟨ha.d, fun σ H Q s q => ha.go σ H _ s fun v H1 n1 o1 p1 => ⟨b, p1, q H1 n1 o1⟩⟩
theorem et_not {b : Bool} (ha : EvT t ρ m b m1) : EvT (tNot t) ρ m (!b) m1 := ⟨ha.d, fun σ H Q s q => ha.go σ H _ s fun H1 n1 o1 => q H1 n1 o1⟩
/-- and, or: the second part only where it is asked; it leaves the store -/
theorem et_and {a b : Bool} (h1 : EvT t ρ m a m1) (h2 : a = true → EvT u ρ m1 b m1) : EvT (tAnd t u) ρ m (a && b) m1 := ⟨h1.d, fun σ H Q s q => h1.go σ H _ s fun H1 n1 o1 => by
  cases a with
  | true =>
    show u σ H1 Q
    exact (h2 rfl).go σ H1 Q (s.go h1.d n1 o1) fun H2 n2 o2 => q H2 (n1.trans h1.d n2) o2
  | false =>
    show Q false H1
    exact q H1 n1 o1⟩
theorem et_or {a b : Bool} (h1 : EvT t ρ m a m1) (h2 : a = false → EvT u ρ m1 b m1) : EvT (tOr t u) ρ m (a || b) m1 := ⟨h1.d, fun σ H Q s q => h1.go σ H _ s fun H1 n1 o1 => by
  cases a with
  | true =>
    show Q true H1
    exact q H1 n1 o1
  | false =>
    show u σ H1 Q
    exact (h2 rfl).go σ H1 Q (s.go h1.d n1 o1) fun H2 n2 o2 => q H2 (n1.trans h1.d n2) o2⟩
theorem ev_andV {a b : Bool} (h1 : Ev ta ρ m (B a) m1) (h2 : a = true → Ev tb ρ m1 (B b) m1) : Ev (tAndV ta tb) ρ m (B (a && b)) m1 := ⟨h1.d, fun σ H Q s q => h1.go σ H _ s fun v H1 n1 o1 p1 => ⟨a, p1, by
  cases a with
  | true =>
    show tb σ H1 Q
    exact (h2 rfl).go σ H1 Q (s.go h1.d n1 o1) fun v2 H2 n2 o2 p2 => q v2 H2 (n1.trans h1.d n2) o2 (by rw [← h1.d]; exact p2)
  | false =>
    show Q (.bl false) H1
    exact q _ H1 n1 o1 rfl⟩⟩
theorem ev_orV {a b : Bool} (h1 : Ev ta ρ m (B a) m1) (h2 : a = false → Ev tb ρ m1 (B b) m1) : Ev (tOrV ta tb) ρ m (B (a || b)) m1 := ⟨h1.d, fun σ H Q s q => h1.go σ H _ s fun v H1 n1 o1 p1 => ⟨a, p1, by
  cases a with
  | true =>
    show Q (.bl true) H1
    exact q _ H1 n1 o1 rfl
  | false =>
    show tb σ H1 Q
    exact (h2 rfl).go σ H1 Q (s.go h1.d n1 o1) fun v2 H2 n2 o2 p2 => q v2 H2 (n1.trans h1.d n2) o2 (by rw [← h1.d]; exact p2)⟩⟩
theorem ev_notV {a : Bool} (h1 : Ev ta ρ m (B a) m1) : Ev (tNotV ta) ρ m (B (!a)) m1 := ⟨h1.d, fun σ H Q s q => h1.go σ H _ s fun v H1 n1 o1 p1 => ⟨a, p1, q _ H1 n1 o1 rfl⟩⟩
theorem ev_if {a : Bool} (h : EvT t ρ m a m1) (h1 : a = true → Ev ta ρ m1 P m2) (h2 : a = false → Ev tb ρ m1 P m2) (hd : dom m2 = dom m1) : Ev (tIf t ta tb) ρ m P m2 := ⟨hd.trans h.d, fun σ H Q s q => h.go σ H _ s fun H1 n1 o1 => by
  cases a with
  | true =>
    show ta σ H1 Q
    exact (h1 rfl).go σ H1 Q (s.go h.d n1 o1) fun v2 H2 n2 o2 p2 => q v2 H2 (n1.trans h.d n2) o2 (by rw [← h.d]; exact p2)
  | false =>
    show tb σ H1 Q
    exact (h2 rfl).go σ H1 Q (s.go h.d n1 o1) fun v2 H2 n2 o2 p2 => q v2 H2 (n1.trans h.d n2) o2 (by rw [← h.d]; exact p2)⟩
end
end SV

/-! SVStm: statements. -/
namespace SV
open PySem L2
open Evl (Ex ex_rd ex_l ex_t sz_of sz_lt)

/-- from the state (ρ, m), which has grown from the base b0, the suite t reaches what D wants -/
def Go (t : TS) (D : Ends) (ρ : Rho) (m : Sto) (b0 : Hp) : Prop := ∀ (σ : L2.St) (H : Hp), Stt ρ m σ H → Ex b0 (mask H (dom m)) → t D σ H
/-- what is wanted at a return: P, the store m' -/
def Ret (Q : VK) (P : MP) (m' : Sto) (b0 : Hp) : Prop := ∀ v H, Own m' H → Ex b0 (mask H (dom m')) → P.p (mask H (dom m')) v → Q v H
/-- a state is handed on -/
def Nx (n : L2.St → Hp → Prop) (ρ : Rho) (m : Sto) (b0 : Hp) : Prop := ∀ (σ : L2.St) (H : Hp), Stt ρ m σ H → Ex b0 (mask H (dom m)) → n σ H

section
variable {X : Cx} {ρ ρ' : Rho} {m m1 m2 m3 m' : Sto} {P P1 P2 P3 : MP} {e a b c : Expr} {es : List Expr} {pos p p2 p3 : Pos} {D : Ends} {st : Stmt} {rest body orelse : List Stmt} {b0 : Hp} {x y : Str} {n : L2.St → Hp → Prop}
abbrev AE (X : Cx) (e : Expr) (ρ : Rho) (m : Sto) (P : MP) (m' : Sto) : Prop := Ev (cE X e) ρ m P m'
abbrev AT (X : Cx) (e : Expr) (ρ : Rho) (m : Sto) (b : Bool) (m' : Sto) : Prop := EvT (cT X e) ρ m b m'
abbrev AW (X : Cx) (e : Expr) (ρ : Rho) (m : Sto) (b : Bool) (m' : Sto) : Prop := EvT (cW X e) ρ m b m'
abbrev AA (X : Cx) (es : List Expr) (ρ : Rho) (m : Sto) (Ps : List MP) (m' : Sto) : Prop := EvA (cA X es) ρ m Ps m'
/-- a block -/
abbrev GS (X : Cx) (sts : List Stmt) (D : Ends) (ρ : Rho) (m : Sto) (b0 : Hp) : Prop := Go (cSs X sts) D ρ m b0
theorem gs_cons (h : Go (cS X st) { D with nx := cSs X rest D } ρ m b0) : GS X (st :: rest) D ρ m b0 := fun σ H s ex => cSs_of (pss_cons pcS pcSs) (h σ H s ex)
theorem gs_nil (h : Nx D.nx ρ m b0) : GS X [] D ρ m b0 := fun σ H s ex => cSs_of pss_nil (h σ H s ex)
theorem nx_go {D : Ends} (h : GS X rest D ρ m b0) : Nx (cSs X rest D) ρ m b0 := h
/-- the state in other words -/
theorem Go.forget {t : TS} (h : Go t D ρ' m b0) (hw : ∀ H σ, Slots H ρ σ → Slots H ρ' σ) : Go t D ρ m b0 := fun σ H s ex => h σ H ⟨hw _ _ s.env, s.own⟩ ex

theorem gs_asgG {i : Nat} (hN : X.N.Nodup) (hi : X.N[i]? = some x) (hx : Loc X.env.scope x) (he : AE X e ρ m P m1) (k : GS X rest D (ρ.set i (some P)) m1 b0)
    (hs : swapsWith e (some (.Name x p)) p2.line X.env = pure false := by rfl) (hf : X.fn x = true ∨ X.env.scope.names.lookup x = some .local := by first | exact .inl rfl | exact .inr rfl) : GS X (.Assign [.Name x p] e p2 :: rest) D ρ m b0 :=
  gs_cons fun σ H s ex => cS_of (ps_set hN hi hx pcE hs hf) (he.go σ H _ s fun v H1 n1 o1 p1 => k (σ.set i (some v)) H1 ⟨by rw [he.d]; exact (s.env.mono n1).set p1 i, o1⟩ (by rw [he.d]; exact ex.trans n1))
theorem gs_ret (he : AE X e ρ m P m1) (k : Ret D.rt P m1 b0) : GS X (.Return (some e) p :: rest) D ρ m b0 :=
  gs_cons fun σ H s ex => cS_of (ps_ret pcE) (he.go σ H _ s fun v H1 n1 o1 p1 => k v H1 o1 (by rw [he.d]; exact ex.trans n1) (by rw [he.d]; exact p1))
theorem gs_retN (k : Ret D.rt N m b0) : GS X (.Return none p :: rest) D ρ m b0 :=
  gs_cons fun σ H s ex => cS_of ps_retN (k .non H s.own ex rfl)
/-- a branching: what follows is shown behind each branch -/
theorem gs_if {t : Bool} (hc : AT X c ρ m t m1) (h1 : t = true → GS X body { D with nx := cSs X rest D } ρ m1 b0) (h2 : t = false → GS X orelse { D with nx := cSs X rest D } ρ m1 b0) : GS X (.If c body orelse p :: rest) D ρ m b0 :=
  gs_cons fun σ H s ex => cS_of (ps_if pcT pcSs pcSs) (hc.go σ H _ s fun H1 n1 o1 => by
    have ex1 : Ex b0 (mask H1 (dom m1)) := by rw [hc.d]; exact ex.trans n1
    cases t with
    | true =>
      show cSs X body _ σ H1
      exact h1 rfl σ H1 (s.go hc.d n1 o1) ex1
    | false =>
      show cSs X orelse _ σ H1
      exact h2 rfl σ H1 (s.go hc.d n1 o1) ex1)
/-- an if without else -/
theorem gs_when {t : Bool} (hc : AT X c ρ m t m1) (h1 : t = true → GS X body { D with nx := cSs X rest D } ρ m1 b0) (h2 : t = false → GS X rest D ρ m1 b0) : GS X (.If c body [] p :: rest) D ρ m b0 :=
  gs_if hc h1 fun h => gs_nil (h2 h)
theorem gs_end (k : GS X rest D ρ m b0) : GS X [] { D with nx := cSs X rest D } ρ m b0 := gs_nil k
/-- a branching both ways of which meet in one state -/
theorem gs_meet (Mid : L2.St → Hp → Prop) (h : Go (cS X st) { D with nx := Mid } ρ m b0) (k : ∀ σ H, Mid σ H → cSs X rest D σ H) : GS X (st :: rest) D ρ m b0 :=
  gs_cons fun σ H s ex pins sh I => thn (h σ H s ex pins sh I) fun f s1 q => by
    cases f with
    | next =>
      obtain ⟨σ', H', I', q⟩ := q
      exact ⟨σ', H', I', k σ' H' q⟩
    | ret v => exact q
    | brk => exact q
    | cont => exact q
theorem gs_expr (he : AE X e ρ m P m1) (k : GS X rest D ρ m1 b0) (hs : swapsWith e none p.line X.env = pure false := by rfl) : GS X (.Expr e p :: rest) D ρ m b0 :=
  gs_cons fun σ H s ex => cS_of (ps_expr pcE hs) (he.go σ H _ s fun v H1 n1 o1 p1 => k σ H1 (s.go he.d n1 o1) (by rw [he.d]; exact ex.trans n1))
theorem gs_pass (k : GS X rest D ρ m b0) : GS X (.Pass p :: rest) D ρ m b0 := gs_cons fun σ H s ex => cS_of ps_pass (k σ H s ex)
theorem gs_break (k : Nx D.bk ρ m b0) : GS X (.Break p :: rest) D ρ m b0 := gs_cons fun σ H s ex => cS_of ps_break (k σ H s ex)
theorem gs_continue (k : Nx D.ct ρ m b0) : GS X (.Continue p :: rest) D ρ m b0 := gs_cons fun σ H s ex => cS_of ps_continue (k σ H s ex)
/-- a, b = b, a at once -/
theorem gs_par {i j : Nat} {kt k2 : _} {pt pt2 : Pos} (hc : X.calm = true) (hN : X.N.Nodup) (hi : X.N[i]? = some x) (hj : X.N[j]? = some y) (hij : i ≠ j) (hx : X.env.scope.names.lookup x = some .local) (hy : X.env.scope.names.lookup y = some .local)
    (ha : AA X [a, b] ρ m [P1, P2] m1) (k : GS X rest D ((ρ.set i (some P1)).set j (some P2)) m1 b0)
    (hps : PS X (.Assign [.Tuple [.Name x p, .Name y p2] kt pt] (.Tuple [a, b] k2 pt2) pos) (tPar i j (cA X [a, b]))) : GS X (.Assign [.Tuple [.Name x p, .Name y p2] kt pt] (.Tuple [a, b] k2 pt2) pos :: rest) D ρ m b0 :=
  gs_cons fun σ H s ex => cS_of hps (ha.go σ H _ s fun vs H1 n1 o1 p1 => by
    match vs, p1 with
    | [v, u], .cons q1 (.cons q2 .nil) =>
      exact ⟨v, u, rfl, k _ H1 ⟨by rw [ha.d]; exact ((s.env.mono n1).set q1 i).set q2 j, o1⟩ (by rw [ha.d]; exact ex.trans n1)⟩)
end

/-! ### the end of a def -/
theorem Ret.same {Q : VK} {P : MP} {m : Sto} {b0 : Hp} (h : Ret Q P m b0) : Ret Q P m b0 := h
theorem Ret.to {Q : VK} {P P1 : MP} {m : Sto} {b0 : Hp} (h : Ret Q P m b0) (hw : ∀ H v, P1.p H v → P.p H v) : Ret Q P1 m b0 := fun v H o ex pv => h v H o ex (hw _ _ pv)
theorem Ret.eq {Q : VK} {P P1 : MP} {m m1 : Sto} {b0 : Hp} (h : Ret Q P m b0) (e : P1 = P) (e2 : m1 = m) : Ret Q P1 m1 b0 := by subst e; subst e2; exact h
/-- what the def owned goes -/
theorem Ret.drop {Q : VK} {P : MP} {m : Sto} {q : Addr × MO} {b0 : Hp} (h : Ret Q P m b0) : Ret Q P (q :: m) b0 := fun v H o ex pv => h v H o.drop (ex.trans mask_drop) (P.mono mask_drop pv)
/-- an owned list is handed back -/
theorem Ret.lst {K : PySem.W.Frag} {Q : VK} {Ps : List MP} {m : Sto} {a : Addr} {b0 : Hp} (h : Ret Q (L K Ps) m b0) : Ret Q (R a) ((a, .lst Ps) :: m) b0 := fun v H o ex pv => by
  obtain ⟨u, hu, vs, rfl, q⟩ := o.ok 0 a _ rfl
  refine h v H o.drop (ex.trans mask_drop) ⟨a, vs, pv, Or.inl (Or.inl ?_), q.mono mask_drop⟩
  rw [mask_out (List.nodup_cons.mp o.nd).1]
  exact hu
/-- an owned list becomes a value: the slots that hold it are said anew -/
theorem Go.freeze {K : PySem.W.Frag} {t : TS} {D : Ends} {ρ : Rho} {m : Sto} {b0 : Hp} {a : Addr} {Ps : List MP} (i : Nat) (hi : ρ[i]? = some (some (R a))) (k : Go t D (ρ.set i (some (L K Ps))) m b0) : Go t D ρ ((a, .lst Ps) :: m) b0 := fun σ H s ex => by
  refine k σ H ⟨?_, s.own.drop⟩ (ex.trans mask_drop)
  obtain ⟨u, hu, vs, rfl, q⟩ := s.own.ok 0 a _ rfl
  refine (s.env.mono mask_drop).weak (fun v pv => ?_) hi
  refine ⟨a, vs, pv, Or.inl (Or.inl ?_), q.mono mask_drop⟩
  rw [mask_out (List.nodup_cons.mp s.own.nd).1]
  exact hu
/-- what is owned and of no use goes -/
theorem Go.drop {t : TS} {D : Ends} {ρ : Rho} {m : Sto} {b0 : Hp} {q : Addr × MO} (k : Go t D ρ m b0) : Go t D ρ (q :: m) b0 := fun σ H s ex => k σ H ⟨s.env.mono mask_drop, s.own.drop⟩ (ex.trans mask_drop)

/-! ### loops -/
theorem Ret.base {Q : VK} {P : MP} {m : Sto} {b0 b1 : Hp} (h : Ret Q P m b0) (e : Ex b0 b1) : Ret Q P m b1 := fun v H o ex pv => h v H o (e.trans ex) pv
theorem Nx.base {n : L2.St → Hp → Prop} {ρ : Rho} {m : Sto} {b0 b1 : Hp} (h : Nx n ρ m b0) (e : Ex b0 b1) : Nx n ρ m b1 := fun σ H s ex => h σ H s (e.trans ex)
theorem Go.base {t : TS} {D : Ends} {ρ : Rho} {m : Sto} {b0 b1 : Hp} (h : Go t D ρ m b0) (e : Ex b0 b1) : Go t D ρ m b1 := fun σ H s ex => h σ H s (e.trans ex)
/-- one of the states of W -/
def Sts (W : Rho → Sto → Prop) (b1 : Hp) : L2.St → Hp → Prop := fun σ H => ∃ ρ2 m2, W ρ2 m2 ∧ Stt ρ2 m2 σ H ∧ Ex b1 (mask H (dom m2))
theorem nx_sts {W : Rho → Sto → Prop} {ρ : Rho} {m : Sto} {b1 : Hp} (h : W ρ m) : Nx (Sts W b1) ρ m b1 := fun σ H s ex => ⟨ρ, m, h, s, ex⟩
section
variable {X : Cx} {ρ : Rho} {m m1 : Sto} {P : MP} {e iter c : Expr} {pos p p2 : Pos} {D : Ends} {rest body : List Stmt} {b0 : Hp} {x : Str} {tg : Expr}
/-- for x in a list that stays; the states W i, i items taken -/
theorem gs_forL {j : Nat} {Ps : List MP} (hp : PassesOwn (model X.prog X.w) X.A X.env X.xe) (hc : X.calm = true) (hN : X.N.Nodup) (hj : X.N[j]? = some x) (hx : Loc X.env.scope x) (he : AE X iter ρ m (L X.K Ps) m1)
    (W : Nat → Rho → Sto → Prop) (h0 : W 0 ρ m1)
    (hs : ∀ b1, Ex b0 b1 → ∀ (i : Nat) (P : MP) ρ' m', Ps[i]? = some P → W i ρ' m' → GS X body { D with nx := Sts (W (i + 1)) b1, ct := Sts (W (i + 1)) b1, bk := cSs X rest D } (ρ'.set j (some P)) m' b1)
    (hd : ∀ ρ' m', W Ps.length ρ' m' → GS X rest D ρ' m' b0)
    (hs2 : ∀ x, foldedSetIterable iter X.env x = pure x := by intro _; rfl) (hf : X.fn x = true ∨ X.env.scope.names.lookup x = some .local := by first | exact .inl rfl | exact .inr rfl) : GS X (.For (.Name x p) iter body [] pos :: rest) D ρ m b0 :=
  gs_cons fun σ H s ex => cS_of (ps_for hp hc (pi_list pcE) (pg_name hN hj hx hf) pcSs hs2) (he.go σ H _ s fun v H1 n1 o1 p1 => by
    obtain ⟨a, vs, rfl, ha, hall⟩ := p1
    refine ⟨a, rfl, ⟨vs, ex_l mask_sub ha⟩, ?_⟩
    have hlen := hall.length
    have eb : Ex b0 (mask H1 (dom m)) := ex.trans n1
    refine for_list (xs := vs) (fun i σ' H' => Sts (W i) (mask H1 (dom m)) σ' H') ⟨ρ, m1, h0, s.go he.d n1 o1, by rw [he.d]; exact Ex.refl _⟩ (fun i σ' H' _ ⟨ρ2, m2, w, s2, e2⟩ => ex_l mask_sub (ex_l e2 ha)) ?_ ?_
    · rintro i y σ' H' hi ⟨ρ2, m2, w, s2, e2⟩
      obtain ⟨P, hP, hy⟩ := hall.getR hi
      exact hs _ eb i P ρ2 m2 hP w (σ'.set j (some y)) H' ⟨s2.env.set (P.mono e2 hy) j, s2.own⟩ e2
    · rintro σ' H' ⟨ρ2, m2, w, s2, e2⟩
      exact hd ρ2 m2 (by rw [hlen]; exact w) σ' H' s2 (eb.trans e2))
theorem gs_forT {j : Nat} {Ps : List MP} (hp : PassesOwn (model X.prog X.w) X.A X.env X.xe) (hc : X.calm = true) (hN : X.N.Nodup) (hj : X.N[j]? = some x) (hx : Loc X.env.scope x) (he : AE X iter ρ m (T X.K Ps) m1)
    (W : Nat → Rho → Sto → Prop) (h0 : W 0 ρ m1)
    (hs : ∀ b1, Ex b0 b1 → ∀ (i : Nat) (P : MP) ρ' m', Ps[i]? = some P → W i ρ' m' → GS X body { D with nx := Sts (W (i + 1)) b1, ct := Sts (W (i + 1)) b1, bk := cSs X rest D } (ρ'.set j (some P)) m' b1)
    (hd : ∀ ρ' m', W Ps.length ρ' m' → GS X rest D ρ' m' b0)
    (hs2 : ∀ x, foldedSetIterable iter X.env x = pure x := by intro _; rfl) (hf : X.fn x = true ∨ X.env.scope.names.lookup x = some .local := by first | exact .inl rfl | exact .inr rfl) : GS X (.For (.Name x p) iter body [] pos :: rest) D ρ m b0 :=
  gs_cons fun σ H s ex => cS_of (ps_for hp hc (pi_tup pcE) (pg_name hN hj hx hf) pcSs hs2) (he.go σ H _ s fun v H1 n1 o1 p1 => by
    obtain ⟨a, vs, rfl, ha, hall⟩ := p1
    refine ⟨a, rfl, ⟨vs, ex_t mask_sub ha⟩, ?_⟩
    have hlen := hall.length
    have eb : Ex b0 (mask H1 (dom m)) := ex.trans n1
    refine for_tup (xs := vs) (fun i σ' H' => Sts (W i) (mask H1 (dom m)) σ' H') ⟨ρ, m1, h0, s.go he.d n1 o1, by rw [he.d]; exact Ex.refl _⟩ (fun i σ' H' _ ⟨ρ2, m2, w, s2, e2⟩ => ex_t mask_sub (ex_t e2 ha)) ?_ ?_
    · rintro i y σ' H' hi ⟨ρ2, m2, w, s2, e2⟩
      obtain ⟨P, hP, hy⟩ := hall.getR hi
      exact hs _ eb i P ρ2 m2 hP w (σ'.set j (some y)) H' ⟨s2.env.set (P.mono e2 hy) j, s2.own⟩ e2
    · rintro σ' H' ⟨ρ2, m2, w, s2, e2⟩
      exact hd ρ2 m2 (by rw [hlen]; exact w) σ' H' s2 (eb.trans e2))
/-- for x in range(n) -/
theorem gs_forR {j : Nat} {n : Int} {a : Expr} (hg : Gl X "range") (hm : X.mg "range" = none) (hp : PassesOwn (model X.prog X.w) X.A X.env X.xe) (hc : X.calm = true) (hN : X.N.Nodup) (hj : X.N[j]? = some x) (hx : Loc X.env.scope x) (he : AE X a ρ m (I n) m1)
    (hn : n ≤ 100000) (hn0 : -100000 ≤ n) (W : Nat → Rho → Sto → Prop) (h0 : W 0 ρ m1)
    (hs : ∀ b1, Ex b0 b1 → ∀ (i : Nat) ρ' m', (i : Int) < n → W i ρ' m' → GS X body { D with nx := Sts (W (i + 1)) b1, ct := Sts (W (i + 1)) b1, bk := cSs X rest D } (ρ'.set j (some (I (i : Int)))) m' b1)
    (hd : ∀ ρ' m', W n.toNat ρ' m' → GS X rest D ρ' m' b0) (hse : starEach [a] X.env = [(false, eval a X.env)] := by rfl)
    (hs2 : ∀ x, foldedSetIterable (.Call (.Name "range" p2) [a] [] pos) X.env x = pure x := by intro _; rfl) (hf : X.fn x = true ∨ X.env.scope.names.lookup x = some .local := by first | exact .inl rfl | exact .inr rfl) : GS X (.For (.Name x p) (.Call (.Name "range" p2) [a] [] p3) body [] pos :: rest) D ρ m b0 :=
  have ha : AA X [a] ρ m [I n] m1 := EvA.can (pa_cons pcE pa_nil hse) (ea_cons he ea_nil)
  gs_cons fun σ H s ex => cS_of (ps_for hp hc (pi_range1 hg hm pcA hse) (pg_name hN hj hx hf) pcSs hs2) (ha.go σ H _ s fun vs H1 n1 o1 p1 => by
    match vs, p1 with
    | [v], .cons q1 .nil =>
      have q1 : v = .int n := q1
      subst q1
      refine ⟨n, rfl, by omega, by omega, ?_⟩
      have eb : Ex b0 (mask H1 (dom m)) := ex.trans n1
      refine for_range (lo := 0) (n := n.toNat) (fun i σ' H' => Sts (W i) (mask H1 (dom m)) σ' H') ⟨ρ, m1, h0, s.go he.d n1 o1, by rw [he.d]; exact Ex.refl _⟩ ?_ ?_
      · rintro i σ' H' hi ⟨ρ2, m2, w, s2, e2⟩
        have e0 : (0 : Int) + (i : Int) = (i : Int) := Int.zero_add _
        show cSs X body _ (σ'.set j (some (.int ((0 : Int) + (i : Int))))) H'
        rw [e0]
        exact hs _ eb i ρ2 m2 (by omega) w (σ'.set j (some (.int (i : Int)))) H' ⟨s2.env.set (P := I (i : Int)) rfl j, s2.own⟩ e2
      · rintro σ' H' ⟨ρ2, m2, w, s2, e2⟩
        exact hd ρ2 m2 w σ' H' s2 (eb.trans e2))
/-- range(lo, n) -/
theorem gs_forR2 {j : Nat} {lo n : Int} {a b : Expr} (hg : Gl X "range") (hm : X.mg "range" = none) (hp : PassesOwn (model X.prog X.w) X.A X.env X.xe) (hc : X.calm = true) (hN : X.N.Nodup) (hj : X.N[j]? = some x) (hx : Loc X.env.scope x) (he : AE X a ρ m (I lo) m1) {m2 : Sto} (he2 : AE X b ρ m1 (I n) m2)
    (hn : n ≤ 100000) (hn0 : -100000 ≤ n) (hl : lo ≤ 100000) (hl0 : -100000 ≤ lo) (W : Nat → Rho → Sto → Prop) (h0 : W 0 ρ m2)
    (hs : ∀ b1, Ex b0 b1 → ∀ (i : Nat) ρ' m', lo + (i : Int) < n → W i ρ' m' → GS X body { D with nx := Sts (W (i + 1)) b1, ct := Sts (W (i + 1)) b1, bk := cSs X rest D } (ρ'.set j (some (I (lo + (i : Int))))) m' b1)
    (hd : ∀ ρ' m', W (n - lo).toNat ρ' m' → GS X rest D ρ' m' b0) (hse : starEach [a, b] X.env = [(false, eval a X.env), (false, eval b X.env)] := by rfl) (hse2 : starEach [b] X.env = [(false, eval b X.env)] := by rfl)
    (hs2 : ∀ x, foldedSetIterable (.Call (.Name "range" p2) [a, b] [] p3) X.env x = pure x := by intro _; rfl) (hf : X.fn x = true ∨ X.env.scope.names.lookup x = some .local := by first | exact .inl rfl | exact .inr rfl) : GS X (.For (.Name x p) (.Call (.Name "range" p2) [a, b] [] p3) body [] pos :: rest) D ρ m b0 :=
  have ha : AA X [a, b] ρ m [I lo, I n] m2 := EvA.can (pa_cons pcE (pa_cons pcE pa_nil hse2) (hse.trans (by rw [hse2]))) (ea_cons he (ea_cons he2 ea_nil))
  gs_cons fun σ H s ex => cS_of (ps_for hp hc (pi_range2 hg hm pcA hse hse2) (pg_name hN hj hx hf) pcSs hs2) (ha.go σ H _ s fun vs H1 n1 o1 p1 => by
    match vs, p1 with
    | [v, u], .cons q1 (.cons q2 .nil) =>
      have q1 : v = .int lo := q1
      have q2 : u = .int n := q2
      subst q1 q2
      refine ⟨lo, n, rfl, ⟨by omega, by omega, by omega, by omega⟩, ?_⟩
      have eb : Ex b0 (mask H1 (dom m)) := ex.trans n1
      refine for_range (lo := lo) (n := (n - lo).toNat) (fun i σ' H' => Sts (W i) (mask H1 (dom m)) σ' H') ⟨ρ, m2, h0, s.go ha.d n1 o1, by rw [ha.d]; exact Ex.refl _⟩ ?_ ?_
      · rintro i σ' H' hi ⟨ρ2, m2, w, s2, e2⟩
        exact hs _ eb i ρ2 m2 (by omega) w (σ'.set j (some (.int (lo + (i : Int))))) H' ⟨s2.env.set (P := I (lo + (i : Int))) rfl j, s2.own⟩ e2
      · rintro σ' H' ⟨ρ2, m2, w, s2, e2⟩
        exact hd ρ2 m2 w σ' H' s2 (eb.trans e2))
/-- while: the states W, a measure that falls -/
theorem gs_while (hp : PassesOwn (model X.prog X.w) X.A X.env X.xe) (W : Nat → Rho → Sto → Prop) (k0 : Nat) (h0 : W k0 ρ m)
    (hs : ∀ b1, Ex b0 b1 → ∀ (k : Nat) ρ' m', W k ρ' m' → ∃ (b : Bool) (m2 : Sto), AT X c ρ' m' b m2 ∧
      (b = true → GS X body { D with nx := Sts (fun ρ2 m2 => ∃ k', k' < k ∧ W k' ρ2 m2) b1, ct := Sts (fun ρ2 m2 => ∃ k', k' < k ∧ W k' ρ2 m2) b1, bk := cSs X rest D } ρ' m2 b1) ∧ (b = false → GS X rest D ρ' m2 b1)) :
    GS X (.While c body [] p :: rest) D ρ m b0 :=
  gs_cons fun σ H s ex => cS_of (ps_while hp pcT pcSs) (by
    refine ⟨fun k σ' H' => Sts (W k) b0 σ' H', ⟨k0, ρ, m, h0, s, ex⟩, ?_⟩
    rintro k σ' H' ⟨ρ2, m2, w, s2, e2⟩
    obtain ⟨b, m3, ht, hy, hn⟩ := hs b0 (Ex.refl _) k ρ2 m2 w
    refine ht.go σ' H' _ s2 fun H1 n1 o1 => ?_
    have e3 : Ex b0 (mask H1 (dom m3)) := by rw [ht.d]; exact e2.trans n1
    cases b with
    | true =>
      rw [if_pos rfl]
      refine ⟨Sts (fun ρ2 m2 => ∃ k', k' < k ∧ W k' ρ2 m2) b0, fun σ4 H4 ⟨ρ4, m4, ⟨k', hk, w4⟩, s4, e4⟩ => ⟨k', hk, ρ4, m4, w4, s4, e4⟩, ?_⟩
      exact hy rfl σ' H1 (s2.go ht.d n1 o1) e3
    | false =>
      rw [if_neg Bool.false_ne_true]
      exact hn rfl σ' H1 (s2.go ht.d n1 o1) e3)
end
end SV

/-! SVRul: a rule for each kind of expression. -/
namespace SV
open PySem L2
open Evl (Ex ex_rd ex_l ex_t sz_of sz_lt)
section
variable {X : Cx} {ρ : Rho} {m m1 m2 m3 : Sto} {P P1 P2 P3 : MP} {e a b c f : Expr} {es rest : List Expr} {pos p p2 p3 : Pos} {x : Str} {i j k : Int}
/-! ### names, constants -/
theorem a_var (n : Nat) (h : ρ[n]? = some (some P) := by rfl) (hN : X.N[n]? = some x := by rfl) (hv : Vis X.env.scope x := by first | exact Or.inl rfl | exact Or.inr (Or.inl rfl) | exact Or.inr (Or.inr rfl)) (hd : (x == ("__debug__" : Str)) = false := by decide)
    (hcd : (x == ("__classdict__" : Str)) = false := by decide) : AE X (.Name x pos) ρ m P m := Ev.can (pv n hN hv hd hcd) (ev_var h)
theorem a_int {i : Int} {j : Nat} : AE X (.Constant (.int i) j pos) ρ m (I i) m := Ev.can pe_int ev_c
theorem a_bl {b : Bool} {j : Nat} : AE X (.Constant (.bool b) j pos) ρ m (B b) m := Ev.can pe_bl ev_c
theorem a_non {j : Nat} : AE X (.Constant .none j pos) ρ m N m := Ev.can pe_non ev_c
theorem a_str {s : Str} {j : Nat} : AE X (.Constant (.str s) j pos) ρ m (S s) m := Ev.can pe_str ev_c
theorem a_glob {v : V} {u : Value} (hm : X.mg x = some u) (r : RelV v u) (hg : Gl X x := by rfl) (hd : (x == ("__debug__" : Str)) = false := by decide) : AE X (.Name x pos) ρ m (C v) m := Ev.can (pe_glob hg hm r hd) ev_c
theorem a_gint {i : Int} {t : Tok} (hm : X.mg x = some (.int i t)) (hg : Gl X x := by rfl) (hd : (x == ("__debug__" : Str)) = false := by decide) : AE X (.Name x pos) ρ m (I i) m := a_glob hm ⟨_, rfl⟩ hg hd
theorem a_gstr {s : Str} {t : Tok} (hm : X.mg x = some (.str s t)) (hg : Gl X x := by rfl) (hd : (x == ("__debug__" : Str)) = false := by decide) : AE X (.Name x pos) ρ m (S s) m := a_glob hm ⟨_, rfl⟩ hg hd
theorem a_gref {a : Addr} (hm : X.mg x = some (.ref a)) (hg : Gl X x := by rfl) (hd : (x == ("__debug__" : Str)) = false := by decide) : AE X (.Name x pos) ρ m (R a) m := a_glob hm rfl hg hd
theorem a_bty {n : String} (hm : X.mg x = none) (hv : bootBuiltins x = some (.type n)) (hg : Gl X x := by rfl) (hn : x ≠ "__name__" := by decide) (hd : (x == ("__debug__" : Str)) = false := by decide) : AE X (.Name x pos) ρ m (C (.ty n)) m := Ev.can (pe_bltn (v := .ty n) hg hm hv (show RelV (.ty n) (.type n) from rfl) hn hd) ev_c
/-! ### operators -/
theorem a_bin {op : Operator} {r : R2} (ho : OpR X (binaryOp op) r) (hr : RV r P1 P2 P) (ha : AE X a ρ m P1 m1) (hb : AE X b ρ m1 P2 m2) : AE X (.BinOp a op b pos) ρ m P m2 := Ev.can (pe_op ho pcE pcE) (ev_op ha hb hr)
theorem rv_I0 {g : Int → Int → V} : RV (rI0 g) (I i) (I j) (C (g i j)) := fun d H v u Q _ h1 h2 q => ⟨i, j, h1, h2, q _ H (Ex.refl _) rfl⟩
theorem rv_I {Cn : Int → Int → Prop} {g : Int → Int → V} (hc : Cn i j) : RV (rI Cn g) (I i) (I j) (C (g i j)) := fun d H v u Q _ h1 h2 q => ⟨i, j, h1, h2, hc, q _ H (Ex.refl _) rfl⟩
theorem a_add (ha : AE X a ρ m (I i) m1) (hb : AE X b ρ m1 (I j) m2) : AE X (.BinOp a .Add b pos) ρ m (I (i + j)) m2 := a_bin op_add rv_I0 ha hb
theorem a_sub (ha : AE X a ρ m (I i) m1) (hb : AE X b ρ m1 (I j) m2) : AE X (.BinOp a .Sub b pos) ρ m (I (i - j)) m2 := a_bin op_sub rv_I0 ha hb
theorem a_mul (ha : AE X a ρ m (I i) m1) (hb : AE X b ρ m1 (I j) m2) (hc : CMul i j) : AE X (.BinOp a .Mult b pos) ρ m (I (i * j)) m2 := a_bin op_mul (rv_I hc) ha hb
theorem a_fdiv (ha : AE X a ρ m (I i) m1) (hb : AE X b ρ m1 (I j) m2) (hc : CDiv i j) : AE X (.BinOp a .FloorDiv b pos) ρ m (I (i / j)) m2 := a_bin op_fdiv (rv_I hc) ha hb
theorem a_mod (ha : AE X a ρ m (I i) m1) (hb : AE X b ρ m1 (I j) m2) (hc : 0 < j) : AE X (.BinOp a .Mod b pos) ρ m (I (i % j)) m2 := a_bin op_mod (rv_I hc) ha hb
theorem a_pow (ha : AE X a ρ m (I i) m1) (hb : AE X b ρ m1 (I j) m2) (hc : CPow i j) : AE X (.BinOp a .Pow b pos) ρ m (I (i ^ j.toNat)) m2 := a_bin op_pow (rv_I hc) ha hb
theorem a_mulW (ha : AE X a ρ m (I i) m1) (hb : AE X b ρ m1 (I j) m2) (hc : CMulW i j) : AE X (.BinOp a .Mult b pos) ρ m (I (i * j)) m2 := a_bin op_mulW (rv_I hc) ha hb
theorem a_fdivW (ha : AE X a ρ m (I i) m1) (hb : AE X b ρ m1 (I j) m2) (hc : CDivW i j) : AE X (.BinOp a .FloorDiv b pos) ρ m (I (i / j)) m2 := a_bin op_fdivW (rv_I hc) ha hb
theorem a_neg (ha : AE X a ρ m (I i) m1) : AE X (.UnaryOp .USub a pos) ρ m (I (-i)) m1 := Ev.can (pe_un un_neg pcE) (ev_un ha fun d H v Q _ h q => ⟨i, h, q _ H (Ex.refl _) rfl⟩)
/-- texts -/
theorem a_cat {s t : Str} (ha : AE X a ρ m (S s) m1) (hb : AE X b ρ m1 (S t) m2) (hl : s.length + t.length ≤ 1000000) : AE X (.BinOp a .Add b pos) ρ m (S (s ++ t)) m2 :=
  a_bin op_add_str (fun d H v u Q _ h1 h2 q => ⟨s, t, h1, h2, Nat.le_trans hl (by decide), q _ H (Ex.refl _) rfl⟩) ha hb
/-! ### comparisons -/
theorem a_cmp {op : CmpOp} {r : R2} (ho : OpR X (compareOp op) r) (hr : RV r P1 P2 P) (ha : AE X a ρ m P1 m1) (hb : AE X b ρ m1 P2 m2) (hm : behindInMarks op b = false := by first | exact nobehind _ (by decide) (by decide) | rfl) : AE X (.Compare a [op] [b] pos) ρ m P m2 :=
  Ev.can (pe_cmpR ho pcE pcE hm) (ev_op ha hb hr)
theorem t_cmp {op : CmpOp} {r : R2} {t : Bool} (ho : OpR X (compareOp op) r) (hr : RV r P1 P2 (B t)) (ha : AE X a ρ m P1 m1) (hb : AE X b ρ m1 P2 m2) (hm : behindInMarks op b = false := by first | exact nobehind _ (by decide) (by decide) | rfl) : AT X (.Compare a [op] [b] pos) ρ m t m2 :=
  EvT.can (pt_cmpR ho pcE pcE hm) (et_tst (ev_op ha hb hr))
theorem t_val {t : Bool} (ha : AE X a ρ m (B t) m1) (he : ∀ whole, isTrue a X.env whole = (do let v ← whole; standAt a.pos; holding [v] (truthy v)) := by intro _; rfl) : AT X a ρ m t m1 := EvT.can (pt_val pcE he) (et_b ha)
theorem t_lt (ha : AE X a ρ m (I i) m1) (hb : AE X b ρ m1 (I j) m2) : AT X (.Compare a [.Lt] [b] pos) ρ m (decide (i < j)) m2 := t_cmp op_lt rv_I0 ha hb
theorem t_le (ha : AE X a ρ m (I i) m1) (hb : AE X b ρ m1 (I j) m2) : AT X (.Compare a [.LtE] [b] pos) ρ m (decide (i ≤ j)) m2 := t_cmp op_le rv_I0 ha hb
theorem t_gt (ha : AE X a ρ m (I i) m1) (hb : AE X b ρ m1 (I j) m2) : AT X (.Compare a [.Gt] [b] pos) ρ m (decide (j < i)) m2 := t_cmp op_gt rv_I0 ha hb
theorem t_ge (ha : AE X a ρ m (I i) m1) (hb : AE X b ρ m1 (I j) m2) : AT X (.Compare a [.GtE] [b] pos) ρ m (decide (j ≤ i)) m2 := t_cmp op_ge rv_I0 ha hb
theorem a_lt (ha : AE X a ρ m (I i) m1) (hb : AE X b ρ m1 (I j) m2) : AE X (.Compare a [.Lt] [b] pos) ρ m (B (decide (i < j))) m2 := a_cmp op_lt rv_I0 ha hb
theorem a_le (ha : AE X a ρ m (I i) m1) (hb : AE X b ρ m1 (I j) m2) : AE X (.Compare a [.LtE] [b] pos) ρ m (B (decide (i ≤ j))) m2 := a_cmp op_le rv_I0 ha hb
theorem a_gt (ha : AE X a ρ m (I i) m1) (hb : AE X b ρ m1 (I j) m2) : AE X (.Compare a [.Gt] [b] pos) ρ m (B (decide (j < i))) m2 := a_cmp op_gt rv_I0 ha hb
theorem a_ge (ha : AE X a ρ m (I i) m1) (hb : AE X b ρ m1 (I j) m2) : AE X (.Compare a [.GtE] [b] pos) ρ m (B (decide (j ≤ i))) m2 := a_cmp op_ge rv_I0 ha hb
/-- == of ints, texts, truth values, None -/
theorem rv_eq {v u : V} (h : scal v u = true) : RV rEq (C v) (C u) (B (decide (v = u))) := fun d H v' u' Q _ h1 h2 q => by
  cases h1; cases h2
  exact ⟨h, q _ H (Ex.refl _) rfl⟩
theorem rv_ne {v u : V} (h : scal v u = true) : RV rNe (C v) (C u) (B (!decide (v = u))) := fun d H v' u' Q _ h1 h2 q => by
  cases h1; cases h2
  exact ⟨h, q _ H (Ex.refl _) rfl⟩
theorem decI : decide (V.int i = V.int j) = decide (i = j) := by by_cases h : i = j <;> simp [h]
theorem decS {s t : Str} : decide (V.str s = V.str t) = decide (s = t) := by by_cases h : s = t <;> simp [h]
theorem decB {s t : Bool} : decide (V.bl s = V.bl t) = (s == t) := by cases s <;> cases t <;> rfl
theorem t_eq {v u : V} (ha : AE X a ρ m (C v) m1) (hb : AE X b ρ m1 (C u) m2) (h : scal v u = true := by rfl) : AT X (.Compare a [.Eq] [b] pos) ρ m (decide (v = u)) m2 := t_cmp op_eq (rv_eq h) ha hb
theorem t_ne {v u : V} (ha : AE X a ρ m (C v) m1) (hb : AE X b ρ m1 (C u) m2) (h : scal v u = true := by rfl) : AT X (.Compare a [.NotEq] [b] pos) ρ m (!decide (v = u)) m2 := t_cmp op_ne (rv_ne h) ha hb
theorem a_eq {v u : V} (ha : AE X a ρ m (C v) m1) (hb : AE X b ρ m1 (C u) m2) (h : scal v u = true := by rfl) : AE X (.Compare a [.Eq] [b] pos) ρ m (B (decide (v = u))) m2 := a_cmp op_eq (rv_eq h) ha hb
theorem a_ne {v u : V} (ha : AE X a ρ m (C v) m1) (hb : AE X b ρ m1 (C u) m2) (h : scal v u = true := by rfl) : AE X (.Compare a [.NotEq] [b] pos) ρ m (B (!decide (v = u))) m2 := a_cmp op_ne (rv_ne h) ha hb
theorem t_eqI (ha : AE X a ρ m (I i) m1) (hb : AE X b ρ m1 (I j) m2) : AT X (.Compare a [.Eq] [b] pos) ρ m (decide (i = j)) m2 := (t_eq ha hb).eq decI
theorem t_neI (ha : AE X a ρ m (I i) m1) (hb : AE X b ρ m1 (I j) m2) : AT X (.Compare a [.NotEq] [b] pos) ρ m (!decide (i = j)) m2 := (t_ne ha hb).eq (by rw [decI])
theorem a_eqI (ha : AE X a ρ m (I i) m1) (hb : AE X b ρ m1 (I j) m2) : AE X (.Compare a [.Eq] [b] pos) ρ m (B (decide (i = j))) m2 := (a_eq ha hb).eq (by rw [decI])
theorem a_neI (ha : AE X a ρ m (I i) m1) (hb : AE X b ρ m1 (I j) m2) : AE X (.Compare a [.NotEq] [b] pos) ρ m (B (!decide (i = j))) m2 := (a_ne ha hb).eq (by rw [decI])
theorem t_eqS {s t : Str} (ha : AE X a ρ m (S s) m1) (hb : AE X b ρ m1 (S t) m2) : AT X (.Compare a [.Eq] [b] pos) ρ m (decide (s = t)) m2 := (t_eq ha hb).eq decS
theorem t_neS {s t : Str} (ha : AE X a ρ m (S s) m1) (hb : AE X b ρ m1 (S t) m2) : AT X (.Compare a [.NotEq] [b] pos) ρ m (!decide (s = t)) m2 := (t_ne ha hb).eq (by rw [decS])
theorem a_eqS {s t : Str} (ha : AE X a ρ m (S s) m1) (hb : AE X b ρ m1 (S t) m2) : AE X (.Compare a [.Eq] [b] pos) ρ m (B (decide (s = t))) m2 := (a_eq ha hb).eq (by rw [decS])
theorem a_eqB {s t : Bool} (ha : AE X a ρ m (B s) m1) (hb : AE X b ρ m1 (B t) m2) : AE X (.Compare a [.Eq] [b] pos) ρ m (B (s == t)) m2 := (a_eq ha hb).eq (by rw [decB])
theorem t_neB {s t : Bool} (ha : AE X a ρ m (B s) m1) (hb : AE X b ρ m1 (B t) m2) : AT X (.Compare a [.NotEq] [b] pos) ρ m (!(s == t)) m2 := (t_ne ha hb).eq (by rw [decB])
/-- lo <= x <= hi -/
theorem et_chain {r r' : R2} {ta tb tc : TE} {t u : Bool} (ha : Ev ta ρ m P1 m1) (hb : Ev tb ρ m1 P2 m2) (hr : RV r P1 P2 (B t)) (hc : Ev tc ρ m2 P3 m2) (hr' : RV r' P2 P3 (B u)) : EvT (tTest (tChain r r' ta tb tc)) ρ m (t && u) m2 := ⟨hb.d.trans ha.d, fun σ H Q s q => by
  refine ha.go σ H _ s fun v H1 n1 o1 p1 => ?_
  have s1 := s.go ha.d n1 o1
  refine hb.go σ H1 _ s1 fun w H2 n2 o2 p2 => ?_
  have hd := hb.d.trans ha.d
  have s2 := s1.go hb.d n2 o2
  have n12 := n1.trans ha.d n2
  refine hr (dom m2) H2 v w _ o2.frees (by rw [hd]; exact P1.mono (n2.to ha.d) p1) (by rw [hb.d]; exact p2) fun z H3 e3 pz => ⟨t, pz, ?_⟩
  have n3 : Nxt m2 H2 H3 := Nxt.of e3
  have o3 := o2.ext e3
  cases t with
  | false =>
    rw [if_neg Bool.false_ne_true]
    exact ⟨false, rfl, q H3 (n12.trans hd n3) o3⟩
  | true =>
    rw [if_pos rfl]
    refine hc.go σ H3 _ (s2.go rfl n3 o3) fun w' H4 n4 o4 p4 => ?_
    refine hr' (dom m2) H4 w w' _ o4.frees (P2.mono n4 (P2.mono n3 (by rw [hb.d]; exact p2))) p4 fun z H5 e5 pz => ⟨u, pz, ?_⟩
    exact q H5 (((n12.trans hd n3).trans hd n4).trans hd (Nxt.of e5)) (o4.ext e5)⟩
theorem t_chain {op op' : CmpOp} {r r' : R2} {t u : Bool} (ho : OpR X (compareOp op) r) (ho' : OpR X (compareOp op') r') (hr : RV r P1 P2 (B t)) (hr' : RV r' P2 P3 (B u)) (ha : AE X a ρ m P1 m1) (hb : AE X b ρ m1 P2 m2) (hc : AE X c ρ m2 P3 m2) (hm : lastMarks [op, op'] [b, c] = false := by with_unfolding_all rfl) :
    AT X (.Compare a [op, op'] [b, c] pos) ρ m (t && u) m2 := EvT.can (pt_chain ho ho' pcE pcE pcE hm) (et_chain ha hb hr hc hr')
theorem t_leLe (ha : AE X a ρ m (I i) m1) (hb : AE X b ρ m1 (I j) m2) (hc : AE X c ρ m2 (I k) m2) (hm : lastMarks [.LtE, .LtE] [b, c] = false := by with_unfolding_all rfl) : AT X (.Compare a [.LtE, .LtE] [b, c] pos) ρ m (decide (i ≤ j) && decide (j ≤ k)) m2 := t_chain op_le op_le rv_I0 rv_I0 ha hb hc hm
theorem t_ltLt (ha : AE X a ρ m (I i) m1) (hb : AE X b ρ m1 (I j) m2) (hc : AE X c ρ m2 (I k) m2) (hm : lastMarks [.Lt, .Lt] [b, c] = false := by with_unfolding_all rfl) : AT X (.Compare a [.Lt, .Lt] [b, c] pos) ρ m (decide (i < j) && decide (j < k)) m2 := t_chain op_lt op_lt rv_I0 rv_I0 ha hb hc hm
/-! ### and, or, not, if else -/
theorem w_t {t : Bool} (h : AW X a ρ m t m1) : AT X a ρ m t m1 := EvT.can (PW.pt pcW) h
theorem w_and1 {t : Bool} (h : AT X a ρ m t m1) : AW X (.BoolOp .And [a] pos) ρ m t m1 := EvT.canW (pw_and1 pcT) h
theorem w_or1 {t : Bool} (h : AT X a ρ m t m1) : AW X (.BoolOp .Or [a] pos) ρ m t m1 := EvT.canW (pw_or1 pcT) h
theorem w_and {t u : Bool} (ha : AT X a ρ m t m1) (hb : t = true → AW X (.BoolOp .And (b :: rest) pos) ρ m1 u m1) : AW X (.BoolOp .And (a :: b :: rest) pos) ρ m (t && u) m1 := EvT.canW (pw_and pcT pcW) (et_and ha hb)
theorem w_or {t u : Bool} (ha : AT X a ρ m t m1) (hb : t = false → AW X (.BoolOp .Or (b :: rest) pos) ρ m1 u m1) : AW X (.BoolOp .Or (a :: b :: rest) pos) ρ m (t || u) m1 := EvT.canW (pw_or pcT pcW) (et_or ha hb)
theorem t_not {t : Bool} (h : AT X a ρ m t m1) : AT X (.UnaryOp .Not a pos) ρ m (!t) m1 := EvT.can (pt_not pcT) (et_not h)
theorem a_one {op : BoolOp} (h : AE X a ρ m P m1) : AE X (.BoolOp op [a] pos) ρ m P m1 := Ev.can (pe_one pcE) h
theorem a_and {t u : Bool} (ha : AE X a ρ m (B t) m1) (hb : t = true → AE X (.BoolOp .And (b :: rest) pos) ρ m1 (B u) m1) : AE X (.BoolOp .And (a :: b :: rest) pos) ρ m (B (t && u)) m1 := Ev.can (pe_and pcE pcE) (ev_andV ha hb)
theorem a_or {t u : Bool} (ha : AE X a ρ m (B t) m1) (hb : t = false → AE X (.BoolOp .Or (b :: rest) pos) ρ m1 (B u) m1) : AE X (.BoolOp .Or (a :: b :: rest) pos) ρ m (B (t || u)) m1 := Ev.can (pe_or pcE pcE) (ev_orV ha hb)
theorem a_not {t : Bool} (h : AE X a ρ m (B t) m1) : AE X (.UnaryOp .Not a pos) ρ m (B (!t)) m1 := Ev.can (pe_not pcE) (ev_notV h)
theorem a_if {t : Bool} (h : AT X c ρ m t m1) (h1 : t = true → AE X a ρ m1 P m2) (h2 : t = false → AE X b ρ m1 P m2) (hd : dom m2 = dom m1 := by rfl) : AE X (.IfExp c a b pos) ρ m P m2 := Ev.can (pe_ifExp pcT pcE pcE) (ev_if h h1 h2 hd)
/-- is None -/
theorem rv_isN {v : V} : RV (fun x y H Q => y = .non ∧ Q (.bl (decide (x = .non))) H) (C v) N (B (decide (v = .non))) := fun d H v' u' Q _ h1 h2 q => by
  cases h1; cases h2
  exact ⟨rfl, q _ H (Ex.refl _) rfl⟩
theorem rv_notN {v : V} : RV (fun x y H Q => y = .non ∧ Q (.bl (!decide (x = .non))) H) (C v) N (B (!decide (v = .non))) := fun d H v' u' Q _ h1 h2 q => by
  cases h1; cases h2
  exact ⟨rfl, q _ H (Ex.refl _) rfl⟩
theorem t_isN {v : V} (ha : AE X a ρ m (C v) m1) (hb : AE X b ρ m1 N m2) : AT X (.Compare a [.Is] [b] pos) ρ m (decide (v = .non)) m2 := t_cmp op_isN rv_isN ha hb
theorem t_notN {v : V} (ha : AE X a ρ m (C v) m1) (hb : AE X b ρ m1 N m2) : AT X (.Compare a [.IsNot] [b] pos) ρ m (!decide (v = .non)) m2 := t_cmp op_notN rv_notN ha hb
theorem a_isN {v : V} (ha : AE X a ρ m (C v) m1) (hb : AE X b ρ m1 N m2) : AE X (.Compare a [.Is] [b] pos) ρ m (B (decide (v = .non))) m2 := a_cmp op_isN rv_isN ha hb
/-! ### displays -/
theorem aa_nil : AA X [] ρ m [] m := EvA.can pa_nil ea_nil
theorem aa_cons {Ps : List MP} (ha : AE X e ρ m P m1) (hr : AA X es ρ m1 Ps m2) (hs : starEach (e :: es) X.env = (false, eval e X.env) :: starEach es X.env := by rfl) : AA X (e :: es) ρ m (P :: Ps) m2 := EvA.can (pa_cons pcE pcA hs) (ea_cons ha hr)
theorem a_tup {Ps : List MP} {x1} (h : AA X es ρ m Ps m1) (hl : Ps.length ≤ 100000 := by first | decide | exact Nat.le_of_ble_eq_true rfl) : AE X (.Tuple es x1 pos) ρ m (T X.K Ps) m1 := Ev.can (pe_tup pcA) (ev_tup (X := X) h hl)
theorem a_lst {Ps : List MP} (h : AA X es ρ m Ps m1) (hl : Ps.length ≤ 100000 := by first | decide | exact Nat.le_of_ble_eq_true rfl) : AE X (.List es pos) ρ m (L X.K Ps) m1 := Ev.can (pe_lst pcA) (ev_lst (X := X) h hl)
/-! ### items -/
theorem a_ix {r : R2} (hx : IxR X r) (hr : RV r P1 P2 P) (ha : AE X a ρ m P1 m1) (hb : AE X b ρ m1 P2 m2) (hs : PlainIx b := by exact fun _ _ => rfl) : AE X (.Subscript a b pos) ρ m P m2 := Ev.can (pe_ix hx pcE pcE hs) (ev_op ha hb hr)
theorem all_at {H : Hp} {Ps : List MP} {vs : List V} (h : All H Ps vs) (hi : atI Ps i = some P) : ∃ v, atI vs i = some v ∧ P.p H v := by
  unfold atI at hi ⊢
  rw [← h.length]
  cases e : ixN Ps.length i with
  | none => rw [e] at hi; cases hi
  | some j =>
    rw [e] at hi
    exact h.get hi
theorem rv_ixT {K : PySem.W.Frag} {Ps : List MP} (hi : atI Ps i = some P) : RV (rIxT K) (T K Ps) (I i) P := fun d H v u Q _ h1 h2 q => by
  obtain ⟨a, vs, rfl, ht, hall⟩ := h1
  obtain ⟨x, hx, px⟩ := all_at hall hi
  exact ⟨a, vs, i, x, rfl, h2, ex_t mask_sub ht, hx, q _ H (Ex.refl _) px⟩
theorem rv_ixL {K : PySem.W.Frag} {Ps : List MP} (hi : atI Ps i = some P) : RV (rIxL K) (L K Ps) (I i) P := fun d H v u Q _ h1 h2 q => by
  obtain ⟨a, vs, rfl, ht, hall⟩ := h1
  obtain ⟨x, hx, px⟩ := all_at hall hi
  exact ⟨a, vs, i, x, rfl, h2, ex_l mask_sub ht, hx, q _ H (Ex.refl _) px⟩
theorem a_ixT {Ps : List MP} (ha : AE X a ρ m (T X.K Ps) m1) (hb : AE X b ρ m1 (I i) m2) (hi : atI Ps i = some P := by rfl) (hs : PlainIx b := by exact fun _ _ => rfl) : AE X (.Subscript a b pos) ρ m P m2 := a_ix ix_tup (rv_ixT hi) ha hb hs
theorem a_ixL {Ps : List MP} (ha : AE X a ρ m (L X.K Ps) m1) (hb : AE X b ρ m1 (I i) m2) (hi : atI Ps i = some P := by rfl) (hs : PlainIx b := by exact fun _ _ => rfl) : AE X (.Subscript a b pos) ρ m P m2 := a_ix ix_list (rv_ixL hi) ha hb hs
/-- an owned list's item: n is its place in the store -/
theorem a_ixO {Ps : List MP} {l : Addr} (n : Nat) (ha : AE X a ρ m (R l) m1) (hb : AE X b ρ m1 (I i) m2) (hn : m2[n]? = some (l, .lst Ps) := by rfl) (hi : atI Ps i = some P := by rfl) (hs : PlainIx b := by exact fun _ _ => rfl) : AE X (.Subscript a b pos) ρ m P m2 :=
  Ev.can (pe_ix ix_list pcE pcE hs) ⟨hb.d.trans ha.d, fun σ H Q s q => by
    refine ha.go σ H _ s fun v H1 n1 o1 p1 => ?_
    have s1 := s.go ha.d n1 o1
    refine hb.go σ H1 _ s1 fun u H2 n2 o2 p2 => ?_
    obtain ⟨o, ho, vs, rfl, hall⟩ := o2.ok n l _ hn
    obtain ⟨x, hx, px⟩ := all_at hall hi
    refine ⟨l, vs, i, x, p1, p2, Or.inl (Or.inl ho), hx, q x H2 (n1.trans ha.d n2) o2 ?_⟩
    rw [← hb.d.trans ha.d]; exact px⟩
end
end SV

/-! SVCal: defs, calls. -/
namespace SV
open PySem L2 PyProof.Rows
open Evl (Ex ex_rd ex_l ex_t sz_of sz_lt)
/-- what a def does: the arguments, the store, the answer, the store behind -/
abbrev Ct := List MP → Sto → MP → Sto → Prop
def spC (S : Ct) : Sp := fun vs H Q _ => ∃ Ps m P m', S Ps m P m' ∧ dom m' = dom m ∧ All (mask H (dom m)) Ps vs ∧ Own m H ∧ ∀ v H', Nxt m H H' → Own m' H' → P.p (mask H' (dom m)) v → Q v H'
/-- a def that hands back a new object, which the caller owns -/
abbrev CtO := List MP → Sto → MO → Sto → Prop
def RetO (Q : VK) (mo : MO) (m' : Sto) (b0 : Hp) : Prop := ∀ a H, Own ((a, mo) :: m') H → Ex b0 (mask H (dom ((a, mo) :: m'))) → Q (.ref a) H
def spO (S : CtO) : Sp := fun vs H Q _ => ∃ Ps m mo m', S Ps m mo m' ∧ dom m' = dom m ∧ All (mask H (dom m)) Ps vs ∧ Own m H ∧ RetO Q mo m' (mask H (dom m))
def start' (N : List Str) (Ps : List MP) : Rho := Ps.map some ++ List.replicate (N.length - Ps.length) none
theorem env_start {H : Hp} {N : List Str} {Ps : List MP} {vs : List V} (h : All H Ps vs) : Slots H (start' N Ps) (L2.start N vs) := by
  unfold start' L2.start
  rw [h.length]
  have h2 : ∀ n : Nat, Slots H (List.replicate n none) (List.replicate n none) := fun n => by
    induction n with
    | zero => exact .nil
    | succ n ih => exact .cons (fun P e => nomatch e) ih
  have app : ∀ {ρ1 ρ2 : Rho} {s1 s2 : L2.St}, Slots H ρ1 s1 → Slots H ρ2 s2 → Slots H (ρ1 ++ ρ2) (s1 ++ s2) := fun {ρ1 ρ2 s1 s2} a b => by
    induction a with
    | nil => exact b
    | cons r t ih => exact .cons r ih
  refine app ?_ (h2 _)
  clear h2 app
  induction h with
  | nil => exact .nil
  | cons r t ih => exact .cons (fun P e => by cases e; exact ⟨_, rfl, r⟩) ih
section
variable {P : Program} {w : World} {K : PySem.W.Frag} {mg : Str → Option Value} {base : Heap}
abbrev ends (Q : VK) : Ends := { nx := fun _ H' => Q .non H', rt := Q }
abbrev bodyX (CXi : CXT) (P : Program) (w : World) (K : PySem.W.Frag) (mg : Str → Option Value) (base : Heap) (N : List Str) (qual : Str) (sc : Scope) (f : Addr) (cdv : Value) (A : Around) (outer : List Env) (s : Shared) (H : Hp) (E : XK) : Cx := (cxOf CXi P w K mg base N qual sc f cdv A outer s H E).nox
theorem Fun_ct {x qual : Str} {st : Stmt} {f : Addr} {fd : FuncData} {N ps : List Str} {k : Nat} (F : Fun K x qual st f fd) (Sc : FnScope N ps (defScope st)) (S : Ct) (hl : ∀ Ps m P m', S Ps m P m' → Ps.length = ps.length)
    (hbody : ∀ (cdv : Value) (A : Around) (outer : List PySem.Env) (s : Shared) (H : Hp) (E : XK), Room k (A.deeper (envOfC qual (defScope st) s.heap.objs.size f cdv)) → ∀ (Ps : List MP) (m : Sto) (Pr : MP) (m' : Sto), S Ps m Pr m' → ∀ (b0 : Hp) (Q : VK), Ret Q Pr m' b0 →
      GS (bodyX CX0 P w K mg base N qual (defScope st) f cdv A outer s H E) (defBody st) (ends Q) (start' N Ps) m b0) : FnOk P w K mg base CX0 (k + 1) f fd ps (spC S) := by
  refine F.ok Sc (fun vs H Q E ⟨Ps, m, Pr, m', h, _, a, _⟩ => by rw [← a.length]; exact hl Ps m Pr m' h) (fun cdv A outer s H vs Q E hr ⟨Ps, m, Pr, m', h, hd, a, o, q⟩ => ?_)
  refine ⟨cSs _ _, pcSs, hbody cdv A outer s H E hr Ps m Pr m' h (mask H (dom m)) Q (fun v H' o' ex pv => ?_) _ H ⟨env_start a, o⟩ (Ex.refl _)⟩
  · exact q v H' (by rw [hd] at ex; exact ex) o' (by rw [hd] at pv; exact pv)
theorem Fun_ctO {x qual : Str} {st : Stmt} {f : Addr} {fd : FuncData} {N ps : List Str} {k : Nat} (F : Fun K x qual st f fd) (Sc : FnScope N ps (defScope st)) (S : CtO) (hl : ∀ Ps m P m', S Ps m P m' → Ps.length = ps.length)
    (hbody : ∀ (cdv : Value) (A : Around) (outer : List PySem.Env) (s : Shared) (H : Hp) (E : XK), Room k (A.deeper (envOfC qual (defScope st) s.heap.objs.size f cdv)) → ∀ (Ps : List MP) (m : Sto) (mo : MO) (m' : Sto), S Ps m mo m' → ∀ (b0 : Hp) (Q : VK), RetO Q mo m' b0 →
      GS (bodyX CX0 P w K mg base N qual (defScope st) f cdv A outer s H E) (defBody st) (ends Q) (start' N Ps) m b0) : FnOk P w K mg base CX0 (k + 1) f fd ps (spO S) := by
  refine F.ok Sc (fun vs H Q E ⟨Ps, m, Pr, m', h, _, a, _⟩ => by rw [← a.length]; exact hl Ps m Pr m' h) (fun cdv A outer s H vs Q E hr ⟨Ps, m, mo, m', h, hd, a, o, q⟩ => ?_)
  exact ⟨cSs _ _, pcSs, hbody cdv A outer s H E hr Ps m mo m' h (mask H (dom m)) Q q _ H ⟨env_start a, o⟩ (Ex.refl _)⟩
/-- the module's name x is a def that keeps S; D: its defaults -/
structure Fk (P : Program) (w : World) (K : PySem.W.Frag) (mg : Str → Option Value) (base : Heap) (k : Nat) (x : Str) (sp : Sp) (D : List V) : Prop where
  ex : ∃ (f : Addr) (fd : FuncData) (ps : List Str) (ds : List Value), FnOk P w K mg base CX0 k f fd ps sp ∧ mg x = some (.ref f) ∧ PySem.W.keepIn K (.ref f) = true ∧ Binds K fd ps ds ∧ Vals D ds
theorem Fk.mono {k j : Nat} {x : Str} {sp : Sp} {D : List V} (h : Fk P w K mg base k x sp D) (hk : k ≤ j) : Fk P w K mg base j x sp D := by
  obtain ⟨f, fd, ps, ds, h1, h2⟩ := h.ex
  exact ⟨f, fd, ps, ds, h1.mono hk, h2⟩
end
section
variable {X : Cx} {ρ : Rho} {m m1 m2 m3 : Sto} {P P1 P2 P3 : MP} {e a b c f : Expr} {es rest : List Expr} {pos p p2 p3 apos : Pos} {x : Str} {i j k : Int}
theorem all_c {H : Hp} : ∀ {D : List V}, All H (D.map C) D
  | [] => .nil
  | _ :: _ => .cons rfl all_c
theorem all_map {α : Type} {H : Hp} (f : α → V) : ∀ {xs : List α} {ws : List V}, All H (xs.map fun x => C (f x)) ws → ws = xs.map f
  | [], _, .nil => rfl
  | x :: xs, _, .cons r t => by rw [all_map f t, show _ = f x from r]; rfl
theorem ev_call {sp : TE} {S : Ct} {D : List V} {Ps : List MP} {A : TA} {E : XK} (ha : EvA A ρ m Ps m1) (h : S (Ps ++ D.map C) m1 P m2) (hd : dom m2 = dom m1) : Ev (tCall (spC S) D E A) ρ m P m2 := ⟨hd.trans ha.d, fun σ H Q s q => by
  refine ha.go σ H _ s fun vs H1 n1 o1 p1 => ?_
  refine ⟨_, m1, P, m2, h, hd, All.append (by rw [ha.d]; exact p1) all_c, o1, fun v H' n2 o2 pv => ?_⟩
  exact q v H' (n1.trans ha.d n2) o2 (by rw [← ha.d]; exact pv)⟩
theorem a_call {n l : Nat} {S : Ct} {D : List V} {Ps : List MP} (F : Fk X.prog X.w X.K X.mg X.base n x (spC S) D) (hr : Room l X.A) (hn : n ≤ l) (ha : AA X (e :: es) ρ m Ps m1) (h : S (Ps ++ D.map C) m1 P m2) (hd : dom m2 = dom m1 := by rfl) (hg : Gl X x := by rfl)
    (hdb : (x == ("__debug__" : Str)) = false := by decide) (he : starEach (e :: es) X.env = (false, eval e X.env) :: starEach es X.env := by rfl) (hpl : (backTo pos (starEach es X.env)).any (·.1) = false := by rfl) : AE X (.Call (.Name x p) (e :: es) [] pos) ρ m P m2 := by
  obtain ⟨f, fd, ps, ds, h1, h2, h3, h4, h5⟩ := F.ex
  exact Ev.can (pe_call h1 (hr.mono hn) hg h2 h3 h4 h5 (pass0 (X := X)) pcA hdb he hpl) (ev_call (sp := fun _ _ _ => True) ha h hd)
/-- built-in functions -/
theorem a_cb {id : String} {r : List V → Hp → VK → Prop} {Ps : List MP} (hc : CallR X (.builtin id) r) (hr : RC r Ps P) (hm : X.mg x = none) (hv : bootBuiltins x = some (.builtin id)) (ha : AA X (e :: es) ρ m Ps m1) (hg : Gl X x := by rfl) (hn : x ≠ "__name__" := by decide) (hdb : (x == ("__debug__" : Str)) = false := by decide)
    (he : starEach (e :: es) X.env = (false, eval e X.env) :: starEach es X.env := by rfl) (hpl : (backTo pos (starEach es X.env)).any (·.1) = false := by rfl) : AE X (.Call (.Name x p) (e :: es) [] pos) ρ m P m1 := Ev.can (pe_callB hc hg hm hv pcA hn hdb he hpl) (ev_cb ha hr)
theorem a_ct {id : String} {r : List V → Hp → VK → Prop} {Ps : List MP} (hc : CallR X (.type id) r) (hr : RC r Ps P) (hm : X.mg x = none) (hv : bootBuiltins x = some (.type id)) (ha : AA X (e :: es) ρ m Ps m1) (hg : Gl X x := by rfl) (hn : x ≠ "__name__" := by decide) (hdb : (x == ("__debug__" : Str)) = false := by decide)
    (he : starEach (e :: es) X.env = (false, eval e X.env) :: starEach es X.env := by rfl) (hpl : (backTo pos (starEach es X.env)).any (·.1) = false := by rfl) : AE X (.Call (.Name x p) (e :: es) [] pos) ρ m P m1 := Ev.can (pe_callTy hc hg hm hv pcA hn hdb he hpl) (ev_cb ha hr)
theorem rc_lenL {K : PySem.W.Frag} {Ps : List MP} : RC (fun xs H Q => ∃ p ys, xs = [.ref p] ∧ (SqL K H p ys ∨ SqT K H p ys) ∧ Q (.int ys.length) H) [L K Ps] (I Ps.length) := fun d H vs Q _ h q => by
  match vs, h with
  | [_], .cons ⟨a, ws, rfl, h1, h2⟩ .nil => exact ⟨a, ws, rfl, .inl (ex_l mask_sub h1), q _ H (Ex.refl _) (by rw [h2.length]; exact rfl)⟩
theorem rc_lenT {K : PySem.W.Frag} {Ps : List MP} : RC (fun xs H Q => ∃ p ys, xs = [.ref p] ∧ (SqL K H p ys ∨ SqT K H p ys) ∧ Q (.int ys.length) H) [T K Ps] (I Ps.length) := fun d H vs Q _ h q => by
  match vs, h with
  | [_], .cons ⟨a, ws, rfl, h1, h2⟩ .nil => exact ⟨a, ws, rfl, .inr (ex_t mask_sub h1), q _ H (Ex.refl _) (by rw [h2.length]; exact rfl)⟩
theorem rc_lenS {s : Str} (hl : s.length ≤ 1000000) : RC (fun xs H Q => ∃ z, xs = [.str z] ∧ z.length ≤ sizeLine ∧ Q (.int z.length) H) [S s] (I s.length) := fun d H vs Q _ h q => by
  match vs, h with
  | [_], .cons rfl .nil => exact ⟨s, rfl, Nat.le_trans hl (by decide), q _ H (Ex.refl _) rfl⟩
theorem rc_int : RC (fun xs H Q => (∃ i, xs = [V.int i] ∧ Q (.int i) H) ∨ ∃ k, xs = [V.bl k] ∧ Q (.int (if k then 1 else 0)) H) [I i] (I i) := fun d H vs Q _ h q => by
  match vs, h with
  | [_], .cons rfl .nil => exact .inl ⟨i, rfl, q _ H (Ex.refl _) rfl⟩
theorem rc_intB {t : Bool} : RC (fun xs H Q => (∃ i, xs = [V.int i] ∧ Q (.int i) H) ∨ ∃ k, xs = [V.bl k] ∧ Q (.int (if k then 1 else 0)) H) [B t] (I (if t then 1 else 0)) := fun d H vs Q _ h q => by
  match vs, h with
  | [_], .cons rfl .nil => exact .inr ⟨t, rfl, q _ H (Ex.refl _) rfl⟩
theorem rc_str (hl : i.natAbs.log2 < 1920) : RC (fun xs H Q => ∃ i : Int, xs = [.int i] ∧ i.natAbs.log2 < 1920 ∧ Q (.str (toString i)) H) [I i] (S (toString i)) := fun d H vs Q _ h q => by
  match vs, h with
  | [_], .cons rfl .nil => exact ⟨i, rfl, hl, q _ H (Ex.refl _) rfl⟩
theorem rc_max : RC (fun xs H Q => ∃ i j, xs = [V.int i, V.int j] ∧ Q (.int (if j > i then j else i)) H) [I i, I j] (I (if j > i then j else i)) := fun d H vs Q _ h q => by
  match vs, h with
  | [_, _], .cons rfl (.cons rfl .nil) => exact ⟨i, j, rfl, q _ H (Ex.refl _) rfl⟩
theorem rc_min : RC (fun xs H Q => ∃ i j, xs = [V.int i, V.int j] ∧ Q (.int (if j < i then j else i)) H) [I i, I j] (I (if j < i then j else i)) := fun d H vs Q _ h q => by
  match vs, h with
  | [_, _], .cons rfl (.cons rfl .nil) => exact ⟨i, j, rfl, q _ H (Ex.refl _) rfl⟩
theorem rc_abs : RC (fun xs H Q => ∃ i, xs = [V.int i] ∧ Q (.int (if i < 0 then -i else i)) H) [I i] (I (if i < 0 then -i else i)) := fun d H vs Q _ h q => by
  match vs, h with
  | [_], .cons rfl .nil => exact ⟨i, rfl, q _ H (Ex.refl _) rfl⟩
theorem rc_tupL {K : PySem.W.Frag} {Ps : List MP} : RC (fun xs H Q => ∃ p ys, xs = [.ref p] ∧ ((SqL K H p ys ∧ ∀ l, H l = none → Q (.ref l) (upd H l (.tup ys))) ∨ (SqT K H p ys ∧ Q (.ref p) H))) [L K Ps] (T K Ps) := fun d H vs Q fr h q => by
  match vs, h with
  | [_], .cons ⟨a, ws, rfl, h1, h2⟩ .nil =>
    exact ⟨a, ws, rfl, .inl ⟨ex_l mask_sub h1, fun l hl => q _ _ (Ex.new hl) ⟨l, ws, rfl, Or.inl (Or.inl (fr.at hl)), h2.mono (mask_ex (Ex.new hl))⟩⟩⟩
theorem rc_tupT {K : PySem.W.Frag} {Ps : List MP} : RC (fun xs H Q => ∃ p ys, xs = [.ref p] ∧ ((SqL K H p ys ∧ ∀ l, H l = none → Q (.ref l) (upd H l (.tup ys))) ∨ (SqT K H p ys ∧ Q (.ref p) H))) [T K Ps] (T K Ps) := fun d H vs Q fr h q => by
  match vs, h with
  | [_], .cons ⟨a, ws, rfl, h1, h2⟩ .nil =>
    exact ⟨a, ws, rfl, .inr ⟨ex_t mask_sub h1, q _ _ (Ex.refl _) ⟨a, ws, rfl, h1, h2⟩⟩⟩
theorem rc_listL {K : PySem.W.Frag} {Ps : List MP} : RC (fun xs H Q => ∃ p ys, xs = [.ref p] ∧ (SqL K H p ys ∨ SqT K H p ys) ∧ ∀ l, H l = none → Q (.ref l) (upd H l (.lst ys))) [L K Ps] (L K Ps) := fun d H vs Q fr h q => by
  match vs, h with
  | [_], .cons ⟨a, ws, rfl, h1, h2⟩ .nil =>
    exact ⟨a, ws, rfl, .inl (ex_l mask_sub h1), fun l hl => q _ _ (Ex.new hl) ⟨l, ws, rfl, Or.inl (Or.inl (fr.at hl)), h2.mono (mask_ex (Ex.new hl))⟩⟩
theorem rc_listT {K : PySem.W.Frag} {Ps : List MP} : RC (fun xs H Q => ∃ p ys, xs = [.ref p] ∧ (SqL K H p ys ∨ SqT K H p ys) ∧ ∀ l, H l = none → Q (.ref l) (upd H l (.lst ys))) [T K Ps] (L K Ps) := fun d H vs Q fr h q => by
  match vs, h with
  | [_], .cons ⟨a, ws, rfl, h1, h2⟩ .nil =>
    exact ⟨a, ws, rfl, .inr (ex_t mask_sub h1), fun l hl => q _ _ (Ex.new hl) ⟨l, ws, rfl, Or.inl (Or.inl (fr.at hl)), h2.mono (mask_ex (Ex.new hl))⟩⟩
theorem rc_all {K : PySem.W.Frag} {bs : List Bool} : RC (rAll K) [L K (bs.map B)] (B (bs.all id)) := fun d H vs Q fr h q => by
  match vs, h with
  | [_], .cons ⟨a, ws, rfl, h1, h2⟩ .nil =>
    have e := all_map V.bl h2
    subst e
    exact ⟨a, bs, rfl, ex_l mask_sub h1, q _ H (Ex.refl _) rfl⟩
theorem rc_any {K : PySem.W.Frag} {bs : List Bool} : RC (rAny K) [L K (bs.map B)] (B (bs.any id)) := fun d H vs Q fr h q => by
  match vs, h with
  | [_], .cons ⟨a, ws, rfl, h1, h2⟩ .nil =>
    have e := all_map V.bl h2
    subst e
    exact ⟨a, bs, rfl, ex_l mask_sub h1, q _ H (Ex.refl _) rfl⟩
end
end SV

/-! SVMut: owned objects: made, written, handed on; instances; comprehensions. -/
namespace SV
open PySem L2 PyProof.Rows
open Evl (Ex ex_rd ex_l ex_t sz_of sz_lt)
/-- te makes a new object that is owned -/
structure EvO (te : TE) (ρ : Rho) (m : Sto) (mo : MO) (m' : Sto) : Prop where
  d : dom m' = dom m
  go : ∀ (σ : L2.St) (H : Hp) (Q : VK), Stt ρ m σ H → (∀ a H', Own ((a, mo) :: m') H' → Ex (mask H (dom m)) (mask H' (dom ((a, mo) :: m'))) → Q (.ref a) H') → te σ H Q
abbrev AO (X : Cx) (e : Expr) (ρ : Rho) (m : Sto) (mo : MO) (m' : Sto) : Prop := EvO (cE X e) ρ m mo m'
/-- a new address: what was there stays in sight -/
theorem new_sight {m : Sto} {H : Hp} {a : Addr} {mo : MO} {u : HO} (h : H a = none) : Ex (mask H (dom m)) (mask (upd H a u) (dom ((a, mo) :: m))) := fun b o e => by
  by_cases hb : b ∈ dom m
  · rw [mask_in hb] at e; cases e
  · rw [mask_out hb] at e
    have hba : b ≠ a := fun z => by subst z; rw [h] at e; cases e
    have : b ∉ dom ((a, mo) :: m) := fun z => by
      rcases List.mem_cons.mp z with z | z
      · exact hba z
      · exact hb z
    rw [mask_out this, upd_ne hba]
    exact e
section
variable {X : Cx} {ρ : Rho} {m m1 m2 m3 : Sto} {P P1 P2 P3 : MP} {mo mo' : MO} {e a b c f o : Expr} {es rest : List Expr} {pos p p2 p3 apos cpos : Pos} {x fl : Str} {i j k : Int} {te ta : TE} {A : TA} {D : Ends} {b0 : Hp} {sts : List Stmt}
theorem EvO.can (h : PE X e te) (E : EvO te ρ m mo m1) : EvO (cE X e) ρ m mo m1 := ⟨E.d, fun σ H Q s q => cE_of h (E.go σ H Q s q)⟩
theorem o_lst {Ps : List MP} (ha : AA X es ρ m Ps m1) (hl : Ps.length ≤ 100000 := by first | decide | exact Nat.le_of_ble_eq_true rfl) : AO X (.List es pos) ρ m (.lst Ps) m1 := EvO.can (pe_lst pcA) ⟨ha.d, fun σ H Q s q => by
  refine ha.go σ H _ s fun vs H1 n1 o1 p1 => ⟨sz_of (by rw [← p1.length]; exact hl), fun l h => ?_⟩
  refine q l _ (o1.add h ⟨vs, rfl, by rw [ha.d]; exact p1⟩) ?_
  have n1' : Ex (mask H (dom m)) (mask H1 (dom m1)) := by rw [ha.d]; exact n1
  exact n1'.trans (new_sight h)⟩
/-- {}: an owned dict -/
theorem o_dict : AO X (.Dict [] [] pos) ρ m (.dct []) m := EvO.can pe_dnewK ⟨rfl, fun σ H Q s q => fun l h => q l _ (s.own.add h ⟨[], rfl, .nil⟩) (new_sight h)⟩
theorem ev_callO {S : CtO} {Dv : List V} {Ps : List MP} {E : XK} (ha : EvA A ρ m Ps m1) (h : S (Ps ++ Dv.map C) m1 mo m2) (hd : dom m2 = dom m1) : EvO (tCall (spO S) Dv E A) ρ m mo m2 := ⟨hd.trans ha.d, fun σ H Q s q => by
  refine ha.go σ H _ s fun vs H1 n1 o1 p1 => ?_
  refine ⟨_, m1, mo, m2, h, hd, All.append (by rw [ha.d]; exact p1) all_c, o1, fun l H' o2 n2 => ?_⟩
  have n1' : Ex (mask H (dom m)) (mask H1 (dom m1)) := by rw [ha.d]; exact n1
  exact q l H' o2 (n1'.trans n2)⟩
theorem o_call {n l : Nat} {S : CtO} {Dv : List V} {Ps : List MP} (F : Fk X.prog X.w X.K X.mg X.base n x (spO S) Dv) (hr : Room l X.A) (hn : n ≤ l) (ha : AA X (e :: es) ρ m Ps m1) (h : S (Ps ++ Dv.map C) m1 mo m2) (hd : dom m2 = dom m1 := by rfl) (hg : Gl X x := by rfl)
    (hdb : (x == ("__debug__" : Str)) = false := by decide) (he : starEach (e :: es) X.env = (false, eval e X.env) :: starEach es X.env := by rfl) (hpl : (backTo pos (starEach es X.env)).any (·.1) = false := by rfl) : AO X (.Call (.Name x p) (e :: es) [] pos) ρ m mo m2 := by
  obtain ⟨f, fd, ps, ds, h1, h2, h3, h4, h5⟩ := F.ex
  exact EvO.can (pe_call h1 (hr.mono hn) hg h2 h3 h4 h5 (pass0 (X := X)) pcA hdb he hpl) (ev_callO ha h hd)
theorem gs_asgO {n : Nat} (hN : X.N.Nodup) (hi : X.N[n]? = some x) (hx : Loc X.env.scope x) (he : AO X e ρ m mo m1) (k : ∀ a, GS X sts D (ρ.set n (some (R a))) ((a, mo) :: m1) b0)
    (hs : swapsWith e (some (.Name x p)) p2.line X.env = pure false := by rfl) (hf : X.fn x = true ∨ X.env.scope.names.lookup x = some .local := by first | exact .inl rfl | exact .inr rfl) : GS X (.Assign [.Name x p] e p2 :: sts) D ρ m b0 :=
  gs_cons fun σ H s ex => cS_of (ps_set hN hi hx pcE hs hf) (he.go σ H _ s fun l H1 o1 n1 => k l (σ.set n (some (.ref l))) H1 ⟨(s.env.mono n1).set (P := R l) rfl n, o1⟩ (ex.trans n1))
theorem gs_retO (he : AO X e ρ m mo m1) (k : RetO D.rt mo m1 b0) : GS X (.Return (some e) p :: sts) D ρ m b0 :=
  gs_cons fun σ H s ex => cS_of (ps_ret pcE) (he.go σ H _ s fun l H1 o1 n1 => k l H1 o1 (ex.trans n1))
/-- xs.append(e) -/
theorem gs_app {Ps : List MP} {l : Addr} (n : Nat) (ho : AE X o ρ m (R l) m) (he : AE X e ρ m P m1) (hn0 : ∃ Ps0, m[n]? = some (l, .lst Ps0)) (hn : m1[n]? = some (l, .lst Ps)) (hl : Ps.length < 100000) (k : GS X sts D ρ (m1.set n (l, .lst (Ps ++ [P]))) b0)
    (hpe : PE X (.Call (.Attribute o "append" apos) [e] [] cpos) (tBM X.K "list" rAppend (cE X o) (cA X [e]))) (hs1 : starEach [e] X.env = [(false, eval e X.env)] := by rfl)
    (hs : swapsWith (.Call (.Attribute o "append" apos) [e] [] cpos) none p.line X.env = pure false := by rfl) : GS X (.Expr (.Call (.Attribute o "append" apos) [e] [] cpos) p :: sts) D ρ m b0 :=
  gs_cons fun σ H s ex => cS_of (ps_expr hpe hs) (ho.go σ H _ s fun v H1 n1 o1 p1 => by
    have p1 : v = .ref l := p1
    subst p1
    obtain ⟨Ps0, hn0⟩ := hn0
    obtain ⟨u0, hu0, vs0, rfl, _⟩ := o1.ok n l _ hn0
    refine ⟨Or.inl ⟨rfl, vs0, Or.inl (Or.inl hu0)⟩, ?_⟩
    have s1 := s.go rfl n1 o1
    have ha : AA X [e] ρ m [P] m1 := aa_cons he aa_nil hs1
    refine ha.go σ H1 _ s1 fun ws H2 n2 o2 p2 => ?_
    match ws, p2 with
    | [y], .cons hy .nil =>
      obtain ⟨u, hu, vs, rfl, hall⟩ := o2.ok n l _ hn
      refine ⟨l, vs, y, rfl, rfl, hu, sz_lt (by rw [← hall.length]; exact hl), ?_⟩
      have hy2 : P.p (mask H2 (dom m1)) y := by rw [he.d]; exact hy
      have o3 : Own (m1.set n (l, .lst (Ps ++ [P]))) (upd H2 l (.lst (vs ++ [y]))) := o2.put hn ⟨_, rfl, hall.append (.cons hy2 .nil)⟩
      have hm : mask (upd H2 l (.lst (vs ++ [y]))) (dom (m1.set n (l, .lst (Ps ++ [P])))) = mask H2 (dom m) := by rw [dom_put hn, mask_put hn, he.d]
      refine k σ _ ⟨?_, o3⟩ ?_
      · rw [hm]; exact (s.env.mono n1).mono n2
      · rw [hm]; exact (ex.trans n1).trans n2)
/-- xs[i] = e -/
theorem gs_setO {Ps : List MP} {l : Addr} {k1 : Nat} (n : Nat) (he : AE X e ρ m P m1) (ho : AE X o ρ m1 (R l) m2) (hi : AE X a ρ m2 (I i) m3) (hn : m3[n]? = some (l, .lst Ps)) (hk : ixN Ps.length i = some k1) (k : GS X sts D ρ (m3.set n (l, .lst (Ps.set k1 P))) b0)
    (hps : PS X (.Assign [.Subscript o a p] e p2) (tAsg (cE X e) (gSub (cE X o) (cE X a) rSetL))) : GS X (.Assign [.Subscript o a p] e p2 :: sts) D ρ m b0 :=
  gs_cons fun σ H s ex => cS_of hps (he.go σ H _ s fun v H1 n1 o1 p1 => by
    have s1 := s.go he.d n1 o1
    refine ho.go σ H1 _ s1 fun w H2 n2 o2 p2 => ?_
    have s2 := s1.go ho.d n2 o2
    have p2 : w = .ref l := p2
    subst p2
    refine hi.go σ H2 _ s2 fun z H3 n3 o3 p3 => ?_
    have p3 : z = .int i := p3
    subst p3
    obtain ⟨u, hu, vs, rfl, hall⟩ := o3.ok n l _ hn
    refine ⟨l, vs, i, k1, rfl, rfl, hu, by rw [← hall.length]; exact hk, ?_⟩
    have hd3 : dom m3 = dom m := hi.d.trans (ho.d.trans he.d)
    have nn : Nxt m H H3 := ((n1.trans he.d n2).trans (ho.d.trans he.d) n3)
    have hp : P.p (mask H3 (dom m3)) v := by
      rw [hd3]
      exact P.mono (Ex.trans (n2.to he.d) (n3.to (ho.d.trans he.d))) p1
    have o4 : Own (m3.set n (l, .lst (Ps.set k1 P))) (upd H3 l (.lst (vs.set k1 v))) := o3.put hn ⟨_, rfl, hall.set hp k1⟩
    have hm : mask (upd H3 l (.lst (vs.set k1 v))) (dom (m3.set n (l, .lst (Ps.set k1 P)))) = mask H3 (dom m) := by rw [dom_put hn, mask_put hn, hd3]
    refine k σ _ ⟨?_, o4⟩ ?_
    · rw [hm]; exact s.env.mono nn
    · rw [hm]; exact ex.trans nn)
/-- o.f = e, o an owned instance -/
theorem gs_fldO {fs : List (Str × MP)} {l Cc : Addr} (n : Nat) (c : Cls X.K Cc) (hno : NoAttr X.K Cc fl) (he : AE X e ρ m P m1) (ho : AE X o ρ m1 (R l) m2) (hn : m2[n]? = some (l, .ins Cc fs)) (hl : fs.length < 1000) (k : GS X sts D ρ (m2.set n (l, .ins Cc (putM fl P fs))) b0)
    (hs : swapsWith e (some (.Attribute o fl p)) p2.line X.env = pure false := by rfl) : GS X (.Assign [.Attribute o fl p] e p2 :: sts) D ρ m b0 :=
  gs_cons fun σ H s ex => cS_of (ps_fld pcE pcE hs) (he.go σ H _ s fun v H1 n1 o1 p1 => by
    have s1 := s.go he.d n1 o1
    refine ho.go σ H1 _ s1 fun w H2 n2 o2 p2 => ?_
    have p2 : w = .ref l := p2
    subst p2
    obtain ⟨u, hu, dx, ws, rfl, hall⟩ := o2.ok n l _ hn
    refine ⟨l, Cc, dx, ws, rfl, hu, c, hno, by rw [← hall.length]; exact hl, ?_⟩
    have hd2 : dom m2 = dom m := ho.d.trans he.d
    have nn : Nxt m H H2 := n1.trans he.d n2
    have hp : P.p (mask H2 (dom m2)) v := by
      rw [hd2]
      exact P.mono (n2.to he.d) p1
    have o4 : Own (m2.set n (l, .ins Cc (putM fl P fs))) (upd H2 l (.ins Cc dx (putF fl v ws))) := o2.put hn ⟨dx, _, rfl, hall.put hp⟩
    have hm : mask (upd H2 l (.ins Cc dx (putF fl v ws))) (dom (m2.set n (l, .ins Cc (putM fl P fs)))) = mask H2 (dom m) := by rw [dom_put hn, mask_put hn, hd2]
    refine k σ _ ⟨?_, o4⟩ ?_
    · rw [hm]; exact s.env.mono nn
    · rw [hm]; exact ex.trans nn)
/-- e.f -/
theorem a_fld {fs : List (Str × MP)} {Cc : Addr} (c : Cls X.K Cc) (hno : NoAttr X.K Cc fl) (he : AE X e ρ m (O Cc fs) m1) (hf : fs.lookup fl = some P) (hb : attributeBase e fl X.env (eval e X.env) = eval e X.env := by rfl) : AE X (.Attribute e fl pos) ρ m P m1 :=
  Ev.can (pe_fld pcE hb) ⟨he.d, fun σ H Q s q => he.go σ H _ s fun v H1 n1 o1 p1 => by
    obtain ⟨l, dx, ws, rfl, h1, h2⟩ := p1
    obtain ⟨z, h3, h4⟩ := h2.look hf
    exact ⟨l, Cc, dx, ws, z, rfl, mask_sub _ _ h1, c, hno, h3, q z H1 n1 o1 h4⟩⟩
theorem a_fldO {fs : List (Str × MP)} {l Cc : Addr} (n : Nat) (c : Cls X.K Cc) (hno : NoAttr X.K Cc fl) (he : AE X e ρ m (R l) m1) (hn : m1[n]? = some (l, .ins Cc fs)) (hf : fs.lookup fl = some P) (hb : attributeBase e fl X.env (eval e X.env) = eval e X.env := by rfl) : AE X (.Attribute e fl pos) ρ m P m1 :=
  Ev.can (pe_fld pcE hb) ⟨he.d, fun σ H Q s q => he.go σ H _ s fun v H1 n1 o1 p1 => by
    obtain ⟨u, hu, dx, ws, rfl, h2⟩ := o1.ok n l _ hn
    obtain ⟨z, h3, h4⟩ := h2.look hf
    exact ⟨l, Cc, dx, ws, z, p1, hu, c, hno, h3, q z H1 n1 o1 (by rw [← he.d]; exact h4)⟩⟩
/-- a class of the text, made by its __init__ -/
structure Fc (P : Program) (w : World) (K : PySem.W.Frag) (mg : Str → Option Value) (base : Heap) (k : Nat) (x : Str) (Cc : Addr) (sp : Sp) (D : List V) : Prop where
  ex : ∃ (f : Addr) (fd : FuncData) (ps : List Str) (ds : List Value), L2.Mk K Cc f ∧ FnOk P w K mg base CX0 k f fd ps sp ∧ mg x = some (.ref Cc) ∧ Binds K fd ps ds ∧ Vals D ds
/-- what __init__ does: self is owned, and bare at first -/
theorem a_make {n lv : Nat} {S : Ct} {Dv : List V} {Ps : List MP} {Cc : Addr} {fs : List (Str × MP)} (F : Fc X.prog X.w X.K X.mg X.base n x Cc (spC S) Dv) (hr : Room lv X.A) (hn : n + 1 ≤ lv) (ha : AA X (e :: es) ρ m Ps m1)
    (h : ∀ s, S (R s :: (Ps ++ Dv.map C)) ((s, .ins Cc []) :: m1) N ((s, .ins Cc fs) :: m2)) (hd : dom m2 = dom m1 := by rfl) (hg : Gl X x := by rfl)
    (hdb : (x == ("__debug__" : Str)) = false := by decide) (he : starEach (e :: es) X.env = (false, eval e X.env) :: starEach es X.env := by rfl) (hpl : (backTo pos (starEach es X.env)).any (·.1) = false := by rfl) : AE X (.Call (.Name x p) (e :: es) [] pos) ρ m (O Cc fs) m2 := by
  obtain ⟨g, fd, ps, ds, h0, h1, h2, h4, h5⟩ := F.ex
  refine Ev.can (pe_make h0 h1 (hr.mono hn) hg h2 h4 h5 (pass0 (X := X)) pcA hdb he hpl) ⟨hd.trans ha.d, fun σ H Q s q => ?_⟩
  refine ha.go σ H _ s fun vs H1 n1 o1 p1 => ?_
  intro y dx hy hdx hne
  have hy2 : upd H1 dx (.own y) y = none := by rw [upd_ne (Ne.symm hne)]; exact hy
  have o2 : Own m1 (upd H1 dx (.own y)) := o1.ext (Ex.new hdx)
  have e1 : Ex H1 (upd (upd H1 dx (.own y)) y (.ins Cc dx [])) := (Ex.new hdx).trans (Ex.new hy2)
  have o3 : Own ((y, .ins Cc []) :: m1) (upd (upd H1 dx (.own y)) y (.ins Cc dx [])) := o2.add hy2 ⟨dx, [], rfl, .nil⟩
  have sight : Ex (mask H1 (dom m1)) (mask (upd (upd H1 dx (.own y)) y (.ins Cc dx [])) (dom ((y, MO.ins Cc []) :: m1))) := (mask_ex (Ex.new hdx)).trans (new_sight hy2)
  refine ⟨_, _, _, _, h y, by simp only [dom, List.map_cons]; rw [show m2.map (·.1) = m1.map (·.1) from hd], .cons rfl (All.append ((by rw [ha.d]; exact p1 : All (mask H1 (dom m1)) Ps vs).mono sight) all_c), o3, fun v H' n3 o4 pv => ?_⟩
  refine ⟨pv, ?_⟩
  have n4 : Ex (mask H1 (dom m1)) (mask H' (dom m1)) := sight.trans (Ex.trans n3 mask_drop)
  refine q (.ref y) H' (n1.trans ha.d n4) o4.drop ?_
  obtain ⟨u, hu, dx', ws, rfl, hall⟩ := o4.ok 0 y _ rfl
  refine ⟨y, dx', ws, rfl, ?_, ?_⟩
  · rw [mask_out]
    · exact hu
    · rw [← ha.d, ← hd]; exact (List.nodup_cons.mp o4.nd).1
  · have := hall.mono (mask_drop (p := (y, MO.ins Cc fs)) (m := m2) (H := H'))
    rw [hd, ha.d] at this
    exact this
/-! ### a store of which one place is known -/
theorem set_at {m : Sto} {n : Nat} {q : Addr × MO} (h : n < m.length) : (m.set n q)[n]? = some q := by
  rw [List.getElem?_set_self h]
theorem set_id {m : Sto} {n : Nat} {q : Addr × MO} (h : m[n]? = some q) : m.set n q = m := by
  refine List.ext_getElem? fun j => ?_
  rw [List.getElem?_set]
  split
  · rename_i e; subst e
    rw [if_pos (List.getElem?_eq_some_iff.mp h).1, h]
  · rfl
theorem a_ixS {Ps : List MP} {l : Addr} {n : Nat} (hl : n < m.length) (ha : AE X a ρ (m.set n (l, .lst Ps)) (R l) (m.set n (l, .lst Ps))) (hb : AE X b ρ (m.set n (l, .lst Ps)) (I i) (m.set n (l, .lst Ps))) (hi : atI Ps i = some P := by rfl) (hs : PlainIx b := by exact fun _ _ => rfl) :
    AE X (.Subscript a b pos) ρ (m.set n (l, .lst Ps)) P (m.set n (l, .lst Ps)) := a_ixO n ha hb (set_at hl) hi hs
theorem gs_setS {Ps : List MP} {l : Addr} {k1 : Nat} {n : Nat} (hl : n < m.length) (he : AE X e ρ (m.set n (l, .lst Ps)) P (m.set n (l, .lst Ps))) (ho : AE X o ρ (m.set n (l, .lst Ps)) (R l) (m.set n (l, .lst Ps))) (hi : AE X a ρ (m.set n (l, .lst Ps)) (I i) (m.set n (l, .lst Ps))) (hk : ixN Ps.length i = some k1 := by rfl)
    (k : GS X sts D ρ (m.set n (l, .lst (Ps.set k1 P))) b0)
    (hps : PS X (.Assign [.Subscript o a p] e p2) (tAsg (cE X e) (gSub (cE X o) (cE X a) rSetL)) := by exact ps_asg pcE (pg_sub pcE pcE set_list)) : GS X (.Assign [.Subscript o a p] e p2 :: sts) D ρ (m.set n (l, .lst Ps)) b0 :=
  gs_setO n he ho hi (set_at hl) hk (by rw [List.set_set]; exact k) hps
/-- a branching whose ways meet in a state of W -/
theorem gs_ifM {t : Bool} {body orelse : List Stmt} (W : Rho → Sto → Prop) (hc : AT X c ρ m t m1) (h1 : t = true → GS X body { D with nx := Sts W b0 } ρ m1 b0) (h2 : t = false → GS X orelse { D with nx := Sts W b0 } ρ m1 b0)
    (k : ∀ ρ' m', W ρ' m' → GS X sts D ρ' m' b0) : GS X (.If c body orelse p :: sts) D ρ m b0 :=
  gs_meet (Sts W b0) (fun σ H s ex => cS_of (ps_if pcT pcSs pcSs) (hc.go σ H _ s fun H1 n1 o1 => by
    have ex1 : Ex b0 (mask H1 (dom m1)) := by rw [hc.d]; exact ex.trans n1
    cases t with
    | true =>
      show cSs X body _ σ H1
      exact h1 rfl σ H1 (s.go hc.d n1 o1) ex1
    | false =>
      show cSs X orelse _ σ H1
      exact h2 rfl σ H1 (s.go hc.d n1 o1) ex1)) fun σ H ⟨ρ2, m2, w, s2, e2⟩ => k ρ2 m2 w σ H s2 e2
end
end SV

/-! SVMor: comprehensions, unpacking, texts, dicts, isinstance. -/
namespace SV
open PySem L2 PyProof.Rows
open Evl (Ex ex_rd ex_l ex_t sz_of sz_lt)
section
variable {X : Cx} {ρ : Rho} {m m1 m2 m3 : Sto} {P P1 P2 P3 : MP} {mo mo' : MO} {e a b c f o elt iter : Expr} {es rest : List Expr} {pos p p2 p3 apos cpos px : Pos} {x fl : Str} {i j k : Int} {te ta : TE} {A : TA} {D : Ends} {b0 : Hp} {sts : List Stmt} {scope : Scope}
/-! ### comprehensions -/
def wipeR (ρ : Rho) : List Nat → Rho
  | [] => ρ
  | v :: vs => (wipeR ρ vs).set v none
theorem slots_none {H : Hp} : ∀ {ρ : Rho} {σ : L2.St} (i : Nat), Slots H ρ σ → Slots H (ρ.set i none) (σ.set i none)
  | _, _, _, .nil => .nil
  | _, _, 0, .cons _ t => .cons (fun _ q => nomatch q) t
  | _, _, i + 1, .cons q t => .cons q (slots_none i t)
theorem slots_wipe {H : Hp} {σ : L2.St} (h : Slots H ρ σ) : ∀ vs : List Nat, Slots H (wipeR ρ vs) (wipe σ vs)
  | [] => h
  | v :: vs => slots_none v (slots_wipe h vs)
/-- the element's reading, whatever the block -/
def cB (X : Cx) (scope : Scope) (e : Expr) : TE := fun σ H Q => ∀ (s : Shared) (H0 : Hp) (Cc : Addr) (cl : List (Str × Addr)) (fp : List Addr), cE (X.blk s H0 scope (compEnvC scope cl Cc X.env) fp) e σ H Q
def cBT (X : Cx) (scope : Scope) (e : Expr) : TT := fun σ H Q => ∀ (s : Shared) (H0 : Hp) (Cc : Addr) (cl : List (Str × Addr)) (fp : List Addr), cT (X.blk s H0 scope (compEnvC scope cl Cc X.env) fp) e σ H Q
theorem pcB : ∀ (s : Shared) (H0 : Hp) (Cc : Addr) (cl : List (Str × Addr)) (fp : List Addr), PE (X.blk s H0 scope (compEnvC scope cl Cc X.env) fp) e (cB X scope e) := fun s H0 Cc cl fp => ⟨fun pins sh σ H Q I h => h s H0 Cc cl fp pins sh I⟩
theorem pcBT : ∀ (s : Shared) (H0 : Hp) (Cc : Addr) (cl : List (Str × Addr)) (fp : List Addr), PT (X.blk s H0 scope (compEnvC scope cl Cc X.env) fp) e (cBT X scope e) := fun s H0 Cc cl fp => ⟨fun pins sh σ H Q I h => h s H0 Cc cl fp pins sh I⟩
abbrev BE (X : Cx) (scope : Scope) (e : Expr) (ρ : Rho) (m : Sto) (P : MP) (m' : Sto) : Prop := ∀ (s : Shared) (H0 : Hp) (Cc : Addr) (cl : List (Str × Addr)) (fp : List Addr), AE (X.blk s H0 scope (compEnvC scope cl Cc X.env) fp) e ρ m P m'
abbrev BT (X : Cx) (scope : Scope) (e : Expr) (ρ : Rho) (m : Sto) (b : Bool) (m' : Sto) : Prop := ∀ (s : Shared) (H0 : Hp) (Cc : Addr) (cl : List (Str × Addr)) (fp : List Addr), AT (X.blk s H0 scope (compEnvC scope cl Cc X.env) fp) e ρ m b m'
theorem BE.ev (h : BE X scope e ρ m P m1) (hd : dom m1 = dom m) : Ev (cB X scope e) ρ m P m1 := ⟨hd, fun σ H Q s q sh H0 Cc cl fp => (h sh H0 Cc cl fp).go σ H Q s q⟩
theorem BT.ev {t : Bool} (h : BT X scope e ρ m t m1) (hd : dom m1 = dom m) : EvT (cBT X scope e) ρ m t m1 := ⟨hd, fun σ H Q s q sh H0 Cc cl fp => (h sh H0 Cc cl fp).go σ H Q s q⟩
theorem et_yes : EvT tYes ρ m true m := ⟨rfl, fun σ H Q s q => q H .refl s.own⟩
/-- the state of a comprehension behind i items: its list D holds what is made so far -/
structure LcSt (ρ : Rho) (m : Sto) (σ : L2.St) (b1 : Hp) (Dl : Addr) (Qs : List MP) (H : Hp) : Prop where
  own : Own ((Dl, .lst Qs) :: m) H
  sl : Slots (mask H (dom ((Dl, .lst Qs) :: m))) ρ σ
  gr : Ex b1 (mask H (dom ((Dl, .lst Qs) :: m)))
/-- the items made: those that the test lets in -/
def picks (bs : Nat → Bool) (Rs : Nat → MP) (n : Nat) : List MP := ((List.range n).filter bs).map Rs
theorem picks_yes {bs : Nat → Bool} {Rs : Nat → MP} {n : Nat} (h : bs n = true) : picks bs Rs (n + 1) = picks bs Rs n ++ [Rs n] := by
  unfold picks
  rw [List.range_succ, List.filter_append, List.map_append, List.filter_cons, if_pos h] <;> rfl
theorem picks_no {bs : Nat → Bool} {Rs : Nat → MP} {n : Nat} (h : bs n = false) : picks bs Rs (n + 1) = picks bs Rs n := by
  unfold picks
  rw [List.range_succ, List.filter_append, List.map_append, List.filter_cons, if_neg (by rw [h]; decide)]
  show _ ++ [] = _
  rw [List.append_nil]
theorem picks_len {bs : Nat → Bool} {Rs : Nat → MP} {n : Nat} : (picks bs Rs n).length ≤ n := by
  unfold picks
  rw [List.length_map]
  have h := List.length_filter_le bs (List.range n)
  rw [List.length_range] at h
  exact h
theorem picks_all {Rs : Nat → MP} {n : Nat} : picks (fun _ => true) Rs n = (List.range n).map Rs := by
  unfold picks
  rw [List.filter_eq_self.mpr (fun _ _ => rfl)]
/-- one turn -/
theorem lc_turn {tt : TT} {te : TE} {σ : L2.St} {b1 : Hp} {Dl : Addr} {bs : Nat → Bool} {Rs : Nat → MP} {n : Nat} {v : V} {jx : Nat} {H : Hp} {ρw : Rho} {mn mn' : Sto} (st : LcSt ρw mn σ b1 Dl (picks bs Rs n) H) (hn : n < 50000) (hv : P.p b1 v) (hdm : dom mn' = dom mn)
    (ht : ∀ q, EvT tt (ρw.set jx (some P)) (q :: mn) (bs n) (q :: mn)) (he : bs n = true → ∀ q, Ev te (ρw.set jx (some P)) (q :: mn) (Rs n) (q :: mn')) (hno : bs n = false → mn' = mn) :
    tt (σ.set jx (some v)) H fun b H3 => if b = true then te (σ.set jx (some v)) H3 fun y H4 => ∃ acc, H4 Dl = some (.lst acc) ∧ acc.length < sizeLine ∧ LcSt ρw mn' σ b1 Dl (picks bs Rs (n + 1)) (upd H4 Dl (.lst (acc ++ [y]))) else LcSt ρw mn' σ b1 Dl (picks bs Rs (n + 1)) H3 := by
  have hv' := P.mono st.gr hv
  refine (ht (Dl, .lst (picks bs Rs n))).go _ H _ ⟨st.sl.set hv' jx, st.own⟩ fun H3 n3 o3 => ?_
  cases hb : bs n with
  | false =>
    rw [if_neg Bool.false_ne_true, picks_no hb, hno hb]
    exact ⟨o3, st.sl.mono n3, st.gr.trans n3⟩
  | true =>
    rw [if_pos rfl]
    refine (he hb (Dl, .lst (picks bs Rs n))).go _ H3 _ ⟨(st.sl.set hv' jx).mono n3, o3⟩ fun y H4 n4 o4 p4 => ?_
    obtain ⟨u, hu, acc, rfl, hall⟩ := o4.ok 0 Dl _ rfl
    have hdq : dom ((Dl, MO.lst (picks bs Rs n)) :: mn') = dom ((Dl, MO.lst (picks bs Rs n)) :: mn) := by simp only [dom, List.map_cons]; rw [show mn'.map (·.1) = mn.map (·.1) from hdm]
    have p4' : (Rs n).p (mask H4 (dom ((Dl, MO.lst (picks bs Rs n)) :: mn'))) y := by rw [hdq]; exact p4
    refine ⟨acc, hu, sz_lt ?_, ?_⟩
    · rw [← hall.length]
      have := picks_len (bs := bs) (Rs := Rs) (n := n)
      omega
    · rw [picks_yes hb]
      have o5 : Own ((Dl, MO.lst (picks bs Rs n ++ [Rs n])) :: mn') (upd H4 Dl (.lst (acc ++ [y]))) := o4.put (i := 0) (mo' := .lst (picks bs Rs n ++ [Rs n])) rfl ⟨_, rfl, hall.append (.cons p4' .nil)⟩
      have hm : mask (upd H4 Dl (.lst (acc ++ [y]))) (dom ((Dl, MO.lst (picks bs Rs n ++ [Rs n])) :: mn')) = mask H4 (dom ((Dl, MO.lst (picks bs Rs n)) :: mn)) := by
        rw [← hdq]
        exact mask_put (m := (Dl, MO.lst (picks bs Rs n)) :: mn') (i := 0) (mo := .lst (picks bs Rs n)) rfl
      exact ⟨o5, by rw [hm]; exact (st.sl.mono n3).mono n4, by rw [hm]; exact (st.gr.trans n3).trans n4⟩
theorem LcSt.start {σ : L2.St} {H : Hp} {bs : Nat → Bool} {Rs : Nat → MP} {own : List Nat} (s : Stt ρ m σ H) {Dl : Addr} (h : H Dl = none) : LcSt (wipeR ρ own) m (wipe σ own) (mask H (dom m)) Dl (picks bs Rs 0) (upd H Dl (.lst [])) :=
  ⟨s.own.add h ⟨[], rfl, .nil⟩, slots_wipe (s.env.mono (new_sight h)) own, new_sight h⟩
/-- the list is made: it is a value -/
theorem LcSt.fin {K : PySem.W.Frag} {ρw : Rho} {σ : L2.St} {b1 H : Hp} {Dl : Addr} {Qs : List MP} {Q : VK} (st : LcSt ρw m σ b1 Dl Qs H) (q : ∀ v H', Own m H' → Ex b1 (mask H' (dom m)) → (L K Qs).p (mask H' (dom m)) v → Q v H') : Q (.ref Dl) H := by
  obtain ⟨u, hu, vs, rfl, hall⟩ := st.own.ok 0 Dl _ rfl
  refine q _ H st.own.drop (st.gr.trans mask_drop) ⟨Dl, vs, rfl, Or.inl (Or.inl ?_), hall.mono mask_drop⟩
  rw [mask_out (List.nodup_cons.mp st.own.nd).1]
  exact hu
theorem LcSt.finO {ρw : Rho} {σ : L2.St} {b1 H : Hp} {Dl : Addr} {Qs : List MP} {Q : VK} (st : LcSt ρw m σ b1 Dl Qs H) (q : ∀ a H', Own ((a, .lst Qs) :: m) H' → Ex b1 (mask H' (dom ((a, .lst Qs) :: m))) → Q (.ref a) H') : Q (.ref Dl) H := q Dl H st.own st.gr
/-- what stands for «for x in ..» of a comprehension, its test, its element; jx: x's slot -/
structure LcOk (X : Cx) (scope : Scope) (own : List (Str × Nat)) (x : Str) (jx : Nat) : Prop where
  hc : X.calm = true
  hN : X.N.Nodup
  ok : BlkOk X.N X.env.scope scope own
  hj : X.N[jx]? = some x
  hx : Loc (relabel scope X.env) x
  hf : ((scope.names.lookup x == some .cell) = true) ∨ (relabel scope X.env).names.lookup x = some .local
  hw : ∀ (σ : L2.St) (v : V), wipe ((wipe σ (own.map (·.2))).set jx (some v)) (own.map (·.2)) = wipe σ (own.map (·.2))
theorem LcOk.pg {own : List (Str × Nat)} {jx : Nat} (h : LcOk X scope own x jx) : ∀ (s : Shared) (H : Hp) (C : Addr) (cl : List (Str × Addr)) (fp : List Addr), PG (X.blk s H scope (compEnvC scope cl C X.env) fp) (.Name x px) (gName jx) := fun s H C cl fp => pg_name h.hN h.hj h.hx h.hf
variable {own : List (Str × Nat)} {jx : Nat}
/-- [elt for x in xs], xs a list; the store may turn -/
theorem a_lcL {Ps : List MP} (ok : LcOk X scope own x jx) (hi : AE X iter ρ m (L X.K Ps) m1) (ms : Nat → Sto) (Rs : Nat → MP) (h0 : ms 0 = m1) (hd : ∀ n, dom (ms n) = dom m1) (hz : Ps.length ≤ 40000)
    (he : ∀ n P q, Ps[n]? = some P → BE X scope elt ((wipeR ρ (own.map (·.2))).set jx (some P)) (q :: ms n) (Rs n) (q :: ms (n + 1))) (hs : ∀ x, foldedSetIterable iter X.env x = pure x := by intro _; rfl) :
    AE X (.ListComp elt [⟨.Name x px, iter, [], 0⟩] scope pos) ρ m (L X.K ((List.range Ps.length).map Rs)) (ms Ps.length) :=
  Ev.can (pe_lc ok.hc ok.hN (pi_list pcE) ok.ok ok.pg (fun _ _ _ _ _ => pts_nil) pcB hs) ⟨(hd _).trans hi.d, fun σ H Q s q => hi.go σ H _ s fun v H1 n1 o1 p1 => by
    obtain ⟨l, vs, rfl, hl, hall⟩ := p1
    have hlen := hall.length
    refine ⟨l, rfl, ⟨vs, ex_l mask_sub hl⟩, fun Dl hDl => ?_⟩
    have s1 := s.go hi.d n1 o1
    refine lc_list (xs := vs) (fun n H' => LcSt (wipeR ρ (own.map (·.2))) (ms n) (wipe σ (own.map (·.2))) (mask H1 (dom m1)) Dl (picks (fun _ => true) Rs n) H') (by have := LcSt.start (bs := fun _ => true) (Rs := Rs) (own := own.map (·.2)) s1 hDl; rw [h0]; exact this) (fun n H' _ st => ex_l mask_sub (ex_l st.gr (by rw [hi.d]; exact hl))) ?_ ?_
    · intro n y H' hy st
      obtain ⟨P, hP, hpy⟩ := hall.getR hy
      have hn : n < Ps.length := (List.getElem?_eq_some_iff.mp hP).1
      refine ⟨ok.hw σ y, ?_⟩
      exact lc_turn (mn' := ms (n + 1)) st (by omega) (by rw [hi.d]; exact hpy) ((hd _).trans (hd _).symm) (fun q => et_yes) (fun _ q => BE.ev (he n P q hP) (by have e1 := hd (n + 1); have e2 := hd n; simp only [dom, List.map_cons] at e1 e2 ⊢; rw [e1, e2])) (fun z => nomatch z)
    · intro H' st
      rw [← hlen] at st
      refine st.fin (K := X.K) fun v H'' o'' g'' p'' => q v H'' ?_ o'' ?_
      · have g3 : Ex (mask H1 (dom m)) (mask H'' (dom m)) := by
          have g4 : Ex (mask H1 (dom m1)) (mask H'' (dom (ms Ps.length))) := g''
          rw [hd, hi.d] at g4; exact g4
        exact Ex.trans n1 g3
      · rw [← picks_all]
        have p3 : (L X.K (picks (fun _ => true) Rs Ps.length)).p (mask H'' (dom (ms Ps.length))) v := p''
        rw [hd, hi.d] at p3; exact p3⟩
/-- [elt for x in xs], xs a list; the store may turn -/
theorem o_lcL {Ps : List MP} (ok : LcOk X scope own x jx) (hi : AE X iter ρ m (L X.K Ps) m1) (ms : Nat → Sto) (Rs : Nat → MP) (h0 : ms 0 = m1) (hd : ∀ n, dom (ms n) = dom m1) (hz : Ps.length ≤ 40000)
    (he : ∀ n P q, Ps[n]? = some P → BE X scope elt ((wipeR ρ (own.map (·.2))).set jx (some P)) (q :: ms n) (Rs n) (q :: ms (n + 1))) (hs : ∀ x, foldedSetIterable iter X.env x = pure x := by intro _; rfl) :
    AO X (.ListComp elt [⟨.Name x px, iter, [], 0⟩] scope pos) ρ m (.lst ((List.range Ps.length).map Rs)) (ms Ps.length) :=
  EvO.can (pe_lc ok.hc ok.hN (pi_list pcE) ok.ok ok.pg (fun _ _ _ _ _ => pts_nil) pcB hs) ⟨(hd _).trans hi.d, fun σ H Q s q => hi.go σ H _ s fun v H1 n1 o1 p1 => by
    obtain ⟨l, vs, rfl, hl, hall⟩ := p1
    have hlen := hall.length
    refine ⟨l, rfl, ⟨vs, ex_l mask_sub hl⟩, fun Dl hDl => ?_⟩
    have s1 := s.go hi.d n1 o1
    refine lc_list (xs := vs) (fun n H' => LcSt (wipeR ρ (own.map (·.2))) (ms n) (wipe σ (own.map (·.2))) (mask H1 (dom m1)) Dl (picks (fun _ => true) Rs n) H') (by have := LcSt.start (bs := fun _ => true) (Rs := Rs) (own := own.map (·.2)) s1 hDl; rw [h0]; exact this) (fun n H' _ st => ex_l mask_sub (ex_l st.gr (by rw [hi.d]; exact hl))) ?_ ?_
    · intro n y H' hy st
      obtain ⟨P, hP, hpy⟩ := hall.getR hy
      have hn : n < Ps.length := (List.getElem?_eq_some_iff.mp hP).1
      refine ⟨ok.hw σ y, ?_⟩
      exact lc_turn (mn' := ms (n + 1)) st (by omega) (by rw [hi.d]; exact hpy) ((hd _).trans (hd _).symm) (fun q => et_yes) (fun _ q => BE.ev (he n P q hP) (by have e1 := hd (n + 1); have e2 := hd n; simp only [dom, List.map_cons] at e1 e2 ⊢; rw [e1, e2])) (fun z => nomatch z)
    · intro H' st
      rw [← hlen] at st
      refine st.finO fun l' H'' o'' g'' => ?_
      have n1' : Ex (mask H (dom m)) (mask H1 (dom m1)) := by rw [hi.d]; exact n1
      rw [picks_all] at o'' g''
      exact q l' H'' o'' (n1'.trans g'')⟩
/-- [elt if test for x in xs], xs a list; the store may turn -/
theorem a_lcLf {Ps : List MP} (ok : LcOk X scope own x jx) (hi : AE X iter ρ m (L X.K Ps) m1) (bs : Nat → Bool) {tst : Expr} (ms : Nat → Sto) (Rs : Nat → MP) (h0 : ms 0 = m1) (hd : ∀ n, dom (ms n) = dom m1) (hz : Ps.length ≤ 40000)
    (ht : ∀ n P q, Ps[n]? = some P → BT X scope tst ((wipeR ρ (own.map (·.2))).set jx (some P)) (q :: ms n) (bs n) (q :: ms n))
    (hno : ∀ n, bs n = false → ms (n + 1) = ms n) (he : ∀ n P q, Ps[n]? = some P → bs n = true → BE X scope elt ((wipeR ρ (own.map (·.2))).set jx (some P)) (q :: ms n) (Rs n) (q :: ms (n + 1))) (hs : ∀ x, foldedSetIterable iter X.env x = pure x := by intro _; rfl) :
    AE X (.ListComp elt [⟨.Name x px, iter, [tst], 0⟩] scope pos) ρ m (L X.K (picks bs Rs Ps.length)) (ms Ps.length) :=
  Ev.can (pe_lc ok.hc ok.hN (pi_list pcE) ok.ok ok.pg (fun s H0 Cc cl fp => pts_one (pcBT s H0 Cc cl fp)) pcB hs) ⟨(hd _).trans hi.d, fun σ H Q s q => hi.go σ H _ s fun v H1 n1 o1 p1 => by
    obtain ⟨l, vs, rfl, hl, hall⟩ := p1
    have hlen := hall.length
    refine ⟨l, rfl, ⟨vs, ex_l mask_sub hl⟩, fun Dl hDl => ?_⟩
    have s1 := s.go hi.d n1 o1
    refine lc_list (xs := vs) (fun n H' => LcSt (wipeR ρ (own.map (·.2))) (ms n) (wipe σ (own.map (·.2))) (mask H1 (dom m1)) Dl (picks (bs) Rs n) H') (by have := LcSt.start (bs := bs) (Rs := Rs) (own := own.map (·.2)) s1 hDl; rw [h0]; exact this) (fun n H' _ st => ex_l mask_sub (ex_l st.gr (by rw [hi.d]; exact hl))) ?_ ?_
    · intro n y H' hy st
      obtain ⟨P, hP, hpy⟩ := hall.getR hy
      have hn : n < Ps.length := (List.getElem?_eq_some_iff.mp hP).1
      refine ⟨ok.hw σ y, ?_⟩
      exact lc_turn (mn' := ms (n + 1)) st (by omega) (by rw [hi.d]; exact hpy) ((hd _).trans (hd _).symm) (fun q => BT.ev (ht n P q hP) rfl) (fun hb q => BE.ev (he n P q hP hb) (by have e1 := hd (n + 1); have e2 := hd n; simp only [dom, List.map_cons] at e1 e2 ⊢; rw [e1, e2])) (hno n)
    · intro H' st
      rw [← hlen] at st
      refine st.fin (K := X.K) fun v H'' o'' g'' p'' => q v H'' ?_ o'' ?_
      · have g3 : Ex (mask H1 (dom m)) (mask H'' (dom m)) := by
          have g4 : Ex (mask H1 (dom m1)) (mask H'' (dom (ms Ps.length))) := g''
          rw [hd, hi.d] at g4; exact g4
        exact Ex.trans n1 g3
      · have p3 : (L X.K (picks (bs) Rs Ps.length)).p (mask H'' (dom (ms Ps.length))) v := p''
        rw [hd, hi.d] at p3; exact p3⟩
/-- [elt if test for x in xs], xs a list; the store may turn -/
theorem o_lcLf {Ps : List MP} (ok : LcOk X scope own x jx) (hi : AE X iter ρ m (L X.K Ps) m1) (bs : Nat → Bool) {tst : Expr} (ms : Nat → Sto) (Rs : Nat → MP) (h0 : ms 0 = m1) (hd : ∀ n, dom (ms n) = dom m1) (hz : Ps.length ≤ 40000)
    (ht : ∀ n P q, Ps[n]? = some P → BT X scope tst ((wipeR ρ (own.map (·.2))).set jx (some P)) (q :: ms n) (bs n) (q :: ms n))
    (hno : ∀ n, bs n = false → ms (n + 1) = ms n) (he : ∀ n P q, Ps[n]? = some P → bs n = true → BE X scope elt ((wipeR ρ (own.map (·.2))).set jx (some P)) (q :: ms n) (Rs n) (q :: ms (n + 1))) (hs : ∀ x, foldedSetIterable iter X.env x = pure x := by intro _; rfl) :
    AO X (.ListComp elt [⟨.Name x px, iter, [tst], 0⟩] scope pos) ρ m (.lst (picks bs Rs Ps.length)) (ms Ps.length) :=
  EvO.can (pe_lc ok.hc ok.hN (pi_list pcE) ok.ok ok.pg (fun s H0 Cc cl fp => pts_one (pcBT s H0 Cc cl fp)) pcB hs) ⟨(hd _).trans hi.d, fun σ H Q s q => hi.go σ H _ s fun v H1 n1 o1 p1 => by
    obtain ⟨l, vs, rfl, hl, hall⟩ := p1
    have hlen := hall.length
    refine ⟨l, rfl, ⟨vs, ex_l mask_sub hl⟩, fun Dl hDl => ?_⟩
    have s1 := s.go hi.d n1 o1
    refine lc_list (xs := vs) (fun n H' => LcSt (wipeR ρ (own.map (·.2))) (ms n) (wipe σ (own.map (·.2))) (mask H1 (dom m1)) Dl (picks (bs) Rs n) H') (by have := LcSt.start (bs := bs) (Rs := Rs) (own := own.map (·.2)) s1 hDl; rw [h0]; exact this) (fun n H' _ st => ex_l mask_sub (ex_l st.gr (by rw [hi.d]; exact hl))) ?_ ?_
    · intro n y H' hy st
      obtain ⟨P, hP, hpy⟩ := hall.getR hy
      have hn : n < Ps.length := (List.getElem?_eq_some_iff.mp hP).1
      refine ⟨ok.hw σ y, ?_⟩
      exact lc_turn (mn' := ms (n + 1)) st (by omega) (by rw [hi.d]; exact hpy) ((hd _).trans (hd _).symm) (fun q => BT.ev (ht n P q hP) rfl) (fun hb q => BE.ev (he n P q hP hb) (by have e1 := hd (n + 1); have e2 := hd n; simp only [dom, List.map_cons] at e1 e2 ⊢; rw [e1, e2])) (hno n)
    · intro H' st
      rw [← hlen] at st
      refine st.finO fun l' H'' o'' g'' => ?_
      have n1' : Ex (mask H (dom m)) (mask H1 (dom m1)) := by rw [hi.d]; exact n1
      exact q l' H'' o'' (n1'.trans g'')⟩
/-- [elt for x in xs], xs a tuple; the store may turn -/
theorem a_lcT {Ps : List MP} (ok : LcOk X scope own x jx) (hi : AE X iter ρ m (T X.K Ps) m1) (ms : Nat → Sto) (Rs : Nat → MP) (h0 : ms 0 = m1) (hd : ∀ n, dom (ms n) = dom m1) (hz : Ps.length ≤ 40000)
    (he : ∀ n P q, Ps[n]? = some P → BE X scope elt ((wipeR ρ (own.map (·.2))).set jx (some P)) (q :: ms n) (Rs n) (q :: ms (n + 1))) (hs : ∀ x, foldedSetIterable iter X.env x = pure x := by intro _; rfl) :
    AE X (.ListComp elt [⟨.Name x px, iter, [], 0⟩] scope pos) ρ m (L X.K ((List.range Ps.length).map Rs)) (ms Ps.length) :=
  Ev.can (pe_lc ok.hc ok.hN (pi_tup pcE) ok.ok ok.pg (fun _ _ _ _ _ => pts_nil) pcB hs) ⟨(hd _).trans hi.d, fun σ H Q s q => hi.go σ H _ s fun v H1 n1 o1 p1 => by
    obtain ⟨l, vs, rfl, hl, hall⟩ := p1
    have hlen := hall.length
    refine ⟨l, rfl, ⟨vs, ex_t mask_sub hl⟩, fun Dl hDl => ?_⟩
    have s1 := s.go hi.d n1 o1
    refine lc_tup (xs := vs) (fun n H' => LcSt (wipeR ρ (own.map (·.2))) (ms n) (wipe σ (own.map (·.2))) (mask H1 (dom m1)) Dl (picks (fun _ => true) Rs n) H') (by have := LcSt.start (bs := fun _ => true) (Rs := Rs) (own := own.map (·.2)) s1 hDl; rw [h0]; exact this) (fun n H' _ st => ex_t mask_sub (ex_t st.gr (by rw [hi.d]; exact hl))) ?_ ?_
    · intro n y H' hy st
      obtain ⟨P, hP, hpy⟩ := hall.getR hy
      have hn : n < Ps.length := (List.getElem?_eq_some_iff.mp hP).1
      refine ⟨ok.hw σ y, ?_⟩
      exact lc_turn (mn' := ms (n + 1)) st (by omega) (by rw [hi.d]; exact hpy) ((hd _).trans (hd _).symm) (fun q => et_yes) (fun _ q => BE.ev (he n P q hP) (by have e1 := hd (n + 1); have e2 := hd n; simp only [dom, List.map_cons] at e1 e2 ⊢; rw [e1, e2])) (fun z => nomatch z)
    · intro H' st
      rw [← hlen] at st
      refine st.fin (K := X.K) fun v H'' o'' g'' p'' => q v H'' ?_ o'' ?_
      · have g3 : Ex (mask H1 (dom m)) (mask H'' (dom m)) := by
          have g4 : Ex (mask H1 (dom m1)) (mask H'' (dom (ms Ps.length))) := g''
          rw [hd, hi.d] at g4; exact g4
        exact Ex.trans n1 g3
      · rw [← picks_all]
        have p3 : (L X.K (picks (fun _ => true) Rs Ps.length)).p (mask H'' (dom (ms Ps.length))) v := p''
        rw [hd, hi.d] at p3; exact p3⟩
/-- [elt for x in xs], xs a tuple; the store may turn -/
theorem o_lcT {Ps : List MP} (ok : LcOk X scope own x jx) (hi : AE X iter ρ m (T X.K Ps) m1) (ms : Nat → Sto) (Rs : Nat → MP) (h0 : ms 0 = m1) (hd : ∀ n, dom (ms n) = dom m1) (hz : Ps.length ≤ 40000)
    (he : ∀ n P q, Ps[n]? = some P → BE X scope elt ((wipeR ρ (own.map (·.2))).set jx (some P)) (q :: ms n) (Rs n) (q :: ms (n + 1))) (hs : ∀ x, foldedSetIterable iter X.env x = pure x := by intro _; rfl) :
    AO X (.ListComp elt [⟨.Name x px, iter, [], 0⟩] scope pos) ρ m (.lst ((List.range Ps.length).map Rs)) (ms Ps.length) :=
  EvO.can (pe_lc ok.hc ok.hN (pi_tup pcE) ok.ok ok.pg (fun _ _ _ _ _ => pts_nil) pcB hs) ⟨(hd _).trans hi.d, fun σ H Q s q => hi.go σ H _ s fun v H1 n1 o1 p1 => by
    obtain ⟨l, vs, rfl, hl, hall⟩ := p1
    have hlen := hall.length
    refine ⟨l, rfl, ⟨vs, ex_t mask_sub hl⟩, fun Dl hDl => ?_⟩
    have s1 := s.go hi.d n1 o1
    refine lc_tup (xs := vs) (fun n H' => LcSt (wipeR ρ (own.map (·.2))) (ms n) (wipe σ (own.map (·.2))) (mask H1 (dom m1)) Dl (picks (fun _ => true) Rs n) H') (by have := LcSt.start (bs := fun _ => true) (Rs := Rs) (own := own.map (·.2)) s1 hDl; rw [h0]; exact this) (fun n H' _ st => ex_t mask_sub (ex_t st.gr (by rw [hi.d]; exact hl))) ?_ ?_
    · intro n y H' hy st
      obtain ⟨P, hP, hpy⟩ := hall.getR hy
      have hn : n < Ps.length := (List.getElem?_eq_some_iff.mp hP).1
      refine ⟨ok.hw σ y, ?_⟩
      exact lc_turn (mn' := ms (n + 1)) st (by omega) (by rw [hi.d]; exact hpy) ((hd _).trans (hd _).symm) (fun q => et_yes) (fun _ q => BE.ev (he n P q hP) (by have e1 := hd (n + 1); have e2 := hd n; simp only [dom, List.map_cons] at e1 e2 ⊢; rw [e1, e2])) (fun z => nomatch z)
    · intro H' st
      rw [← hlen] at st
      refine st.finO fun l' H'' o'' g'' => ?_
      have n1' : Ex (mask H (dom m)) (mask H1 (dom m1)) := by rw [hi.d]; exact n1
      rw [picks_all] at o'' g''
      exact q l' H'' o'' (n1'.trans g'')⟩
/-- [elt if test for x in xs], xs a tuple; the store may turn -/
theorem a_lcTf {Ps : List MP} (ok : LcOk X scope own x jx) (hi : AE X iter ρ m (T X.K Ps) m1) (bs : Nat → Bool) {tst : Expr} (ms : Nat → Sto) (Rs : Nat → MP) (h0 : ms 0 = m1) (hd : ∀ n, dom (ms n) = dom m1) (hz : Ps.length ≤ 40000)
    (ht : ∀ n P q, Ps[n]? = some P → BT X scope tst ((wipeR ρ (own.map (·.2))).set jx (some P)) (q :: ms n) (bs n) (q :: ms n))
    (hno : ∀ n, bs n = false → ms (n + 1) = ms n) (he : ∀ n P q, Ps[n]? = some P → bs n = true → BE X scope elt ((wipeR ρ (own.map (·.2))).set jx (some P)) (q :: ms n) (Rs n) (q :: ms (n + 1))) (hs : ∀ x, foldedSetIterable iter X.env x = pure x := by intro _; rfl) :
    AE X (.ListComp elt [⟨.Name x px, iter, [tst], 0⟩] scope pos) ρ m (L X.K (picks bs Rs Ps.length)) (ms Ps.length) :=
  Ev.can (pe_lc ok.hc ok.hN (pi_tup pcE) ok.ok ok.pg (fun s H0 Cc cl fp => pts_one (pcBT s H0 Cc cl fp)) pcB hs) ⟨(hd _).trans hi.d, fun σ H Q s q => hi.go σ H _ s fun v H1 n1 o1 p1 => by
    obtain ⟨l, vs, rfl, hl, hall⟩ := p1
    have hlen := hall.length
    refine ⟨l, rfl, ⟨vs, ex_t mask_sub hl⟩, fun Dl hDl => ?_⟩
    have s1 := s.go hi.d n1 o1
    refine lc_tup (xs := vs) (fun n H' => LcSt (wipeR ρ (own.map (·.2))) (ms n) (wipe σ (own.map (·.2))) (mask H1 (dom m1)) Dl (picks (bs) Rs n) H') (by have := LcSt.start (bs := bs) (Rs := Rs) (own := own.map (·.2)) s1 hDl; rw [h0]; exact this) (fun n H' _ st => ex_t mask_sub (ex_t st.gr (by rw [hi.d]; exact hl))) ?_ ?_
    · intro n y H' hy st
      obtain ⟨P, hP, hpy⟩ := hall.getR hy
      have hn : n < Ps.length := (List.getElem?_eq_some_iff.mp hP).1
      refine ⟨ok.hw σ y, ?_⟩
      exact lc_turn (mn' := ms (n + 1)) st (by omega) (by rw [hi.d]; exact hpy) ((hd _).trans (hd _).symm) (fun q => BT.ev (ht n P q hP) rfl) (fun hb q => BE.ev (he n P q hP hb) (by have e1 := hd (n + 1); have e2 := hd n; simp only [dom, List.map_cons] at e1 e2 ⊢; rw [e1, e2])) (hno n)
    · intro H' st
      rw [← hlen] at st
      refine st.fin (K := X.K) fun v H'' o'' g'' p'' => q v H'' ?_ o'' ?_
      · have g3 : Ex (mask H1 (dom m)) (mask H'' (dom m)) := by
          have g4 : Ex (mask H1 (dom m1)) (mask H'' (dom (ms Ps.length))) := g''
          rw [hd, hi.d] at g4; exact g4
        exact Ex.trans n1 g3
      · have p3 : (L X.K (picks (bs) Rs Ps.length)).p (mask H'' (dom (ms Ps.length))) v := p''
        rw [hd, hi.d] at p3; exact p3⟩
/-- [elt if test for x in xs], xs a tuple; the store may turn -/
theorem o_lcTf {Ps : List MP} (ok : LcOk X scope own x jx) (hi : AE X iter ρ m (T X.K Ps) m1) (bs : Nat → Bool) {tst : Expr} (ms : Nat → Sto) (Rs : Nat → MP) (h0 : ms 0 = m1) (hd : ∀ n, dom (ms n) = dom m1) (hz : Ps.length ≤ 40000)
    (ht : ∀ n P q, Ps[n]? = some P → BT X scope tst ((wipeR ρ (own.map (·.2))).set jx (some P)) (q :: ms n) (bs n) (q :: ms n))
    (hno : ∀ n, bs n = false → ms (n + 1) = ms n) (he : ∀ n P q, Ps[n]? = some P → bs n = true → BE X scope elt ((wipeR ρ (own.map (·.2))).set jx (some P)) (q :: ms n) (Rs n) (q :: ms (n + 1))) (hs : ∀ x, foldedSetIterable iter X.env x = pure x := by intro _; rfl) :
    AO X (.ListComp elt [⟨.Name x px, iter, [tst], 0⟩] scope pos) ρ m (.lst (picks bs Rs Ps.length)) (ms Ps.length) :=
  EvO.can (pe_lc ok.hc ok.hN (pi_tup pcE) ok.ok ok.pg (fun s H0 Cc cl fp => pts_one (pcBT s H0 Cc cl fp)) pcB hs) ⟨(hd _).trans hi.d, fun σ H Q s q => hi.go σ H _ s fun v H1 n1 o1 p1 => by
    obtain ⟨l, vs, rfl, hl, hall⟩ := p1
    have hlen := hall.length
    refine ⟨l, rfl, ⟨vs, ex_t mask_sub hl⟩, fun Dl hDl => ?_⟩
    have s1 := s.go hi.d n1 o1
    refine lc_tup (xs := vs) (fun n H' => LcSt (wipeR ρ (own.map (·.2))) (ms n) (wipe σ (own.map (·.2))) (mask H1 (dom m1)) Dl (picks (bs) Rs n) H') (by have := LcSt.start (bs := bs) (Rs := Rs) (own := own.map (·.2)) s1 hDl; rw [h0]; exact this) (fun n H' _ st => ex_t mask_sub (ex_t st.gr (by rw [hi.d]; exact hl))) ?_ ?_
    · intro n y H' hy st
      obtain ⟨P, hP, hpy⟩ := hall.getR hy
      have hn : n < Ps.length := (List.getElem?_eq_some_iff.mp hP).1
      refine ⟨ok.hw σ y, ?_⟩
      exact lc_turn (mn' := ms (n + 1)) st (by omega) (by rw [hi.d]; exact hpy) ((hd _).trans (hd _).symm) (fun q => BT.ev (ht n P q hP) rfl) (fun hb q => BE.ev (he n P q hP hb) (by have e1 := hd (n + 1); have e2 := hd n; simp only [dom, List.map_cons] at e1 e2 ⊢; rw [e1, e2])) (hno n)
    · intro H' st
      rw [← hlen] at st
      refine st.finO fun l' H'' o'' g'' => ?_
      have n1' : Ex (mask H (dom m)) (mask H1 (dom m1)) := by rw [hi.d]; exact n1
      exact q l' H'' o'' (n1'.trans g'')⟩
/-- [elt for x in range(n)]; the store may turn -/
theorem a_lcR {N : Int} {arg : Expr} (hg : Gl X "range") (hm : X.mg "range" = none) (ok : LcOk X scope own x jx) (hi : AE X arg ρ m (I N) m1) (ms : Nat → Sto) (Rs : Nat → MP) (h0 : ms 0 = m1) (hd : ∀ n, dom (ms n) = dom m1) (hz : N ≤ 40000) (hz0 : -40000 ≤ N)
    (he : ∀ (n : Nat) q, (n : Int) < N → BE X scope elt ((wipeR ρ (own.map (·.2))).set jx (some (I (n : Int)))) (q :: ms n) (Rs n) (q :: ms (n + 1))) (hse : starEach [arg] X.env = [(false, eval arg X.env)] := by rfl) (hs : ∀ x, foldedSetIterable (.Call (.Name "range" p2) [arg] [] p3) X.env x = pure x := by intro _; rfl) :
    AE X (.ListComp elt [⟨.Name x px, .Call (.Name "range" p2) [arg] [] p3, [], 0⟩] scope pos) ρ m (L X.K ((List.range N.toNat).map Rs)) (ms N.toNat) :=
  have ha : AA X [arg] ρ m [I N] m1 := EvA.can (pa_cons pcE pa_nil hse) (ea_cons hi ea_nil)
  Ev.can (pe_lc ok.hc ok.hN (pi_range1 hg hm pcA hse) ok.ok ok.pg (fun _ _ _ _ _ => pts_nil) pcB hs) ⟨(hd _).trans hi.d, fun σ H Q s q => ha.go σ H _ s fun ws H1 n1 o1 p1 => by
    match ws, p1 with
    | [v], .cons q1 .nil =>
    have q1 : v = .int N := q1
    subst q1
    refine ⟨N, rfl, by omega, by omega, fun Dl hDl => ?_⟩
    have s1 := s.go hi.d n1 o1
    refine lc_range (lo := 0) (n := N.toNat) (fun n H' => LcSt (wipeR ρ (own.map (·.2))) (ms n) (wipe σ (own.map (·.2))) (mask H1 (dom m1)) Dl (picks (fun _ => true) Rs n) H') (by have := LcSt.start (bs := fun _ => true) (Rs := Rs) (own := own.map (·.2)) s1 hDl; rw [h0]; exact this) ?_ ?_
    · intro n H' hn st
      have e0 : (0 : Int) + (n : Int) = (n : Int) := Int.zero_add _
      rw [e0]
      refine ⟨ok.hw σ _, ?_⟩
      exact lc_turn (mn' := ms (n + 1)) st (by omega) (P := I (n : Int)) rfl ((hd _).trans (hd _).symm) (fun q => et_yes) (fun _ q => BE.ev (he n q (by omega)) (by have e1 := hd (n + 1); have e2 := hd n; simp only [dom, List.map_cons] at e1 e2 ⊢; rw [e1, e2])) (fun z => nomatch z)
    · intro H' st
      refine st.fin (K := X.K) fun v H'' o'' g'' p'' => q v H'' ?_ o'' ?_
      · have g3 : Ex (mask H1 (dom m)) (mask H'' (dom m)) := by
          have g4 : Ex (mask H1 (dom m1)) (mask H'' (dom (ms N.toNat))) := g''
          rw [hd, hi.d] at g4; exact g4
        exact Ex.trans n1 g3
      · rw [← picks_all]
        have p3 : (L X.K (picks (fun _ => true) Rs N.toNat)).p (mask H'' (dom (ms N.toNat))) v := p''
        rw [hd, hi.d] at p3; exact p3⟩
/-- [elt for x in range(n)]; the store may turn -/
theorem o_lcR {N : Int} {arg : Expr} (hg : Gl X "range") (hm : X.mg "range" = none) (ok : LcOk X scope own x jx) (hi : AE X arg ρ m (I N) m1) (ms : Nat → Sto) (Rs : Nat → MP) (h0 : ms 0 = m1) (hd : ∀ n, dom (ms n) = dom m1) (hz : N ≤ 40000) (hz0 : -40000 ≤ N)
    (he : ∀ (n : Nat) q, (n : Int) < N → BE X scope elt ((wipeR ρ (own.map (·.2))).set jx (some (I (n : Int)))) (q :: ms n) (Rs n) (q :: ms (n + 1))) (hse : starEach [arg] X.env = [(false, eval arg X.env)] := by rfl) (hs : ∀ x, foldedSetIterable (.Call (.Name "range" p2) [arg] [] p3) X.env x = pure x := by intro _; rfl) :
    AO X (.ListComp elt [⟨.Name x px, .Call (.Name "range" p2) [arg] [] p3, [], 0⟩] scope pos) ρ m (.lst ((List.range N.toNat).map Rs)) (ms N.toNat) :=
  have ha : AA X [arg] ρ m [I N] m1 := EvA.can (pa_cons pcE pa_nil hse) (ea_cons hi ea_nil)
  EvO.can (pe_lc ok.hc ok.hN (pi_range1 hg hm pcA hse) ok.ok ok.pg (fun _ _ _ _ _ => pts_nil) pcB hs) ⟨(hd _).trans hi.d, fun σ H Q s q => ha.go σ H _ s fun ws H1 n1 o1 p1 => by
    match ws, p1 with
    | [v], .cons q1 .nil =>
    have q1 : v = .int N := q1
    subst q1
    refine ⟨N, rfl, by omega, by omega, fun Dl hDl => ?_⟩
    have s1 := s.go hi.d n1 o1
    refine lc_range (lo := 0) (n := N.toNat) (fun n H' => LcSt (wipeR ρ (own.map (·.2))) (ms n) (wipe σ (own.map (·.2))) (mask H1 (dom m1)) Dl (picks (fun _ => true) Rs n) H') (by have := LcSt.start (bs := fun _ => true) (Rs := Rs) (own := own.map (·.2)) s1 hDl; rw [h0]; exact this) ?_ ?_
    · intro n H' hn st
      have e0 : (0 : Int) + (n : Int) = (n : Int) := Int.zero_add _
      rw [e0]
      refine ⟨ok.hw σ _, ?_⟩
      exact lc_turn (mn' := ms (n + 1)) st (by omega) (P := I (n : Int)) rfl ((hd _).trans (hd _).symm) (fun q => et_yes) (fun _ q => BE.ev (he n q (by omega)) (by have e1 := hd (n + 1); have e2 := hd n; simp only [dom, List.map_cons] at e1 e2 ⊢; rw [e1, e2])) (fun z => nomatch z)
    · intro H' st
      refine st.finO fun l' H'' o'' g'' => ?_
      have n1' : Ex (mask H (dom m)) (mask H1 (dom m1)) := by rw [hi.d]; exact n1
      rw [picks_all] at o'' g''
      exact q l' H'' o'' (n1'.trans g'')⟩
/-- [elt if test for x in range(n)]; the store may turn -/
theorem a_lcRf {N : Int} {arg : Expr} (hg : Gl X "range") (hm : X.mg "range" = none) (ok : LcOk X scope own x jx) (hi : AE X arg ρ m (I N) m1) (bs : Nat → Bool) {tst : Expr} (ms : Nat → Sto) (Rs : Nat → MP) (h0 : ms 0 = m1) (hd : ∀ n, dom (ms n) = dom m1) (hz : N ≤ 40000) (hz0 : -40000 ≤ N)
    (ht : ∀ (n : Nat) q, (n : Int) < N → BT X scope tst ((wipeR ρ (own.map (·.2))).set jx (some (I (n : Int)))) (q :: ms n) (bs n) (q :: ms n))
    (hno : ∀ n, bs n = false → ms (n + 1) = ms n) (he : ∀ (n : Nat) q, (n : Int) < N → bs n = true → BE X scope elt ((wipeR ρ (own.map (·.2))).set jx (some (I (n : Int)))) (q :: ms n) (Rs n) (q :: ms (n + 1))) (hse : starEach [arg] X.env = [(false, eval arg X.env)] := by rfl) (hs : ∀ x, foldedSetIterable (.Call (.Name "range" p2) [arg] [] p3) X.env x = pure x := by intro _; rfl) :
    AE X (.ListComp elt [⟨.Name x px, .Call (.Name "range" p2) [arg] [] p3, [tst], 0⟩] scope pos) ρ m (L X.K (picks bs Rs N.toNat)) (ms N.toNat) :=
  have ha : AA X [arg] ρ m [I N] m1 := EvA.can (pa_cons pcE pa_nil hse) (ea_cons hi ea_nil)
  Ev.can (pe_lc ok.hc ok.hN (pi_range1 hg hm pcA hse) ok.ok ok.pg (fun s H0 Cc cl fp => pts_one (pcBT s H0 Cc cl fp)) pcB hs) ⟨(hd _).trans hi.d, fun σ H Q s q => ha.go σ H _ s fun ws H1 n1 o1 p1 => by
    match ws, p1 with
    | [v], .cons q1 .nil =>
    have q1 : v = .int N := q1
    subst q1
    refine ⟨N, rfl, by omega, by omega, fun Dl hDl => ?_⟩
    have s1 := s.go hi.d n1 o1
    refine lc_range (lo := 0) (n := N.toNat) (fun n H' => LcSt (wipeR ρ (own.map (·.2))) (ms n) (wipe σ (own.map (·.2))) (mask H1 (dom m1)) Dl (picks (bs) Rs n) H') (by have := LcSt.start (bs := bs) (Rs := Rs) (own := own.map (·.2)) s1 hDl; rw [h0]; exact this) ?_ ?_
    · intro n H' hn st
      have e0 : (0 : Int) + (n : Int) = (n : Int) := Int.zero_add _
      rw [e0]
      refine ⟨ok.hw σ _, ?_⟩
      exact lc_turn (mn' := ms (n + 1)) st (by omega) (P := I (n : Int)) rfl ((hd _).trans (hd _).symm) (fun q => BT.ev (ht n q (by omega)) rfl) (fun hb q => BE.ev (he n q (by omega) hb) (by have e1 := hd (n + 1); have e2 := hd n; simp only [dom, List.map_cons] at e1 e2 ⊢; rw [e1, e2])) (hno n)
    · intro H' st
      refine st.fin (K := X.K) fun v H'' o'' g'' p'' => q v H'' ?_ o'' ?_
      · have g3 : Ex (mask H1 (dom m)) (mask H'' (dom m)) := by
          have g4 : Ex (mask H1 (dom m1)) (mask H'' (dom (ms N.toNat))) := g''
          rw [hd, hi.d] at g4; exact g4
        exact Ex.trans n1 g3
      · have p3 : (L X.K (picks (bs) Rs N.toNat)).p (mask H'' (dom (ms N.toNat))) v := p''
        rw [hd, hi.d] at p3; exact p3⟩
/-- [elt if test for x in range(n)]; the store may turn -/
theorem o_lcRf {N : Int} {arg : Expr} (hg : Gl X "range") (hm : X.mg "range" = none) (ok : LcOk X scope own x jx) (hi : AE X arg ρ m (I N) m1) (bs : Nat → Bool) {tst : Expr} (ms : Nat → Sto) (Rs : Nat → MP) (h0 : ms 0 = m1) (hd : ∀ n, dom (ms n) = dom m1) (hz : N ≤ 40000) (hz0 : -40000 ≤ N)
    (ht : ∀ (n : Nat) q, (n : Int) < N → BT X scope tst ((wipeR ρ (own.map (·.2))).set jx (some (I (n : Int)))) (q :: ms n) (bs n) (q :: ms n))
    (hno : ∀ n, bs n = false → ms (n + 1) = ms n) (he : ∀ (n : Nat) q, (n : Int) < N → bs n = true → BE X scope elt ((wipeR ρ (own.map (·.2))).set jx (some (I (n : Int)))) (q :: ms n) (Rs n) (q :: ms (n + 1))) (hse : starEach [arg] X.env = [(false, eval arg X.env)] := by rfl) (hs : ∀ x, foldedSetIterable (.Call (.Name "range" p2) [arg] [] p3) X.env x = pure x := by intro _; rfl) :
    AO X (.ListComp elt [⟨.Name x px, .Call (.Name "range" p2) [arg] [] p3, [tst], 0⟩] scope pos) ρ m (.lst (picks bs Rs N.toNat)) (ms N.toNat) :=
  have ha : AA X [arg] ρ m [I N] m1 := EvA.can (pa_cons pcE pa_nil hse) (ea_cons hi ea_nil)
  EvO.can (pe_lc ok.hc ok.hN (pi_range1 hg hm pcA hse) ok.ok ok.pg (fun s H0 Cc cl fp => pts_one (pcBT s H0 Cc cl fp)) pcB hs) ⟨(hd _).trans hi.d, fun σ H Q s q => ha.go σ H _ s fun ws H1 n1 o1 p1 => by
    match ws, p1 with
    | [v], .cons q1 .nil =>
    have q1 : v = .int N := q1
    subst q1
    refine ⟨N, rfl, by omega, by omega, fun Dl hDl => ?_⟩
    have s1 := s.go hi.d n1 o1
    refine lc_range (lo := 0) (n := N.toNat) (fun n H' => LcSt (wipeR ρ (own.map (·.2))) (ms n) (wipe σ (own.map (·.2))) (mask H1 (dom m1)) Dl (picks (bs) Rs n) H') (by have := LcSt.start (bs := bs) (Rs := Rs) (own := own.map (·.2)) s1 hDl; rw [h0]; exact this) ?_ ?_
    · intro n H' hn st
      have e0 : (0 : Int) + (n : Int) = (n : Int) := Int.zero_add _
      rw [e0]
      refine ⟨ok.hw σ _, ?_⟩
      exact lc_turn (mn' := ms (n + 1)) st (by omega) (P := I (n : Int)) rfl ((hd _).trans (hd _).symm) (fun q => BT.ev (ht n q (by omega)) rfl) (fun hb q => BE.ev (he n q (by omega) hb) (by have e1 := hd (n + 1); have e2 := hd n; simp only [dom, List.map_cons] at e1 e2 ⊢; rw [e1, e2])) (hno n)
    · intro H' st
      refine st.finO fun l' H'' o'' g'' => ?_
      have n1' : Ex (mask H (dom m)) (mask H1 (dom m1)) := by rw [hi.d]; exact n1
      exact q l' H'' o'' (n1'.trans g'')⟩
end
end SV

/-! SVTxt: unpacking, texts, dicts, isinstance, lists joined. -/
namespace SV
open PySem L2 PyProof.Rows
open Evl (Ex ex_rd ex_l ex_t sz_of sz_lt)
section
variable {X : Cx} {ρ : Rho} {m m1 m2 m3 : Sto} {P P1 P2 P3 : MP} {mo mo' : MO} {e a b c f o elt iter : Expr} {es rest : List Expr} {pos p p2 p3 p4 apos cpos px py : Pos} {x y fl : Str} {i j k : Int} {te ta : TE} {A : TA} {D : Ends} {b0 : Hp} {sts : List Stmt} {scope : Scope}
theorem All.two {H : Hp} {P Q : MP} {vs : List V} (h : All H [P, Q] vs) : ∃ u w, vs = [u, w] ∧ P.p H u ∧ Q.p H w := by
  cases h with
  | cons h1 t => cases t with
    | cons h2 t => cases t; exact ⟨_, _, rfl, h1, h2⟩
theorem All.three {H : Hp} {P Q R : MP} {vs : List V} (h : All H [P, Q, R] vs) : ∃ u w z, vs = [u, w, z] ∧ P.p H u ∧ Q.p H w ∧ R.p H z := by
  cases h with
  | cons h1 t =>
    obtain ⟨u, w, e, h2, h3⟩ := All.two t
    subst e
    exact ⟨_, _, _, rfl, h1, h2, h3⟩
/-- x, y = e, e a tuple of two -/
theorem gs_unp {n1 n2 : Nat} {kt} {pt pos : Pos} (hc : X.calm = true) (hN : X.N.Nodup) (hi : X.N[n1]? = some x) (hj : X.N[n2]? = some y) (hx : Loc X.env.scope x) (hy : Loc X.env.scope y) (he : AE X e ρ m (T X.K [P1, P2]) m1)
    (k : GS X sts D ((ρ.set n1 (some P1)).set n2 (some P2)) m1 b0)
    (hf : X.fn x = true ∨ X.env.scope.names.lookup x = some .local := by first | exact .inl rfl | exact .inr rfl) (hf2 : X.fn y = true ∨ X.env.scope.names.lookup y = some .local := by first | exact .inl rfl | exact .inr rfl)
    (hs : swapsWithSole [.Tuple [.Name x px, .Name y py] kt pt] e pos.line X.env = pure false := by rfl) (hw : swappedStores [.Tuple [.Name x px, .Name y py] kt pt] e X.env = pure none := by rfl) :
    GS X (.Assign [.Tuple [.Name x px, .Name y py] kt pt] e pos :: sts) D ρ m b0 :=
  gs_cons fun σ H s ex => cS_of (ps_asg pcE (pg_tup (n := 2) hc (pgs_cons (pg_name hN hi hx hf) (pgs_cons (pg_name hN hj hy hf2) pgs_nil))) hs hw) (he.go σ H _ s fun v H1 q1 o1 p1 => by
    obtain ⟨l, vs, rfl, hl, hall⟩ := p1
    obtain ⟨u, w, e2, h1, h2⟩ := All.two hall
    subst e2
    · refine ⟨l, [u, w], rfl, ex_t mask_sub hl, rfl, u, [w], rfl, w, [], rfl, rfl, ?_⟩
      exact k _ H1 ⟨by rw [he.d]; exact ((s.env.mono q1).set h1 n1).set h2 n2, o1⟩ (by rw [he.d]; exact ex.trans q1))
theorem gs_unp3 {n1 n2 n3 : Nat} {kt} {pt pos pz : Pos} {z : Str} (he : AE X e ρ m (T X.K [P1, P2, P3]) m1)
    (k : GS X sts D (((ρ.set n1 (some P1)).set n2 (some P2)).set n3 (some P3)) m1 b0)
    (hps : PS X (.Assign [.Tuple [.Name x px, .Name y py, .Name z pz] kt pt] e pos) (tAsg (cE X e) (gTup X.K 3 (gCons (gName n1) (gCons (gName n2) (gCons (gName n3) gNil)))))) : GS X (.Assign [.Tuple [.Name x px, .Name y py, .Name z pz] kt pt] e pos :: sts) D ρ m b0 :=
  gs_cons fun σ H s ex => cS_of hps (he.go σ H _ s fun v H1 q1 o1 p1 => by
    obtain ⟨l, vs, rfl, hl, hall⟩ := p1
    obtain ⟨u, w, w2, e2, h1, h2, h3⟩ := All.three hall
    subst e2
    · refine ⟨l, [u, w, w2], rfl, ex_t mask_sub hl, rfl, u, [w, w2], rfl, w, [w2], rfl, w2, [], rfl, rfl, ?_⟩
      exact k _ H1 ⟨by rw [he.d]; exact (((s.env.mono q1).set h1 n1).set h2 n2).set h3 n3, o1⟩ (by rw [he.d]; exact ex.trans q1))
/-! ### f-strings -/
inductive JS (X : Cx) : List Expr → Rho → Sto → List Str → Sto → Prop where
  | nil {ρ : Rho} {m : Sto} : JS X [] ρ m [] m
  | cons {e : Expr} {es : List Expr} {ρ : Rho} {m m1 m2 : Sto} {s : Str} {ss : List Str} (h : AE X e ρ m (S s) m1) (r : JS X es ρ m1 ss m2) : JS X (e :: es) ρ m (s :: ss) m2
theorem JS.d {ss : List Str} (h : JS X es ρ m ss m1) : dom m1 = dom m := by
  induction h with
  | nil => rfl
  | cons h r ih => exact ih.trans h.d
def glue : Str → List Str → Str
  | acc, [] => acc
  | acc, s :: ss => glue (acc ++ s) ss
def glens : List Str → Nat
  | [] => 0
  | s :: ss => s.length + glens ss
theorem slen (a b : Str) : (a ++ b).length = a.length + b.length := by
  show (Str.mk (a.cps ++ b.cps)).cps.size = _
  simp [Str.length]
theorem JS.go {ss : List Str} (h : JS X es ρ m ss m1) : ∃ ts, PJ X es ts ∧ ∀ (acc : Str) (σ : L2.St) (H : Hp) (Q : Str → Hp → Prop), acc.length + glens ss ≤ 1000000 → Stt ρ m σ H → (∀ H', Nxt m H H' → Own m1 H' → Q (glue acc ss) H') → tJs ts acc σ H Q := by
  induction h with
  | nil => exact ⟨[], .nil, fun acc σ H Q _ s q => q H .refl s.own⟩
  | @cons e es ρ m m1 m2 s ss h r ih =>
    obtain ⟨ts, hp, hg⟩ := ih
    refine ⟨cE X e :: ts, .cons pcE hp, fun acc σ H Q hz st q => ?_⟩
    refine h.go σ H _ st fun v H1 n1 o1 p1 => ⟨s, p1, ?_, ?_⟩
    · rw [slen]
      simp only [glens] at hz
      exact Nat.le_trans (by omega : acc.length + s.length ≤ 1000000) (by decide)
    · refine hg (acc ++ s) σ H1 Q ?_ (st.go h.d n1 o1) fun H2 n2 o2 => q H2 (n1.trans h.d n2) o2
      rw [slen]
      simp only [glens] at hz
      omega
theorem a_fstr {e1 e2 : Expr} {ss : List Str} (h : JS X (e1 :: e2 :: es) ρ m ss m1) (hz : glens ss ≤ 1000000) : AE X (.JoinedStr (e1 :: e2 :: es) pos) ρ m (S (glue Str.empty ss)) m1 := by
  obtain ⟨ts, hp, hg⟩ := h.go
  refine Ev.can (pe_joined hp) ⟨h.d, fun σ H Q s q => hg Str.empty σ H _ (by show 0 + _ ≤ _; omega) s fun H1 n1 o1 => q _ H1 n1 o1 rfl⟩
theorem a_fstr1 (h : AE X e ρ m P m1) : AE X (.JoinedStr [e] pos) ρ m P m1 := Ev.can (pe_joined1 pcE) h
theorem a_fmtS {s : Str} (h : AE X e ρ m (S s) m1) (hz : s.length ≤ 1000000) : AE X (.FormattedValue e (-1) none pos) ρ m (S s) m1 :=
  Ev.can (pe_fmt pcE) ⟨h.d, fun σ H Q st q => h.go σ H _ st fun v H1 n1 o1 p1 => .inl ⟨s, p1, Nat.le_trans hz (by decide), q _ H1 n1 o1 rfl⟩⟩
theorem a_fmtI (h : AE X e ρ m (I i) m1) (hz : i.natAbs.log2 < 1920) : AE X (.FormattedValue e (-1) none pos) ρ m (S (toString i)) m1 :=
  Ev.can (pe_fmt pcE) ⟨h.d, fun σ H Q st q => h.go σ H _ st fun v H1 n1 o1 p1 => .inr ⟨i, p1, hz, q _ H1 n1 o1 rfl⟩⟩
theorem all_of {α : Type} {H : Hp} (f : α → V) : ∀ {xs : List α}, All H (xs.map fun x => C (f x)) (xs.map f)
  | [] => .nil
  | _ :: _ => .cons rfl (all_of f)
/-! ### methods of texts -/
theorem ev_m1 {r : V → List V → Hp → VK → Prop} {s : Str} {tb : TE} (ha : Ev ta ρ m (S s) m1) (hb : Ev tb ρ m1 P2 m2) (hr : RM r (S s) [P2] P) : Ev (tM1 r ta tb) ρ m P m2 := ⟨hb.d.trans ha.d, fun σ H Q st q => by
  refine ha.go σ H _ st fun v H1 n1 o1 p1 => ⟨⟨s, p1⟩, ?_⟩
  have s1 := st.go ha.d n1 o1
  refine hb.go σ H1 _ s1 fun u H2 n2 o2 p2 => ?_
  have hd := hb.d.trans ha.d
  refine hr (dom m2) H2 v [u] _ o2.frees p1 (.cons (by rw [hb.d]; exact p2) .nil) fun z H3 e3 pz => ?_
  refine q z H3 ((n1.trans ha.d n2).trans hd (Nxt.of e3)) (o2.ext e3) ?_
  rw [hd] at pz; exact pz⟩
theorem a_split {s t : Str} (ho : AE X o ρ m (S s) m1) (he : AE X e ρ m1 (S t) m2) (ht : (t.length == 0) = false) (hz : s.length ≤ 1000000) (hs : starEach [e] X.env = [(false, eval e X.env)] := by rfl) (hbase : attributeBase o "split" X.env (eval o X.env) = eval o X.env := by rfl) (hline : (apos.endLine == pos.line) = true := by rfl) :
    AE X (.Call (.Attribute o "split" apos) [e] [] pos) ρ m (L X.K ((Txt.split s t).map S)) m2 := Ev.can (pe_split pcE pcE hs hbase hline) (ev_m1 ho he fun d H v vs Q fr h1 h2 q => by
  match vs, h2 with
  | [_], .cons rfl .nil =>
    refine ⟨s, t, h1, rfl, ht, Nat.le_trans (Nat.add_le_add_right hz 2) (by decide), fun l hl => q _ _ (Ex.new hl) ⟨l, _, rfl, Or.inl (Or.inl (fr.at hl)), ?_⟩⟩
    exact all_of V.str)
abbrev joinLen (s : Str) (ys : List Str) : Nat := (ys.map (·.length)).sum + ys.length * s.length
theorem a_joinL {s : Str} {ys : List Str} (ho : AE X o ρ m (S s) m1) (he : AE X e ρ m1 (L X.K (ys.map S)) m2) (hz : joinLen s ys ≤ 16777216) (hs : starEach [e] X.env = [(false, eval e X.env)] := by rfl) (hbase : attributeBase o "join" X.env (eval o X.env) = eval o X.env := by rfl) (hline : (apos.endLine == pos.line) = true := by rfl) :
    AE X (.Call (.Attribute o "join" apos) [e] [] pos) ρ m (S (Txt.join s ys)) m2 := Ev.can (pe_join pcE pcE hs hbase hline) (ev_m1 ho he fun d H v vs Q fr h1 h2 q => by
  match vs, h2 with
  | [_], .cons ⟨l, ws, rfl, hl, hall⟩ .nil =>
    have e := all_map V.str hall
    subst e
    exact ⟨s, l, ys, h1, rfl, .inl (ex_l mask_sub hl), hz, q _ H (Ex.refl _) rfl⟩)
theorem a_startswith {s t : Str} (ho : AE X o ρ m (S s) m1) (he : AE X e ρ m1 (S t) m2) (hs : starEach [e] X.env = [(false, eval e X.env)] := by rfl) (hbase : attributeBase o "startswith" X.env (eval o X.env) = eval o X.env := by rfl) (hline : (apos.endLine == pos.line) = true := by rfl) :
    AE X (.Call (.Attribute o "startswith" apos) [e] [] pos) ρ m (B (Txt.startswith s t)) m2 := Ev.can (pe_m1 F.slot_str_startswith F.type_str_startswith mt_startswith pcE pcE hs hbase hline) (ev_m1 ho he fun d H v vs Q fr h1 h2 q => by
  match vs, h2 with
  | [_], .cons rfl .nil => exact ⟨s, t, h1, rfl, q _ H (Ex.refl _) rfl⟩)
/-! ### in -/
theorem rv_inL {K : PySem.W.Frag} {neg : Bool} {v : V} {ws : List V} (h1 : flatV v = true) (h2 : ws.all flatV = true) : RV (rIn K neg) (C v) (L K (ws.map C)) (B (if neg then !inV v ws else inV v ws)) := fun d H x u Q _ p1 p2 q => by
  cases p1
  obtain ⟨l, zs, rfl, hl, hall⟩ := p2
  have e := all_map (fun z : V => z) hall
  simp only [List.map_id'] at e
  subst e
  exact ⟨l, zs, rfl, .inl (ex_l mask_sub hl), h1, h2, q _ H (Ex.refl _) rfl⟩
theorem rv_inT {K : PySem.W.Frag} {neg : Bool} {v : V} {ws : List V} (h1 : flatV v = true) (h2 : ws.all flatV = true) : RV (rIn K neg) (C v) (T K (ws.map C)) (B (if neg then !inV v ws else inV v ws)) := fun d H x u Q _ p1 p2 q => by
  cases p1
  obtain ⟨l, zs, rfl, hl, hall⟩ := p2
  have e := all_map (fun z : V => z) hall
  simp only [List.map_id'] at e
  subst e
  exact ⟨l, zs, rfl, .inr (ex_t mask_sub hl), h1, h2, q _ H (Ex.refl _) rfl⟩
theorem inV_str {s : Str} {ws : List Str} : inV (.str s) (ws.map V.str) = decide (s ∈ ws) := by
  unfold inV
  induction ws with
  | nil => rfl
  | cons w ws ih =>
    rw [List.map_cons, List.any_cons, ih]
    show (w == s || decide (s ∈ ws)) = _
    by_cases h : w = s
    · subst h; simp
    · have : ¬ s = w := fun z => h z.symm
      simp [h, this]
theorem flat_strs {ws : List Str} : (ws.map V.str).all flatV = true := by
  rw [List.all_map]
  exact List.all_eq_true.mpr fun _ _ => rfl
theorem map_S {ws : List Str} : ws.map S = (ws.map V.str).map C := by rw [List.map_map]; rfl
theorem t_inT {s : Str} {ws : List Str} (ha : AE X a ρ m (S s) m1) (hb : AE X b ρ m1 (T X.K (ws.map S)) m2) (hm : behindInMarks .In b = false := by rfl) : AT X (.Compare a [.In] [b] pos) ρ m (decide (s ∈ ws)) m2 :=
  (t_cmp op_in_seq (rv_inT (neg := false) rfl flat_strs) ha (by rw [map_S] at hb; exact hb) hm).eq (by show inV _ _ = _; exact inV_str)
theorem t_ninT {s : Str} {ws : List Str} (ha : AE X a ρ m (S s) m1) (hb : AE X b ρ m1 (T X.K (ws.map S)) m2) (hm : behindInMarks .NotIn b = false := by rfl) : AT X (.Compare a [.NotIn] [b] pos) ρ m (!decide (s ∈ ws)) m2 :=
  (t_cmp op_notIn_seq (rv_inT (neg := true) rfl flat_strs) ha (by rw [map_S] at hb; exact hb) hm).eq (by show (!inV _ _) = _; rw [inV_str])
/-- one sign in a text -/
theorem a_inS {n : Nat} {s : Str} (ha : AE X a ρ m (S ⟨#[n]⟩) m1) (hb : AE X b ρ m1 (S s) m2) (hm : behindInMarks .In b = false := by rfl) : AE X (.Compare a [.In] [b] pos) ρ m (B (decide (n ∈ s.cps.toList))) m2 :=
  a_cmp op_in_sign (fun d H v u Q _ h1 h2 q => ⟨n, s, h1, h2, q _ H (Ex.refl _) rfl⟩) ha hb hm
/-! ### lists joined -/
theorem rv_cat {K : PySem.W.Frag} {Ps Qs : List MP} (hK : ∀ a xs, SqL K (fun _ => none) a xs → False) (hz : Ps.length + Qs.length ≤ 100000) (hf : ∀ H a xs, SqL K H a xs → H a = some (.lst xs)) : RV rCat (L K Ps) (L K Qs) (L K (Ps ++ Qs)) := fun d H v u Q fr h1 h2 q => by
  obtain ⟨l, xs, rfl, hl, hall⟩ := h1
  obtain ⟨l2, ys, rfl, hl2, hall2⟩ := h2
  refine ⟨l, l2, xs, ys, rfl, rfl, hf _ _ _ (ex_l mask_sub hl), hf _ _ _ (ex_l mask_sub hl2), sz_of (by rw [← hall.length, ← hall2.length]; exact hz), fun z hz => q _ _ (Ex.new hz) ⟨z, _, rfl, Or.inl (Or.inl (fr.at hz)), (hall.append hall2).mono (mask_ex (Ex.new hz))⟩⟩
/-! ### isinstance -/
theorem rc_isi {K : PySem.W.Frag} {t u : Value} {cv : V} {r : Bool} (hc : ClsV cv u) (ht : ∀ (d : List Addr) H v, P.p (mask H d) v → TyX K H v t) (hk : PySem.W.kitOne K t u = some r) : RC (rIsi K) [P, C cv] (B r) := fun d H vs Q _ h q => by
  match vs, h with
  | [z, _], .cons hz (.cons rfl .nil) => exact ⟨z, cv, t, u, r, rfl, hc, ht d H z hz, hk, q _ H (Ex.refl _) rfl⟩
theorem tyx_c {K : PySem.W.Frag} {v : V} {t : Value} (h : ∀ H, TyX K H v t) : ∀ (d : List Addr) H w, (C v).p (mask H d) w → TyX K H w t := fun _ H w e => by
  have e : w = v := e
  subst e
  exact h H
theorem tyx_i {K : PySem.W.Frag} : ∀ (d : List Addr) H w, (I i).p (mask H d) w → TyX K H w (.type "int") := tyx_c fun _ => .base (.int i)
theorem tyx_s {K : PySem.W.Frag} {s : Str} : ∀ (d : List Addr) H w, (S s).p (mask H d) w → TyX K H w (.type "str") := tyx_c fun _ => .base (.str s)
theorem tyx_b {K : PySem.W.Frag} {t : Bool} : ∀ (d : List Addr) H w, (B t).p (mask H d) w → TyX K H w (.type "bool") := tyx_c fun _ => .base (.bl t)
theorem tyx_n {K : PySem.W.Frag} : ∀ (d : List Addr) H w, N.p (mask H d) w → TyX K H w (.type "NoneType") := tyx_c fun _ => .base .non
theorem tyx_L {K : PySem.W.Frag} {Ps : List MP} : ∀ (d : List Addr) H w, (L K Ps).p (mask H d) w → TyX K H w (.type "list") := fun d H w ⟨l, xs, e, h, _⟩ => by
  subst e
  rcases ex_l mask_sub h with (h | ⟨o, h⟩) | ⟨o, its, n, h1, h2, _⟩
  · exact .base (.lst h)
  · exact .base (.frz h)
  · exact .kList h1 h2
theorem tyx_T {K : PySem.W.Frag} {Ps : List MP} : ∀ (d : List Addr) H w, (T K Ps).p (mask H d) w → TyX K H w (.type "tuple") := fun d H w ⟨l, xs, e, h, _⟩ => by
  subst e
  rcases ex_t mask_sub h with (h | ⟨o, h⟩) | ⟨o, its, n, h1, h2, _⟩
  · exact .base (.tup h)
  · exact .fTuple h
  · exact .kTuple h1 h2
structure ClsI (K : PySem.W.Frag) (Cc : Addr) : Prop where
  cl : Cls K Cc
  ha : PySem.W.findIn K (.ref Cc) "__class__" = some (some (.builtin "object.__class__"))
  hn : PySem.W.specialIn K (.builtin "object.__class__") "__get__" = some (some (.builtin "getset_descriptor.__get__"))
  tk : PySem.W.takesIn K (.builtin "object.__class__") = some true
  hm : PySem.W.mroIn K Cc (.type "object") = some true
theorem tyx_O {K : PySem.W.Frag} {Cc : Addr} {fs : List (Str × MP)} (c : ClsI K Cc) : ∀ (d : List Addr) H w, (O Cc fs).p (mask H d) w → TyX K H w (.ref Cc) := fun d H w ⟨l, dx, ws, e, h, _⟩ => by
  subst e
  exact .base (.ins (mask_sub _ _ h) c.cl c.ha c.hn c.tk c.hm)
/-! ### dicts with text keys, as values -/
/-- a dict that nobody changes any more -/
def Dk (kvs : List (Key × MP)) : MP := ⟨fun H v => ∃ a ws, v = .ref a ∧ H a = some (.dK ws) ∧ KVs H kvs ws, fun e ⟨a, ws, h1, h2, h3⟩ => ⟨a, ws, h1, e _ _ h2, h3.mono e⟩⟩
def valM (kvs : List (Key × MP)) (k : Key) : Option MP := (kvs.find? fun kv => decide (kv.1 = k)).map (·.2)
theorem KVs.val {H : Hp} {k : Key} : ∀ {Ps : List (Key × MP)} {vs : List (Key × V)}, KVs H Ps vs → (∀ P, valM Ps k = some P → ∃ v, valV vs k = some v ∧ P.p H v) ∧ (valM Ps k = none → valV vs k = none)
  | _, _, .nil => ⟨fun P e => (nomatch e), fun _ => rfl⟩
  | (g, P0) :: Ps, (g', v0) :: vs, .cons h t => by
    obtain ⟨h1, h2⟩ := h
    simp only at h1 h2
    subst h1
    have ih := KVs.val (k := k) t
    unfold valM valV at ih ⊢
    by_cases q : g = k
    · simp only [List.find?_cons, q, decide_true, Option.map_some]
      exact ⟨fun P e => by cases e; exact ⟨v0, rfl, h2⟩, fun e => (nomatch e)⟩
    · simp only [List.find?_cons, q, decide_false]
      exact ih
theorem a_dget {kvs : List (Key × MP)} {k : Key} (hu : X.A.units + 1 < cLine) (ho : AE X o ρ m (Dk kvs) m1) (hi : AE X a ρ m1 (C (kV k)) m2) (hv : valM kvs k = some P) (hs : NoSl a) : AE X (.Subscript o a pos) ρ m P m2 :=
  Ev.can (pe_dget hu pcE pcE hs) ⟨hi.d.trans ho.d, fun σ H Q s q => ho.go σ H _ s fun v H1 n1 o1 p1 => hi.go σ H1 _ (s.go ho.d n1 o1) fun u H2 n2 o2 p2 => by
    have p2 : u = kV k := p2
    subst p2
    obtain ⟨l, ws, rfl, hl, hall⟩ := (Dk kvs).mono (n2.to ho.d) p1
    obtain ⟨z, hz, pz⟩ := (hall.val (k := k)).1 P hv
    refine ⟨l, z, rfl, ?_, q z H2 (n1.trans ho.d n2) o2 pz⟩
    rw [← hz]
    exact DGet.k (mask_sub _ _ hl)⟩
end
end SV

/-! SVGen: what the laws share: drawing from the pool, the comparison of data. -/
namespace SV
open PySem L2 PyProof.Rows
open Evl (Ex ex_rd ex_l ex_t sz_of sz_lt)
section
variable {P : Program} {w : World} {K : PySem.W.Frag} {mg : Str → Option Value} {base : Heap}
theorem Fk_of {x qual : Str} {st : Stmt} {sp : Sp} {k : Nat} {ps : List Str} (d : ∃ f fd, Fun K x qual st f fd ∧ mg x = some (.ref f))
    (hb : ∀ (kV doc pm : Value) (an : Option Addr) (cdv ct : Value) (us : List Value), us.length = ps.length → bindArgs (PySem.W.fnOf x qual (defArgs st) (defBody st) (defScope st) .none kV doc pm an cdv ct) ⟨us, []⟩ = pure (ps.zip us))
    (ok : ∀ f fd, Fun K x qual st f fd → FnOk P w K mg base CX0 k f fd ps sp) : Fk P w K mg base k x sp [] := by
  obtain ⟨f, fd, F, h⟩ := d
  exact ⟨f, fd, ps, [], ok f fd F, h, F.kp, F.binds hb, .nil⟩
end
/-! ### data -/
inductive Dt where
  | int (i : Int) | bl (b : Bool) | str (s : Str) | non
  | tup (xs : List Dt) | lst (xs : List Dt)
mutual
def rp (K : PySem.W.Frag) : Dt → MP
  | .int i => I i
  | .bl b => B b
  | .str s => S s
  | .non => N
  | .tup xs => T K (rps K xs)
  | .lst xs => L K (rps K xs)
def rps (K : PySem.W.Frag) : List Dt → List MP
  | [] => []
  | x :: xs => rp K x :: rps K xs
end
mutual
def Dt.dp : Dt → Nat
  | .tup xs => dps xs + 1
  | .lst xs => dps xs + 1
  | _ => 0
def dps : List Dt → Nat
  | [] => 0
  | x :: xs => max x.dp (dps xs)
end
theorem rps_map (K : PySem.W.Frag) : ∀ xs, rps K xs = xs.map (rp K)
  | [] => by simp [rps]
  | x :: xs => by simp [rps, rps_map K xs]
theorem rps_len (K : PySem.W.Frag) (xs : List Dt) : (rps K xs).length = xs.length := by rw [rps_map, List.length_map]
theorem rps_get (K : PySem.W.Frag) {xs : List Dt} {i : Nat} {x : Dt} (h : xs[i]? = some x) : (rps K xs)[i]? = some (rp K x) := by
  rw [rps_map, List.getElem?_map, h] <;> rfl
theorem dps_get : ∀ {xs : List Dt} {i : Nat} {x : Dt}, xs[i]? = some x → x.dp ≤ dps xs
  | y :: ys, 0, x, h => by
    simp at h
    subst h
    simp only [dps]
    omega
  | y :: ys, i + 1, x, h => by
    have := dps_get (xs := ys) (i := i) (x := x) (by simpa using h)
    simp only [dps]
    omega
  | [], i, x, h => by simp at h
theorem atI_nat' {α : Type} {xs : List α} {i : Nat} {x : α} (h : xs[i]? = some x) : atI xs (i : Int) = some x := by
  have hi : i < xs.length := (List.getElem?_eq_some_iff.mp h).1
  unfold atI ixN
  rw [if_pos (by omega), if_pos (by omega)]
  exact h
mutual
def Dt.wd : Dt → Nat
  | .tup xs => max xs.length (wds xs)
  | .lst xs => max xs.length (wds xs)
  | _ => 0
def wds : List Dt → Nat
  | [] => 0
  | x :: xs => max x.wd (wds xs)
end
theorem wds_get : ∀ {xs : List Dt} {i : Nat} {x : Dt}, xs[i]? = some x → x.wd ≤ wds xs
  | y :: ys, 0, x, h => by
    simp at h
    subst h
    simp only [wds]
    omega
  | y :: ys, i + 1, x, h => by
    have := wds_get (xs := ys) (i := i) (x := x) (by simpa using h)
    simp only [wds]
    omega
  | [], i, x, h => by simp at h
/-- the comparison of data says that equal data are equal -/
def cSame (K : PySem.W.Frag) (n : Nat) : Ct := fun Ps m P m' => ∃ d : Dt, Ps = [rp K d, rp K d] ∧ d.dp ≤ n ∧ d.wd ≤ 10000 ∧ P = B true ∧ m' = m
section
variable {X : Cx} {ρ : Rho} {m m1 m2 m3 : Sto} {P P1 P2 P3 : MP} {e a b c : Expr} {pos p p2 : Pos} {x : Str}
theorem a_isi {n : String} {t : Value} {r : Bool} (ha : AE X e ρ m P m1) (ht : ∀ (d : List Addr) H v, P.p (mask H d) v → TyX X.K H v t) (hk : PySem.W.kitOne X.K t (.type n) = some r) (hm : X.mg "isinstance" = none) (hm2 : X.mg x = none) (hv2 : bootBuiltins x = some (.type n))
    (hg : Gl X "isinstance" := by rfl) (hg2 : Gl X x := by rfl) (hn : x ≠ "__name__" := by decide) (hd : (x == ("__debug__" : Str)) = false := by decide)
    (he : starEach [e, .Name x p2] X.env = (false, eval e X.env) :: starEach [.Name x p2] X.env := by rfl) (he2 : starEach [.Name x p2] X.env = (false, eval (.Name x p2) X.env) :: starEach [] X.env := by rfl) (hpl : (backTo pos (starEach [.Name x p2] X.env)).any (·.1) = false := by rfl) :
    AE X (.Call (.Name "isinstance" p) [e, .Name x p2] [] pos) ρ m (B r) m1 :=
  a_cb call_isi (rc_isi (.ty n) ht hk) hm (by decide +kernel) (aa_cons ha (aa_cons (a_bty hm2 hv2 hg2 hn hd) aa_nil he2) he) hg (by decide) (by decide) he hpl
/-- .. an own class -/
theorem a_isC {t : Value} {Cc : Addr} {r : Bool} (ha : AE X e ρ m P m1) (ht : ∀ (d : List Addr) H v, P.p (mask H d) v → TyX X.K H v t) (hk : PySem.W.kitOne X.K t (.ref Cc) = some r) (hm : X.mg "isinstance" = none) (hm2 : X.mg x = some (.ref Cc))
    (hg : Gl X "isinstance" := by rfl) (hg2 : Gl X x := by rfl) (hd : (x == ("__debug__" : Str)) = false := by decide)
    (he : starEach [e, .Name x p2] X.env = (false, eval e X.env) :: starEach [.Name x p2] X.env := by rfl) (he2 : starEach [.Name x p2] X.env = (false, eval (.Name x p2) X.env) :: starEach [] X.env := by rfl) (hpl : (backTo pos (starEach [.Name x p2] X.env)).any (·.1) = false := by rfl) :
    AE X (.Call (.Name "isinstance" p) [e, .Name x p2] [] pos) ρ m (B r) m1 :=
  a_cb call_isi (rc_isi (.own Cc) ht hk) hm (by decide +kernel) (aa_cons ha (aa_cons (a_gref hm2 hg2 hd) aa_nil he2) he) hg (by decide) (by decide) he hpl
end
/-! ### the pool -/
structure Pool where
  script : List Int
  pos : Int
  cur : Int
  seed : Int
  left : Int
  bud : Int
abbrev Pool.mo (K : PySem.W.Frag) (p : Pool) : MO := .lst [L K (p.script.map I), I p.pos, I p.cur, I p.seed, I p.left, I p.bud]
def Pool.next (p : Pool) : Pool :=
  if p.cur ≤ 0 ∧ p.left ≤ 0 ∧ p.pos < p.script.length then
    { p with pos := p.pos + 1, seed := (p.seed * 31 + p.script.getD p.pos.toNat 0) % 2147483647, left := 7, cur := if p.script.getD p.pos.toNat 0 ≥ 10 ^ 18 then p.script.getD p.pos.toNat 0 else p.cur }
  else p
def Pool.draw (p : Pool) (size : Int) : Int × Pool :=
  if p.next.cur > 0 then (p.next.cur % size, { p.next with cur := p.next.cur / size, left := 0 })
  else (((p.next.seed * 48271 + 12345) % 2147483647 * 69621 + 7919) % 2147483647 % size, { p.next with left := p.next.left - 1, seed := (p.next.seed * 48271 + 12345) % 2147483647 })
theorem Pool.draw_lt (p : Pool) {size : Int} (h : 0 < size) : 0 ≤ (p.draw size).1 ∧ (p.draw size).1 < size := by
  unfold Pool.draw
  split
  · exact ⟨Int.emod_nonneg _ (by omega), Int.emod_lt_of_pos _ h⟩
  · exact ⟨Int.emod_nonneg _ (by omega), Int.emod_lt_of_pos _ h⟩
theorem Pool.next_pos {p : Pool} (h : 0 ≤ p.pos) : 0 ≤ p.next.pos := by
  unfold Pool.next
  split
  · show 0 ≤ p.pos + 1
    omega
  · exact h
theorem Pool.draw_pos {p : Pool} {size : Int} (h : 0 ≤ p.pos) : 0 ≤ (p.draw size).2.pos := by
  unfold Pool.draw
  split <;> exact Pool.next_pos h
def cPool (K : PySem.W.Frag) : CtO := fun Ps m mo m' => ∃ (ns : List Int) (b : Int), Ps = [L K (ns.map I), I b] ∧ mo = Pool.mo K ⟨ns, 0, 0, 1, 0, b⟩ ∧ m' = m
def cDraw (K : PySem.W.Frag) : Ct := fun Ps m P m' => ∃ (i : Nat) (a : Addr) (p : Pool) (size : Int), Ps = [R a, I size] ∧ m[i]? = some (a, p.mo K) ∧ 0 < size ∧ size < 1073741824 ∧ 0 ≤ p.pos ∧ P = I (p.draw size).1 ∧ m' = m.set i (a, (p.draw size).2.mo K)
end SV
namespace SV
open PySem L2 PyProof.Rows
open Evl (Ex ex_rd ex_l ex_t sz_of sz_lt)
section
variable {P : Program} {w : World} {K : PySem.W.Frag} {mg : Str → Option Value} {base : Heap}
theorem FunD_ct {x qual : Str} {params : Arguments} {body : List Stmt} {scope : Scope} {dvs : List V} {kws : List (Str × V)} {f : Addr} {fd : FuncData} {N ps : List Str} {k : Nat} (F : FunD K x qual params body scope dvs kws f fd) (Sc : FnScope N ps scope) (S : Ct) (hl : ∀ Ps m P m', S Ps m P m' → Ps.length = ps.length)
    (hbody : ∀ (cdv : Value) (A : Around) (outer : List PySem.Env) (s : Shared) (H : Hp) (E : XK), Room k (A.deeper (envOfC qual scope s.heap.objs.size f cdv)) → ∀ (Ps : List MP) (m : Sto) (Pr : MP) (m' : Sto), S Ps m Pr m' → ∀ (b0 : Hp) (Q : VK), Ret Q Pr m' b0 →
      GS (bodyX CX0 P w K mg base N qual scope f cdv A outer s H E) body (ends Q) (start' N Ps) m b0) : FnOk P w K mg base CX0 (k + 1) f fd ps (spC S) := by
  refine F.ok Sc (fun vs H Q E ⟨Ps, m, Pr, m', h, _, a, _⟩ => by rw [← a.length]; exact hl Ps m Pr m' h) (fun cdv A outer s H vs Q E hr ⟨Ps, m, Pr, m', h, hd, a, o, q⟩ => ?_)
  refine ⟨cSs _ _, PSs.nox pcSs, hbody cdv A outer s H E hr Ps m Pr m' h (mask H (dom m)) Q (fun v H' o' ex pv => ?_) _ H ⟨env_start a, o⟩ (Ex.refl _)⟩
  exact q v H' (by rw [hd] at ex; exact ex) o' (by rw [hd] at pv; exact pv)
theorem FkD_of {x qual : Str} {st : Stmt} {sp : Sp} {k : Nat} {ps : List Str} {dvs : List V} (d : ∃ f fd, FunD K x qual (defArgs st) (defBody st) (defScope st) dvs [] f fd ∧ mg x = some (.ref f)) (n j : Nat) (hd : dvs ≠ []) (hn : n + (dvs.length - j) = ps.length)
    (h : ∀ (T : Addr) (kV doc pm : Value) (an : Option Addr) (cdv ct : Value) (us its : List Value), us.length = n → its.length = dvs.length →
      ∃ k, bindArgs (PySem.W.fnOf x qual (defArgs st) (defBody st) (defScope st) (.ref T) kV doc pm an cdv ct) ⟨us, []⟩ = seqItems? (.ref T) >>= k ∧ k (some its.toArray) = pure (ps.zip (us ++ its.drop j)))
    (ok : ∀ f fd, FunD K x qual (defArgs st) (defBody st) (defScope st) dvs [] f fd → FnOk P w K mg base CX0 k f fd ps sp) : Fk P w K mg base k x sp (dvs.drop j) := by
  obtain ⟨f, fd, F, hmg⟩ := d
  obtain ⟨ds, h1, h2⟩ := F.binds1 n j hd hn h
  exact ⟨f, fd, ps, ds, ok f fd F, hmg, F.kp, h2, h1⟩
end
end SV
namespace SV
open PySem L2 PyProof.Rows
open Evl (Ex ex_rd ex_l ex_t sz_of sz_lt)
section
variable {X : Cx} {ρ : Rho} {m : Sto} {e1 e2 : Expr} {pos p : Pos}
theorem dom_at {m : Sto} {i : Nat} {a : Addr} {mo x y : MO} (h : m[i]? = some (a, mo)) : dom (m.set i (a, x)) = dom (m.set i (a, y)) := by rw [dom_put h, dom_put h]
theorem a_draw {n l i : Nat} {a : Addr} {mo : MO} {q : Pool} {size : Int} (F : Fk X.prog X.w X.K X.mg X.base n "_law_draw" (spC (cDraw X.K)) []) (hr : Room l X.A) (hn : n ≤ l) (hm : m[i]? = some (a, mo)) (h0 : 0 < size) (hs : size < 1073741824) (hp : 0 ≤ q.pos)
    (ha : AE X e1 ρ (m.set i (a, q.mo X.K)) (R a) (m.set i (a, q.mo X.K))) (hb : AE X e2 ρ (m.set i (a, q.mo X.K)) (I size) (m.set i (a, q.mo X.K))) (hg : Gl X "_law_draw" := by rfl)
    (he1 : starEach [e1, e2] X.env = (false, eval e1 X.env) :: starEach [e2] X.env := by rfl) (he2 : starEach [e2] X.env = (false, eval e2 X.env) :: starEach [] X.env := by rfl) (hpl : (backTo pos (starEach [e2] X.env)).any (·.1) = false := by rfl) :
    AE X (.Call (.Name "_law_draw" p) [e1, e2] [] pos) ρ (m.set i (a, q.mo X.K)) (I (q.draw size).1) (m.set i (a, (q.draw size).2.mo X.K)) :=
  a_call F hr hn (aa_cons ha (aa_cons hb aa_nil he2) he1) ⟨i, a, q, size, rfl, set_at (List.getElem?_eq_some_iff.mp hm).1, h0, hs, hp, rfl, by rw [List.set_set]⟩ (dom_at hm) hg (by decide) he1 hpl
end
theorem atI_of {α β : Type} (f : α → β) {xs : List α} {d : α} {i : Int} (h0 : 0 ≤ i) (h1 : i < xs.length) : atI (xs.map f) i = some (f (xs.getD i.toNat d)) := by
  have e : i = (i.toNat : Int) := by omega
  rw [e]
  refine atI_nat' ?_
  rw [List.getElem?_map, List.getElem?_eq_getElem (by omega), List.getD_eq_getElem?_getD, Int.toNat_natCast, List.getElem?_eq_getElem (by omega)] <;> rfl
end SV

/-! SVTwo: new lists, texts walked, dicts written, data compared, own ==. -/
namespace SV
open PySem L2 PyProof.Rows
open Evl (Ex ex_rd ex_l ex_t sz_of sz_lt)
/-- a list that was made here (not one of the top's, not locked), that nobody changes any more -/
def Lf (Ps : List MP) : MP := ⟨fun H v => ∃ a vs, v = .ref a ∧ H a = some (.lst vs) ∧ All H Ps vs, fun e ⟨a, vs, h1, h2, h3⟩ => ⟨a, vs, h1, e _ _ h2, h3.mono e⟩⟩
theorem Lf.L {K : PySem.W.Frag} {Ps : List MP} : ∀ H v, (Lf Ps).p H v → (SV.L K Ps).p H v := fun H v ⟨a, vs, h1, h2, h3⟩ => ⟨a, vs, h1, Or.inl (Or.inl h2), h3⟩
theorem Ret.lstF {Q : VK} {Ps : List MP} {m : Sto} {a : Addr} {b0 : Hp} (h : Ret Q (Lf Ps) m b0) : Ret Q (R a) ((a, .lst Ps) :: m) b0 := fun v H o ex pv => by
  obtain ⟨u, hu, vs, rfl, q⟩ := o.ok 0 a _ rfl
  refine h v H o.drop (ex.trans mask_drop) ⟨a, vs, pv, ?_, q.mono mask_drop⟩
  rw [mask_out (List.nodup_cons.mp o.nd).1]
  exact hu
section
variable {X : Cx} {ρ : Rho} {m m1 m2 m3 : Sto} {P P1 P2 P3 : MP} {mo mo' : MO} {e a b c f o elt iter : Expr} {es rest : List Expr} {pos p p2 p3 p4 apos cpos px py : Pos} {x y fl : Str} {i j k : Int} {te ta : TE} {A : TA} {D : Ends} {b0 : Hp} {sts : List Stmt} {scope : Scope}
theorem EvO.lf {Ps : List MP} (E : EvO te ρ m (.lst Ps) m1) : Ev te ρ m (Lf Ps) m1 := ⟨E.d, fun σ H Q s q => E.go σ H Q s fun a H' o n => by
  obtain ⟨u, hu, vs, rfl, hall⟩ := o.ok 0 a _ rfl
  refine q _ H' (Ex.trans n (by rw [← E.d]; exact mask_drop)) o.drop ⟨a, vs, rfl, ?_, by rw [← E.d]; exact hall.mono mask_drop⟩
  rw [← E.d, mask_out (List.nodup_cons.mp o.nd).1]
  exact hu⟩
theorem EvO.l {K : PySem.W.Frag} {Ps : List MP} (E : EvO te ρ m (.lst Ps) m1) : Ev te ρ m (L K Ps) m1 := E.lf.to Lf.L
theorem a_lstF {Ps : List MP} (h : AA X es ρ m Ps m1) (hl : Ps.length ≤ 100000 := by first | decide | exact Nat.le_of_ble_eq_true rfl) : AE X (.List es pos) ρ m (Lf Ps) m1 := (o_lst h hl).lf
/-- xs + ys -/
theorem a_catL {Ps Qs : List MP} (ha : AE X a ρ m (Lf Ps) m1) (hb : AE X b ρ m1 (Lf Qs) m2) (hz : Ps.length + Qs.length ≤ 100000) : AE X (.BinOp a .Add b pos) ρ m (Lf (Ps ++ Qs)) m2 :=
  a_bin op_cat (fun d H v u Q fr h1 h2 q => by
    obtain ⟨l, xs, rfl, hl, hall⟩ := h1
    obtain ⟨l2, ys, rfl, hl2, hall2⟩ := h2
    exact ⟨l, l2, xs, ys, rfl, rfl, mask_sub _ _ hl, mask_sub _ _ hl2, sz_of (by rw [← hall.length, ← hall2.length]; exact hz), fun z hz => q _ _ (Ex.new hz) ⟨z, _, rfl, fr.at hz, (hall.append hall2).mono (mask_ex (Ex.new hz))⟩⟩) ha hb
/-! ### comprehensions over a text -/
theorem lc_it {J : It} {n : Nat} {val : Nat → V} (hgo : ∀ i H, i < n → J.go i H) (hst : ∀ i H, n ≤ i → J.stop i H) (hy : ∀ i H x H', i < n → J.yld i H x H' → H' = H ∧ x = val i) {g : TG} {tt : TT} {te : TE} {vs : List Nat} {σ : L2.St} {H1 : Hp} {D : Addr} {Qd : Hp → Prop} (Pv : Nat → Hp → Prop) (h0 : Pv 0 (upd H1 D (.lst [])))
    (hs : ∀ i H, i < n → Pv i H → g (val i) (wipe σ vs) H fun σ2 H2 => wipe σ2 vs = wipe σ vs ∧ tt σ2 H2 fun b H3 =>
      if b = true then te σ2 H3 fun y H4 => ∃ acc, H4 D = some (.lst acc) ∧ acc.length < sizeLine ∧ Pv (i + 1) (upd H4 D (.lst (acc ++ [y]))) else Pv (i + 1) H3) (hd : ∀ H, Pv n H → Qd H) :
    ∃ W : Nat → Nat → Hp → Prop, (∃ m, W 0 m (upd H1 D (.lst []))) ∧ ∀ i m H, W i m H →
      (J.stop i H ∧ Qd H) ∨ (J.go i H ∧ ∃ Nx : Hp → Prop, (∀ H', Nx H' → ∃ m', m' < m ∧ W (i + 1) m' H') ∧ ∀ x H', J.yld i H x H' → g x (wipe σ vs) H' fun σ2 H2 => wipe σ2 vs = wipe σ vs ∧ tt σ2 H2 fun b H3 =>
        if b = true then te σ2 H3 fun y H4 => ∃ acc, H4 D = some (.lst acc) ∧ acc.length < sizeLine ∧ Nx (upd H4 D (.lst (acc ++ [y]))) else Nx H3) := by
  refine ⟨fun i m H => m = n - i ∧ i ≤ n ∧ Pv i H, ⟨n, by simp, Nat.zero_le _, h0⟩, ?_⟩
  rintro i m H ⟨rfl, hi, p⟩
  by_cases hlt : i < n
  · refine .inr ⟨hgo i H hlt, Pv (i + 1), fun H' p' => ⟨n - (i + 1), by omega, rfl, hlt, p'⟩, fun x H' y => ?_⟩
    obtain ⟨e, e2⟩ := hy i H x H' hlt y
    subst e e2
    exact hs i _ hlt p
  · have e : i = n := by omega
    subst e
    exact .inl ⟨hst i H (Nat.le_refl _), hd H p⟩
abbrev sign (s : Str) (n : Nat) : Str := ⟨#[s.cps.toList.getD n 0]⟩
theorem a_lcS {own : List (Str × Nat)} {jx : Nat} {s : Str} (ok : LcOk X scope own x jx) (hi : AE X iter ρ m (S s) m1) (ms : Nat → Sto) (Rs : Nat → MP) (h0 : ms 0 = m1) (hd : ∀ n, dom (ms n) = dom m1) (hz : s.length ≤ 40000)
    (he : ∀ n q, n < s.length → BE X scope elt ((wipeR ρ (own.map (·.2))).set jx (some (S (sign s n)))) (q :: ms n) (Rs n) (q :: ms (n + 1))) (hs : ∀ x, foldedSetIterable iter X.env x = pure x := by intro _; rfl) :
    AE X (.ListComp elt [⟨.Name x px, iter, [], 0⟩] scope pos) ρ m (L X.K ((List.range s.length).map Rs)) (ms s.length) :=
  Ev.can (pe_lc ok.hc ok.hN (pi_str pcE) ok.ok ok.pg (fun _ _ _ _ _ => pts_nil) pcB hs) ⟨(hd _).trans hi.d, fun σ H Q st q => hi.go σ H _ st fun v H1 n1 o1 p1 => by
    have p1 : v = .str s := p1
    subst p1
    refine ⟨s, rfl, fun Dl hDl => ?_⟩
    have s1 := st.go hi.d n1 o1
    refine lc_it (n := s.length) (val := fun n => .str (sign s n)) (fun i H h => h) (fun i H h => h) ?_ (fun n H' => LcSt (wipeR ρ (own.map (·.2))) (ms n) (wipe σ (own.map (·.2))) (mask H1 (dom m1)) Dl (picks (fun _ => true) Rs n) H') (by have := LcSt.start (bs := fun _ => true) (Rs := Rs) (own := own.map (·.2)) s1 hDl; rw [h0]; exact this) ?_ ?_
    · intro n H2 x H3 hn hyl
      obtain ⟨e1, c, hc, e2⟩ := hyl
      refine ⟨e1, ?_⟩
      subst e2
      have : s.cps.toList.getD n 0 = c := by
        rw [List.getD_eq_getElem?_getD, Array.getElem?_toList, hc] <;> rfl
      show V.str ⟨#[c]⟩ = V.str (sign s n)
      unfold sign
      rw [this]
    · intro n H' hn st
      refine ⟨ok.hw σ _, ?_⟩
      exact lc_turn (P := S (sign s n)) (mn' := ms (n + 1)) st (by omega) rfl ((hd _).trans (hd _).symm) (fun q => et_yes) (fun _ q => BE.ev (he n q hn) (by have e1 := hd (n + 1); have e2 := hd n; simp only [dom, List.map_cons] at e1 e2 ⊢; rw [e1, e2])) (fun z => nomatch z)
    · intro H' st
      refine st.fin (K := X.K) fun v H'' o'' g'' p'' => q v H'' ?_ o'' ?_
      · have g3 : Ex (mask H1 (dom m)) (mask H'' (dom m)) := by
          have g4 : Ex (mask H1 (dom m1)) (mask H'' (dom (ms s.length))) := g''
          rw [hd, hi.d] at g4; exact g4
        exact Ex.trans n1 g3
      · rw [← picks_all]
        have p3 : (L X.K (picks (fun _ => true) Rs s.length)).p (mask H'' (dom (ms s.length))) v := p''
        rw [hd, hi.d] at p3; exact p3⟩
/-! ### {"k": v, ..} -/
inductive DS (X : Cx) : List (Option Expr) → List Expr → Rho → Sto → List (Key × MP) → Prop where
  | nil {ρ : Rho} {m : Sto} : DS X [] [] ρ m []
  | cons {k v : Expr} {ks : List (Option Expr)} {vs : List Expr} {ρ : Rho} {m : Sto} {key : Key} {P : MP} {kvs : List (Key × MP)} (hk : ∀ q, AE X k ρ (q :: m) (C (kV key)) (q :: m)) (hv : ∀ q, AE X v ρ (q :: m) P (q :: m)) (r : DS X ks vs ρ m kvs) : DS X (some k :: ks) (v :: vs) ρ m ((key, P) :: kvs)
theorem DS.go {keys : List (Option Expr)} {vals : List Expr} {kvs : List (Key × MP)} (h : DS X keys vals ρ m kvs) : ∃ trs, PPs X pos keys vals trs ∧ ∀ (q : Addr × MO) (σ : L2.St) (H : Hp) (Q : List (V × V) → Hp → Prop), Stt ρ (q :: m) σ H →
    (∀ (ws : List (Key × V)) H', Nxt (q :: m) H H' → Own (q :: m) H' → KVs (mask H' (dom (q :: m))) kvs ws → Q (ws.map fun kv => (kV kv.1, kv.2)) H') → tPairs trs σ H Q := by
  induction h with
  | nil => exact ⟨[], pps_nil, fun q σ H Q s k => k [] H .refl s.own .nil⟩
  | @cons k v ks vs ρ m key P kvs hk hv r ih =>
    obtain ⟨trs, hp, hg⟩ := ih
    refine ⟨(cE X k, cE X v) :: trs, pps_cons pcE pcE hp, fun q σ H Q s kk => ?_⟩
    refine (hk q).go σ H _ s fun u H1 n1 o1 p1 => ?_
    have p1 : u = kV key := p1
    subst p1
    refine (hv q).go σ H1 _ (s.go rfl n1 o1) fun z H2 n2 o2 p2 => ?_
    refine hg q σ H2 _ (s.go rfl (n1.trans rfl n2) o2) fun ws H3 n3 o3 hall => ?_
    exact kk ((key, z) :: ws) H3 ((n1.trans rfl n2).trans rfl n3) o3 (.cons ⟨rfl, P.mono n3 p2⟩ hall)
theorem merge_nil {ws : List (Key × V)} (hnd : (ws.map (·.1)).Nodup) : mergeK [] ws = ws := by
  have gen : ∀ (ws acc : List (Key × V)), ((acc ++ ws).map (·.1)).Nodup → mergeK acc ws = acc ++ ws := by
    intro ws
    induction ws with
    | nil => intro acc _; simp [mergeK]
    | cons p ws ih =>
      intro acc hn
      have e : putK acc p.1 p.2 = acc ++ [p] := by
        unfold putK
        rw [if_neg]
        intro z
        obtain ⟨y, hy, hz⟩ := List.any_eq_true.mp z
        have hz := of_decide_eq_true hz
        rw [List.map_append, List.nodup_append] at hn
        exact hn.2.2 y.1 (List.mem_map.mpr ⟨y, hy, rfl⟩) p.1 (by simp) hz
      show mergeK (putK acc p.1 p.2) ws = _
      rw [e, ih (acc ++ [p]) (by simpa using hn)]
      simp
  have := gen ws [] (by simpa using hnd)
  simpa using this
theorem KVs.keys {H : Hp} : ∀ {Ps : List (Key × MP)} {vs : List (Key × V)}, KVs H Ps vs → vs.map (·.1) = Ps.map (·.1)
  | _, _, .nil => rfl
  | _, _, .cons h t => by simp only [List.map_cons]; rw [h.1, KVs.keys t]
theorem a_disp {keys : List (Option Expr)} {vals : List Expr} {kvs : List (Key × MP)} (h : DS X keys vals ρ m kvs) (hnd : (kvs.map (·.1)).Nodup) (h15 : kvs.length ≤ 15) (hall : keys.all (·.isSome) = true := by rfl) (hl : keys.length = vals.length := by rfl) (h0 : keys ≠ [] := by exact List.cons_ne_nil _ _) (hk15 : keys.length ≤ 15 := by exact Nat.le_of_ble_eq_true rfl) :
    AE X (.Dict keys vals pos) ρ m (Dk kvs) m := by
  obtain ⟨trs, hp, hg⟩ := h.go (pos := pos)
  refine Ev.can (pe_disp hp hall hl h0 hk15) ⟨rfl, fun σ H Q s q => fun l hl => ?_⟩
  have n0 := new_sight (m := m) (mo := .dct []) (u := .dK []) hl
  refine hg (l, .dct []) σ _ _ ⟨s.env.mono n0, s.own.add hl ⟨[], rfl, .nil⟩⟩ fun ws H' n1 o1 hws => ?_
  obtain ⟨u, hu, ws0, rfl, h00⟩ := o1.ok 0 l _ rfl
  cases h00
  refine ⟨hu, ws, rfl, ?_, ?_⟩
  · have := congrArg List.length hws.keys
    simp only [List.length_map] at this
    omega
  · rw [merge_nil (by rw [hws.keys]; exact hnd)]
    have o2 : Own ((l, .dct kvs) :: m) (upd H' l (.dK ws)) := o1.put (i := 0) (mo' := .dct kvs) rfl ⟨ws, rfl, hws⟩
    have hm : mask (upd H' l (.dK ws)) (dom ((l, MO.dct kvs) :: m)) = mask H' (dom ((l, MO.dct []) :: m)) := mask_put (m := (l, MO.dct []) :: m) (i := 0) (mo := .dct []) rfl
    have n2 : Ex (mask H (dom m)) (mask (upd H' l (.dK ws)) (dom ((l, MO.dct kvs) :: m))) := by rw [hm]; exact n0.trans n1
    refine q _ _ (n2.trans mask_drop) o2.drop ⟨l, ws, rfl, ?_, ?_⟩
    · rw [mask_out (List.nodup_cons.mp o2.nd).1, upd_same]
    · have h3 : KVs (mask (upd H' l (.dK ws)) (dom ((l, MO.dct kvs) :: m))) kvs ws := by rw [hm]; exact hws
      exact h3.mono mask_drop
end
end SV

/-! SVEq: data compared at any depth; an own ==. -/
namespace SV
open PySem L2 PyProof.Rows
open Evl (Ex ex_rd ex_l ex_t sz_of sz_lt)
mutual
def Dt.py : Dt → PyData
  | .int i => .int i
  | .bl b => .bool b
  | .str s => .str s
  | .non => .none
  | .tup xs => .tuple (pys xs)
  | .lst xs => .list (pys xs)
def pys : List Dt → List PyData
  | [] => []
  | x :: xs => x.py :: pys xs
end
mutual
theorem dp_of {K : PySem.W.Frag} {H : Hp} : ∀ (d : Dt) (v : V), (rp K d).p H v → Dp K H v d.py
  | .int i, v, h => by
    simp only [rp] at h
    have h : v = .int i := h
    subst h
    simp only [Dt.py]
    exact .int i
  | .bl i, v, h => by
    simp only [rp] at h
    have h : v = .bl i := h
    subst h
    simp only [Dt.py]
    exact .bl i
  | .str i, v, h => by
    simp only [rp] at h
    have h : v = .str i := h
    subst h
    simp only [Dt.py]
    exact .str i
  | .non, v, h => by
    simp only [rp] at h
    have h : v = .non := h
    subst h
    simp only [Dt.py]
    exact .non
  | .tup xs, v, h => by
    simp only [rp] at h
    obtain ⟨a, vs, rfl, h1, h2⟩ := h
    simp only [Dt.py]
    exact .tup h1 (dps_of xs vs h2)
  | .lst xs, v, h => by
    simp only [rp] at h
    obtain ⟨a, vs, rfl, h1, h2⟩ := h
    simp only [Dt.py]
    exact .lst h1 (dps_of xs vs h2)
theorem dps_of {K : PySem.W.Frag} {H : Hp} : ∀ (xs : List Dt) (vs : List V), All H (rps K xs) vs → DpAll K H vs (pys xs)
  | [], vs, h => by
    simp only [rps] at h
    cases h
    simp only [pys]
    exact .nil
  | x :: xs, vs, h => by
    simp only [rps] at h
    cases h with
    | cons r t =>
      simp only [pys]
      exact .cons (dp_of x _ r) (dps_of xs _ t)
end
section
variable {X : Cx} {ρ : Rho} {m m1 m2 m3 : Sto} {P P1 P2 P3 : MP} {e a b c f o : Expr} {pos p p2 : Pos} {x : Str}
theorem rv_eqD {K : PySem.W.Frag} {d1 d2 : Dt} (s1 : SeqAt.shaped d1.py = true) (s2 : SeqAt.shaped d2.py = true) : RV (rEqD K) (rp K d1) (rp K d2) (B (PyData.eqv d1.py d2.py)) := fun d H v u Q _ h1 h2 q =>
  ⟨d1.py, d2.py, dp_of d1 v ((rp K d1).mono mask_sub h1), dp_of d2 u ((rp K d2).mono mask_sub h2), s1, s2, q _ H (Ex.refl _) rfl⟩
theorem a_eqD {d1 d2 : Dt} (hu : X.A.units + 64 < cLine) (s1 : SeqAt.shaped d1.py = true) (s2 : SeqAt.shaped d2.py = true) (ha : AE X a ρ m (rp X.K d1) m1) (hb : AE X b ρ m1 (rp X.K d2) m2) : AE X (.Compare a [.Eq] [b] pos) ρ m (B (PyData.eqv d1.py d2.py)) m2 := a_cmp (op_eqD hu) (rv_eqD s1 s2) ha hb
theorem t_neD {d1 d2 : Dt} (hu : X.A.units + 64 < cLine) (s1 : SeqAt.shaped d1.py = true) (s2 : SeqAt.shaped d2.py = true) (ha : AE X a ρ m (rp X.K d1) m1) (hb : AE X b ρ m1 (rp X.K d2) m2) : AT X (.Compare a [.NotEq] [b] pos) ρ m (!PyData.eqv d1.py d2.py) m2 :=
  t_cmp (op_neD hu) (fun d H v u Q _ h1 h2 q => ⟨d1.py, d2.py, dp_of d1 v ((rp X.K d1).mono mask_sub h1), dp_of d2 u ((rp X.K d2).mono mask_sub h2), s1, s2, q _ H (Ex.refl _) rfl⟩) ha hb
/-- a == b, both of the class at Cc, by its own __eq__ -/
def rOwn (Cc : Addr) (S : Ct) : R2 := fun x y H Q => (∃ a b dx dy fs gs, x = .ref a ∧ y = .ref b ∧ H a = some (.ins Cc dx fs) ∧ H b = some (.ins Cc dy gs)) ∧ spC S [x, y] H (fun z H' => (∃ r, z = .bl r) ∧ Q z H') E0
theorem op_ownEq {n l : Nat} {Cc g : Addr} {fd : FuncData} {ps : List Str} {S : Ct} (F : FnOk X.prog X.w X.K X.mg X.base CX0 n g fd ps (spC S)) (hr : Room l X.A) (hl : n ≤ l)
    (hs : PySem.W.findIn X.K (.ref Cc) "__eq__" = some (some (.ref g))) (hf : PySem.W.isFn X.K (.ref g) = true) (hb : Binds X.K fd ps []) : OpR X (compareOp .Eq) (rOwn Cc S) := by
  intro pins s σ H x y u v Q I rx ry h
  obtain ⟨⟨a, b, dx, dy, fs, gs, rfl, rfl, ha, hb'⟩, hsp⟩ := h
  cases rx
  cases ry
  obtain ⟨mA, J, _⟩ := ins_get I.hok ha
  obtain ⟨mB, J', _⟩ := ins_get I.hok hb'
  obtain ⟨od, J, _⟩ := J.look
  obtain ⟨od', J', _⟩ := J'.look
  obtain ⟨m, hF⟩ := I.fr
  show wpAny (model X.prog X.w) X.A (richCompare .Eq (.ref a) (.ref b)) (EP X pins σ Q) X.xe s
  refine PySem.W.cmp_K (op := .Eq) (tb := .ref Cc) hr.units0 hF I.ok.mod.kin J J'.type (by simp [PySem.W.notFirst]) hs hf ?_
  have e0 := I.env0
  have hl' := F.len _ _ _ _ hsp
  have r2 : Vals [V.ref a, V.ref b] [Value.ref a, Value.ref b] := .cons rfl (.cons rfl .nil)
  refine wpAny_call (codeAny_mono (F.run X.A X.stack s H ⟨[.ref a, .ref b], []⟩ [.ref a, .ref b] [.ref a, .ref b] _ E0 (hr.mono hl) e0 (by
    have := hb s [.ref a, .ref b] I.kIn (by simpa using hl')
    simpa using this) r2 hsp) fun r s' hq => ?_)
  cases r with
  | error e => exact False.elim hq
  | ok fl =>
    cases fl with
    | ret w =>
      obtain ⟨z, H', I', rz, ⟨r, ez⟩, q⟩ := I.after hq
      subst ez
      cases rz
      exact ⟨.bl r, H', I', rfl, q⟩
    | next => exact False.elim hq
    | brk => exact False.elim hq
    | cont => exact False.elim hq
theorem a_ownEq {n l : Nat} {Cc g : Addr} {fd : FuncData} {ps : List Str} {S : Ct} {fs gs : List (Str × MP)} {r : Bool} (F : FnOk X.prog X.w X.K X.mg X.base CX0 n g fd ps (spC S)) (hr : Room l X.A) (hl : n ≤ l)
    (hs : PySem.W.findIn X.K (.ref Cc) "__eq__" = some (some (.ref g))) (hf : PySem.W.isFn X.K (.ref g) = true) (hb : Binds X.K fd ps []) (ha : AE X a ρ m (O Cc fs) m1) (hb2 : AE X b ρ m1 (O Cc gs) m2) (h : S [O Cc fs, O Cc gs] m2 (B r) m2) :
    AE X (.Compare a [.Eq] [b] pos) ρ m (B r) m2 := Ev.can (pe_cmpR (op_ownEq F hr hl hs hf hb) pcE pcE (nobehind _ (by decide) (by decide))) ⟨hb2.d.trans ha.d, fun σ H Q s q => by
  refine ha.go σ H _ s fun v H1 n1 o1 p1 => ?_
  have s1 := s.go ha.d n1 o1
  refine hb2.go σ H1 _ s1 fun u H2 n2 o2 p2 => ?_
  have p1' := (O Cc fs).mono (n2.to ha.d) p1
  have p2' : (O Cc gs).p (mask H2 (dom m)) u := by rw [← ha.d]; exact p2
  obtain ⟨a1, dx, ws, rfl, h1, h2⟩ := id p1'
  obtain ⟨a2, dy, zs, rfl, h3, h4⟩ := id p2'
  have hd := hb2.d.trans ha.d
  refine ⟨⟨a1, a2, dx, dy, ws, zs, rfl, rfl, mask_sub _ _ h1, mask_sub _ _ h3⟩, _, m2, B r, m2, h, rfl, .cons (by rw [hd]; exact p1') (.cons (by rw [hd]; exact p2') .nil), o2, fun z H3 n3 o3 pz => ?_⟩
  exact ⟨⟨r, pz⟩, q z H3 ((n1.trans ha.d n2).trans hd n3) o3 (by rw [← hd]; exact pz)⟩⟩
end
end SV

/-! SVFm: expressions as data; their words, texts, values. -/
namespace SV
open PySem L2 PyProof.Rows
open Evl (Ex ex_rd ex_l ex_t sz_of sz_lt)
def OPS : List Str := ["+", "-", "*", "/", "mod", "<", "="]
inductive Fm where
  | num (n : Nat) | var (s : Str) | kw (s : Str) | op (o : Str) (l r : Fm)
def numS (n : Nat) : Str := toString (n : Int)
/-- its data -/
def Fm.dt : Fm → Dt
  | .num n => .tup [.str "number", .int (n : Int)]
  | .var s => .tup [.str "variable", .str s]
  | .kw s => .tup [.str s]
  | .op o l r => .tup [.str o, l.dt, r.dt]
def Fm.rep (K : PySem.W.Frag) : Fm → MP
  | .num n => T K [S "number", I (n : Int)]
  | .var s => T K [S "variable", S s]
  | .kw s => T K [S s]
  | .op o l r => T K [S o, l.rep K, r.rep K]
theorem rep_dt (K : PySem.W.Frag) : ∀ f : Fm, f.rep K = rp K f.dt
  | .num n => by simp [Fm.rep, Fm.dt, rp, rps]
  | .var s => by simp [Fm.rep, Fm.dt, rp, rps]
  | .kw s => by simp [Fm.rep, Fm.dt, rp, rps]
  | .op o l r => by simp [Fm.rep, Fm.dt, rp, rps, rep_dt K l, rep_dt K r]
def Fm.ht : Fm → Nat
  | .op _ l r => max l.ht r.ht + 1
  | _ => 1
theorem Fm.ht_pos : ∀ f : Fm, 1 ≤ f.ht
  | .num _ => Nat.le_refl _
  | .var _ => Nat.le_refl _
  | .kw _ => Nat.le_refl _
  | .op _ _ _ => Nat.succ_le_succ (Nat.zero_le _)
theorem dt_dp : ∀ f : Fm, f.dt.dp ≤ f.ht
  | .num n => by simp [Fm.dt, Dt.dp, dps, Fm.ht]
  | .var s => by simp [Fm.dt, Dt.dp, dps, Fm.ht]
  | .kw s => by simp [Fm.dt, Dt.dp, dps, Fm.ht]
  | .op o l r => by
    have h1 := dt_dp l
    have h2 := dt_dp r
    simp only [Fm.dt, Dt.dp, dps, Fm.ht]
    omega
theorem dt_wd : ∀ f : Fm, f.dt.wd ≤ 3
  | .num n => by simp [Fm.dt, Dt.wd, wds]
  | .var s => by simp [Fm.dt, Dt.wd, wds]
  | .kw s => by simp [Fm.dt, Dt.wd, wds]
  | .op o l r => by
    have h1 := dt_wd l
    have h2 := dt_wd r
    simp only [Fm.dt, Dt.wd, wds, List.length_cons, List.length_nil]
    omega
def Fm.words : Fm → List Str
  | .num n => [numS n]
  | .var s => [s]
  | .kw s => [s]
  | .op o l r => o :: (l.words ++ r.words)
def Fm.txt : Fm → Str
  | .num n => numS n
  | .var s => s
  | .kw s => s
  | .op o l r => glue Str.empty [o, " ", l.txt, " ", r.txt]
/-- what an operator makes of two values -/
def reck (o : Str) (a b : Int) : Int :=
  if o = "+" then (a + b) % 65536
  else if o = "-" then (if 0 > a - b then 0 else a - b)
  else if o = "*" then a * b % 65536
  else if o = "<" then (if a < b then 1 else 0)
  else if o = "=" then (if a = b then 1 else 0)
  else if b = 0 then 0
  else if o = "/" then a / b
  else a % b
def Fm.val (env : Str → Int) : Fm → Int
  | .num n => n
  | .var s => env s
  | .kw s => env s
  | .op o l r => reck o (l.val env) (r.val env)
/-- numbers in range, written operators, names out of ns -/
def Fm.ok (ns : List Str) : Fm → Prop
  | .num n => n ≤ 65535
  | .var s => s ∈ ns
  | .kw s => s ∈ ns
  | .op o l r => o ∈ OPS ∧ l.ok ns ∧ r.ok ns
theorem reck_lt (o : Str) {a b : Int} (ha : 0 ≤ a ∧ a ≤ 65535) (hb : 0 ≤ b ∧ b ≤ 65535) : 0 ≤ reck o a b ∧ reck o a b ≤ 65535 := by
  unfold reck
  repeat' split
  all_goals first
    | omega
    | skip
  · have h1 := Int.ediv_nonneg ha.1 hb.1
    have h2 := Int.ediv_le_self b ha.1
    omega
  · have h1 := Int.emod_nonneg a (b := b) (by omega)
    have h2 := Int.emod_lt_of_pos a (b := b) (by omega)
    omega
theorem val_lt {ns : List Str} {env : Str → Int} (he : ∀ s, s ∈ ns → 0 ≤ env s ∧ env s ≤ 65535) : ∀ f : Fm, f.ok ns → 0 ≤ f.val env ∧ f.val env ≤ 65535
  | .num n, h => by
    have h : n ≤ 65535 := h
    show 0 ≤ (n : Int) ∧ (n : Int) ≤ 65535
    omega
  | .var s, h => he s h
  | .kw s, h => he s h
  | .op o l r, h => reck_lt o (val_lt he l h.2.1) (val_lt he r h.2.2)
end SV

/-! SVNum: texts that are numbers; words and texts. -/
namespace SV
open PySem L2 PyProof.Rows
open Evl (Ex ex_rd ex_l ex_t sz_of sz_lt)
abbrev tl (s : Str) : List Nat := s.cps.toList
def isDig (c : Nat) : Bool := decide (c ∈ tl "0123456789")
theorem isDig_iff {c : Nat} : isDig c = true ↔ 48 ≤ c ∧ c ≤ 57 := by
  have e : tl "0123456789" = [48, 49, 50, 51, 52, 53, 54, 55, 56, 57] := by decide +kernel
  unfold isDig
  rw [e]
  simp only [decide_eq_true_eq, List.mem_cons, List.not_mem_nil, or_false]
  omega
def numV (s : Str) : Int := (NumText.digitsVal (tl s) : Nat)
def isNum (s : Str) : Bool := (decide (1 ≤ s.length) && decide (s.length ≤ 5)) && ((tl s).all isDig && (if Txt.startswith s "0" then decide (s = "0") else decide (numV s ≤ 65535)))
theorem len_tl (s : Str) : s.length = (tl s).length := by show s.cps.size = _; simp
theorem all_range (p : Nat → Bool) : ∀ l : List Nat, (List.range l.length).all (fun n => p (l.getD n 0)) = l.all p
  | [] => rfl
  | x :: l => by
    rw [List.length_cons, List.range_succ_eq_map, List.all_cons, List.all_map, List.all_cons]
    have := all_range p l
    rw [← this]
    rfl
theorem mk_tl (s : Str) : (⟨(tl s).toArray⟩ : Str) = s := by
  cases s with
  | mk a => simp [tl]
theorem intText_dig {s : Str} (h : (tl s).all isDig = true) (hne : tl s ≠ []) (hl : s.length ≤ 4300) : PySem.intText? s = some (numV s) := by
  have h2 : (tl s).all (fun c => decide (48 ≤ c) && decide (c ≤ 57)) = true := by
    rw [List.all_eq_true] at h ⊢
    intro c hc
    have := isDig_iff.mp (h c hc)
    simp [this]
  have e := SX.int_S h2 hne (by rw [← len_tl]; exact hl)
  rw [show SX.S (tl s) = s from mk_tl s] at e
  exact e
theorem numS_tl (n : Nat) : tl (numS n) = TL.numL n := TL.tl_num n
theorem numL_head : ∀ (n : Nat), 1 ≤ n → ∀ c, (TL.numL n)[0]? = some c → 49 ≤ c := by
  intro n
  induction n using Nat.strongRecOn with
  | _ n ih =>
    intro hn c hc
    by_cases h : n < 10
    · rw [TL.numL_lt h] at hc
      simp at hc
      omega
    · rw [TL.numL_step (by omega)] at hc
      have hne := TL.numL_ne (n / 10)
      rw [List.getElem?_append_left (by cases e : TL.numL (n / 10) with | nil => exact absurd e hne | cons _ _ => simp)] at hc
      exact ih (n / 10) (by omega) (by omega) c hc
theorem starts0 {s : Str} (h : Txt.startswith s "0" = true) : (tl s)[0]? = some 48 := by
  unfold Txt.startswith at h
  simp only [Bool.and_eq_true, decide_eq_true_eq] at h
  have e : ("0" : Str) = ⟨#[48]⟩ := by decide +kernel
  rw [e] at h
  exact (PySem.StrLaws.subAt_one s 48 0).mp h
theorem numS_isNum {n : Nat} (h : n ≤ 65535) : isNum (numS n) = true ∧ numV (numS n) = n := by
  have hv : numV (numS n) = n := by
    unfold numV
    rw [numS_tl, TL.numL_val]
  have hl : (numS n).length ≤ 5 := by
    rw [len_tl, numS_tl]
    exact TL.numL_len (by omega) (by omega)
  have hne : 1 ≤ (numS n).length := by
    rw [len_tl, numS_tl]
    have := TL.numL_ne n
    cases e : TL.numL n with
    | nil => exact absurd e this
    | cons _ _ => simp
  have hd : (tl (numS n)).all isDig = true := by
    rw [numS_tl, List.all_eq_true]
    intro c hc
    have := TL.numL_digits n c hc
    exact isDig_iff.mpr (by first | exact this | omega)
  refine ⟨?_, hv⟩
  unfold isNum
  rw [hd, hv]
  simp only [hl, hne, decide_true, Bool.and_true, Bool.true_and]
  split
  · rename_i hs
    have h0 := starts0 hs
    rw [numS_tl] at h0
    have : n = 0 := by
      by_cases hz : n = 0
      · exact hz
      · have := numL_head n (by omega) 48 h0
        omega
    subst this
    decide +kernel
  · simp; omega
theorem ops_notNum {o : Str} (h : o ∈ OPS) : isNum o = false := by
  have : ∀ o ∈ OPS, isNum o = false := by decide +kernel
  exact this o h
/-! ### joined and split -/
theorem joinS (ws : List Str) : Txt.join " " ws = SX.S (TL.joinL [32] (ws.map tl)) := by
  have e : (" " : Str) = SX.S [32] := by decide +kernel
  have e2 : ws = (ws.map tl).map SX.S := by
    rw [List.map_map]
    conv => lhs; rw [← List.map_id ws]
    exact List.map_congr_left fun w _ => (mk_tl w).symm
  rw [e]
  conv => lhs; rw [e2]
  exact SX.join_S _ _
theorem split_join {ws : List Str} (hne : ws ≠ []) (h : ∀ w ∈ ws, 32 ∉ tl w) : Txt.split (Txt.join " " ws) " " = ws := by
  have e : (" " : Str) = SX.S [32] := by decide +kernel
  have e2 : (ws.map tl).map SX.S = ws := by
    rw [List.map_map]
    conv => rhs; rw [← List.map_id ws]
    exact List.map_congr_left fun w _ => mk_tl w
  rw [joinS]
  conv => lhs; rw [show (" " : Str) = SX.S [32] from e]
  rw [SX.split_S (by decide) (by decide)]
  rw [SX.spl_join (by intro z; exact hne (List.map_eq_nil_iff.mp z)) (by
    intro p hp
    obtain ⟨w, hw, rfl⟩ := List.mem_map.mp hp
    exact h w hw)]
  exact e2
end SV

/-! SVRd: an expression's words read. -/
namespace SV
open PySem L2 PyProof.Rows
open Evl (Ex ex_rd ex_l ex_t sz_of sz_lt)
def named (w : Str) : Fm := if w = "own" ∨ w = "lot" then .kw w else .var w
def rd (ws ns : List Str) : Nat → Nat → Except Nat (Fm × Nat)
  | 0, at_ => .error at_
  | d + 1, at_ => match ws[at_]? with
    | none => .error ws.length
    | some w =>
      if w ∈ ns then .ok (named w, at_ + 1)
      else if isNum w = true then .ok (.num (numV w).toNat, at_ + 1)
      else if w ∉ OPS ∨ d = 0 then .error at_
      else match rd ws ns d (at_ + 1) with
        | .error e => .error e
        | .ok (l, b) => match rd ws ns d b with
          | .error e => .error e
          | .ok (r, b2) => .ok (.op w l r, b2)
/-- what may be read back -/
def Fm.good (ns : List Str) : Fm → Prop
  | .num n => n ≤ 65535
  | .var s => s ∈ ns ∧ named s = .var s
  | .kw s => s ∈ ns ∧ named s = .kw s
  | .op o l r => o ∈ OPS ∧ l.good ns ∧ r.good ns
theorem good_ok {ns : List Str} : ∀ f : Fm, f.good ns → f.ok ns
  | .num n, h => h
  | .var s, h => h.1
  | .kw s, h => h.1
  | .op o l r, h => ⟨h.1, good_ok l h.2.1, good_ok r h.2.2⟩
theorem words_ne : ∀ f : Fm, f.words ≠ []
  | .num n => by simp [Fm.words]
  | .var n => by simp [Fm.words]
  | .kw n => by simp [Fm.words]
  | .op o l r => by simp [Fm.words]
theorem rd_words {ns : List Str} (hn : ∀ n : Nat, numS n ∉ ns) (ho : ∀ o, o ∈ OPS → o ∉ ns) : ∀ (f : Fm) (d : Nat) (pre rest : List Str), f.good ns → f.ht ≤ d → rd (pre ++ (f.words ++ rest)) ns d pre.length = .ok (f, pre.length + f.words.length) := by
  intro f
  induction f with
  | num n =>
    intro d pre rest hg hd
    obtain ⟨d', rfl⟩ : ∃ d', d = d' + 1 := ⟨d - 1, by simp only [Fm.ht] at hd; omega⟩
    have e : (pre ++ ((Fm.num n).words ++ rest))[pre.length]? = some (numS n) := by simp [Fm.words]
    unfold rd
    rw [e]
    have h2 := numS_isNum (n := n) hg
    simp only [hn n, if_false, h2.1, if_true, h2.2]
    simp [Fm.words]
  | var s =>
    intro d pre rest hg hd
    obtain ⟨d', rfl⟩ : ∃ d', d = d' + 1 := ⟨d - 1, by simp only [Fm.ht] at hd; omega⟩
    have e : (pre ++ ((Fm.var s).words ++ rest))[pre.length]? = some s := by simp [Fm.words]
    unfold rd
    rw [e]
    simp only [hg.1, if_true, hg.2]
    simp [Fm.words]
  | kw s =>
    intro d pre rest hg hd
    obtain ⟨d', rfl⟩ : ∃ d', d = d' + 1 := ⟨d - 1, by simp only [Fm.ht] at hd; omega⟩
    have e : (pre ++ ((Fm.kw s).words ++ rest))[pre.length]? = some s := by simp [Fm.words]
    unfold rd
    rw [e]
    simp only [hg.1, if_true, hg.2]
    simp [Fm.words]
  | op o l r ihl ihr =>
    intro d pre rest hg hd
    simp only [Fm.ht] at hd
    obtain ⟨d', rfl⟩ : ∃ d', d = d' + 1 := ⟨d - 1, by omega⟩
    have hp := Fm.ht_pos l
    have e : (pre ++ ((Fm.op o l r).words ++ rest))[pre.length]? = some o := by simp [Fm.words]
    unfold rd
    rw [e]
    have h1 := ho o hg.1
    have h2 := ops_notNum hg.1
    have h3 : ¬ (o ∉ OPS ∨ d' = 0) := by
      rintro (z | z)
      · exact z hg.1
      · omega
    simp only [h1, if_false, h2, Bool.false_eq_true, h3]
    have a1 : pre ++ ((Fm.op o l r).words ++ rest) = (pre ++ [o]) ++ (l.words ++ (r.words ++ rest)) := by simp [Fm.words]
    have a2 : pre ++ ((Fm.op o l r).words ++ rest) = (pre ++ [o] ++ l.words) ++ (r.words ++ rest) := by simp [Fm.words]
    have b1 := ihl d' (pre ++ [o]) (r.words ++ rest) hg.2.1 (by omega)
    have b2 := ihr d' (pre ++ [o] ++ l.words) rest hg.2.2 (by omega)
    rw [← a1] at b1
    rw [← a2] at b2
    have e1 : (pre ++ [o]).length = pre.length + 1 := by simp
    have e2 : (pre ++ [o] ++ l.words).length = pre.length + 1 + l.words.length := by simp; omega
    rw [e1] at b1
    rw [e2] at b2
    rw [b1]
    simp only []
    rw [b2]
    simp [Fm.words]
    omega
/-- the text is the words, joined -/
theorem joinL_app (s : List Nat) : ∀ (a b : List (List Nat)), a ≠ [] → b ≠ [] → TL.joinL s (a ++ b) = TL.joinL s a ++ (s ++ TL.joinL s b)
  | [], _, h, _ => absurd rfl h
  | [x], y :: b, _, _ => rfl
  | x :: z :: a, b, _, hb => by
    have ih := joinL_app s (z :: a) b (by simp) hb
    show x ++ (s ++ TL.joinL s ((z :: a) ++ b)) = (x ++ (s ++ TL.joinL s (z :: a))) ++ (s ++ TL.joinL s b)
    rw [ih]
    simp
theorem tl_app (a b : Str) : tl (a ++ b) = tl a ++ tl b := by
  show (Str.mk (a.cps ++ b.cps)).cps.toList = _
  simp [tl]
theorem tl_inj {a b : Str} (h : tl a = tl b) : a = b := by rw [← mk_tl a, ← mk_tl b, h]
theorem txt_words : ∀ f : Fm, tl f.txt = TL.joinL [32] (f.words.map tl)
  | .num n => rfl
  | .var s => rfl
  | .kw s => rfl
  | .op o l r => by
    have h1 := txt_words l
    have h2 := txt_words r
    have e : tl " " = [32] := by decide +kernel
    have e0 : tl Str.empty = [] := rfl
    simp only [Fm.txt, glue, Fm.words, List.map_cons, List.map_append, tl_app, h1, h2, e, e0]
    have a1 : TL.joinL [32] (tl o :: (l.words.map tl ++ r.words.map tl)) = tl o ++ ([32] ++ TL.joinL [32] (l.words.map tl ++ r.words.map tl)) := by
      cases hc : l.words.map tl ++ r.words.map tl with
      | nil =>
        have := words_ne l
        simp [List.map_eq_nil_iff] at hc
        exact absurd hc.1 this
      | cons _ _ => rfl
    rw [a1, joinL_app _ _ _ (by simpa [List.map_eq_nil_iff] using words_ne l) (by simpa [List.map_eq_nil_iff] using words_ne r)]
    simp
theorem txt_join (f : Fm) : f.txt = Txt.join " " f.words := by
  refine tl_inj ?_
  rw [txt_words, joinS]
/-- how long -/
def Fm.small (k : Nat) : Fm → Prop
  | .num n => n ≤ 65535
  | .var s => s.length ≤ k
  | .kw s => s.length ≤ k
  | .op o l r => o ∈ OPS ∧ l.small k ∧ r.small k
theorem ops_len {o : Str} (h : o ∈ OPS) : o.length ≤ 3 := by
  have : ∀ o ∈ OPS, o.length ≤ 3 := by decide +kernel
  exact this o h
theorem numS_len {n : Nat} (h : n ≤ 65535) : (numS n).length ≤ 5 := by
  rw [len_tl, numS_tl]
  exact TL.numL_len (by omega) (by omega)
theorem txt_len {k : Nat} (hk : 5 ≤ k) : ∀ (f : Fm), f.small k → f.txt.length + 5 ≤ (k + 5) * 2 ^ (f.ht - 1)
  | .num n, h => by
    have := numS_len (n := n) h
    show (numS n).length + 5 ≤ (k + 5) * 1
    omega
  | .var s, h => by
    have h : s.length ≤ k := h
    show s.length + 5 ≤ (k + 5) * 1
    omega
  | .kw s, h => by
    have h : s.length ≤ k := h
    show s.length + 5 ≤ (k + 5) * 1
    omega
  | .op o l r, h => by
    have h1 := txt_len hk l h.2.1
    have h2 := txt_len hk r h.2.2
    have h3 := ops_len h.1
    have e : (Fm.op o l r).txt.length = o.length + 1 + l.txt.length + 1 + r.txt.length := by
      have e1 : (" " : Str).length = 1 := by decide +kernel
      have e0 : Str.empty.length = 0 := rfl
      simp only [Fm.txt, glue, slen, e1, e0]
      omega
    have p1 : (k + 5) * 2 ^ (l.ht - 1) ≤ (k + 5) * 2 ^ (max l.ht r.ht - 1) := Nat.mul_le_mul_left _ (Nat.pow_le_pow_right (by decide) (by omega))
    have p2 : (k + 5) * 2 ^ (r.ht - 1) ≤ (k + 5) * 2 ^ (max l.ht r.ht - 1) := Nat.mul_le_mul_left _ (Nat.pow_le_pow_right (by decide) (by omega))
    have hp := Fm.ht_pos l
    have e2 : (Fm.op o l r).ht - 1 = (max l.ht r.ht - 1) + 1 := by simp only [Fm.ht]; omega
    rw [e, e2, Nat.pow_succ]
    have : (k + 5) * (2 ^ (max l.ht r.ht - 1) * 2) = (k + 5) * 2 ^ (max l.ht r.ht - 1) + (k + 5) * 2 ^ (max l.ht r.ht - 1) := by rw [← Nat.mul_assoc]; omega
    rw [this]
    omega
theorem no_space {ns : List Str} (h : ∀ s ∈ ns, 32 ∉ tl s) : ∀ f : Fm, f.ok ns → ∀ w ∈ f.words, 32 ∉ tl w
  | .num n, _, w, hw => by
    simp only [Fm.words, List.mem_singleton] at hw
    subst hw
    rw [numS_tl]
    exact TL.numL_free (by omega)
  | .var s, ho, w, hw => by
    simp only [Fm.words, List.mem_singleton] at hw
    subst hw
    exact h w ho
  | .kw s, ho, w, hw => by
    simp only [Fm.words, List.mem_singleton] at hw
    subst hw
    exact h w ho
  | .op o l r, ho, w, hw => by
    simp only [Fm.words, List.mem_cons, List.mem_append] at hw
    rcases hw with rfl | hw | hw
    · have : ∀ o ∈ OPS, 32 ∉ tl o := by decide +kernel
      exact this w ho.1
    · exact no_space h l ho.2.1 w hw
    · exact no_space h r ho.2.2 w hw
/-- what may be written -/
def Fm.tx : Fm → Prop
  | .num n => n ≤ 65535
  | .var s => s.length ≤ 10
  | .kw s => s = "own" ∨ s = "lot"
  | .op o l r => o ∈ OPS ∧ l.tx ∧ r.tx
theorem tx_small : ∀ f : Fm, f.tx → f.small 10
  | .num n, h => h
  | .var s, h => h
  | .kw s, h => by
    rcases h with rfl | rfl
    · show _ ≤ _; decide +kernel
    · show _ ≤ _; decide +kernel
  | .op o l r, h => ⟨h.1, tx_small l h.2.1, tx_small r h.2.2⟩
theorem tx_len (f : Fm) (h : f.tx) {n : Nat} (hn : f.ht ≤ n) (h6 : n ≤ 6) : f.txt.length ≤ 1000 := by
  have h1 := txt_len (k := 10) (by decide) f (tx_small f h)
  have h2 : 2 ^ (f.ht - 1) ≤ 2 ^ 5 := Nat.pow_le_pow_right (by decide) (by omega)
  have h3 : (10 + 5) * 2 ^ (f.ht - 1) ≤ (10 + 5) * 2 ^ 5 := Nat.mul_le_mul_left _ h2
  omega
theorem num_log {n : Nat} (h : n ≤ 65535) : ((n : Int)).natAbs.log2 < 1920 := by
  have e : ((n : Int)).natAbs = n := by omega
  rw [e]
  by_cases hz : n = 0
  · subst hz; decide
  · have := (Nat.log2_lt hz (k := 1920)).mpr (Nat.lt_of_le_of_lt h (by decide +kernel))
    exact this
theorem words_len : ∀ (f : Fm), f.tx → ∀ w ∈ f.words, w.length ≤ 10
  | .num n, h, w, hw => by
    simp only [Fm.words, List.mem_singleton] at hw
    subst hw
    have := numS_len (n := n) h
    omega
  | .var s, h, w, hw => by
    simp only [Fm.words, List.mem_singleton] at hw
    subst hw
    exact h
  | .kw s, h, w, hw => by
    simp only [Fm.words, List.mem_singleton] at hw
    subst hw
    rcases h with rfl | rfl
    · decide +kernel
    · decide +kernel
  | .op o l r, h, w, hw => by
    simp only [Fm.words, List.mem_cons, List.mem_append] at hw
    rcases hw with rfl | hw | hw
    · have := ops_len h.1
      omega
    · exact words_len l h.2.1 w hw
    · exact words_len r h.2.2 w hw
theorem txt_ne {ns : List Str} (hns : ("" : Str) ∉ ns) : ∀ (f : Fm), f.ok ns → f.txt ≠ ""
  | .num n, h => by
    intro e
    have h1 := TL.numL_ne n
    rw [← numS_tl] at h1
    have : numS n = "" := e
    rw [this] at h1
    exact h1 (by decide +kernel)
  | .var s, h => by
    intro e
    have : s = "" := e
    exact hns (this ▸ h)
  | .kw s, h => by
    intro e
    have : s = "" := e
    exact hns (this ▸ h)
  | .op o l r, h => by
    intro e
    have h1 := txt_words (.op o l r)
    rw [e] at h1
    have h2 : TL.joinL [32] ((Fm.op o l r).words.map tl) = tl o ++ ([32] ++ TL.joinL [32] (l.words.map tl ++ r.words.map tl)) := by
      simp only [Fm.words, List.map_cons, List.map_append]
      cases hc : l.words.map tl ++ r.words.map tl with
      | nil =>
        have := words_ne l
        simp [List.map_eq_nil_iff] at hc
        exact absurd hc.1 this
      | cons _ _ => rfl
    rw [h2] at h1
    have h3 : tl "" = [] := by decide +kernel
    rw [h3] at h1
    simp at h1
end SV

/-! SVTab: comprehensions with two fors; rows of a table. -/
namespace SV
open PySem L2 PyProof.Rows
open Evl (Ex ex_rd ex_l ex_t sz_of sz_lt)
theorem it_walk {J : It} {n : Nat} {val : Nat → V} {H0 : Hp} (Pv : Nat → Hp → Prop) (Qd : Hp → Prop) (body : (Hp → Prop) → V → Hp → Prop) (hgo : ∀ i H, Pv i H → i < n → J.go i H) (hst : ∀ H, Pv n H → J.stop n H)
    (hy : ∀ i H x H', Pv i H → i < n → J.yld i H x H' → H' = H ∧ x = val i) (h0 : Pv 0 H0) (hs : ∀ i H, i < n → Pv i H → body (Pv (i + 1)) (val i) H) (hd : ∀ H, Pv n H → Qd H) :
    ∃ W : Nat → Nat → Hp → Prop, (∃ m, W 0 m H0) ∧ ∀ i m H, W i m H → (J.stop i H ∧ Qd H) ∨ (J.go i H ∧ ∃ Nx : Hp → Prop, (∀ H', Nx H' → ∃ m', m' < m ∧ W (i + 1) m' H') ∧ ∀ x H', J.yld i H x H' → body Nx x H') := by
  refine ⟨fun i m H => m = n - i ∧ i ≤ n ∧ Pv i H, ⟨n, by simp, Nat.zero_le _, h0⟩, ?_⟩
  rintro i m H ⟨rfl, hi, p⟩
  by_cases hlt : i < n
  · refine .inr ⟨hgo i H p hlt, Pv (i + 1), fun H' p' => ⟨n - (i + 1), by omega, rfl, hlt, p'⟩, fun x H' y => ?_⟩
    obtain ⟨e1, e2⟩ := hy i H x H' p hlt y
    subst e1 e2
    exact hs i _ hlt p
  · have e : i = n := by omega
    subst e
    exact .inl ⟨hst H p, hd H p⟩
section
variable {X : Cx} {ρ : Rho} {m m1 m2 m3 : Sto} {P P1 P2 P3 : MP} {e a b c f o elt iter iter1 : Expr} {es rest : List Expr} {pos p p2 p3 p4 apos cpos px py : Pos} {x y fl : Str} {i j k : Int} {te ta : TE} {A : TA} {D : Ends} {b0 : Hp} {sts : List Stmt} {scope : Scope} {own : List (Str × Nat)} {jx jy : Nat}
/-- what the inner for walks, whatever the block -/
def cBI (X : Cx) (scope : Scope) (tg it : Expr) : TI := fun σ H R => ∀ (s : Shared) (H0 : Hp) (Cc : Addr) (cl : List (Str × Addr)) (fp : List Addr) (pins : List (Addr × Obj)) (sh : Shared), Inv (X.blk s H0 scope (compEnvC scope cl Cc X.env) fp) pins σ H sh →
  wpAny (model X.prog X.w) X.A (eval it (compEnvC scope cl Cc X.env)) (fun v s1 => wpAny (model X.prog X.w) X.A (pyIter v) (PIE (X.blk s H0 scope (compEnvC scope cl Cc X.env) fp) pins σ tg R) (X.blk s H0 scope (compEnvC scope cl Cc X.env) fp).xe s1) (X.blk s H0 scope (compEnvC scope cl Cc X.env) fp).xe sh
theorem pcBI {tg it : Expr} : ∀ (s : Shared) (H0 : Hp) (Cc : Addr) (cl : List (Str × Addr)) (fp : List Addr), PI (X.blk s H0 scope (compEnvC scope cl Cc X.env) fp) tg it (cBI X scope tg it) := fun s H0 Cc cl fp => ⟨fun pins sh σ H R I h => h s H0 Cc cl fp pins sh I⟩
/-- a row: a tuple or a list of ints -/
def Rw (K : PySem.W.Frag) (t : Bool) (xs : List Int) : MP := if t then T K (xs.map I) else L K (xs.map I)
/-- the results behind i rows -/
def accR (cnt : Nat → Nat) (Rs : Nat → Nat → MP) (i : Nat) : List MP := ((List.range i).map fun i => (List.range (cnt i)).map (Rs i)).flatten
theorem accR_succ {cnt : Nat → Nat} {Rs : Nat → Nat → MP} {i : Nat} : accR cnt Rs (i + 1) = accR cnt Rs i ++ (List.range (cnt i)).map (Rs i) := by
  unfold accR
  rw [List.range_succ, List.map_append, List.flatten_append]
  simp
theorem accR_len {cnt : Nat → Nat} {Rs : Nat → Nat → MP} {c : Nat} (hc : ∀ i, cnt i ≤ c) : ∀ i, (accR cnt Rs i).length ≤ i * c
  | 0 => by simp [accR]
  | i + 1 => by
    rw [accR_succ, List.length_append, List.length_map, List.length_range]
    have := accR_len (Rs := Rs) hc i
    have := hc i
    rw [Nat.add_mul]
    omega
theorem lc_turn1 {te : TE} {σ σe : L2.St} {b1 : Hp} {Dl : Addr} {Qs : List MP} {R : MP} {H : Hp} {ρw ρe : Rho} {mn mn' : Sto} {Q : VK} (st : LcSt ρw mn σ b1 Dl Qs H) (hn : Qs.length < 50000) (hsl : Slots (mask H (dom ((Dl, .lst Qs) :: mn))) ρe σe) (hdm : dom mn' = dom mn) (he : ∀ q, Ev te ρe (q :: mn) R (q :: mn'))
    (hQ : ∀ y H4 acc, H4 Dl = some (.lst acc) → acc.length < sizeLine → LcSt ρw mn' σ b1 Dl (Qs ++ [R]) (upd H4 Dl (.lst (acc ++ [y]))) → Ex (mask H (dom ((Dl, .lst Qs) :: mn))) (mask (upd H4 Dl (.lst (acc ++ [y]))) (dom ((Dl, .lst Qs) :: mn))) → Q y H4) : te σe H Q := by
  refine (he (Dl, .lst Qs)).go _ H _ ⟨hsl, st.own⟩ fun y H4 n4 o4 p4 => ?_
  obtain ⟨u, hu, acc, rfl, hall⟩ := o4.ok 0 Dl _ rfl
  have hdq : dom ((Dl, MO.lst Qs) :: mn') = dom ((Dl, MO.lst Qs) :: mn) := by simp only [dom, List.map_cons]; rw [show mn'.map (·.1) = mn.map (·.1) from hdm]
  have p4' : R.p (mask H4 (dom ((Dl, MO.lst Qs) :: mn'))) y := by rw [hdq]; exact p4
  have o5 : Own ((Dl, MO.lst (Qs ++ [R])) :: mn') (upd H4 Dl (.lst (acc ++ [y]))) := o4.put (i := 0) (mo' := .lst (Qs ++ [R])) rfl ⟨_, rfl, hall.append (.cons p4' .nil)⟩
  have hm : mask (upd H4 Dl (.lst (acc ++ [y]))) (dom ((Dl, MO.lst (Qs ++ [R])) :: mn')) = mask H4 (dom ((Dl, MO.lst Qs) :: mn)) := by
    rw [← hdq]
    exact mask_put (m := (Dl, MO.lst Qs) :: mn') (i := 0) (mo := .lst Qs) rfl
  refine hQ y H4 acc hu (sz_lt (by rw [← hall.length]; omega)) ⟨o5, by rw [hm]; exact st.sl.mono n4, by rw [hm]; exact st.gr.trans n4⟩ ?_
  have hm2 : mask (upd H4 Dl (.lst (acc ++ [y]))) (dom ((Dl, MO.lst Qs) :: mn)) = mask H4 (dom ((Dl, MO.lst Qs) :: mn)) := by
    have e : dom ((Dl, MO.lst Qs) :: mn) = dom ((Dl, MO.lst (Qs ++ [R])) :: mn') := by rw [← hdq]; rfl
    rw [← hm, e]
  rw [hm2]
  exact n4
theorem wipe1 (a : Nat) (σ : L2.St) (v : V) : wipe ((wipe σ [a]).set a (some v)) [a] = wipe σ [a] := by simp [wipe, List.set_set]
theorem wipe2 (a b : Nat) (σ : L2.St) (v : V) : wipe ((wipe σ [a, b]).set a (some v)) [a, b] = wipe σ [a, b] := by
  simp only [wipe]
  refine List.ext_getElem? fun i => ?_
  by_cases ha : a = i
  · subst ha
    simp [List.getElem?_set]
  · by_cases hb : b = i
    · subst hb
      simp [List.getElem?_set, ha]
    · simp [List.getElem?_set, ha, hb]
theorem ints_of {H : Hp} {zs : List Int} {ws : List V} (h : All H (zs.map I) ws) : ws = zs.map V.int := all_map V.int h
/-- [elt for x in xs for y in x-row], xs a list of rows; elt makes nothing of the store -/
theorem a_lc2 {rows : List (Bool × List Int)} (ok : LcOk X scope own x jx) (hj1 : X.N[jy]? = some y) (hx1 : Loc (relabel scope X.env) y) (hf1 : ((scope.names.lookup y == some .cell) = true) ∨ (relabel scope X.env).names.lookup y = some .local)
    (hv : jy ∈ own.map (·.2)) 
    (hi : AE X iter ρ m (L X.K (rows.map fun r => Rw X.K r.1 r.2)) m1) (Rs : Nat → Nat → MP) (hz : rows.length ≤ 100) (hz2 : ∀ r ∈ rows, r.2.length ≤ 100)
    (h1 : ∀ (i : Nat) (r : Bool × List Int) (q : Addr × MO), rows[i]? = some r → BE X scope iter1 ((wipeR ρ (own.map (·.2))).set jx (some (Rw X.K r.1 r.2))) (q :: m1) (Rw X.K r.1 r.2) (q :: m1))
    (he : ∀ (i : Nat) (r : Bool × List Int) (j : Nat) (z : Int) (q : Addr × MO), rows[i]? = some r → r.2[j]? = some z → BE X scope elt ((((wipeR ρ (own.map (·.2))).set jx (some (Rw X.K r.1 r.2))).set jy none).set jy (some (I z))) (q :: m1) (Rs i j) (q :: m1))
    (hs : ∀ x, foldedSetIterable iter X.env x = pure x := by intro _; rfl) (hs1 : ∀ env x, foldedSetIterable iter1 env x = pure x := by intro _ _; rfl) :
    AE X (.ListComp elt [⟨.Name x px, iter, [], 0⟩, ⟨.Name y py, iter1, [], 0⟩] scope pos) ρ m (L X.K (accR (fun i => ((rows.getD i (true, [])).2.length)) Rs rows.length)) m1 := by
  have hcnt : ∀ i, (rows.getD i (true, [])).2.length ≤ 100 := fun i => by
    rw [List.getD_eq_getElem?_getD]
    cases e : rows[i]? with
    | none => simp
    | some r => exact hz2 r (List.mem_of_getElem? e)
  refine Ev.can (pe_lc2 (vs1 := [jy]) ok.hc ok.hN (pi_list pcE) ok.ok (fun z hz => by rw [List.mem_singleton] at hz; subst hz; exact hv) ok.pg (fun _ _ _ _ _ => pts_nil) pcBI (fun s H C cl fp => pg_name ok.hN hj1 hx1 hf1) (fun _ _ _ _ _ => pts_nil) pcB hs hs1) ⟨hi.d, fun σ H Q s q => hi.go σ H _ s fun v H1 n1 o1 p1 => ?_⟩
  obtain ⟨l, vs, rfl, hl, hall⟩ := p1
  have hlen : rows.length = vs.length := by have := hall.length; simpa using this
  refine ⟨l, rfl, ⟨vs, ex_l mask_sub hl⟩, fun Dl hDl => ?_⟩
  have s1 := s.go hi.d n1 o1
  let cnt : Nat → Nat := fun i => (rows.getD i (true, [])).2.length
  let W : Nat → Hp → Prop := fun i H' => LcSt (wipeR ρ (own.map (·.2))) m1 (wipe σ (own.map (·.2))) (mask H1 (dom m1)) Dl (accR cnt Rs i) H'
  have hsq : ∀ i H', W i H' → SqL X.K H' l vs := fun i H' st => ex_l mask_sub (ex_l st.gr (by rw [hi.d]; exact hl))
  refine it_walk (J := Itl X.K l) (n := rows.length) (val := fun i => vs.getD i .non) W _ _ (fun i H' st hlt => ⟨vs, vs[i], hsq i H' st, by simp [hlen ▸ hlt]⟩) (fun H' st => ⟨vs, hsq _ H' st, by omega⟩) ?_ ?_ ?_ ?_
  · rintro i H2 xv H3 st hlt ⟨e1, e2⟩
    refine ⟨e1, ?_⟩
    have := e2 vs (hsq i H2 st)
    rw [List.getD_eq_getElem?_getD, this] <;> rfl
  · have := LcSt.start (bs := fun _ => true) (Rs := fun _ => N) (own := own.map (·.2)) s1 hDl
    exact this
  · intro i H2 hlt st
    have hr : rows[i]? = some rows[i] := List.getElem?_eq_getElem hlt
    have hvi : vs.getD i .non = vs[i]'(by omega) := by rw [List.getD_eq_getElem?_getD, List.getElem?_eq_getElem (by omega)] <;> rfl
    obtain ⟨P0, hP0, hpv⟩ := hall.getR (i := i) (v := vs[i]'(by omega)) (List.getElem?_eq_getElem (by omega))
    rw [List.getElem?_map, hr] at hP0
    simp only [Option.map_some, Option.some.injEq] at hP0
    subst hP0
    refine ⟨ok.hw σ _, ?_⟩
    rw [hvi]
    generalize hvv : vs[i]'(by omega) = vi at hpv ⊢
    have hpv2 := (Rw X.K rows[i].1 rows[i].2).mono (H' := mask H2 (dom ((Dl, MO.lst (accR cnt Rs i)) :: m1))) (Ex.trans (by rw [hi.d]; exact Ex.refl _) st.gr) hpv
    show cBI X scope (.Name y py) iter1 ((wipe σ (own.map (·.2))).set jx (some vi)) H2 _
    intro sh H0 Cc cl fp pins sh2 II
    have hb := h1 i rows[i] (Dl, .lst (accR cnt Rs i)) hr sh H0 Cc cl fp
    have hcl := hz2 rows[i] (List.getElem_mem hlt)
    have hci : cnt i = rows[i].2.length := by show (rows.getD i (true, [])).2.length = _; rw [List.getD_eq_getElem?_getD, hr] <;> rfl
    have hal : (accR cnt Rs i).length ≤ i * 100 := accR_len (Rs := Rs) hcnt i
    have hal2 : i * 100 ≤ 100 * 100 := Nat.mul_le_mul_right _ (by omega)
    -- the inner loop, over whatever bears the row's ints
    have inner : ∀ (J : It) (H4 : Hp) (R : It → Hp → Prop), Slots (mask H4 (dom ((Dl, MO.lst (accR cnt Rs i)) :: m1))) ((wipeR ρ (own.map (·.2))).set jx (some (Rw X.K rows[i].1 rows[i].2))) ((wipe σ (own.map (·.2))).set jx (some vi)) → LcSt (wipeR ρ (own.map (·.2))) m1 (wipe σ (own.map (·.2))) (mask H1 (dom m1)) Dl (accR cnt Rs i) H4 →
        (∀ (j : Nat) H', Ex (mask H4 (dom ((Dl, MO.lst (accR cnt Rs i)) :: m1))) (mask H' (dom ((Dl, MO.lst (accR cnt Rs i)) :: m1))) → (j < rows[i].2.length → J.go j H') ∧ (rows[i].2.length ≤ j → J.stop j H') ∧ ∀ x H3, j < rows[i].2.length → J.yld j H' x H3 → H3 = H' ∧ x = V.int (rows[i].2.getD j 0)) →
        ∃ W1 : Nat → Nat → Hp → Prop, (∃ m, W1 0 m H4) ∧ ∀ j k H, W1 j k H → (J.stop j H ∧ W (i + 1) H) ∨ (J.go j H ∧ ∃ Nx1 : Hp → Prop, (∀ H', Nx1 H' → ∃ k', k' < k ∧ W1 (j + 1) k' H') ∧ ∀ x H', J.yld j H x H' →
          gName jy x (wipe ((wipe σ (own.map (·.2))).set jx (some vi)) [jy]) H' fun σ3 H5 => wipe σ3 [jy] = wipe ((wipe σ (own.map (·.2))).set jx (some vi)) [jy] ∧ tYes σ3 H5 fun b H6 => if b = true then cB X scope elt σ3 H6 fun y H7 => ∃ acc, H7 Dl = some (.lst acc) ∧ acc.length < sizeLine ∧ Nx1 (upd H7 Dl (.lst (acc ++ [y]))) else Nx1 H6) := by
      intro J H4 R hsl st4 hJ
      have hd0 : ∀ Qs Qs' : List MP, dom ((Dl, MO.lst Qs) :: m1) = dom ((Dl, MO.lst Qs') :: m1) := fun _ _ => rfl
      refine it_walk (n := rows[i].2.length) (val := fun j => V.int (rows[i].2.getD j 0)) (fun j H' => LcSt (wipeR ρ (own.map (·.2))) m1 (wipe σ (own.map (·.2))) (mask H1 (dom m1)) Dl (accR cnt Rs i ++ (List.range j).map (Rs i)) H' ∧ Ex (mask H4 (dom ((Dl, MO.lst (accR cnt Rs i)) :: m1))) (mask H' (dom ((Dl, MO.lst (accR cnt Rs i)) :: m1)))) _ _
        (fun j H' p hj => (hJ j H' p.2).1 hj) (fun H' p => (hJ _ H' p.2).2.1 (Nat.le_refl _)) (fun j H' x H3 p hj hy => (hJ j H' p.2).2.2 x H3 hj hy) ⟨by simpa using st4, Ex.refl _⟩ ?_ ?_
      · rintro j H5 hj ⟨st5, g5⟩
        refine ⟨by simp [wipe, List.set_set], ?_⟩
        show cB X scope elt ((wipe ((wipe σ (own.map (·.2))).set jx (some vi)) [jy]).set jy (some (.int (rows[i].2.getD j 0)))) H5 _
        have hz : rows[i].2[j]? = some (rows[i].2.getD j 0) := by rw [List.getD_eq_getElem?_getD, List.getElem?_eq_getElem hj] <;> rfl
        have hsl5 : Slots (mask H5 (dom ((Dl, MO.lst (accR cnt Rs i ++ (List.range j).map (Rs i))) :: m1))) ((((wipeR ρ (own.map (·.2))).set jx (some (Rw X.K rows[i].1 rows[i].2))).set jy none).set jy (some (I (rows[i].2.getD j 0)))) ((wipe ((wipe σ (own.map (·.2))).set jx (some vi)) [jy]).set jy (some (.int (rows[i].2.getD j 0)))) :=
          (slots_none jy (hsl.mono g5)).set (P := I (rows[i].2.getD j 0)) rfl jy
        refine lc_turn1 (te := cB X scope elt) (R := Rs i j) st5 (by rw [List.length_append, List.length_map, List.length_range]; omega) hsl5 rfl (fun q => BE.ev (he i rows[i] j _ q hr hz) rfl) fun y H7 acc h7 hz7 st7 g7 => ⟨acc, h7, hz7, ?_, Ex.trans g5 g7⟩
        rw [List.range_succ, List.map_append, ← List.append_assoc]
        exact st7
      · rintro H5 ⟨st5, _⟩
        show LcSt _ _ _ _ _ (accR cnt Rs (i + 1)) _
        rw [accR_succ, hci]
        exact st5
    have hsl0 : Slots (mask H2 (dom ((Dl, MO.lst (accR cnt Rs i)) :: m1))) ((wipeR ρ (own.map (·.2))).set jx (some (Rw X.K rows[i].1 rows[i].2))) ((wipe σ (own.map (·.2))).set jx (some vi)) := st.sl.set hpv2 jx
    cases ht : rows[i].1 with
    | true =>
      rw [ht] at hb
      have hb : AE (X.blk sh H0 scope (compEnvC scope cl Cc X.env) fp) iter1 ((wipeR ρ (own.map (·.2))).set jx (some (Rw X.K rows[i].1 rows[i].2))) ((Dl, .lst (accR cnt Rs i)) :: m1) (T X.K (rows[i].2.map I)) ((Dl, .lst (accR cnt Rs i)) :: m1) := by rw [ht]; exact hb
      refine (pi_tup (tg := .Name y py) (pcE (X := X.blk sh H0 scope (compEnvC scope cl Cc X.env) fp))).run pins sh2 _ H2 _ II (hb.go _ H2 _ ⟨hsl0, st.own⟩ fun v H3 n3 o3 p3 => ?_)
      obtain ⟨a3, w3, rfl, h3, hall3⟩ := p3
      have e3 := ints_of hall3
      subst e3
      refine ⟨a3, rfl, ⟨_, ex_t mask_sub h3⟩, inner _ H3 (fun _ _ => True) (hsl0.mono n3) ⟨o3, st.sl.mono n3, st.gr.trans n3⟩ fun j H' g' => ?_⟩
      have h4 : SqT X.K H' a3 (rows[i].2.map V.int) := ex_t mask_sub (ex_t g' h3)
      refine ⟨fun hj => ⟨_, V.int rows[i].2[j], h4, by simp [hj]⟩, fun hj => ⟨_, h4, by simpa using hj⟩, fun x H3 hj ⟨e1, e2⟩ => ⟨e1, ?_⟩⟩
      have := e2 _ h4
      rw [List.getElem?_map, List.getElem?_eq_getElem hj] at this
      rw [List.getD_eq_getElem?_getD, List.getElem?_eq_getElem hj]
      simpa using this.symm
    | false =>
      rw [ht] at hb
      have hb : AE (X.blk sh H0 scope (compEnvC scope cl Cc X.env) fp) iter1 ((wipeR ρ (own.map (·.2))).set jx (some (Rw X.K rows[i].1 rows[i].2))) ((Dl, .lst (accR cnt Rs i)) :: m1) (L X.K (rows[i].2.map I)) ((Dl, .lst (accR cnt Rs i)) :: m1) := by rw [ht]; exact hb
      refine (pi_list (tg := .Name y py) (pcE (X := X.blk sh H0 scope (compEnvC scope cl Cc X.env) fp))).run pins sh2 _ H2 _ II (hb.go _ H2 _ ⟨hsl0, st.own⟩ fun v H3 n3 o3 p3 => ?_)
      obtain ⟨a3, w3, rfl, h3, hall3⟩ := p3
      have e3 := ints_of hall3
      subst e3
      refine ⟨a3, rfl, ⟨_, ex_l mask_sub h3⟩, inner _ H3 (fun _ _ => True) (hsl0.mono n3) ⟨o3, st.sl.mono n3, st.gr.trans n3⟩ fun j H' g' => ?_⟩
      have h4 : SqL X.K H' a3 (rows[i].2.map V.int) := ex_l mask_sub (ex_l g' h3)
      refine ⟨fun hj => ⟨_, V.int rows[i].2[j], h4, by simp [hj]⟩, fun hj => ⟨_, h4, by simpa using hj⟩, fun x H3 hj ⟨e1, e2⟩ => ⟨e1, ?_⟩⟩
      have := e2 _ h4
      rw [List.getElem?_map, List.getElem?_eq_getElem hj] at this
      rw [List.getD_eq_getElem?_getD, List.getElem?_eq_getElem hj]
      simpa using this.symm
  · intro H2 st
    refine LcSt.fin (K := X.K) st fun v H'' o'' g'' p'' => q v H'' ?_ o'' ?_
    · rw [hi.d] at g''
      exact Ex.trans n1 g''
    · rw [hi.d] at p''
      exact p''
theorem ev_chain {r r' : R2} {ta tb tc : TE} {t u : Bool} (ha : Ev ta ρ m P1 m1) (hb : Ev tb ρ m1 P2 m2) (hr : RV r P1 P2 (B t)) (hc : Ev tc ρ m2 P3 m2) (hr' : RV r' P2 P3 (B u)) : Ev (tChain r r' ta tb tc) ρ m (B (t && u)) m2 := ⟨hb.d.trans ha.d, fun σ H Q s q => by
  refine ha.go σ H _ s fun v H1 n1 o1 p1 => ?_
  have s1 := s.go ha.d n1 o1
  refine hb.go σ H1 _ s1 fun w H2 n2 o2 p2 => ?_
  have hd := hb.d.trans ha.d
  have s2 := s1.go hb.d n2 o2
  have n12 := n1.trans ha.d n2
  refine hr (dom m2) H2 v w _ o2.frees (by rw [hd]; exact P1.mono (n2.to ha.d) p1) (by rw [hb.d]; exact p2) fun z H3 e3 pz => ⟨t, pz, ?_⟩
  have n3 : Nxt m2 H2 H3 := Nxt.of e3
  have o3 := o2.ext e3
  cases t with
  | false =>
    rw [if_neg Bool.false_ne_true]
    exact q _ H3 (n12.trans hd n3) o3 rfl
  | true =>
    rw [if_pos rfl]
    refine hc.go σ H3 _ (s2.go rfl n3 o3) fun w' H4 n4 o4 p4 => ?_
    refine hr' (dom m2) H4 w w' _ o4.frees (P2.mono n4 (P2.mono n3 (by rw [hb.d]; exact p2))) p4 fun z H5 e5 pz => ?_
    exact q _ H5 (((n12.trans hd n3).trans hd n4).trans hd (Nxt.of e5)) (o4.ext e5) (by rw [← hd]; exact pz)⟩
theorem a_leLe (ha : AE X a ρ m (I i) m1) (hb : AE X b ρ m1 (I j) m2) (hc : AE X c ρ m2 (I k) m2) (hm : lastMarks [.LtE, .LtE] [b, c] = false := by with_unfolding_all rfl) : AE X (.Compare a [.LtE, .LtE] [b, c] pos) ρ m (B (decide (i ≤ j) && decide (j ≤ k))) m2 :=
  Ev.can (pe_chain op_le op_le pcE pcE pcE hm) (ev_chain ha hb rv_I0 hc rv_I0)
theorem rc_lenRw {K : PySem.W.Frag} {t : Bool} {xs : List Int} : RC (fun xs H Q => ∃ p ys, xs = [.ref p] ∧ (SqL K H p ys ∨ SqT K H p ys) ∧ Q (.int ys.length) H) [Rw K t xs] (I (xs.length : Int)) := by
  have e : ((xs.map I).length : Int) = (xs.length : Int) := by rw [List.length_map]
  rw [← e]
  cases t with
  | true => exact rc_lenT
  | false => exact rc_lenL
theorem rc_tupRw {K : PySem.W.Frag} {t : Bool} {xs : List Int} : RC (fun xs H Q => ∃ p ys, xs = [.ref p] ∧ ((SqL K H p ys ∧ ∀ l, H l = none → Q (.ref l) (upd H l (.tup ys))) ∨ (SqT K H p ys ∧ Q (.ref p) H))) [Rw K t xs] (T K (xs.map I)) := by
  cases t with
  | true => exact rc_tupT
  | false => exact rc_tupL
theorem gs_fin {Q : VK} (h : Ret Q N m b0) : GS X [] (ends Q) ρ m b0 := gs_nil fun σ H s ex => h _ H s.own ex rfl
/-- rows as data -/
def tabD (rows : List (List Int)) : Dt := .tup (rows.map fun xs => .tup (xs.map .int))
def Tb (K : PySem.W.Frag) (rows : List (List Int)) : MP := T K (rows.map fun xs => T K (xs.map I))
theorem Tb_rp (K : PySem.W.Frag) (rows : List (List Int)) : Tb K rows = rp K (tabD rows) := by
  unfold Tb tabD
  simp only [rp, rps_map, List.map_map]
  congr 1
  refine List.map_congr_left fun xs _ => ?_
  simp only [Function.comp, rp, rps_map, List.map_map]
  congr 1
theorem lay_ints : ∀ xs : List Int, PyData.canLayAll0 (pys (xs.map .int)) = true
  | [] => by simp [pys, PyData.canLayAll0]
  | x :: xs => by simp [pys, Dt.py, PyData.canLayAll0, PyData.canLay0, lay_ints xs]
theorem dep_ints : ∀ xs : List Int, PyData.depthAll (pys (xs.map .int)) = 0
  | [] => by simp [pys, PyData.depthAll]
  | x :: xs => by simp [pys, Dt.py, PyData.depthAll, PyData.depth, dep_ints xs]
theorem tab_lay : ∀ rows : List (List Int), PyData.canLayAll0 (pys (rows.map fun xs => .tup (xs.map .int))) = true
  | [] => by simp [pys, PyData.canLayAll0]
  | x :: xs => by simp [pys, Dt.py, PyData.canLayAll0, PyData.canLay0, lay_ints x, tab_lay xs]
theorem tab_dep : ∀ rows : List (List Int), PyData.depthAll (pys (rows.map fun xs => .tup (xs.map .int))) ≤ 1
  | [] => by simp [pys, PyData.depthAll]
  | x :: xs => by
    have := tab_dep xs
    simp [pys, Dt.py, PyData.depthAll, PyData.depth, dep_ints x]
    omega
theorem tab_shaped (rows : List (List Int)) : SeqAt.shaped (tabD rows).py = true := by
  have h1 := tab_lay rows
  have h2 := tab_dep rows
  unfold SeqAt.shaped tabD
  simp only [Dt.py, PyData.canLay0, PyData.depth, h1, Bool.true_and, decide_eq_true_eq]
  omega
theorem eqv_ints : ∀ xs : List Int, PyData.eqvAll (pys (xs.map .int)) (pys (xs.map .int)) = true
  | [] => by simp [pys, PyData.eqvAll]
  | x :: xs => by simp [pys, Dt.py, PyData.eqvAll, PyData.eqv, eqv_ints xs]
theorem tab_eqv (rows : List (List Int)) : PyData.eqv (tabD rows).py (tabD rows).py = true := by
  have : ∀ rows : List (List Int), PyData.eqvAll (pys (rows.map fun xs => .tup (xs.map .int))) (pys (rows.map fun xs => .tup (xs.map .int))) = true := by
    intro rows
    induction rows with
    | nil => simp [pys, PyData.eqvAll]
    | cons x xs ih => simp [pys, Dt.py, PyData.eqvAll, PyData.eqv, eqv_ints x, ih]
  unfold tabD
  simp only [Dt.py, PyData.eqv]
  exact this rows
/-- rows that make a table -/
def wf (rows : List (Bool × List Int)) : Prop := 1 ≤ rows.length ∧ rows.length ≤ 8 ∧ ∃ w, 1 ≤ w ∧ w ≤ 8 ∧ ∀ r ∈ rows, r.2.length = w ∧ ∀ x ∈ r.2, 0 ≤ x ∧ x ≤ 65535
end
end SV

/-! SVPool: what is drawn. -/
namespace SV
open PySem L2 PyProof.Rows
open Evl (Ex ex_rd ex_l ex_t sz_of sz_lt)
def genLeaf (ns : List Str) (k : Int × Pool) : Fm × Pool :=
  if k.1 < 8 ∧ 0 < ns.length then (named (ns.getD (k.2.draw ns.length).1.toNat ""), (k.2.draw ns.length).2)
  else
    (.num ([(k.2.draw 4).1, ((k.2.draw 4).2.draw 9).1, (((k.2.draw 4).2.draw 9).2.draw 65536).1].getD ((((k.2.draw 4).2.draw 9).2.draw 65536).2.draw 3).1.toNat 0).toNat, ((((k.2.draw 4).2.draw 9).2.draw 65536).2.draw 3).2)
def gen (ns : List Str) : Nat → Pool → Fm × Pool
  | 0, p => genLeaf ns (p.draw 10)
  | d + 1, p =>
    if (p.draw 10).1 < 5 then
      (.op (OPS.getD ((p.draw 10).2.draw 7).1.toNat "") (gen ns d ((p.draw 10).2.draw 7).2).1 (gen ns d (gen ns d ((p.draw 10).2.draw 7).2).2).1, (gen ns d (gen ns d ((p.draw 10).2.draw 7).2).2).2)
    else genLeaf ns (p.draw 10)
theorem leaf_pos {ns : List Str} {k : Int × Pool} (h : 0 ≤ k.2.pos) : 0 ≤ (genLeaf ns k).2.pos := by
  unfold genLeaf
  split
  · exact Pool.draw_pos h
  · exact Pool.draw_pos (Pool.draw_pos (Pool.draw_pos (Pool.draw_pos h)))
theorem gen_pos {ns : List Str} : ∀ (d : Nat) {p : Pool}, 0 ≤ p.pos → 0 ≤ (gen ns d p).2.pos
  | 0, p, h => leaf_pos (Pool.draw_pos h)
  | d + 1, p, h => by
    unfold gen
    split
    · exact gen_pos d (gen_pos d (Pool.draw_pos (Pool.draw_pos h)))
    · exact leaf_pos (Pool.draw_pos h)
theorem getD_mem {α : Type} {xs : List α} {n : Nat} {d : α} (h : n < xs.length) : xs.getD n d ∈ xs := by
  rw [List.getD_eq_getElem?_getD, List.getElem?_eq_getElem h]
  exact List.getElem_mem h
theorem leaf_ht {ns : List Str} {k : Int × Pool} : (genLeaf ns k).1.ht = 1 := by
  unfold genLeaf
  split
  · show (named _).ht = 1
    unfold named
    split <;> rfl
  · rfl
theorem gen_ht {ns : List Str} : ∀ (d : Nat) (p : Pool), (gen ns d p).1.ht ≤ d + 1
  | 0, p => by unfold gen; rw [leaf_ht]; exact Nat.le_refl _
  | d + 1, p => by
    unfold gen
    split
    · simp only [Fm.ht]
      have h1 := gen_ht (ns := ns) d ((p.draw 10).2.draw 7).2
      have h2 := gen_ht (ns := ns) d (gen ns d ((p.draw 10).2.draw 7).2).2
      omega
    · rw [leaf_ht]; omega
theorem leaf_num {q : Pool} : ([(q.draw 4).1, ((q.draw 4).2.draw 9).1, (((q.draw 4).2.draw 9).2.draw 65536).1].getD ((((q.draw 4).2.draw 9).2.draw 65536).2.draw 3).1.toNat 0) ≤ 65535 ∧ 0 ≤ ([(q.draw 4).1, ((q.draw 4).2.draw 9).1, (((q.draw 4).2.draw 9).2.draw 65536).1].getD ((((q.draw 4).2.draw 9).2.draw 65536).2.draw 3).1.toNat 0) := by
  have h1 := Pool.draw_lt q (size := 4) (by decide)
  have h2 := Pool.draw_lt (q.draw 4).2 (size := 9) (by decide)
  have h3 := Pool.draw_lt ((q.draw 4).2.draw 9).2 (size := 65536) (by decide)
  generalize ((((q.draw 4).2.draw 9).2.draw 65536).2.draw 3).1.toNat = n
  match n with
  | 0 => simp; omega
  | 1 => simp; omega
  | 2 => simp; omega
  | n + 3 => simp
theorem leaf_good {ns : List Str} {k : Int × Pool} (hn : ∀ s ∈ ns, s ≠ "own" ∧ s ≠ "lot" ∧ s.length ≤ 10) : (genLeaf ns k).1.good ns ∧ (genLeaf ns k).1.tx := by
  unfold genLeaf
  split
  · rename_i h
    have hd := Pool.draw_lt k.2 (size := ns.length) (by omega)
    have hm : ns.getD (k.2.draw ns.length).1.toNat "" ∈ ns := getD_mem (by omega)
    have hz := hn _ hm
    have e : named (ns.getD (k.2.draw ns.length).1.toNat "") = .var (ns.getD (k.2.draw ns.length).1.toNat "") := by
      unfold named
      rw [if_neg (by rintro (z | z); exact hz.1 z; exact hz.2.1 z)]
    show (named _).good ns ∧ (named _).tx
    rw [e]
    exact ⟨⟨hm, e⟩, hz.2.2⟩
  · have h := leaf_num (q := k.2)
    refine ⟨?_, ?_⟩
    · show Int.toNat _ ≤ 65535
      omega
    · show Int.toNat _ ≤ 65535
      omega
theorem gen_good {ns : List Str} (hn : ∀ s ∈ ns, s ≠ "own" ∧ s ≠ "lot" ∧ s.length ≤ 10) : ∀ (d : Nat) (p : Pool), (gen ns d p).1.good ns ∧ (gen ns d p).1.tx
  | 0, p => by unfold gen; exact leaf_good hn
  | d + 1, p => by
    unfold gen
    split
    · have h1 := gen_good hn d ((p.draw 10).2.draw 7).2
      have h2 := gen_good hn d (gen ns d ((p.draw 10).2.draw 7).2).2
      have hd := Pool.draw_lt (p.draw 10).2 (size := 7) (by decide)
      have ho : OPS.getD ((p.draw 10).2.draw 7).1.toNat "" ∈ OPS := getD_mem (by show _ < 7; omega)
      exact ⟨⟨ho, h1.1, h2.1⟩, ⟨ho, h1.2, h2.2⟩⟩
    · exact leaf_good hn
def envAB (i j : Nat) (s : Str) : Int := if s = "a" then i else j
def fmTable (f : Fm) (r c : Nat) : List (List Int) := (List.range r).map fun i => (List.range c).map fun j => f.val (envAB i j)
theorem envAB_lt {i j : Nat} (hi : i < 8) (hj : j < 8) (s : Str) : 0 ≤ envAB i j s ∧ envAB i j s ≤ 65535 := by
  unfold envAB
  split <;> omega
theorem fmTable_wf {f : Fm} {ns : List Str} (hf : f.ok ns) {r c : Nat} (hr : 1 ≤ r ∧ r ≤ 8) (hc : 1 ≤ c ∧ c ≤ 8) (t : Bool) : wf ((fmTable f r c).map fun xs => (t, xs)) := by
  refine ⟨by simp [fmTable]; omega, by simp [fmTable]; omega, c, hc.1, hc.2, fun q hq => ?_⟩
  obtain ⟨xs, hx, rfl⟩ := List.mem_map.mp hq
  obtain ⟨i, hi, rfl⟩ := List.mem_map.mp hx
  refine ⟨by simp, fun x hx => ?_⟩
  obtain ⟨j, hj, rfl⟩ := List.mem_map.mp hx
  have hi := List.mem_range.mp hi
  have hj := List.mem_range.mp hj
  exact val_lt (ns := ns) (fun s _ => envAB_lt (by omega) (by omega) s) f hf
/-- the law's own reckoning is the same -/
def reck2 (o : Str) (a b : Int) : Int :=
  if o = "+" then a + b - 65536 * (if a + b > 65535 then 1 else 0)
  else if o = "-" then (if a - b > 0 then a - b else 0)
  else if o = "*" then a * b - a * b / 65536 * 65536
  else if o = "<" then (if a < b then 1 else 0)
  else if o = "=" then (if a = b then 1 else 0)
  else if b = 0 then 0
  else if o = "/" then a / b
  else a - a / b * b
theorem reck2_eq (o : Str) {a b : Int} (ha : 0 ≤ a ∧ a ≤ 65535) (hb : 0 ≤ b ∧ b ≤ 65535) : reck2 o a b = reck o a b := by
  unfold reck2 reck
  split
  · split <;> omega
  split
  · split <;> split <;> omega
  split
  · generalize a * b = c
    omega
  split
  · rfl
  split
  · rfl
  split
  · rfl
  split
  · rfl
  · have := Int.emod_add_mul_ediv a b
    have h2 : a / b * b = b * (a / b) := Int.mul_comm _ _
    rw [h2]
    omega
theorem gen_leaf {ns : List Str} {d : Nat} {p : Pool} (h : ¬ ((p.draw 10).1 < 5 ∧ 0 < d)) : gen ns d p = genLeaf ns (p.draw 10) := by
  cases d with
  | zero => rfl
  | succ d =>
    unfold gen
    rw [if_neg fun z => h ⟨z, Nat.succ_pos _⟩]
theorem gen_op {ns : List Str} {d : Nat} {p : Pool} (h : (p.draw 10).1 < 5) : gen ns (d + 1) p = (.op (OPS.getD ((p.draw 10).2.draw 7).1.toNat "") (gen ns d ((p.draw 10).2.draw 7).2).1 (gen ns d (gen ns d ((p.draw 10).2.draw 7).2).2).1, (gen ns d (gen ns d ((p.draw 10).2.draw 7).2).2).2) := by
  conv => lhs; unfold gen
  rw [if_pos h]
theorem good_mono {ns ns' : List Str} (hs : ∀ s ∈ ns, s ∈ ns') : ∀ f : Fm, f.good ns → f.good ns'
  | .num n, h => h
  | .var s, h => ⟨hs s h.1, h.2⟩
  | .kw s, h => ⟨hs s h.1, h.2⟩
  | .op o l r, h => ⟨h.1, good_mono hs l h.2.1, good_mono hs r h.2.2⟩
theorem words_cnt : ∀ f : Fm, f.words.length + 1 ≤ 2 ^ f.ht
  | .num n => by simp [Fm.words, Fm.ht]
  | .var s => by simp [Fm.words, Fm.ht]
  | .kw s => by simp [Fm.words, Fm.ht]
  | .op o l r => by
    have h1 := words_cnt l
    have h2 := words_cnt r
    have p1 : 2 ^ l.ht ≤ 2 ^ (max l.ht r.ht) := Nat.pow_le_pow_right (by decide) (by omega)
    have p2 : 2 ^ r.ht ≤ 2 ^ (max l.ht r.ht) := Nat.pow_le_pow_right (by decide) (by omega)
    simp only [Fm.words, Fm.ht, List.length_cons, List.length_append, Nat.pow_succ]
    omega
theorem words_few (f : Fm) {n : Nat} (h : f.ht ≤ n) (h6 : n ≤ 6) : f.words.length ≤ 64 := by
  have h1 := words_cnt f
  have h2 : 2 ^ f.ht ≤ 2 ^ 6 := Nat.pow_le_pow_right (by decide) (by omega)
  omega
theorem rc_strS {s : Str} : RC (fun xs H Q => ∃ a, xs = [V.str a] ∧ Q (.str a) H) [S s] (S s) := fun d H vs Q _ h q => by
  match vs, h with
  | [_], .cons rfl .nil => exact ⟨s, rfl, q _ H (Ex.refl _) rfl⟩
theorem wlen_sum : ∀ (l : List Str), (∀ w ∈ l, w.length ≤ 10) → (l.map (·.length)).sum ≤ l.length * 10
  | [], _ => by simp
  | x :: l, h => by
    have h1 := wlen_sum l fun w hw => h w (List.mem_cons_of_mem _ hw)
    have h2 := h x List.mem_cons_self
    simp only [List.map_cons, List.sum_cons, List.length_cons, Nat.add_mul]
    omega
theorem numS_eq (n : Nat) : (toString ((n : Nat) : Int) : Str) = numS n := rfl
theorem row_eq {f : Fm} {r c : Nat} : (List.range r).map (fun i => (List.range c).map fun j => f.val (envAB i j)) = fmTable f r c := rfl
theorem ints_dp : ∀ xs : List Int, dps (xs.map .int) = 0
  | [] => by simp [dps]
  | x :: xs => by simp [dps, Dt.dp, ints_dp xs]
theorem ints_wd : ∀ xs : List Int, wds (xs.map .int) = 0
  | [] => by simp [wds]
  | x :: xs => by simp [wds, Dt.wd, ints_wd xs]
theorem tab_dp (rows : List (List Int)) : (tabD rows).dp ≤ 2 := by
  have : ∀ rows : List (List Int), dps (rows.map fun xs => .tup (xs.map .int)) ≤ 1 := by
    intro rows
    induction rows with
    | nil => simp [dps]
    | cons x xs ih => simp [dps, Dt.dp, ints_dp x]; omega
  unfold tabD
  simp only [Dt.dp]
  have := this rows
  omega
theorem tab_wd {rows : List (List Int)} {k : Nat} (h1 : rows.length ≤ k) (h2 : ∀ xs ∈ rows, xs.length ≤ k) : (tabD rows).wd ≤ k := by
  have : ∀ rows : List (List Int), (∀ xs ∈ rows, xs.length ≤ k) → wds (rows.map fun xs => .tup (xs.map .int)) ≤ k := by
    intro rows h
    induction rows with
    | nil => simp [wds]
    | cons x xs ih =>
      have h1 := h x List.mem_cons_self
      have h2 := ih fun y hy => h y (List.mem_cons_of_mem _ hy)
      simp [wds, Dt.wd, ints_wd x]
      omega
  unfold tabD
  simp only [Dt.wd, List.length_map]
  have := this rows h2
  omega
theorem fmTable_len {f : Fm} {r c : Nat} : (fmTable f r c).length = r ∧ ∀ xs ∈ fmTable f r c, xs.length = c := by
  refine ⟨by simp [fmTable], fun xs h => ?_⟩
  obtain ⟨i, _, rfl⟩ := List.mem_map.mp h
  simp
end SV

namespace K02
open PySem L2 PyProof.Rows SV
open Evl (Ex ex_rd ex_l ex_t sz_of sz_lt)
/-! ### the text by places -/
def top (i : Nat) : Stmt := PySem.Challenge.pw_splittalk_k02_formulas.main.body.getD i (.Pass ⟨0, 0, 0, 0⟩)
abbrev sBadText_init : Stmt := (inClass (top 2) 0)
abbrev n_BadText_init : List Str := ["self", "at"]
theorem sc_BadText_init : FnScope n_BadText_init ["self", "at"] (defScope sBadText_init) := ⟨rfl, rfl, rfl, by decide +kernel, rfl, by decide +kernel, by decide +kernel⟩
abbrev sBadTable_init : Stmt := (inClass (top 3) 0)
abbrev n_BadTable_init : List Str := ["self", "what"]
theorem sc_BadTable_init : FnScope n_BadTable_init ["self", "what"] (defScope sBadTable_init) := ⟨rfl, rfl, rfl, by decide +kernel, rfl, by decide +kernel, by decide +kernel⟩
abbrev sWords_of : Stmt := (top 8)
abbrev n_words_of : List Str := ["text"]
theorem sc_words_of : FnScope n_words_of ["text"] (defScope sWords_of) := ⟨rfl, rfl, rfl, by decide +kernel, rfl, by decide +kernel, by decide +kernel⟩
abbrev sIs_number : Stmt := (top 9)
abbrev n_is_number : List Str := ["word"]
theorem sc_is_number : FnScope n_is_number ["word"] (defScope sIs_number) := ⟨rfl, rfl, rfl, by decide +kernel, rfl, by decide +kernel, by decide +kernel⟩
abbrev sAre_digits : Stmt := (top 10)
abbrev n_are_digits : List Str := ["word", "digit"]
theorem sc_are_digits : FnScope n_are_digits ["word"] (defScope sAre_digits) := ⟨rfl, rfl, rfl, by decide +kernel, rfl, by decide +kernel, by decide +kernel⟩
abbrev sRead_expression : Stmt := (top 14)
abbrev n_read_expression : List Str := ["words", "at", "names", "deepest", "word", "one", "behind", "other"]
theorem sc_read_expression : FnScope n_read_expression ["words", "at", "names", "deepest"] (defScope sRead_expression) := ⟨rfl, rfl, rfl, by decide +kernel, rfl, by decide +kernel, by decide +kernel⟩
abbrev sNamed : Stmt := (top 15)
abbrev n_named : List Str := ["word"]
theorem sc_named : FnScope n_named ["word"] (defScope sNamed) := ⟨rfl, rfl, rfl, by decide +kernel, rfl, by decide +kernel, by decide +kernel⟩
abbrev sExpression_text : Stmt := (top 16)
abbrev n_expression_text : List Str := ["expression", "kind"]
theorem sc_expression_text : FnScope n_expression_text ["expression"] (defScope sExpression_text) := ⟨rfl, rfl, rfl, by decide +kernel, rfl, by decide +kernel, by decide +kernel⟩
abbrev sExpression_value : Stmt := (top 17)
abbrev n_expression_value : List Str := ["expression", "values", "kind", "one", "other"]
theorem sc_expression_value : FnScope n_expression_value ["expression", "values"] (defScope sExpression_value) := ⟨rfl, rfl, rfl, by decide +kernel, rfl, by decide +kernel, by decide +kernel⟩
abbrev sReckoned : Stmt := (top 18)
abbrev n_reckoned : List Str := ["operator", "one", "other"]
theorem sc_reckoned : FnScope n_reckoned ["operator", "one", "other"] (defScope sReckoned) := ⟨rfl, rfl, rfl, by decide +kernel, rfl, by decide +kernel, by decide +kernel⟩
abbrev sRemainder : Stmt := (top 19)
abbrev n_remainder : List Str := ["one", "other"]
theorem sc_remainder : FnScope n_remainder ["one", "other"] (defScope sRemainder) := ⟨rfl, rfl, rfl, by decide +kernel, rfl, by decide +kernel, by decide +kernel⟩
abbrev sFault : Stmt := (top 21)
abbrev n_fault : List Str := ["rows", "width", "row", "result"]
theorem sc_fault : FnScope n_fault ["rows"] (defScope sFault) := ⟨rfl, rfl, rfl, by decide +kernel, rfl, by decide +kernel, by decide +kernel⟩
abbrev sTable_init : Stmt := (inClass (top 22) 0)
abbrev n_Table_init : List Str := ["self", "rows", "what", "row"]
theorem sc_Table_init : FnScope n_Table_init ["self", "rows"] (defScope sTable_init) := ⟨rfl, rfl, rfl, by decide +kernel, rfl, by decide +kernel, by decide +kernel⟩
abbrev sTable_eq : Stmt := (inClass (top 22) 1)
abbrev n_Table_eq : List Str := ["self", "other"]
theorem sc_Table_eq : FnScope n_Table_eq ["self", "other"] (defScope sTable_eq) := ⟨rfl, rfl, rfl, by decide +kernel, rfl, by decide +kernel, by decide +kernel⟩
abbrev sRead_formula : Stmt := (top 24)
abbrev n_read_formula : List Str := ["text", "words", "formula", "behind"]
theorem sc_read_formula : FnScope n_read_formula ["text"] (defScope sRead_formula) := ⟨rfl, rfl, rfl, by decide +kernel, rfl, by decide +kernel, by decide +kernel⟩
abbrev sFormula_text : Stmt := (top 25)
abbrev n_formula_text : List Str := ["formula"]
theorem sc_formula_text : FnScope n_formula_text ["formula"] (defScope sFormula_text) := ⟨rfl, rfl, rfl, by decide +kernel, rfl, by decide +kernel, by decide +kernel⟩
abbrev sFormula_table : Stmt := (top 26)
abbrev n_formula_table : List Str := ["formula", "rows", "columns", "row", "column"]
theorem sc_formula_table : FnScope n_formula_table ["formula", "rows", "columns"] (defScope sFormula_table) := ⟨rfl, rfl, rfl, by decide +kernel, rfl, by decide +kernel, by decide +kernel⟩
abbrev sLaw_pool : Stmt := (top 28)
abbrev n_law_pool : List Str := ["script", "budget"]
theorem sc_law_pool : FnScope n_law_pool ["script", "budget"] (defScope sLaw_pool) := ⟨rfl, rfl, rfl, by decide +kernel, rfl, by decide +kernel, by decide +kernel⟩
abbrev sLaw_draw : Stmt := (top 29)
abbrev n_law_draw : List Str := ["pool", "size", "cell", "value"]
theorem sc_law_draw : FnScope n_law_draw ["pool", "size"] (defScope sLaw_draw) := ⟨rfl, rfl, rfl, by decide +kernel, rfl, by decide +kernel, by decide +kernel⟩
abbrev sLaw_same : Stmt := (top 30)
abbrev n_law_same : List Str := ["actual", "due", "k"]
theorem sc_law_same : FnScope n_law_same ["actual", "due"] (defScope sLaw_same) := ⟨rfl, rfl, rfl, by decide +kernel, rfl, by decide +kernel, by decide +kernel⟩
abbrev sLaw_value : Stmt := (top 31)
abbrev n_law_value : List Str := ["pool", "names", "deep", "kind", "sign", "left", "name"]
theorem sc_law_value : FnScope n_law_value ["pool", "names", "deep"] (defScope sLaw_value) := ⟨rfl, rfl, rfl, by decide +kernel, rfl, by decide +kernel, by decide +kernel⟩
abbrev sLaw_value_words : Stmt := (top 32)
abbrev n_law_value_words : List Str := ["due"]
theorem sc_law_value_words : FnScope n_law_value_words ["due"] (defScope sLaw_value_words) := ⟨rfl, rfl, rfl, by decide +kernel, rfl, by decide +kernel, by decide +kernel⟩
abbrev sLaw_number_of : Stmt := (top 33)
abbrev n_law_number_of : List Str := ["due", "table", "a", "b", "whole"]
theorem sc_law_number_of : FnScope n_law_number_of ["due", "table"] (defScope sLaw_number_of) := ⟨rfl, rfl, rfl, by decide +kernel, rfl, by decide +kernel, by decide +kernel⟩
abbrev sLaw : Stmt := (top 34)
abbrev n_law : List Str := ["script", "pool", "formula", "text", "rows", "columns", "due", "row", "column", "found"]
theorem sc_law : FnScope n_law ["script"] (defScope sLaw) := ⟨rfl, rfl, rfl, by decide +kernel, rfl, by decide +kernel, by decide +kernel⟩

/-! ### what the top leaves -/
structure Txt (K : PySem.W.Frag) (mg : Str → Option Value) (cTalkError cBadText cBadTable cTable : Addr) : Prop where
  g_TalkError : mg "TalkError" = some (.ref cTalkError)
  g_BadText : mg "BadText" = some (.ref cBadText)
  g_BadTable : mg "BadTable" = some (.ref cBadTable)
  g_Table : mg "Table" = some (.ref cTable)
  d_words_of : ∃ f fd, Fun K "words_of" "words_of" sWords_of f fd ∧ mg "words_of" = some (.ref f)
  d_is_number : ∃ f fd, Fun K "is_number" "is_number" sIs_number f fd ∧ mg "is_number" = some (.ref f)
  d_are_digits : ∃ f fd, Fun K "are_digits" "are_digits" sAre_digits f fd ∧ mg "are_digits" = some (.ref f)
  d_read_expression : ∃ f fd, FunD K "read_expression" "read_expression" (defArgs sRead_expression) (defBody sRead_expression) (defScope sRead_expression) [.int (5)] [] f fd ∧ mg "read_expression" = some (.ref f)
  d_named : ∃ f fd, Fun K "_named" "_named" sNamed f fd ∧ mg "_named" = some (.ref f)
  d_expression_text : ∃ f fd, Fun K "expression_text" "expression_text" sExpression_text f fd ∧ mg "expression_text" = some (.ref f)
  d_expression_value : ∃ f fd, Fun K "expression_value" "expression_value" sExpression_value f fd ∧ mg "expression_value" = some (.ref f)
  d_reckoned : ∃ f fd, Fun K "_reckoned" "_reckoned" sReckoned f fd ∧ mg "_reckoned" = some (.ref f)
  d_remainder : ∃ f fd, Fun K "remainder" "remainder" sRemainder f fd ∧ mg "remainder" = some (.ref f)
  d_fault : ∃ f fd, Fun K "_fault" "_fault" sFault f fd ∧ mg "_fault" = some (.ref f)
  d_Table_init : ∃ f fd, Fun K "__init__" "Table.__init__" sTable_init f fd ∧ PySem.W.findIn K (.ref cTable) "__init__" = some (some (.ref f)) ∧ PySem.W.isFn K (.ref f) = true ∧ PySem.W.keepIn K (.ref f) = true
  d_Table_eq : ∃ f fd, Fun K "__eq__" "Table.__eq__" sTable_eq f fd ∧ PySem.W.findIn K (.ref cTable) "__eq__" = some (some (.ref f)) ∧ PySem.W.isFn K (.ref f) = true ∧ PySem.W.keepIn K (.ref f) = true
  d_read_formula : ∃ f fd, Fun K "read_formula" "read_formula" sRead_formula f fd ∧ mg "read_formula" = some (.ref f)
  d_formula_text : ∃ f fd, Fun K "formula_text" "formula_text" sFormula_text f fd ∧ mg "formula_text" = some (.ref f)
  d_formula_table : ∃ f fd, Fun K "formula_table" "formula_table" sFormula_table f fd ∧ mg "formula_table" = some (.ref f)
  d_law_pool : ∃ f fd, Fun K "_law_pool" "_law_pool" sLaw_pool f fd ∧ mg "_law_pool" = some (.ref f)
  d_law_draw : ∃ f fd, Fun K "_law_draw" "_law_draw" sLaw_draw f fd ∧ mg "_law_draw" = some (.ref f)
  d_law_same : ∃ f fd, Fun K "_law_same" "_law_same" sLaw_same f fd ∧ mg "_law_same" = some (.ref f)
  d_law_value : ∃ f fd, Fun K "_law_value" "_law_value" sLaw_value f fd ∧ mg "_law_value" = some (.ref f)
  d_law_value_words : ∃ f fd, Fun K "_law_value_words" "_law_value_words" sLaw_value_words f fd ∧ mg "_law_value_words" = some (.ref f)
  d_law_number_of : ∃ f fd, Fun K "_law_number_of" "_law_number_of" sLaw_number_of f fd ∧ mg "_law_number_of" = some (.ref f)
  d_law : ∃ f fd, Fun K "law" "law" sLaw f fd ∧ mg "law" = some (.ref f)
  cl_Table : ClsI K cTable
  mk_Table : PySem.W.makesIn K cTable = true
  kc_Table : PySem.W.keepIn K (.ref cTable) = true
  na_Table_rows : NoAttr K cTable "rows"
  b_all : mg "all" = none
  b_any : mg "any" = none
  b_bool : mg "bool" = none
  b_int : mg "int" = none
  b_isinstance : mg "isinstance" = none
  b_len : mg "len" = none
  b_list : mg "list" = none
  b_max : mg "max" = none
  b_range : mg "range" = none
  b_str : mg "str" = none
  b_tuple : mg "tuple" = none
  g_LARGEST : ∃ t, mg "LARGEST" = some (.int (65535) t)
  g_MOST_VALUES : ∃ t, mg "MOST_VALUES" = some (.int (8) t)
  g__DIGITS : ∃ t, mg "_DIGITS" = some (.str "0123456789" t)
  g__OPERATORS : ∃ a, mg "_OPERATORS" = some (.ref a) ∧ ∀ H, SqT K H a [.str "+", .str "-", .str "*", .str "/", .str "mod", .str "<", .str "="]
  g__DEEPEST : ∃ t, mg "_DEEPEST" = some (.int (5) t)
section
variable {P : Program} {w : World} {K : PySem.W.Frag} {mg : Str → Option Value} {base : Heap} {cTalkError cBadText cBadTable cTable : Addr}
theorem txt_mk {h : Heap} {f1 f2 f3 f4 f5 f6 f7 f8 f9 f10 f11 f12 f13 f14 f15 f16 f17 f18 f19 f20 f21 f22 : Addr} (X : K.In h) (G : h.Ns mainGlobals mg)
    {od1 an1 : Option Addr} {sl1 : Array (Option Value)} {oc1 kV1 dc1 pm1 cd1 ct1 : Value} {od2 an2 : Option Addr} {sl2 : Array (Option Value)} {oc2 kV2 dc2 pm2 cd2 ct2 : Value} {od3 an3 : Option Addr} {sl3 : Array (Option Value)}
    {oc3 kV3 dc3 pm3 cd3 ct3 : Value} {od4 an4 : Option Addr} {sl4 : Array (Option Value)} {oc4 kV4 dc4 pm4 cd4 ct4 : Value} {T4 : Addr} {ocT4 : Value} {odT4 : Option Addr} {nT4 : Nat}
    {slT4 : Array (Option Value)} {tk4_0 : Tok} {od5 an5 : Option Addr} {sl5 : Array (Option Value)} {oc5 kV5 dc5 pm5 cd5 ct5 : Value} {od6 an6 : Option Addr} {sl6 : Array (Option Value)} {oc6 kV6 dc6 pm6 cd6 ct6 : Value}
    {od7 an7 : Option Addr} {sl7 : Array (Option Value)} {oc7 kV7 dc7 pm7 cd7 ct7 : Value} {od8 an8 : Option Addr} {sl8 : Array (Option Value)} {oc8 kV8 dc8 pm8 cd8 ct8 : Value} {od9 an9 : Option Addr} {sl9 : Array (Option Value)}
    {oc9 kV9 dc9 pm9 cd9 ct9 : Value} {od10 an10 : Option Addr} {sl10 : Array (Option Value)} {oc10 kV10 dc10 pm10 cd10 ct10 : Value} {od11 an11 : Option Addr} {sl11 : Array (Option Value)} {oc11 kV11 dc11 pm11 cd11 ct11 : Value} {od12 an12 : Option Addr}
    {sl12 : Array (Option Value)} {oc12 kV12 dc12 pm12 cd12 ct12 : Value} {od13 an13 : Option Addr} {sl13 : Array (Option Value)} {oc13 kV13 dc13 pm13 cd13 ct13 : Value} {od14 an14 : Option Addr} {sl14 : Array (Option Value)} {oc14 kV14 dc14 pm14 cd14 ct14 : Value}
    {od15 an15 : Option Addr} {sl15 : Array (Option Value)} {oc15 kV15 dc15 pm15 cd15 ct15 : Value} {od16 an16 : Option Addr} {sl16 : Array (Option Value)} {oc16 kV16 dc16 pm16 cd16 ct16 : Value} {od17 an17 : Option Addr} {sl17 : Array (Option Value)}
    {oc17 kV17 dc17 pm17 cd17 ct17 : Value} {od18 an18 : Option Addr} {sl18 : Array (Option Value)} {oc18 kV18 dc18 pm18 cd18 ct18 : Value} {od19 an19 : Option Addr} {sl19 : Array (Option Value)} {oc19 kV19 dc19 pm19 cd19 ct19 : Value} {od20 an20 : Option Addr}
    {sl20 : Array (Option Value)} {oc20 kV20 dc20 pm20 cd20 ct20 : Value} {od21 an21 : Option Addr} {sl21 : Array (Option Value)} {oc21 kV21 dc21 pm21 cd21 ct21 : Value} {od22 an22 : Option Addr} {sl22 : Array (Option Value)} {oc22 kV22 dc22 pm22 cd22 ct22 : Value}
    {tg_LARGEST : Tok} {tg_MOST_VALUES : Tok} {tg__DIGITS : Tok} {A__OPERATORS : Addr} {oD__OPERATORS : Option Addr} {nN__OPERATORS : Nat} {sS__OPERATORS : Array (Option Value)} {tq_OPERATORS_0 : Tok}
    {tq_OPERATORS_1 : Tok} {tq_OPERATORS_2 : Tok} {tq_OPERATORS_3 : Tok} {tq_OPERATORS_4 : Tok} {tq_OPERATORS_5 : Tok} {tq_OPERATORS_6 : Tok} {tg__DEEPEST : Tok}
    (aC_TalkError : PySem.W.nsIn K mainGlobals "TalkError" = some (some (.ref cTalkError)))
    (aC_BadText : PySem.W.nsIn K mainGlobals "BadText" = some (some (.ref cBadText)))
    (aC_BadTable : PySem.W.nsIn K mainGlobals "BadTable" = some (some (.ref cBadTable)))
    (aC_Table : PySem.W.nsIn K mainGlobals "Table" = some (some (.ref cTable)))
    (a1 : PySem.W.nsIn K mainGlobals "words_of" = some (some (.ref f1)))
    (l1 : K.lookup f1 = some ⟨oc1, od1, .func (PySem.W.fnOf "words_of" "words_of" (defArgs sWords_of) (defBody sWords_of) (defScope sWords_of) .none kV1 dc1 pm1 an1 cd1 ct1), sl1⟩)
    (c1 : PySem.W.codeIn K cd1 "words_of" = true)
    (k1 : PySem.W.keepIn K (.ref f1) = true)
    (a2 : PySem.W.nsIn K mainGlobals "is_number" = some (some (.ref f2)))
    (l2 : K.lookup f2 = some ⟨oc2, od2, .func (PySem.W.fnOf "is_number" "is_number" (defArgs sIs_number) (defBody sIs_number) (defScope sIs_number) .none kV2 dc2 pm2 an2 cd2 ct2), sl2⟩)
    (c2 : PySem.W.codeIn K cd2 "is_number" = true)
    (k2 : PySem.W.keepIn K (.ref f2) = true)
    (a3 : PySem.W.nsIn K mainGlobals "are_digits" = some (some (.ref f3)))
    (l3 : K.lookup f3 = some ⟨oc3, od3, .func (PySem.W.fnOf "are_digits" "are_digits" (defArgs sAre_digits) (defBody sAre_digits) (defScope sAre_digits) .none kV3 dc3 pm3 an3 cd3 ct3), sl3⟩)
    (c3 : PySem.W.codeIn K cd3 "are_digits" = true)
    (k3 : PySem.W.keepIn K (.ref f3) = true)
    (a4 : PySem.W.nsIn K mainGlobals "read_expression" = some (some (.ref f4)))
    (l4 : K.lookup f4 = some ⟨oc4, od4, .func (PySem.W.fnOf "read_expression" "read_expression" (defArgs sRead_expression) (defBody sRead_expression) (defScope sRead_expression) (.ref T4) kV4 dc4 pm4 an4 cd4 ct4), sl4⟩)
    (c4 : PySem.W.codeIn K cd4 "read_expression" = true)
    (k4 : PySem.W.keepIn K (.ref f4) = true)
    (lT4 : K.lookup T4 = some ⟨ocT4, odT4, .seq (([.int (5) tk4_0] : List Value).toArray) nT4, slT4⟩)
    (a5 : PySem.W.nsIn K mainGlobals "_named" = some (some (.ref f5)))
    (l5 : K.lookup f5 = some ⟨oc5, od5, .func (PySem.W.fnOf "_named" "_named" (defArgs sNamed) (defBody sNamed) (defScope sNamed) .none kV5 dc5 pm5 an5 cd5 ct5), sl5⟩)
    (c5 : PySem.W.codeIn K cd5 "_named" = true)
    (k5 : PySem.W.keepIn K (.ref f5) = true)
    (a6 : PySem.W.nsIn K mainGlobals "expression_text" = some (some (.ref f6)))
    (l6 : K.lookup f6 = some ⟨oc6, od6, .func (PySem.W.fnOf "expression_text" "expression_text" (defArgs sExpression_text) (defBody sExpression_text) (defScope sExpression_text) .none kV6 dc6 pm6 an6 cd6 ct6), sl6⟩)
    (c6 : PySem.W.codeIn K cd6 "expression_text" = true)
    (k6 : PySem.W.keepIn K (.ref f6) = true)
    (a7 : PySem.W.nsIn K mainGlobals "expression_value" = some (some (.ref f7)))
    (l7 : K.lookup f7 = some ⟨oc7, od7, .func (PySem.W.fnOf "expression_value" "expression_value" (defArgs sExpression_value) (defBody sExpression_value) (defScope sExpression_value) .none kV7 dc7 pm7 an7 cd7 ct7), sl7⟩)
    (c7 : PySem.W.codeIn K cd7 "expression_value" = true)
    (k7 : PySem.W.keepIn K (.ref f7) = true)
    (a8 : PySem.W.nsIn K mainGlobals "_reckoned" = some (some (.ref f8)))
    (l8 : K.lookup f8 = some ⟨oc8, od8, .func (PySem.W.fnOf "_reckoned" "_reckoned" (defArgs sReckoned) (defBody sReckoned) (defScope sReckoned) .none kV8 dc8 pm8 an8 cd8 ct8), sl8⟩)
    (c8 : PySem.W.codeIn K cd8 "_reckoned" = true)
    (k8 : PySem.W.keepIn K (.ref f8) = true)
    (a9 : PySem.W.nsIn K mainGlobals "remainder" = some (some (.ref f9)))
    (l9 : K.lookup f9 = some ⟨oc9, od9, .func (PySem.W.fnOf "remainder" "remainder" (defArgs sRemainder) (defBody sRemainder) (defScope sRemainder) .none kV9 dc9 pm9 an9 cd9 ct9), sl9⟩)
    (c9 : PySem.W.codeIn K cd9 "remainder" = true)
    (k9 : PySem.W.keepIn K (.ref f9) = true)
    (a10 : PySem.W.nsIn K mainGlobals "_fault" = some (some (.ref f10)))
    (l10 : K.lookup f10 = some ⟨oc10, od10, .func (PySem.W.fnOf "_fault" "_fault" (defArgs sFault) (defBody sFault) (defScope sFault) .none kV10 dc10 pm10 an10 cd10 ct10), sl10⟩)
    (c10 : PySem.W.codeIn K cd10 "_fault" = true)
    (k10 : PySem.W.keepIn K (.ref f10) = true)
    (a11 : PySem.W.findIn K (.ref cTable) "__init__" = some (some (.ref f11)))
    (i11 : PySem.W.isFn K (.ref f11) = true)
    (l11 : K.lookup f11 = some ⟨oc11, od11, .func (PySem.W.fnOf "__init__" "Table.__init__" (defArgs sTable_init) (defBody sTable_init) (defScope sTable_init) .none kV11 dc11 pm11 an11 cd11 ct11), sl11⟩)
    (c11 : PySem.W.codeIn K cd11 "Table.__init__" = true)
    (k11 : PySem.W.keepIn K (.ref f11) = true)
    (a12 : PySem.W.findIn K (.ref cTable) "__eq__" = some (some (.ref f12)))
    (i12 : PySem.W.isFn K (.ref f12) = true)
    (l12 : K.lookup f12 = some ⟨oc12, od12, .func (PySem.W.fnOf "__eq__" "Table.__eq__" (defArgs sTable_eq) (defBody sTable_eq) (defScope sTable_eq) .none kV12 dc12 pm12 an12 cd12 ct12), sl12⟩)
    (c12 : PySem.W.codeIn K cd12 "Table.__eq__" = true)
    (k12 : PySem.W.keepIn K (.ref f12) = true)
    (a13 : PySem.W.nsIn K mainGlobals "read_formula" = some (some (.ref f13)))
    (l13 : K.lookup f13 = some ⟨oc13, od13, .func (PySem.W.fnOf "read_formula" "read_formula" (defArgs sRead_formula) (defBody sRead_formula) (defScope sRead_formula) .none kV13 dc13 pm13 an13 cd13 ct13), sl13⟩)
    (c13 : PySem.W.codeIn K cd13 "read_formula" = true)
    (k13 : PySem.W.keepIn K (.ref f13) = true)
    (a14 : PySem.W.nsIn K mainGlobals "formula_text" = some (some (.ref f14)))
    (l14 : K.lookup f14 = some ⟨oc14, od14, .func (PySem.W.fnOf "formula_text" "formula_text" (defArgs sFormula_text) (defBody sFormula_text) (defScope sFormula_text) .none kV14 dc14 pm14 an14 cd14 ct14), sl14⟩)
    (c14 : PySem.W.codeIn K cd14 "formula_text" = true)
    (k14 : PySem.W.keepIn K (.ref f14) = true)
    (a15 : PySem.W.nsIn K mainGlobals "formula_table" = some (some (.ref f15)))
    (l15 : K.lookup f15 = some ⟨oc15, od15, .func (PySem.W.fnOf "formula_table" "formula_table" (defArgs sFormula_table) (defBody sFormula_table) (defScope sFormula_table) .none kV15 dc15 pm15 an15 cd15 ct15), sl15⟩)
    (c15 : PySem.W.codeIn K cd15 "formula_table" = true)
    (k15 : PySem.W.keepIn K (.ref f15) = true)
    (a16 : PySem.W.nsIn K mainGlobals "_law_pool" = some (some (.ref f16)))
    (l16 : K.lookup f16 = some ⟨oc16, od16, .func (PySem.W.fnOf "_law_pool" "_law_pool" (defArgs sLaw_pool) (defBody sLaw_pool) (defScope sLaw_pool) .none kV16 dc16 pm16 an16 cd16 ct16), sl16⟩)
    (c16 : PySem.W.codeIn K cd16 "_law_pool" = true)
    (k16 : PySem.W.keepIn K (.ref f16) = true)
    (a17 : PySem.W.nsIn K mainGlobals "_law_draw" = some (some (.ref f17)))
    (l17 : K.lookup f17 = some ⟨oc17, od17, .func (PySem.W.fnOf "_law_draw" "_law_draw" (defArgs sLaw_draw) (defBody sLaw_draw) (defScope sLaw_draw) .none kV17 dc17 pm17 an17 cd17 ct17), sl17⟩)
    (c17 : PySem.W.codeIn K cd17 "_law_draw" = true)
    (k17 : PySem.W.keepIn K (.ref f17) = true)
    (a18 : PySem.W.nsIn K mainGlobals "_law_same" = some (some (.ref f18)))
    (l18 : K.lookup f18 = some ⟨oc18, od18, .func (PySem.W.fnOf "_law_same" "_law_same" (defArgs sLaw_same) (defBody sLaw_same) (defScope sLaw_same) .none kV18 dc18 pm18 an18 cd18 ct18), sl18⟩)
    (c18 : PySem.W.codeIn K cd18 "_law_same" = true)
    (k18 : PySem.W.keepIn K (.ref f18) = true)
    (a19 : PySem.W.nsIn K mainGlobals "_law_value" = some (some (.ref f19)))
    (l19 : K.lookup f19 = some ⟨oc19, od19, .func (PySem.W.fnOf "_law_value" "_law_value" (defArgs sLaw_value) (defBody sLaw_value) (defScope sLaw_value) .none kV19 dc19 pm19 an19 cd19 ct19), sl19⟩)
    (c19 : PySem.W.codeIn K cd19 "_law_value" = true)
    (k19 : PySem.W.keepIn K (.ref f19) = true)
    (a20 : PySem.W.nsIn K mainGlobals "_law_value_words" = some (some (.ref f20)))
    (l20 : K.lookup f20 = some ⟨oc20, od20, .func (PySem.W.fnOf "_law_value_words" "_law_value_words" (defArgs sLaw_value_words) (defBody sLaw_value_words) (defScope sLaw_value_words) .none kV20 dc20 pm20 an20 cd20 ct20), sl20⟩)
    (c20 : PySem.W.codeIn K cd20 "_law_value_words" = true)
    (k20 : PySem.W.keepIn K (.ref f20) = true)
    (a21 : PySem.W.nsIn K mainGlobals "_law_number_of" = some (some (.ref f21)))
    (l21 : K.lookup f21 = some ⟨oc21, od21, .func (PySem.W.fnOf "_law_number_of" "_law_number_of" (defArgs sLaw_number_of) (defBody sLaw_number_of) (defScope sLaw_number_of) .none kV21 dc21 pm21 an21 cd21 ct21), sl21⟩)
    (c21 : PySem.W.codeIn K cd21 "_law_number_of" = true)
    (k21 : PySem.W.keepIn K (.ref f21) = true)
    (a22 : PySem.W.nsIn K mainGlobals "law" = some (some (.ref f22)))
    (l22 : K.lookup f22 = some ⟨oc22, od22, .func (PySem.W.fnOf "law" "law" (defArgs sLaw) (defBody sLaw) (defScope sLaw) .none kV22 dc22 pm22 an22 cd22 ct22), sl22⟩)
    (c22 : PySem.W.codeIn K cd22 "law" = true)
    (k22 : PySem.W.keepIn K (.ref f22) = true)
    (pg_Table : PySem.W.plainGet K cTable Str.empty = true)
    (hd_Table : PySem.W.hasDictIn K cTable = true)
    (po_Table : PySem.W.plainOver K cTable = true)
    (sa_Table : PySem.W.findIn K (.ref cTable) "__setattr__" = some (some (.builtin "object.__setattr__")))
    (mk_Table : PySem.W.makesIn K cTable = true)
    (kc_Table : PySem.W.keepIn K (.ref cTable) = true)
    (ha_Table : PySem.W.findIn K (.ref cTable) "__class__" = some (some (.builtin "object.__class__")))
    (hm_Table : PySem.W.mroIn K cTable (.type "object") = some true)
    (hn_Table : PySem.W.specialIn K (.builtin "object.__class__") "__get__" = some (some (.builtin "getset_descriptor.__get__")))
    (tk_Table : PySem.W.takesIn K (.builtin "object.__class__") = some true)
    (na_Table_rows : PySem.W.findIn K (.ref cTable) "rows" = some none)
    (z_all : PySem.W.nsIn K mainGlobals "all" = some none)
    (z_any : PySem.W.nsIn K mainGlobals "any" = some none)
    (z_bool : PySem.W.nsIn K mainGlobals "bool" = some none)
    (z_int : PySem.W.nsIn K mainGlobals "int" = some none)
    (z_isinstance : PySem.W.nsIn K mainGlobals "isinstance" = some none)
    (z_len : PySem.W.nsIn K mainGlobals "len" = some none)
    (z_list : PySem.W.nsIn K mainGlobals "list" = some none)
    (z_max : PySem.W.nsIn K mainGlobals "max" = some none)
    (z_range : PySem.W.nsIn K mainGlobals "range" = some none)
    (z_str : PySem.W.nsIn K mainGlobals "str" = some none)
    (z_tuple : PySem.W.nsIn K mainGlobals "tuple" = some none)
    (g_LARGEST : PySem.W.nsIn K mainGlobals "LARGEST" = some (some (.int (65535) tg_LARGEST)))
    (g_MOST_VALUES : PySem.W.nsIn K mainGlobals "MOST_VALUES" = some (some (.int (8) tg_MOST_VALUES)))
    (g__DIGITS : PySem.W.nsIn K mainGlobals "_DIGITS" = some (some (.str "0123456789" tg__DIGITS)))
    (g__OPERATORS : PySem.W.nsIn K mainGlobals "_OPERATORS" = some (some (.ref A__OPERATORS)))
    (t__OPERATORS : K.lookup A__OPERATORS = some ⟨.type "tuple", oD__OPERATORS, .seq (([.str "+" tq_OPERATORS_0, .str "-" tq_OPERATORS_1, .str "*" tq_OPERATORS_2, .str "/" tq_OPERATORS_3, .str "mod" tq_OPERATORS_4, .str "<" tq_OPERATORS_5, .str "=" tq_OPERATORS_6] : List Value).toArray) nN__OPERATORS, sS__OPERATORS⟩)
    (g__DEEPEST : PySem.W.nsIn K mainGlobals "_DEEPEST" = some (some (.int (5) tg__DEEPEST)))
    : Txt K mg cTalkError cBadText cBadTable cTable where
  g_TalkError := PySem.W.mg_of X G aC_TalkError
  g_BadText := PySem.W.mg_of X G aC_BadText
  g_BadTable := PySem.W.mg_of X G aC_BadTable
  g_Table := PySem.W.mg_of X G aC_Table
  d_words_of := ⟨f1, _, fun_mk (st := sWords_of) l1 c1 k1, PySem.W.mg_of X G a1⟩
  d_is_number := ⟨f2, _, fun_mk (st := sIs_number) l2 c2 k2, PySem.W.mg_of X G a2⟩
  d_are_digits := ⟨f3, _, fun_mk (st := sAre_digits) l3 c3 k3, PySem.W.mg_of X G a3⟩
  d_read_expression := ⟨f4, _, (⟨⟨oc4, od4, _, kV4, dc4, pm4, an4, cd4, ct4, sl4, rfl, l4, c4, .inr ⟨by simp, T4, _, _, nT4, rfl, lT4, rfl, .cons ⟨_, rfl⟩ .nil⟩, .inl rfl⟩, k4⟩ : FunD K "read_expression" "read_expression" (defArgs sRead_expression) (defBody sRead_expression) (defScope sRead_expression) [.int (5)] [] f4 _), PySem.W.mg_of X G a4⟩
  d_named := ⟨f5, _, fun_mk (st := sNamed) l5 c5 k5, PySem.W.mg_of X G a5⟩
  d_expression_text := ⟨f6, _, fun_mk (st := sExpression_text) l6 c6 k6, PySem.W.mg_of X G a6⟩
  d_expression_value := ⟨f7, _, fun_mk (st := sExpression_value) l7 c7 k7, PySem.W.mg_of X G a7⟩
  d_reckoned := ⟨f8, _, fun_mk (st := sReckoned) l8 c8 k8, PySem.W.mg_of X G a8⟩
  d_remainder := ⟨f9, _, fun_mk (st := sRemainder) l9 c9 k9, PySem.W.mg_of X G a9⟩
  d_fault := ⟨f10, _, fun_mk (st := sFault) l10 c10 k10, PySem.W.mg_of X G a10⟩
  d_Table_init := ⟨f11, _, fun_mk (st := sTable_init) l11 c11 k11, a11, i11, k11⟩
  d_Table_eq := ⟨f12, _, fun_mk (st := sTable_eq) l12 c12 k12, a12, i12, k12⟩
  d_read_formula := ⟨f13, _, fun_mk (st := sRead_formula) l13 c13 k13, PySem.W.mg_of X G a13⟩
  d_formula_text := ⟨f14, _, fun_mk (st := sFormula_text) l14 c14 k14, PySem.W.mg_of X G a14⟩
  d_formula_table := ⟨f15, _, fun_mk (st := sFormula_table) l15 c15 k15, PySem.W.mg_of X G a15⟩
  d_law_pool := ⟨f16, _, fun_mk (st := sLaw_pool) l16 c16 k16, PySem.W.mg_of X G a16⟩
  d_law_draw := ⟨f17, _, fun_mk (st := sLaw_draw) l17 c17 k17, PySem.W.mg_of X G a17⟩
  d_law_same := ⟨f18, _, fun_mk (st := sLaw_same) l18 c18 k18, PySem.W.mg_of X G a18⟩
  d_law_value := ⟨f19, _, fun_mk (st := sLaw_value) l19 c19 k19, PySem.W.mg_of X G a19⟩
  d_law_value_words := ⟨f20, _, fun_mk (st := sLaw_value_words) l20 c20 k20, PySem.W.mg_of X G a20⟩
  d_law_number_of := ⟨f21, _, fun_mk (st := sLaw_number_of) l21 c21 k21, PySem.W.mg_of X G a21⟩
  d_law := ⟨f22, _, fun_mk (st := sLaw) l22 c22 k22, PySem.W.mg_of X G a22⟩
  cl_Table := ⟨⟨pg_Table, hd_Table, po_Table, sa_Table⟩, ha_Table, hn_Table, tk_Table, hm_Table⟩
  mk_Table := mk_Table
  kc_Table := kc_Table
  na_Table_rows := na_Table_rows
  b_all := PySem.W.mg_none_of X G z_all
  b_any := PySem.W.mg_none_of X G z_any
  b_bool := PySem.W.mg_none_of X G z_bool
  b_int := PySem.W.mg_none_of X G z_int
  b_isinstance := PySem.W.mg_none_of X G z_isinstance
  b_len := PySem.W.mg_none_of X G z_len
  b_list := PySem.W.mg_none_of X G z_list
  b_max := PySem.W.mg_none_of X G z_max
  b_range := PySem.W.mg_none_of X G z_range
  b_str := PySem.W.mg_none_of X G z_str
  b_tuple := PySem.W.mg_none_of X G z_tuple
  g_LARGEST := ⟨_, PySem.W.mg_of X G g_LARGEST⟩
  g_MOST_VALUES := ⟨_, PySem.W.mg_of X G g_MOST_VALUES⟩
  g__DIGITS := ⟨_, PySem.W.mg_of X G g__DIGITS⟩
  g__OPERATORS := ⟨_, PySem.W.mg_of X G g__OPERATORS, fun H => .inr ⟨_, _, _, t__OPERATORS, rfl, rfl, (by show 7 ≤ sizeLine; decide), .cons ⟨_, rfl⟩ (.cons ⟨_, rfl⟩ (.cons ⟨_, rfl⟩ (.cons ⟨_, rfl⟩ (.cons ⟨_, rfl⟩ (.cons ⟨_, rfl⟩ (.cons ⟨_, rfl⟩ .nil))))))⟩⟩
  g__DEEPEST := ⟨_, PySem.W.mg_of X G g__DEEPEST⟩
end

section
variable {P : Program} {w : World} {K : PySem.W.Frag} {mg : Str → Option Value} {base : Heap} {cTalkError cBadText cBadTable cTable : Addr}

/-! ### the pool -/
theorem ok_law_pool (T : Txt K mg cTalkError cBadText cBadTable cTable) : Fk P w K mg base 1 "_law_pool" (spO (cPool K)) [] := by
  refine Fk_of T.d_law_pool (fun _ _ _ _ _ _ us hl => match us, hl with | [_, _], _ => rfl) fun f fd F => Fun_ctO F sc_law_pool _ (fun Ps m mo m' h => by obtain ⟨ns, b, rfl, _⟩ := h; rfl) ?_
  intro cdv A outer s H E hr Ps m mo m' hS b0 Q hQ
  obtain ⟨ns, b, rfl, rfl, rfl⟩ := hS
  refine gs_retO (o_lst (aa_cons (a_ct call_list_of rc_listL T.b_list (by decide +kernel) (aa_cons (a_var 0) aa_nil)) (aa_cons a_int (aa_cons a_int (aa_cons a_int (aa_cons a_int (aa_cons (a_var 1) aa_nil))))))) ?_
  exact hQ
theorem ok_law_draw (T : Txt K mg cTalkError cBadText cBadTable cTable) : Fk P w K mg base 1 "_law_draw" (spC (cDraw K)) [] := by
  refine Fk_of T.d_law_draw (fun _ _ _ _ _ _ us hl => match us, hl with | [_, _], _ => rfl) fun f fd F => Fun_ct F sc_law_draw _ (fun Ps m Pr m' h => by obtain ⟨i, a, p, size, rfl, _⟩ := h; rfl) ?_
  intro cdv A outer s H E hr Ps m Pr m' hS b0 Q hQ
  obtain ⟨i, a, p, size, rfl, hm, h0, hs, hp, rfl, rfl⟩ := hS
  have hl : i < m.length := (List.getElem?_eq_some_iff.mp hm).1
  show GS _ _ _ [some (R a), some (I size), none, none] _ _
  rw [← set_id hm]
  rw [← set_id hm, List.set_set] at hQ
  refine gs_ifM (fun ρ' m' => ∃ c, ρ' = [some (R a), some (I size), c, none] ∧ m' = m.set i (a, p.next.mo K)) (w_t (w_and (t_le (a_ixS hl (a_var 0) a_int) a_int) fun _ => w_and (t_le (a_ixS hl (a_var 0) a_int) a_int) fun _ => w_and1 (t_lt (a_ixS hl (a_var 0) a_int) (a_cb call_len_seq rc_lenL T.b_len PySem.boot_len (aa_cons (a_ixS hl (a_var 0) a_int) aa_nil))))) (fun h => ?_) (fun h => ?_) ?_
  · simp only [Bool.and_eq_true, decide_eq_true_eq, List.length_map] at h
    have hc : atI (p.script.map I) p.pos = some (I (p.script.getD p.pos.toNat 0)) := by
      have e : p.pos = (p.pos.toNat : Int) := by omega
      rw [e]
      refine atI_nat' ?_
      rw [List.getElem?_map, List.getElem?_eq_getElem (by omega), Option.map_some, List.getD_eq_getElem?_getD, List.getElem?_eq_getElem (by omega)] <;> rfl
    refine gs_asgG (i := 2) sc_law_draw.nd rfl (Or.inl rfl) (a_ixL (a_ixS hl (a_var 0) a_int) (a_ixS hl (a_var 0) a_int) hc) ?_
    refine gs_setS hl (a_add (a_ixS hl (a_var 0) a_int) a_int) (a_var 0) a_int rfl ?_
    refine gs_setS hl (a_mod (a_ct call_int1 rc_int T.b_int (by decide +kernel) (aa_cons (a_add (a_mul (a_ixS hl (a_var 0) a_int) a_int (Or.inr (by decide))) (a_var 2)) aa_nil)) a_int (by decide)) (a_var 0) a_int rfl ?_
    refine gs_setS hl a_int (a_var 0) a_int rfl ?_
    refine gs_when (t_ge (a_var 2) (a_pow a_int a_int ⟨by decide, by decide, by decide⟩)) (fun h2 => ?_) (fun h2 => ?_)
    · refine gs_setS hl (a_var 2) (a_var 0) a_int rfl (gs_nil (gs_nil (nx_sts ⟨_, rfl, ?_⟩)))
      simp only [decide_eq_true_eq] at h2
      have h2 : p.script.getD p.pos.toNat 0 ≥ 10 ^ 18 := h2
      unfold Pool.next
      rw [if_pos h, if_pos h2]
      rfl
    · refine gs_nil (nx_sts ⟨_, rfl, ?_⟩)
      simp only [decide_eq_false_iff_not] at h2
      have h2 : ¬ p.script.getD p.pos.toNat 0 ≥ 10 ^ 18 := h2
      unfold Pool.next
      rw [if_pos h, if_neg h2]
      rfl
  · refine gs_nil (nx_sts ⟨_, rfl, ?_⟩)
    simp only [List.length_map] at h
    have h' : ¬ (p.cur ≤ 0 ∧ p.left ≤ 0 ∧ p.pos < p.script.length) := by
      intro z
      simp [z] at h
    unfold Pool.next
    rw [if_neg h']
  · rintro ρ' m' ⟨c, rfl, rfl⟩
    generalize hq : p.next = q
    refine gs_when (t_gt (a_ixS hl (a_var 0) a_int) a_int) (fun h => ?_) (fun h => ?_)
    · simp only [decide_eq_true_eq] at h
      refine gs_asgG (i := 3) sc_law_draw.nd rfl (Or.inl rfl) (a_mod (a_ct call_int1 rc_int T.b_int (by decide +kernel) (aa_cons (a_ixS hl (a_var 0) a_int) aa_nil)) (a_var 1) h0) ?_
      refine gs_setS hl (a_fdiv (a_ixS hl (a_var 0) a_int) (a_var 1) ⟨h0, hs⟩) (a_var 0) a_int rfl ?_
      refine gs_setS hl a_int (a_var 0) a_int rfl ?_
      refine gs_ret (a_var 3) (hQ.eq ?_ ?_)
      · unfold Pool.draw
        rw [hq, if_pos h]
      · unfold Pool.draw
        rw [hq, if_pos h]
        rfl
    · simp only [decide_eq_false_iff_not] at h
      refine gs_setS hl (a_sub (a_ixS hl (a_var 0) a_int) a_int) (a_var 0) a_int rfl ?_
      refine gs_setS hl (a_mod (a_ct call_int1 rc_int T.b_int (by decide +kernel) (aa_cons (a_add (a_mul (a_ixS hl (a_var 0) a_int) a_int (Or.inr (by decide))) a_int) aa_nil)) a_int (by decide)) (a_var 0) a_int rfl ?_
      refine gs_ret (a_mod (a_mod (a_ct call_int1 rc_int T.b_int (by decide +kernel) (aa_cons (a_add (a_mul (a_ixS hl (a_var 0) a_int) a_int (Or.inr (by decide))) a_int) aa_nil)) a_int (by decide)) (a_var 1) h0) (hQ.eq ?_ ?_)
      · unfold Pool.draw
        rw [hq, if_neg h]
      · unfold Pool.draw
        rw [hq, if_neg h]
        rfl
/-! ### the comparison of data -/
theorem same_step (T : Txt K mg cTalkError cBadText cBadTable cTable) (n : Nat) (ih : ∀ n', n = n' + 1 → Fk P w K mg base n "_law_same" (spC (cSame K n')) []) : Fk P w K mg base (n + 1) "_law_same" (spC (cSame K n)) [] := by
  refine Fk_of T.d_law_same (fun _ _ _ _ _ _ us hl => match us, hl with | [_, _], _ => rfl) fun f fd F => Fun_ct F sc_law_same _ (fun Ps m Pr m' h => by obtain ⟨d, rfl, _⟩ := h; rfl) ?_
  intro cdv A outer s H E hr Ps m Pr m' hS b0 Q hQ
  obtain ⟨d, rfl, hdp, hwd, rfl, rfl⟩ := hS
  show GS _ _ _ [some (rp K d), some (rp K d), none] _ _
  have bi : bootBuiltins "int" = some (.type "int") := by decide +kernel
  have bt : bootBuiltins "tuple" = some (.type "tuple") := by decide +kernel
  have bl : bootBuiltins "list" = some (.type "list") := by decide +kernel
  have bb : bootBuiltins "bool" = some (.type "bool") := by decide +kernel
  have bs : bootBuiltins "str" = some (.type "str") := by decide +kernel
  cases d with
  | tup xs =>
    simp only [Dt.dp] at hdp
    simp only [Dt.wd] at hwd
    obtain ⟨n', rfl⟩ : ∃ n', n = n' + 1 := ⟨n - 1, by omega⟩
    have SF := ih n' rfl
    show GS _ _ _ [some (SV.T K (rps K xs)), some (SV.T K (rps K xs)), none] _ _
    refine gs_when (w_t (w_or (u := false) (t_val (a_isi (a_var 1) tyx_T (kit_ty (by decide +kernel) : _ = some true) T.b_isinstance T.b_tuple bt)) fun h => nomatch h)) (fun _ => ?_) (fun h => nomatch h)
    refine gs_when (w_t (w_or (t_neB (a_isi (a_var 1) tyx_T (kit_ty (by decide +kernel) : _ = some true) T.b_isinstance T.b_tuple bt) (a_isi (a_var 0) tyx_T (kit_ty (by decide +kernel) : _ = some true) T.b_isinstance T.b_tuple bt)) fun _ => w_or1 (t_neB (a_isi (a_var 1) tyx_T (kit_ty (by decide +kernel) : _ = some false) T.b_isinstance T.b_list bl) (a_isi (a_var 0) tyx_T (kit_ty (by decide +kernel) : _ = some false) T.b_isinstance T.b_list bl)))) (fun h => nomatch h) (fun _ => ?_)
    refine gs_when (t_neI (a_cb call_len_seq rc_lenT T.b_len PySem.boot_len (aa_cons (a_var 0) aa_nil)) (a_cb call_len_seq rc_lenT T.b_len PySem.boot_len (aa_cons (a_var 1) aa_nil))) (fun h => by simp at h) (fun _ => ?_)
    refine gs_forR (j := 2) rfl T.b_range PassesOwn.never rfl sc_law_same.nd rfl (Or.inl rfl) (a_cb call_len_seq rc_lenT T.b_len PySem.boot_len (aa_cons (a_var 1) aa_nil)) (by rw [rps_len]; omega) (by omega)
      (fun i ρ' m2 => ∃ c, ρ' = [some (SV.T K (rps K xs)), some (SV.T K (rps K xs)), c] ∧ m2 = m') ⟨none, rfl, rfl⟩ ?_ ?_
    · rintro b1 e1 i ρ' m2 hi ⟨c, rfl, rfl⟩
      have hQ := hQ.base e1
      rw [rps_len] at hi
      have hx : xs[i]? = some xs[i] := List.getElem?_eq_getElem (by omega)
      have hp : atI (rps K xs) (i : Int) = some (rp K xs[i]) := atI_nat' (rps_get K hx)
      refine gs_when (t_not (t_val (a_call (P := B true) SF hr (by omega) (aa_cons (a_ixT (a_var 0) (a_var 2) hp) (aa_cons (a_ixT (a_var 1) (a_var 2) hp) aa_nil)) ⟨xs[i], rfl, by have := dps_get hx; omega, by have := wds_get hx; omega, rfl, rfl⟩))) (fun h => nomatch h) (fun _ => ?_)
      exact gs_nil (nx_sts ⟨_, rfl, rfl⟩)
    · rintro ρ' m2 ⟨c, rfl, rfl⟩
      exact gs_ret a_bl hQ
  | lst xs =>
    simp only [Dt.dp] at hdp
    simp only [Dt.wd] at hwd
    obtain ⟨n', rfl⟩ : ∃ n', n = n' + 1 := ⟨n - 1, by omega⟩
    have SF := ih n' rfl
    show GS _ _ _ [some (SV.L K (rps K xs)), some (SV.L K (rps K xs)), none] _ _
    refine gs_when (w_t (w_or (t_val (a_isi (a_var 1) tyx_L (kit_ty (by decide +kernel) : _ = some false) T.b_isinstance T.b_tuple bt)) fun _ => w_or1 (t_val (a_isi (a_var 1) tyx_L (kit_ty (by decide +kernel) : _ = some true) T.b_isinstance T.b_list bl)))) (fun _ => ?_) (fun h => nomatch h)
    refine gs_when (w_t (w_or (t_neB (a_isi (a_var 1) tyx_L (kit_ty (by decide +kernel) : _ = some false) T.b_isinstance T.b_tuple bt) (a_isi (a_var 0) tyx_L (kit_ty (by decide +kernel) : _ = some false) T.b_isinstance T.b_tuple bt)) fun _ => w_or1 (t_neB (a_isi (a_var 1) tyx_L (kit_ty (by decide +kernel) : _ = some true) T.b_isinstance T.b_list bl) (a_isi (a_var 0) tyx_L (kit_ty (by decide +kernel) : _ = some true) T.b_isinstance T.b_list bl)))) (fun h => nomatch h) (fun _ => ?_)
    refine gs_when (t_neI (a_cb call_len_seq rc_lenL T.b_len PySem.boot_len (aa_cons (a_var 0) aa_nil)) (a_cb call_len_seq rc_lenL T.b_len PySem.boot_len (aa_cons (a_var 1) aa_nil))) (fun h => by simp at h) (fun _ => ?_)
    refine gs_forR (j := 2) rfl T.b_range PassesOwn.never rfl sc_law_same.nd rfl (Or.inl rfl) (a_cb call_len_seq rc_lenL T.b_len PySem.boot_len (aa_cons (a_var 1) aa_nil)) (by rw [rps_len]; omega) (by omega)
      (fun i ρ' m2 => ∃ c, ρ' = [some (SV.L K (rps K xs)), some (SV.L K (rps K xs)), c] ∧ m2 = m') ⟨none, rfl, rfl⟩ ?_ ?_
    · rintro b1 e1 i ρ' m2 hi ⟨c, rfl, rfl⟩
      have hQ := hQ.base e1
      rw [rps_len] at hi
      have hx : xs[i]? = some xs[i] := List.getElem?_eq_getElem (by omega)
      have hp : atI (rps K xs) (i : Int) = some (rp K xs[i]) := atI_nat' (rps_get K hx)
      refine gs_when (t_not (t_val (a_call (P := B true) SF hr (by omega) (aa_cons (a_ixL (a_var 0) (a_var 2) hp) (aa_cons (a_ixL (a_var 1) (a_var 2) hp) aa_nil)) ⟨xs[i], rfl, by have := dps_get hx; omega, by have := wds_get hx; omega, rfl, rfl⟩))) (fun h => nomatch h) (fun _ => ?_)
      exact gs_nil (nx_sts ⟨_, rfl, rfl⟩)
    · rintro ρ' m2 ⟨c, rfl, rfl⟩
      exact gs_ret a_bl hQ
  | non =>
    show GS _ _ _ [some N, some N, none] _ _
    refine gs_when (w_t (w_or (t_val (a_isi (a_var 1) tyx_n (kit_ty (by decide +kernel) : _ = some false) T.b_isinstance T.b_tuple bt)) fun _ => w_or1 (t_val (a_isi (a_var 1) tyx_n (kit_ty (by decide +kernel) : _ = some false) T.b_isinstance T.b_list bl)))) (fun h => nomatch h) (fun _ => ?_)
    refine gs_when (w_t (w_or (u := false) (t_isN (a_var 1) a_non) fun h => by simp at h)) (fun _ => ?_) (fun h => by simp at h)
    refine gs_ret (a_and (a_eqB (a_isN (a_var 0) a_non) (a_isN (a_var 1) a_non)) fun _ => a_and (a_or (u := false) (a_isN (a_var 1) a_non) fun h => by simp at h) fun _ => a_one (a_eq (a_var 0) (a_var 1))) (hQ.eq (by simp) rfl)
  | bl b =>
    show GS _ _ _ [some (B b), some (B b), none] _ _
    refine gs_when (w_t (w_or (t_val (a_isi (a_var 1) tyx_b (kit_ty (by decide +kernel) : _ = some false) T.b_isinstance T.b_tuple bt)) fun _ => w_or1 (t_val (a_isi (a_var 1) tyx_b (kit_ty (by decide +kernel) : _ = some false) T.b_isinstance T.b_list bl)))) (fun h => nomatch h) (fun _ => ?_)
    refine gs_when (w_t (w_or (t_isN (a_var 1) a_non) fun _ => w_or1 (t_val (a_isi (a_var 1) tyx_b (kit_ty (by decide +kernel) : _ = some true) T.b_isinstance T.b_bool bb)))) (fun _ => ?_) (fun h => by simp at h)
    refine gs_ret (a_and (a_eqB (a_isN (a_var 0) a_non) (a_isN (a_var 1) a_non)) fun _ => a_and (a_or (a_isN (a_var 1) a_non) fun _ => a_one (a_isi (a_var 0) tyx_b (kit_ty (by decide +kernel) : _ = some true) T.b_isinstance T.b_bool bb)) fun _ => a_one (a_eq (a_var 0) (a_var 1))) (hQ.eq (by simp) rfl)
  | int i =>
    show GS _ _ _ [some (I i), some (I i), none] _ _
    refine gs_when (w_t (w_or (t_val (a_isi (a_var 1) tyx_i (kit_ty (by decide +kernel) : _ = some false) T.b_isinstance T.b_tuple bt)) fun _ => w_or1 (t_val (a_isi (a_var 1) tyx_i (kit_ty (by decide +kernel) : _ = some false) T.b_isinstance T.b_list bl)))) (fun h => nomatch h) (fun _ => ?_)
    refine gs_when (w_t (w_or (t_isN (a_var 1) a_non) fun _ => w_or1 (t_val (a_isi (a_var 1) tyx_i (kit_ty (by decide +kernel) : _ = some false) T.b_isinstance T.b_bool bb)))) (fun h => by simp at h) (fun _ => ?_)
    refine gs_when (t_val (a_isi (a_var 1) tyx_i (kit_ty (by decide +kernel) : _ = some true) T.b_isinstance T.b_int bi)) (fun _ => ?_) (fun h => nomatch h)
    refine gs_ret (a_and (a_isi (a_var 0) tyx_i (kit_ty (by decide +kernel) : _ = some true) T.b_isinstance T.b_int bi) fun _ => a_and (a_not (a_isi (a_var 0) tyx_i (kit_ty (by decide +kernel) : _ = some false) T.b_isinstance T.b_bool bb)) fun _ => a_one (a_eq (a_var 0) (a_var 1))) (hQ.eq (by simp) rfl)
  | str z =>
    show GS _ _ _ [some (S z), some (S z), none] _ _
    refine gs_when (w_t (w_or (t_val (a_isi (a_var 1) tyx_s (kit_ty (by decide +kernel) : _ = some false) T.b_isinstance T.b_tuple bt)) fun _ => w_or1 (t_val (a_isi (a_var 1) tyx_s (kit_ty (by decide +kernel) : _ = some false) T.b_isinstance T.b_list bl)))) (fun h => nomatch h) (fun _ => ?_)
    refine gs_when (w_t (w_or (t_isN (a_var 1) a_non) fun _ => w_or1 (t_val (a_isi (a_var 1) tyx_s (kit_ty (by decide +kernel) : _ = some false) T.b_isinstance T.b_bool bb)))) (fun h => by simp at h) (fun _ => ?_)
    refine gs_when (t_val (a_isi (a_var 1) tyx_s (kit_ty (by decide +kernel) : _ = some false) T.b_isinstance T.b_int bi)) (fun h => nomatch h) (fun _ => ?_)
    refine gs_ret (a_and (a_isi (a_var 0) tyx_s (kit_ty (by decide +kernel) : _ = some true) T.b_isinstance T.b_str bs) fun _ => a_one (a_eq (a_var 0) (a_var 1))) (hQ.eq (by simp) rfl)
theorem ok_law_same (T : Txt K mg cTalkError cBadText cBadTable cTable) : ∀ n, Fk P w K mg base (n + 1) "_law_same" (spC (cSame K n)) []
  | 0 => same_step T 0 fun n' e => nomatch e
  | n + 1 => same_step T (n + 1) fun n' e => by cases e; exact ok_law_same T n
/-! ### expressions -/
def cRem : Ct := fun Ps m P m' => ∃ (a b : Int), Ps = [I a, I b] ∧ 0 ≤ b ∧ P = I (if b = 0 then 0 else a % b) ∧ m' = m
theorem ok_remainder (T : Txt K mg cTalkError cBadText cBadTable cTable) : Fk P w K mg base 1 "remainder" (spC cRem) [] := by
  refine Fk_of T.d_remainder (fun _ _ _ _ _ _ us hl => match us, hl with | [_, _], _ => rfl) fun f fd F => Fun_ct F sc_remainder _ (fun Ps m Pr m' h => by obtain ⟨a, b, rfl, _⟩ := h; rfl) ?_
  intro cdv A outer s H E hr Ps m Pr m' hS b0 Q hQ
  obtain ⟨a, b, rfl, hb, rfl, rfl⟩ := hS
  show GS _ _ _ [some (I a), some (I b)] _ _
  exact gs_ret (a_if (P := I (if b = 0 then 0 else a % b)) (t_eqI (a_var 1) a_int) (fun h => a_int.eq (by rw [if_pos (of_decide_eq_true h)])) (fun h => (a_mod (a_var 0) (a_var 1) (by have := of_decide_eq_false h; omega)).eq (by rw [if_neg (of_decide_eq_false h)]))) hQ
def cReck : Ct := fun Ps m P m' => ∃ (o : Str) (a b : Int), Ps = [S o, I a, I b] ∧ (0 ≤ a ∧ a ≤ 65535) ∧ (0 ≤ b ∧ b ≤ 65535) ∧ P = I (reck o a b) ∧ m' = m
theorem ok_reckoned (T : Txt K mg cTalkError cBadText cBadTable cTable) : Fk P w K mg base 2 "_reckoned" (spC cReck) [] := by
  refine Fk_of T.d_reckoned (fun _ _ _ _ _ _ us hl => match us, hl with | [_, _, _], _ => rfl) fun f fd F => Fun_ct F sc_reckoned _ (fun Ps m Pr m' h => by obtain ⟨o, a, b, rfl, _⟩ := h; rfl) ?_
  intro cdv A outer s H E hr Ps m Pr m' hS b0 Q hQ
  obtain ⟨o, a, b, rfl, ha, hb, rfl, rfl⟩ := hS
  show GS _ _ _ [some (S o), some (I a), some (I b)] _ _
  obtain ⟨tL, hL⟩ := T.g_LARGEST
  unfold reck at hQ
  refine gs_when (t_eqS (a_var 0) a_str) (fun h => ?_) (fun h => ?_)
  · rw [if_pos (of_decide_eq_true h)] at hQ
    exact gs_ret (a_mod (a_add (a_var 1) (a_var 2)) (a_add (a_gint hL) a_int) (by decide)) hQ
  rw [if_neg (of_decide_eq_false h)] at hQ
  refine gs_when (t_eqS (a_var 0) a_str) (fun h => ?_) (fun h => ?_)
  · rw [if_pos (of_decide_eq_true h)] at hQ
    exact gs_ret (a_cb (call_max2 rfl) rc_max T.b_max (by decide +kernel) (aa_cons (a_sub (a_var 1) (a_var 2)) (aa_cons a_int aa_nil))) hQ
  rw [if_neg (of_decide_eq_false h)] at hQ
  refine gs_when (t_eqS (a_var 0) a_str) (fun h => ?_) (fun h => ?_)
  · rw [if_pos (of_decide_eq_true h)] at hQ
    exact gs_ret (a_mod (a_mul (a_var 1) (a_var 2) (Or.inl ⟨by omega, by omega⟩)) (a_add (a_gint hL) a_int) (by decide)) hQ
  rw [if_neg (of_decide_eq_false h)] at hQ
  refine gs_when (t_eqS (a_var 0) a_str) (fun h => ?_) (fun h => ?_)
  · rw [if_pos (of_decide_eq_true h)] at hQ
    exact gs_ret (a_if (P := I (if a < b then 1 else 0)) (t_lt (a_var 1) (a_var 2)) (fun h => a_int.eq (by rw [if_pos (of_decide_eq_true h)])) (fun h => a_int.eq (by rw [if_neg (of_decide_eq_false h)]))) hQ
  rw [if_neg (of_decide_eq_false h)] at hQ
  refine gs_when (t_eqS (a_var 0) a_str) (fun h => ?_) (fun h => ?_)
  · rw [if_pos (of_decide_eq_true h)] at hQ
    exact gs_ret (a_if (P := I (if a = b then 1 else 0)) (t_eqI (a_var 1) (a_var 2)) (fun h => a_int.eq (by rw [if_pos (of_decide_eq_true h)])) (fun h => a_int.eq (by rw [if_neg (of_decide_eq_false h)]))) hQ
  rw [if_neg (of_decide_eq_false h)] at hQ
  refine gs_when (t_eqS (a_var 0) a_str) (fun h => ?_) (fun h => ?_)
  · simp only [of_decide_eq_true h, if_true] at hQ
    exact gs_ret (a_if (P := I (if b = 0 then 0 else a / b)) (t_eqI (a_var 2) a_int) (fun h => a_int.eq (by rw [if_pos (of_decide_eq_true h)])) (fun h => (a_fdiv (a_var 1) (a_var 2) ⟨by have := of_decide_eq_false h; omega, by omega⟩).eq (by rw [if_neg (of_decide_eq_false h)]))) hQ
  simp only [of_decide_eq_false h, if_false] at hQ
  exact gs_ret (a_call (P := I (if b = 0 then 0 else a % b)) (ok_remainder T) hr (by omega) (aa_cons (a_var (P := I a) 1) (aa_cons (a_var (P := I b) 2) aa_nil)) ⟨a, b, rfl, hb.1, rfl, rfl⟩) hQ
def cNamed (K : PySem.W.Frag) : Ct := fun Ps m P m' => ∃ (o : Str), Ps = [S o] ∧ P = (named o).rep K ∧ m' = m
theorem ok_named (T : Txt K mg cTalkError cBadText cBadTable cTable) : Fk P w K mg base 1 "_named" (spC (cNamed K)) [] := by
  refine Fk_of T.d_named (fun _ _ _ _ _ _ us hl => match us, hl with | [_], _ => rfl) fun f fd F => Fun_ct F sc_named _ (fun Ps m Pr m' h => by obtain ⟨o, rfl, _⟩ := h; rfl) ?_
  intro cdv A outer s H E hr Ps m Pr m' hS b0 Q hQ
  obtain ⟨o, rfl, rfl, rfl⟩ := hS
  show GS _ _ _ [some (S o)] _ _
  unfold named at hQ
  refine gs_when (w_t (w_or (t_eqS (a_var 0) a_str) fun _ => w_or1 (t_eqS (a_var 0) a_str))) (fun h => ?_) (fun h => ?_)
  · simp only [Bool.or_eq_true, decide_eq_true_eq] at h
    rw [if_pos h] at hQ
    exact gs_ret (a_tup (aa_cons (a_var 0) aa_nil)) hQ
  · simp only [Bool.or_eq_false_iff, decide_eq_false_iff_not] at h
    rw [if_neg (by rintro (z | z); exact h.1 z; exact h.2 z)] at hQ
    exact gs_ret (a_tup (aa_cons a_str (aa_cons (a_var 0) aa_nil))) hQ
/-- the value: values is a dict that tells env for the names of ns -/
def cVal (K : PySem.W.Frag) (n : Nat) : Ct := fun Ps m P m' => ∃ (f : Fm) (ns : List Str) (kvs : List (Key × MP)) (env : Str → Int), Ps = [f.rep K, Dk kvs] ∧ f.ht ≤ n ∧ f.ok ns ∧ (∀ x ∈ ns, valM kvs (.inr x) = some (I (env x)) ∧ 0 ≤ env x ∧ env x ≤ 65535 ∧ x ∉ OPS ∧ x ≠ "number" ∧ x ≠ "variable") ∧ P = I (f.val env) ∧ m' = m
theorem glob_ops (T : Txt K mg cTalkError cBadText cBadTable cTable) : ∃ a, mg "_OPERATORS" = some (.ref a) ∧ ∀ H, SqT K H a (OPS.map V.str) := T.g__OPERATORS
theorem a_opsT {X : Cx} (hX : ∃ a, X.mg "_OPERATORS" = some (.ref a) ∧ ∀ H, SqT X.K H a (OPS.map V.str)) {ρ : Rho} {m : Sto} {pos : Pos} (hg : Gl X "_OPERATORS" := by rfl) : AE X (.Name "_OPERATORS" pos) ρ m (SV.T X.K (OPS.map S)) m := by
  obtain ⟨a, h1, h2⟩ := hX
  exact (a_gref h1 hg).to fun H v e => ⟨a, _, e, h2 H, all_of V.str⟩
theorem val_step (T : Txt K mg cTalkError cBadText cBadTable cTable) (n : Nat) (ih : ∀ n', n = n' + 1 → Fk P w K mg base (n + 1) "expression_value" (spC (cVal K n')) []) : Fk P w K mg base (n + 2) "expression_value" (spC (cVal K n)) [] := by
  refine Fk_of T.d_expression_value (fun _ _ _ _ _ _ us hl => match us, hl with | [_, _], _ => rfl) fun f fd F => Fun_ct F sc_expression_value _ (fun Ps m Pr m' h => by obtain ⟨f, ns, kvs, env, rfl, _⟩ := h; rfl) ?_
  intro cdv A outer s H E hr Ps m Pr m' hS b0 Q hQ
  obtain ⟨f, ns, kvs, env, rfl, hht, hok, henv, rfl, rfl⟩ := hS
  have RK := ok_reckoned (P := P) (w := w) (base := base) T
  have hu : (A.deeper (envOfC (Str.ofString "expression_value") (defScope sExpression_value) s.heap.objs.size ‹Addr› cdv)).units + 1 < cLine := hu_of hr
  cases f with
  | num k =>
    show GS _ _ _ [some (SV.T K [S "number", I (k : Int)]), some (Dk kvs), none, none, none] _ _
    refine gs_asgG (i := 2) sc_expression_value.nd rfl (Or.inl rfl) (a_ixT (a_var 0) a_int) ?_
    refine gs_when (t_inT (a_var 2) (a_opsT (glob_ops T))) (fun h => absurd h (by decide +kernel)) (fun _ => ?_)
    refine gs_when (t_eqS (a_var 2) a_str) (fun _ => ?_) (fun h => absurd h (by decide +kernel))
    exact gs_ret (a_ixT (a_var 0) a_int) hQ
  | var x =>
    show GS _ _ _ [some (SV.T K [S "variable", S x]), some (Dk kvs), none, none, none] _ _
    refine gs_asgG (i := 2) sc_expression_value.nd rfl (Or.inl rfl) (a_ixT (a_var 0) a_int) ?_
    refine gs_when (t_inT (a_var 2) (a_opsT (glob_ops T))) (fun h => absurd h (by decide +kernel)) (fun _ => ?_)
    refine gs_when (t_eqS (a_var 2) a_str) (fun h => absurd h (by decide +kernel)) (fun _ => ?_)
    refine gs_when (t_eqS (a_var 2) a_str) (fun _ => ?_) (fun h => absurd h (by decide +kernel))
    exact gs_ret (a_dget (k := .inr x) hu (a_var 1) (a_ixT (P := S x) (a_var 0) a_int) (henv x hok).1 (by exact fun _ _ => rfl)) hQ
  | kw x =>
    have e := henv x hok
    show GS _ _ _ [some (SV.T K [S x]), some (Dk kvs), none, none, none] _ _
    refine gs_asgG (i := 2) sc_expression_value.nd rfl (Or.inl rfl) (a_ixT (P := S x) (a_var 0) a_int) ?_
    refine gs_when (t_inT (a_var 2) (a_opsT (glob_ops T))) (fun h => absurd (of_decide_eq_true h) e.2.2.2.1) (fun _ => ?_)
    refine gs_when (t_eqS (a_var 2) a_str) (fun h => absurd (of_decide_eq_true h) e.2.2.2.2.1) (fun _ => ?_)
    refine gs_when (t_eqS (a_var 2) a_str) (fun h => absurd (of_decide_eq_true h) e.2.2.2.2.2) (fun _ => ?_)
    exact gs_ret (a_dget (k := .inr x) hu (a_var 1) (a_var (P := S x) 2) e.1 (by exact fun _ _ => rfl)) hQ
  | op o l r =>
    simp only [Fm.ht] at hht
    obtain ⟨n', rfl⟩ : ∃ n', n = n' + 1 := ⟨n - 1, by omega⟩
    have VF := ih n' rfl
    have hl := val_lt (env := env) (fun x hx => ⟨(henv x hx).2.1, (henv x hx).2.2.1⟩) l hok.2.1
    have hr' := val_lt (env := env) (fun x hx => ⟨(henv x hx).2.1, (henv x hx).2.2.1⟩) r hok.2.2
    show GS _ _ _ [some (SV.T K [S o, l.rep K, r.rep K]), some (Dk kvs), none, none, none] _ _
    refine gs_asgG (i := 2) sc_expression_value.nd rfl (Or.inl rfl) (a_ixT (P := S o) (a_var 0) a_int) ?_
    refine gs_when (t_inT (a_var 2) (a_opsT (glob_ops T))) (fun _ => ?_) (fun h => absurd hok.1 (of_decide_eq_false h))
    refine gs_asgG (i := 3) sc_expression_value.nd rfl (Or.inl rfl) (a_call (P := I (l.val env)) VF hr (by omega) (aa_cons (a_ixT (P := l.rep K) (a_var 0) a_int) (aa_cons (a_var 1) aa_nil)) ⟨l, ns, kvs, env, rfl, by omega, hok.2.1, henv, rfl, rfl⟩) ?_
    refine gs_asgG (i := 4) sc_expression_value.nd rfl (Or.inl rfl) (a_call (P := I (r.val env)) VF hr (by omega) (aa_cons (a_ixT (P := r.rep K) (a_var 0) a_int) (aa_cons (a_var 1) aa_nil)) ⟨r, ns, kvs, env, rfl, by omega, hok.2.2, henv, rfl, rfl⟩) ?_
    exact gs_ret (a_call (P := I (reck o (l.val env) (r.val env))) RK hr (by omega) (aa_cons (a_var 2) (aa_cons (a_var 3) (aa_cons (a_var 4) aa_nil))) ⟨o, _, _, rfl, hl, hr', rfl, rfl⟩) hQ
theorem ok_expression_value (T : Txt K mg cTalkError cBadText cBadTable cTable) : ∀ n, Fk P w K mg base (n + 2) "expression_value" (spC (cVal K n)) []
  | 0 => val_step T 0 fun n' e => nomatch e
  | n + 1 => val_step T (n + 1) fun n' e => by cases e; exact ok_expression_value T n
/-! ### reading and writing -/
def cWords (K : PySem.W.Frag) : Ct := fun Ps m P m' => ∃ (s : Str), Ps = [S s] ∧ s ≠ "" ∧ s.length ≤ 100000 ∧ P = L K ((Txt.split s " ").map S) ∧ m' = m
theorem ok_words_of (T : Txt K mg cTalkError cBadText cBadTable cTable) : Fk P w K mg base 1 "words_of" (spC (cWords K)) [] := by
  refine Fk_of T.d_words_of (fun _ _ _ _ _ _ us hl => match us, hl with | [_], _ => rfl) fun f fd F => Fun_ct F sc_words_of _ (fun Ps m Pr m' h => by obtain ⟨o, rfl, _⟩ := h; rfl) ?_
  intro cdv A outer s H E hr Ps m Pr m' hS b0 Q hQ
  obtain ⟨z, rfl, hz, hl, rfl, rfl⟩ := hS
  show GS _ _ _ [some (S z)] _ _
  refine gs_when (t_eqS (a_var 0) a_str) (fun h => absurd (of_decide_eq_true h) hz) (fun _ => ?_)
  exact gs_ret (a_split (s := z) (a_var (P := S z) 0) a_str (by decide +kernel) (by omega)) hQ
def cIsNum : Ct := fun Ps m P m' => ∃ (s : Str), Ps = [S s] ∧ s.length ≤ 100000 ∧ P = B (isNum s) ∧ m' = m
def cDigits : Ct := fun Ps m P m' => ∃ (s : Str), Ps = [S s] ∧ s.length ≤ 1000 ∧ P = B ((tl s).all isDig) ∧ m' = m
theorem ok_are_digits (T : Txt K mg cTalkError cBadText cBadTable cTable) : Fk P w K mg base 1 "are_digits" (spC cDigits) [] := by
  refine Fk_of T.d_are_digits (fun _ _ _ _ _ _ us hl => match us, hl with | [_], _ => rfl) fun f fd F => Fun_ct F sc_are_digits _ (fun Ps m Pr m' h => by obtain ⟨o, rfl, _⟩ := h; rfl) ?_
  intro cdv A outer s H E hr Ps m Pr m' hS b0 Q hQ
  obtain ⟨z, rfl, hl, rfl, rfl⟩ := hS
  show GS _ _ _ [some (S z), none] _ _
  obtain ⟨tD, hD⟩ := T.g__DIGITS
  refine gs_ret (a_cb (cr_all rfl) (rc_all (bs := (List.range z.length).map fun n => isDig ((tl z).getD n 0))) T.b_all (by decide +kernel) (aa_cons ((a_lcS (own := [("digit", 1)]) (jx := 1) ⟨rfl, sc_are_digits.nd, blkOk_by (N := n_are_digits) (sc := defScope sAre_digits) (by decide +kernel), rfl, Or.inl rfl, Or.inr rfl, fun _ _ => by simp [wipe, List.set_set]⟩ (a_var 0) (fun _ => m') (fun n => B (isDig ((tl z).getD n 0))) rfl (fun _ => rfl) (by omega) (fun n q hn => fun _ _ _ _ _ => a_inS (a_var 1) (a_gstr hD))).eq (by rw [List.map_map]; rfl)) aa_nil)) (hQ.eq (congrArg B ?_) rfl)
  rw [List.all_map, len_tl]
  exact all_range isDig (tl z)
theorem ok_is_number (T : Txt K mg cTalkError cBadText cBadTable cTable) : Fk P w K mg base 2 "is_number" (spC cIsNum) [] := by
  refine Fk_of T.d_is_number (fun _ _ _ _ _ _ us hl => match us, hl with | [_], _ => rfl) fun f fd F => Fun_ct F sc_is_number _ (fun Ps m Pr m' h => by obtain ⟨o, rfl, _⟩ := h; rfl) ?_
  intro cdv A outer s H E hr Ps m Pr m' hS b0 Q hQ
  obtain ⟨z, rfl, hl, rfl, rfl⟩ := hS
  show GS _ _ _ [some (S z)] _ _
  obtain ⟨tL, hL⟩ := T.g_LARGEST
  unfold isNum at hQ
  refine gs_when (t_not (t_leLe a_int (a_cb call_len_str (rc_lenS (s := z) (by omega)) T.b_len PySem.boot_len (aa_cons (a_var 0) aa_nil)) a_int)) (fun h => ?_) (fun h => ?_)
  · refine gs_ret a_bl (hQ.eq ?_ rfl)
    have h2 : (decide (1 ≤ z.length) && decide (z.length ≤ 5)) = false := by
      revert h
      simp
      intro q
      omega
    rw [h2] <;> rfl
  have h2 : (decide (1 ≤ z.length) && decide (z.length ≤ 5)) = true := by
    revert h
    simp
    intro q1 q2
    omega
  have h5 : z.length ≤ 5 := by
    simp only [Bool.and_eq_true, decide_eq_true_eq] at h2
    exact h2.2
  rw [h2, Bool.true_and] at hQ
  refine gs_when (t := !((tl z).all isDig)) (t_not (t_val (a_call (P := B ((tl z).all isDig)) (ok_are_digits T) hr (by omega) (aa_cons (a_var (P := S z) 0) aa_nil) ⟨z, rfl, by omega, rfl, rfl⟩))) (fun h => ?_) (fun h => ?_)
  · refine gs_ret a_bl (hQ.eq ?_ rfl)
    rw [show (tl z).all isDig = false by simpa using h] <;> rfl
  have h3 : (tl z).all isDig = true := by simpa using h
  rw [h3, Bool.true_and] at hQ
  refine gs_when (t_val (a_startswith (a_var 0) a_str)) (fun h => ?_) (fun h => ?_)
  · rw [if_pos h] at hQ
    exact gs_ret (a_eqS (a_var 0) a_str) hQ
  · rw [if_neg (by rw [h]; decide)] at hQ
    have hz : tl z ≠ [] := by
      intro e
      have : z.length = 0 := by rw [len_tl, e]; rfl
      rw [this] at h2
      revert h2
      decide
    exact gs_ret (a_le (a_ct call_int_str (fun d H vs Q _ h q => by
      match vs, h with
      | [_], .cons rfl .nil => exact ⟨z, numV z, rfl, intText_dig h3 hz (by omega), by omega, q _ H (Ex.refl _) rfl⟩ : RC _ [S z] (I (numV z))) T.b_int (by decide +kernel) (aa_cons (a_var 0) aa_nil)) (a_gint hL)) hQ
def cRead (K : PySem.W.Frag) (n : Nat) : Ct := fun Ps m P m' => ∃ (ws ns : List Str) (at_ d : Nat) (f : Fm) (b : Nat), Ps = [L K (ws.map S), I (at_ : Int), SV.T K (ns.map S), I (d : Int)] ∧ d ≤ n ∧ (∀ w ∈ ws, w.length ≤ 1000) ∧ rd ws ns d at_ = .ok (f, b) ∧ P = SV.T K [f.rep K, I (b : Int)] ∧ m' = m
theorem read_step (T : Txt K mg cTalkError cBadText cBadTable cTable) (n : Nat) (ih : ∀ n', n = n' + 1 → Fk P w K mg base (n + 1) "read_expression" (spC (cRead K n')) []) : ∀ f fd, FunD K "read_expression" "read_expression" (defArgs sRead_expression) (defBody sRead_expression) (defScope sRead_expression) [.int (5)] [] f fd → FnOk P w K mg base CX0 (n + 2) f fd ["words", "at", "names", "deepest"] (spC (cRead K n)) := by
  intro f fd F
  refine FunD_ct F sc_read_expression _ (fun Ps m Pr m' h => by obtain ⟨ws, ns, at_, d, f, b, rfl, _⟩ := h; rfl) ?_
  intro cdv A outer s H E hr Ps m Pr m' hS b0 Q hQ
  obtain ⟨ws, ns, at_, d, f, b, rfl, hdn, hw, hrd, rfl, rfl⟩ := hS
  show GS _ _ _ [some (L K (ws.map S)), some (I (at_ : Int)), some (SV.T K (ns.map S)), some (I (d : Int)), none, none, none, none] _ _
  have NM := ok_named (P := P) (w := w) (base := base) T
  have IN := ok_is_number (P := P) (w := w) (base := base) T
  cases d with
  | zero => unfold rd at hrd; cases hrd
  | succ d =>
  unfold rd at hrd
  cases hat : ws[at_]? with
  | none => rw [hat] at hrd; cases hrd
  | some wd =>
  rw [hat] at hrd
  have hlt : at_ < ws.length := (List.getElem?_eq_some_iff.mp hat).1
  have hwd : wd.length ≤ 1000 := hw wd (List.mem_of_getElem? hat)
  refine gs_when (t_ge (a_var 1) (a_cb call_len_seq rc_lenL T.b_len PySem.boot_len (aa_cons (a_var 0) aa_nil))) (fun h => ?_) (fun _ => ?_)
  · simp only [decide_eq_true_eq, List.length_map] at h
    omega
  refine gs_asgG (i := 4) sc_read_expression.nd rfl (Or.inl rfl) (a_ixL (P := S wd) (a_var 0) (a_var 1) (atI_nat' (by rw [List.getElem?_map, hat] <;> rfl))) ?_
  refine gs_when (t_inT (a_var 4) (a_var 2)) (fun h => ?_) (fun h => ?_)
  · simp only [of_decide_eq_true h, if_true] at hrd
    cases hrd
    refine gs_ret (a_tup (aa_cons (a_call (P := (named wd).rep K) NM hr (by omega) (aa_cons (a_var 4) aa_nil) ⟨wd, rfl, rfl, rfl⟩) (aa_cons (a_add (a_var 1) a_int) aa_nil))) (hQ.eq ?_ rfl)
    rfl
  simp only [of_decide_eq_false h, if_false] at hrd
  refine gs_when (t_val (a_call (P := B (isNum wd)) IN hr (by omega) (aa_cons (a_var 4) aa_nil) ⟨wd, rfl, by omega, rfl, rfl⟩)) (fun h => ?_) (fun h => ?_)
  · simp only [h, if_true] at hrd
    cases hrd
    have hd := h
    unfold isNum at hd
    simp only [Bool.and_eq_true, decide_eq_true_eq] at hd
    have hz : tl wd ≠ [] := by
      intro e
      have := hd.1.1
      rw [len_tl, e] at this
      simp at this
    refine gs_ret (a_tup (aa_cons (a_tup (aa_cons a_str (aa_cons (a_ct call_int_str (fun d H vs Q _ h q => by
      match vs, h with
      | [_], .cons rfl .nil => exact ⟨wd, numV wd, rfl, intText_dig hd.2.1 hz (by omega), by omega, q _ H (Ex.refl _) rfl⟩ : RC _ [S wd] (I (numV wd))) T.b_int (by decide +kernel) (aa_cons (a_var 4) aa_nil)) aa_nil))) (aa_cons (a_add (a_var 1) a_int) aa_nil))) (hQ.eq ?_ rfl)
    have e : ((numV wd).toNat : Int) = numV wd := by unfold numV; omega
    simp only [Fm.rep, e]
    rfl
  simp only [h, Bool.false_eq_true, if_false] at hrd
  by_cases hop : wd ∉ OPS ∨ d = 0
  · simp only [hop, if_true] at hrd
    cases hrd
  simp only [hop, if_false] at hrd
  have hop2 : wd ∈ OPS ∧ d ≠ 0 := by
    refine ⟨Classical.byContradiction fun z => hop (Or.inl z), fun z => hop (Or.inr z)⟩
  refine gs_when (t := false) ((w_t (w_or (t_ninT (a_var 4) (a_opsT (glob_ops T))) fun _ => w_or1 (t_eqI (a_var 3) a_int))).eq (by simp [hop2.1]; omega)) (fun h => nomatch h) (fun _ => ?_)
  obtain ⟨n', rfl⟩ : ∃ n', n = n' + 1 := ⟨n - 1, by omega⟩
  have RF := ih n' rfl
  cases h1 : rd ws ns d (at_ + 1) with
  | error e => rw [h1] at hrd; cases hrd
  | ok lb =>
  obtain ⟨l, b1⟩ := lb
  rw [h1] at hrd
  simp only [] at hrd
  cases h2 : rd ws ns d b1 with
  | error e => rw [h2] at hrd; cases hrd
  | ok rb =>
  obtain ⟨r, b2⟩ := rb
  rw [h2] at hrd
  simp only [Except.ok.injEq, Prod.mk.injEq] at hrd
  obtain ⟨rfl, rfl⟩ := hrd
  have ed : ((d + 1 : Nat) : Int) - 1 = (d : Int) := by omega
  have ea : ((at_ : Nat) : Int) + 1 = ((at_ + 1 : Nat) : Int) := by omega
  refine gs_unp (n1 := 5) (n2 := 6) (P1 := l.rep K) (P2 := I (b1 : Int)) rfl sc_read_expression.nd rfl rfl (Or.inl rfl) (Or.inl rfl) (a_call (P := SV.T K [l.rep K, I (b1 : Int)]) RF hr (by omega) (aa_cons (a_var 0) (aa_cons ((a_add (a_var 1) a_int).eq (by rw [ea])) (aa_cons (a_var 2) (aa_cons ((a_sub (a_var 3) a_int).eq (by rw [ed])) aa_nil)))) ⟨ws, ns, at_ + 1, d, l, b1, rfl, by omega, hw, h1, rfl, rfl⟩) ?_
  refine gs_unp (n1 := 7) (n2 := 6) (P1 := r.rep K) (P2 := I (b2 : Int)) rfl sc_read_expression.nd rfl rfl (Or.inl rfl) (Or.inl rfl) (a_call (P := SV.T K [r.rep K, I (b2 : Int)]) RF hr (by omega) (aa_cons (a_var 0) (aa_cons (a_var 6) (aa_cons (a_var 2) (aa_cons ((a_sub (a_var 3) a_int).eq (by rw [ed])) aa_nil)))) ⟨ws, ns, b1, d, r, b2, rfl, by omega, hw, h2, rfl, rfl⟩) ?_
  exact gs_ret (a_tup (aa_cons (a_tup (aa_cons (a_var 4) (aa_cons (a_var 5) (aa_cons (a_var 7) aa_nil)))) (aa_cons (a_var 6) aa_nil))) hQ
theorem fn_read (T : Txt K mg cTalkError cBadText cBadTable cTable) : ∀ n, (∀ f fd, FunD K "read_expression" "read_expression" (defArgs sRead_expression) (defBody sRead_expression) (defScope sRead_expression) [.int (5)] [] f fd → FnOk P w K mg base CX0 (n + 2) f fd ["words", "at", "names", "deepest"] (spC (cRead K n)))
  | 0 => read_step T 0 fun n' e => nomatch e
  | n + 1 => read_step T (n + 1) fun n' e => by
    cases e
    exact FkD_of (dvs := [.int 5]) T.d_read_expression 4 1 (by simp) rfl (fun _ _ _ _ _ _ _ us its h1 h2 => match us, its, h1, h2 with | [_, _, _, _], [_], _, _ => ⟨_, rfl, rfl⟩) (fn_read T n)
theorem ok_read_expression (T : Txt K mg cTalkError cBadText cBadTable cTable) (n : Nat) : Fk P w K mg base (n + 2) "read_expression" (spC (cRead K n)) [.int 5] := FkD_of (dvs := [.int 5]) T.d_read_expression 3 0 (by simp) rfl (fun _ _ _ _ _ _ _ us its h1 h2 => match us, its, h1, h2 with | [_, _, _], [_], _, _ => ⟨_, rfl, rfl⟩) (fn_read T n)
def cTxt (K : PySem.W.Frag) (n : Nat) : Ct := fun Ps m P m' => ∃ (f : Fm), Ps = [f.rep K] ∧ f.ht ≤ n ∧ n ≤ 6 ∧ f.tx ∧ P = S f.txt ∧ m' = m
theorem text_step (T : Txt K mg cTalkError cBadText cBadTable cTable) (n : Nat) (ih : ∀ n', n = n' + 1 → Fk P w K mg base n "expression_text" (spC (cTxt K n')) []) : Fk P w K mg base (n + 1) "expression_text" (spC (cTxt K n)) [] := by
  refine Fk_of T.d_expression_text (fun _ _ _ _ _ _ us hl => match us, hl with | [_], _ => rfl) fun f fd F => Fun_ct F sc_expression_text _ (fun Ps m Pr m' h => by obtain ⟨f, rfl, _⟩ := h; rfl) ?_
  intro cdv A outer s H E hr Ps m Pr m' hS b0 Q hQ
  obtain ⟨f, rfl, hht, hn6, htx, rfl, rfl⟩ := hS
  cases f with
  | num k =>
    show GS _ _ _ [some (SV.T K [S "number", I (k : Int)]), none] _ _
    refine gs_asgG (i := 1) sc_expression_text.nd rfl (Or.inl rfl) (a_ixT (a_var 0) a_int) ?_
    refine gs_when (t_inT (a_var 1) (a_opsT (glob_ops T))) (fun h => absurd h (by decide +kernel)) (fun _ => ?_)
    refine gs_when (w_t (w_or (u := false) (t_eqS (a_var 1) a_str) fun h => absurd h (by decide +kernel))) (fun _ => ?_) (fun h => absurd h (by decide +kernel))
    exact gs_ret (a_fstr1 (a_fmtI (a_ixT (P := I (k : Int)) (a_var 0) a_int) (num_log htx))) hQ
  | var x =>
    show GS _ _ _ [some (SV.T K [S "variable", S x]), none] _ _
    refine gs_asgG (i := 1) sc_expression_text.nd rfl (Or.inl rfl) (a_ixT (a_var 0) a_int) ?_
    refine gs_when (t_inT (a_var 1) (a_opsT (glob_ops T))) (fun h => absurd h (by decide +kernel)) (fun _ => ?_)
    refine gs_when (w_t (w_or (t_eqS (a_var 1) a_str) fun _ => w_or1 (t_eqS (a_var 1) a_str))) (fun _ => ?_) (fun h => absurd h (by decide +kernel))
    have hx : x.length ≤ 10 := htx
    exact gs_ret (a_fstr1 (a_fmtS (s := x) (a_ixT (P := S x) (a_var 0) a_int) (by omega))) hQ
  | kw x =>
    show GS _ _ _ [some (SV.T K [S x]), none] _ _
    have hx : x ∉ OPS ∧ x ≠ "number" ∧ x ≠ "variable" := by
      rcases htx with rfl | rfl
      · decide +kernel
      · decide +kernel
    refine gs_asgG (i := 1) sc_expression_text.nd rfl (Or.inl rfl) (a_ixT (P := S x) (a_var 0) a_int) ?_
    refine gs_when (t_inT (a_var 1) (a_opsT (glob_ops T))) (fun h => absurd (of_decide_eq_true h) hx.1) (fun _ => ?_)
    refine gs_when (w_t (w_or (t_eqS (a_var 1) a_str) fun _ => w_or1 (t_eqS (a_var 1) a_str))) (fun h => by simp [hx.2.1, hx.2.2] at h) (fun h => ?_)
    exact gs_ret (a_var (P := S x) 1) hQ
  | op o l r =>
    simp only [Fm.ht] at hht
    obtain ⟨n', rfl⟩ : ∃ n', n = n' + 1 := ⟨n - 1, by omega⟩
    have XF := ih n' rfl
    have z := tx_len (.op o l r) htx (n := n' + 1) (by simp only [Fm.ht]; omega) hn6
    have zo := ops_len htx.1
    have zl := tx_len l htx.2.1 (n := n' + 1) (by omega) hn6
    have zr := tx_len r htx.2.2 (n := n' + 1) (by omega) hn6
    show GS _ _ _ [some (SV.T K [S o, l.rep K, r.rep K]), none] _ _
    refine gs_asgG (i := 1) sc_expression_text.nd rfl (Or.inl rfl) (a_ixT (P := S o) (a_var 0) a_int) ?_
    refine gs_when (t_inT (a_var 1) (a_opsT (glob_ops T))) (fun _ => ?_) (fun h => absurd htx.1 (of_decide_eq_false h))
    exact gs_ret (a_fstr (ss := [o, " ", l.txt, " ", r.txt]) (.cons (a_fmtS (a_var (P := S o) 1) (by omega)) (.cons a_str (.cons (a_fmtS (a_call (P := S l.txt) XF hr (by omega) (aa_cons (a_ixT (P := l.rep K) (a_var 0) a_int) aa_nil) ⟨l, rfl, by omega, by omega, htx.2.1, rfl, rfl⟩) (by omega)) (.cons a_str (.cons (a_fmtS (a_call (P := S r.txt) XF hr (by omega) (aa_cons (a_ixT (P := r.rep K) (a_var 0) a_int) aa_nil) ⟨r, rfl, by omega, by omega, htx.2.2, rfl, rfl⟩) (by omega)) .nil))))) (by
      have e1 : (" " : Str).length = 1 := by decide +kernel
      simp only [glens, e1]
      omega)) hQ
theorem ok_expression_text (T : Txt K mg cTalkError cBadText cBadTable cTable) : ∀ n, Fk P w K mg base (n + 1) "expression_text" (spC (cTxt K n)) []
  | 0 => text_step T 0 fun n' e => nomatch e
  | n + 1 => text_step T (n + 1) fun n' e => by cases e; exact ok_expression_text T n
theorem ok_formula_text (T : Txt K mg cTalkError cBadText cBadTable cTable) (n : Nat) : Fk P w K mg base (n + 2) "formula_text" (spC (cTxt K n)) [] := by
  refine Fk_of T.d_formula_text (fun _ _ _ _ _ _ us hl => match us, hl with | [_], _ => rfl) fun f fd F => Fun_ct F sc_formula_text _ (fun Ps m Pr m' h => by obtain ⟨f, rfl, _⟩ := h; rfl) ?_
  intro cdv A outer s H E hr Ps m Pr m' hS b0 Q hQ
  obtain ⟨f, rfl, hht, hn6, htx, rfl, rfl⟩ := hS
  exact gs_ret (a_call (P := S f.txt) (ok_expression_text T n) hr (by omega) (aa_cons (a_var (P := f.rep K) 0) aa_nil) ⟨f, rfl, hht, hn6, htx, rfl, rfl⟩) hQ
/-- read_formula of a formula's text -/
def cReadF (K : PySem.W.Frag) : Ct := fun Ps m P m' => ∃ (f : Fm), Ps = [S f.txt] ∧ f.ht ≤ 5 ∧ f.good ["a", "b"] ∧ f.tx ∧ P = f.rep K ∧ m' = m
theorem ab_num : ∀ n : Nat, numS n ∉ (["a", "b"] : List Str) := by
  intro n h
  have h1 := TL.numL_digits n
  have key : ∀ c, tl (numS n) = [c] → 48 ≤ c ∧ c ≤ 57 := by
    intro c hc
    rw [numS_tl] at hc
    have := h1 c (by rw [hc]; simp)
    exact isDig_iff.mp (by first | exact isDig_iff.mpr this | exact this)
  simp only [List.mem_cons, List.not_mem_nil, or_false] at h
  rcases h with h | h
  · have := key 97 (by rw [h]; decide +kernel)
    omega
  · have := key 98 (by rw [h]; decide +kernel)
    omega
theorem ok_read_formula (T : Txt K mg cTalkError cBadText cBadTable cTable) : Fk P w K mg base 8 "read_formula" (spC (cReadF K)) [] := by
  refine Fk_of T.d_read_formula (fun _ _ _ _ _ _ us hl => match us, hl with | [_], _ => rfl) fun f fd F => Fun_ct F sc_read_formula _ (fun Ps m Pr m' h => by obtain ⟨f, rfl, _⟩ := h; rfl) ?_
  intro cdv A outer s H E hr Ps m Pr m' hS b0 Q hQ
  obtain ⟨f, rfl, hht, hg, htx, rfl, rfl⟩ := hS
  have hz := tx_len f htx hht (by decide)
  have hsp : ∀ w ∈ f.words, 32 ∉ tl w := no_space (ns := ["a", "b"]) (by decide +kernel) f (good_ok f hg)
  have hsplit : Txt.split f.txt " " = f.words := by rw [txt_join]; exact split_join (words_ne f) hsp
  have hne : f.txt ≠ "" := txt_ne (ns := ["a", "b"]) (by decide +kernel) f (good_ok f hg)
  have hlen : ∀ w ∈ f.words, w.length ≤ 1000 := fun w hw => by
    have := words_len f htx w hw
    omega
  have hrd : rd f.words ["a", "b"] 5 0 = .ok (f, f.words.length) := by
    have := rd_words ab_num (by decide +kernel) f 5 [] [] hg hht
    simpa using this
  show GS _ _ _ [some (S f.txt), none, none, none] _ _
  refine gs_asgG (i := 1) sc_read_formula.nd rfl (Or.inl rfl) (a_call (P := L K (f.words.map S)) (ok_words_of T) hr (by omega) (aa_cons (a_var (P := S f.txt) 0) aa_nil) ⟨_, rfl, hne, by omega, by rw [hsplit]; rfl, rfl⟩) ?_
  refine gs_unp (n1 := 2) (n2 := 3) (P1 := f.rep K) (P2 := I (f.words.length : Int)) rfl sc_read_formula.nd rfl rfl (Or.inl rfl) (Or.inl rfl) (a_call (P := SV.T K [f.rep K, I (f.words.length : Int)]) (ok_read_expression T 5) hr (by omega) (aa_cons (a_var 1) (aa_cons a_int (aa_cons (a_tup (aa_cons a_str (aa_cons a_str aa_nil))) aa_nil))) ⟨f.words, ["a", "b"], 0, 5, f, f.words.length, rfl, by omega, hlen, hrd, rfl, rfl⟩) ?_
  refine gs_when (t_lt (a_var 3) (a_cb call_len_seq rc_lenL T.b_len PySem.boot_len (aa_cons (a_var 1) aa_nil))) (fun h => by simp at h) (fun _ => ?_)
  exact gs_ret (a_var 2) hQ
/-! ### tables -/
def rowsM (K : PySem.W.Frag) (rows : List (Bool × List Int)) : MP := L K (rows.map fun r => Rw K r.1 r.2)
def cFault (K : PySem.W.Frag) : Ct := fun Ps m P m' => ∃ rows, Ps = [rowsM K rows] ∧ wf rows ∧ P = N ∧ m' = m
theorem ok_fault (T : Txt K mg cTalkError cBadText cBadTable cTable) : Fk P w K mg base 1 "_fault" (spC (cFault K)) [] := by
  refine Fk_of T.d_fault (fun _ _ _ _ _ _ us hl => match us, hl with | [_], _ => rfl) fun f fd F => Fun_ct F sc_fault _ (fun Ps m Pr m' h => by obtain ⟨r, rfl, _⟩ := h; rfl) ?_
  intro cdv A outer s H E hr Ps m Pr m' hS b0 Q hQ
  obtain ⟨rows, rfl, ⟨h1, h2, wd, h3, h4, hrow⟩, rfl, rfl⟩ := hS
  show GS _ _ _ [some (L K (rows.map fun r => Rw K r.1 r.2)), none, none, none] _ _
  obtain ⟨tM, hM⟩ := T.g_MOST_VALUES
  obtain ⟨tL, hL⟩ := T.g_LARGEST
  refine gs_when (t := false) ((t_not (t_leLe a_int (a_cb call_len_seq rc_lenL T.b_len PySem.boot_len (aa_cons (a_var 0) aa_nil)) (a_gint hM))).eq (by simp; omega)) (fun h => nomatch h) (fun _ => ?_)
  have h0 : rows[0]? = some rows[0] := List.getElem?_eq_getElem (by omega)
  have hw0 : rows[0].2.length = wd := (hrow rows[0] (List.getElem_mem _)).1
  refine gs_asgG (i := 1) sc_fault.nd rfl (Or.inr rfl) ((a_cb call_len_seq rc_lenRw T.b_len PySem.boot_len (aa_cons (a_ixL (P := Rw K rows[0].1 rows[0].2) (a_var 0) a_int (atI_nat' (i := 0) (by rw [List.getElem?_map, h0] <;> rfl))) aa_nil)).eq (P1 := I (wd : Int)) (by rw [hw0])) ?_
  refine gs_when (t := false) ((t_not (t_leLe a_int (a_var (P := I (wd : Int)) 1) (a_gint hM))).eq (by simp; omega)) (fun h => nomatch h) (fun _ => ?_)
  have hg : ∀ (i : Nat) (r : Bool × List Int), rows[i]? = some r → r.2.length = wd ∧ ∀ x ∈ r.2, 0 ≤ x ∧ x ≤ 65535 := fun i r e => hrow r (List.mem_of_getElem? e)
  refine gs_when (t := false) ((t_val (a_cb (cr_any rfl) (rc_any (bs := (List.range rows.length).map fun n => !decide ((((rows.getD n (true, [])).2.length : Nat) : Int) = (wd : Int)))) T.b_any (by decide +kernel) (aa_cons ((a_lcL (own := [("row", 2)]) (jx := 2) ⟨rfl, sc_fault.nd, blkOk_by (N := n_fault) (sc := defScope sFault) (by decide +kernel), rfl, Or.inl rfl, Or.inr rfl, fun _ _ => by simp [wipe, List.set_set]⟩ (a_var 0) (fun _ => m') (fun n => B (!decide ((((rows.getD n (true, [])).2.length : Nat) : Int) = (wd : Int)))) rfl (fun _ => rfl) (by rw [List.length_map]; omega) (fun n P0 q hn => fun _ _ _ _ _ => by
      rw [List.getElem?_map] at hn
      cases e : rows[n]? with
      | none => rw [e] at hn; cases hn
      | some r =>
        rw [e] at hn
        simp only [Option.map_some, Option.some.injEq] at hn
        subst hn
        have e2 : rows.getD n (true, []) = r := by rw [List.getD_eq_getElem?_getD, e] <;> rfl
        rw [e2]
        exact a_neI (a_cb call_len_seq rc_lenRw T.b_len PySem.boot_len (aa_cons (a_var (P := Rw K r.1 r.2) 2) aa_nil)) (a_var (P := I (wd : Int)) 1))).eq (by rw [List.map_map, List.length_map]; rfl)) aa_nil))).eq ?_) (fun h => nomatch h) (fun _ => ?_)
  · rw [List.any_eq_false]
    intro b hb
    obtain ⟨n, hn, rfl⟩ := List.mem_map.mp hb
    have hn := List.mem_range.mp hn
    have e2 : rows.getD n (true, []) = rows[n] := by rw [List.getD_eq_getElem?_getD, List.getElem?_eq_getElem hn] <;> rfl
    rw [e2, (hg n rows[n] (List.getElem?_eq_getElem hn)).1]
    simp
  refine gs_when (t := false) ((t_val (a_cb (cr_any rfl) (rc_any (bs := ((List.range rows.length).map fun i => (List.range (rows.getD i (true, [])).2.length).map fun j => !(decide (0 ≤ (rows.getD i (true, [])).2.getD j 0) && decide ((rows.getD i (true, [])).2.getD j 0 ≤ 65535))).flatten)) T.b_any (by decide +kernel) (aa_cons ((a_lc2 (own := [("row", 2), ("result", 3)]) (jx := 2) (jy := 3) (rows := rows) ⟨rfl, sc_fault.nd, blkOk_by (N := n_fault) (sc := defScope sFault) (by decide +kernel), rfl, Or.inl rfl, Or.inr rfl, fun σ v => wipe2 2 3 σ v⟩ rfl (Or.inl rfl) (Or.inr rfl) (by decide)
      (a_var 0) (fun i j => B (!(decide (0 ≤ (rows.getD i (true, [])).2.getD j 0) && decide ((rows.getD i (true, [])).2.getD j 0 ≤ 65535)))) (by omega) (fun r hr => by have := (hrow r hr).1; omega)
      (fun i r q e => fun _ _ _ _ _ => a_var (P := Rw K r.1 r.2) 2) (fun i r j z q e e2 => fun _ _ _ _ _ => by
        have e3 : rows.getD i (true, []) = r := by rw [List.getD_eq_getElem?_getD, e] <;> rfl
        have e4 : r.2.getD j 0 = z := by rw [List.getD_eq_getElem?_getD, e2] <;> rfl
        rw [e3, e4]
        exact a_not (a_leLe a_int (a_var (P := I z) 3) (a_gint hL)))).eq (by unfold accR; simp [List.map_flatten, List.map_map, Function.comp_def])) aa_nil))).eq ?_) (fun h => nomatch h) (fun _ => ?_)
  · rw [List.any_eq_false]
    intro b hb
    obtain ⟨l, hl, hb⟩ := List.mem_flatten.mp hb
    obtain ⟨i, hi, rfl⟩ := List.mem_map.mp hl
    obtain ⟨j, hj, rfl⟩ := List.mem_map.mp hb
    have hi := List.mem_range.mp hi
    have hj := List.mem_range.mp hj
    have e2 : rows.getD i (true, []) = rows[i] := by rw [List.getD_eq_getElem?_getD, List.getElem?_eq_getElem hi] <;> rfl
    rw [e2] at hj ⊢
    have e3 : rows[i].2.getD j 0 = rows[i].2[j] := by rw [List.getD_eq_getElem?_getD, List.getElem?_eq_getElem hj] <;> rfl
    rw [e3]
    have := (hg i rows[i] (List.getElem?_eq_getElem hi)).2 rows[i].2[j] (List.getElem_mem hj)
    simp [this.1, this.2]
  exact gs_ret a_non hQ
/-- Table(rows): the rows as tuples -/
def cTabI (K : PySem.W.Frag) (Cc : Addr) : Ct := fun Ps m P m' => ∃ rows l m0, Ps = [R l, rowsM K rows] ∧ wf rows ∧ m = (l, .ins Cc []) :: m0 ∧ P = N ∧ m' = (l, .ins Cc [("rows", Tb K (rows.map Prod.snd))]) :: m0
theorem ok_Table_init (T : Txt K mg cTalkError cBadText cBadTable cTable) : Fc P w K mg base 2 "Table" cTable (spC (cTabI K cTable)) [] := by
  obtain ⟨f, fd, F, hfi, hfn, hkp⟩ := T.d_Table_init
  refine ⟨f, fd, ["self", "rows"], [], ⟨T.mk_Table, hfi, hfn, T.kc_Table⟩, ?_, T.g_Table, F.binds fun _ _ _ _ _ _ us hl => match us, hl with | [_, _], _ => rfl, .nil⟩
  refine Fun_ct F sc_Table_init _ (fun Ps m Pr m' h => by obtain ⟨r, l, m0, rfl, _⟩ := h; rfl) ?_
  intro cdv A outer s H E hr Ps m Pr m' hS b0 Q hQ
  obtain ⟨rows, l, m0, rfl, hwf, rfl, rfl, rfl⟩ := hS
  have h8 := hwf.2.1
  show GS _ _ _ [some (R l), some (L K (rows.map fun r => Rw K r.1 r.2)), none, none] _ _
  refine gs_asgG (i := 2) sc_Table_init.nd rfl (Or.inl rfl) (a_call (P := N) (ok_fault T) hr (by omega) (aa_cons (a_var 1) aa_nil) ⟨rows, rfl, hwf, rfl, rfl⟩) ?_
  refine gs_when (t_notN (a_var 2) a_non) (fun h => absurd h (by decide +kernel)) (fun _ => ?_)
  refine gs_fldO 0 T.cl_Table.cl T.na_Table_rows ((a_ct call_tuple_of rc_tupL T.b_tuple (by decide +kernel) (aa_cons (a_lcL (own := [("row", 3)]) (jx := 3) ⟨rfl, sc_Table_init.nd, blkOk_by (N := n_Table_init) (sc := defScope sTable_init) (by decide +kernel), rfl, Or.inl rfl, Or.inr rfl, fun _ _ => by simp [wipe, List.set_set]⟩ (a_var 1) (fun _ => (l, .ins cTable []) :: m0) (fun n => SV.T K ((rows.getD n (true, [])).2.map I)) rfl (fun _ => rfl) (by rw [List.length_map]; omega) (fun n P0 q hn => fun _ _ _ _ _ => by
      rw [List.getElem?_map] at hn
      cases e : rows[n]? with
      | none => rw [e] at hn; cases hn
      | some r =>
        rw [e] at hn
        simp only [Option.map_some, Option.some.injEq] at hn
        subst hn
        have e2 : rows.getD n (true, []) = r := by rw [List.getD_eq_getElem?_getD, e] <;> rfl
        rw [e2]
        exact a_ct call_tuple_of rc_tupRw T.b_tuple (by decide +kernel) (aa_cons (a_var (P := Rw K r.1 r.2) 3) aa_nil))) aa_nil)).eq (P1 := Tb K (rows.map Prod.snd)) ?_) (a_var 0) rfl (by decide) (gs_fin hQ)
  unfold Tb
  congr 1
  rw [List.length_map, List.map_map]
  refine List.ext_getElem? fun n => ?_
  rw [List.getElem?_map, List.getElem?_map]
  by_cases hn : n < rows.length
  · have e2 : rows.getD n (true, []) = rows[n] := by rw [List.getD_eq_getElem?_getD, List.getElem?_eq_getElem hn] <;> rfl
    rw [List.getElem?_range hn, List.getElem?_eq_getElem hn, Option.map_some, Option.map_some, e2]
    rfl
  · rw [List.getElem?_eq_none (by simpa using hn), List.getElem?_eq_none (by simpa using hn)] <;> rfl
def tabO (K : PySem.W.Frag) (Cc : Addr) (rows : List (List Int)) : MP := O Cc [("rows", Tb K rows)]
def cTabE (K : PySem.W.Frag) (Cc : Addr) : Ct := fun Ps m P m' => ∃ r1 r2, Ps = [tabO K Cc r1, tabO K Cc r2] ∧ P = B (PyData.eqv (tabD r1).py (tabD r2).py) ∧ m' = m
theorem fn_Table_eq (T : Txt K mg cTalkError cBadText cBadTable cTable) : ∃ f fd, FnOk P w K mg base CX0 1 f fd ["self", "other"] (spC (cTabE K cTable)) ∧ PySem.W.findIn K (.ref cTable) "__eq__" = some (some (.ref f)) ∧ PySem.W.isFn K (.ref f) = true ∧ Binds K fd ["self", "other"] [] := by
  obtain ⟨f, fd, F, hfi, hfn, hkp⟩ := T.d_Table_eq
  refine ⟨f, fd, ?_, hfi, hfn, F.binds fun _ _ _ _ _ _ us hl => match us, hl with | [_, _], _ => rfl⟩
  refine Fun_ct F sc_Table_eq _ (fun Ps m Pr m' h => by obtain ⟨r, l, rfl, _⟩ := h; rfl) ?_
  intro cdv A outer s H E hr Ps m Pr m' hS b0 Q hQ
  obtain ⟨r1, r2, rfl, rfl, rfl⟩ := hS
  show GS _ _ _ [some (O cTable [("rows", Tb K r1)]), some (O cTable [("rows", Tb K r2)])] _ _
  have hu : (A.deeper (envOfC (Str.ofString "Table.__eq__") (defScope sTable_eq) s.heap.objs.size f cdv)).units + 64 < cLine := by have := hr.un; omega
  refine gs_ret (a_and (a_isC (t := .ref cTable) (r := true) (a_var (P := O cTable [("rows", Tb K r2)]) 1) (tyx_O T.cl_Table) (by unfold PySem.W.kitOne; rw [if_pos (by simp)]) T.b_isinstance T.g_Table) fun _ => a_one (a_eqD (d1 := tabD r1) (d2 := tabD r2) hu (tab_shaped r1) (tab_shaped r2) ((a_fld T.cl_Table.cl T.na_Table_rows (a_var (P := O cTable [("rows", Tb K r1)]) 0) rfl).eq (Tb_rp K r1)) ((a_fld T.cl_Table.cl T.na_Table_rows (a_var (P := O cTable [("rows", Tb K r2)]) 1) rfl).eq (Tb_rp K r2)))) (hQ.eq (by simp) rfl)
/-! ### formula_table -/
def cFTab (K : PySem.W.Frag) (Cc : Addr) : Ct := fun Ps m P m' => ∃ (f : Fm) (r c : Nat), Ps = [f.rep K, I (r : Int), I (c : Int)] ∧ f.ht ≤ 5 ∧ f.good ["a", "b"] ∧ (1 ≤ r ∧ r ≤ 8) ∧ (1 ≤ c ∧ c ≤ 8) ∧ P = tabO K Cc (fmTable f r c) ∧ m' = m
theorem ok_formula_table (T : Txt K mg cTalkError cBadText cBadTable cTable) : Fk P w K mg base 8 "formula_table" (spC (cFTab K cTable)) [] := by
  refine Fk_of T.d_formula_table (fun _ _ _ _ _ _ us hl => match us, hl with | [_, _, _], _ => rfl) fun f fd F => Fun_ct F sc_formula_table _ (fun Ps m Pr m' h => by obtain ⟨f, r, c, rfl, _⟩ := h; rfl) ?_
  intro cdv A outer s H E hr Ps m Pr m' hS b0 Q hQ
  obtain ⟨f, r, c, rfl, hht, hg, hr8, hc8, rfl, rfl⟩ := hS
  show GS _ _ _ [some (f.rep K), some (I (r : Int)), some (I (c : Int)), none, none] _ _
  have hok := good_ok f hg
  have EV := ok_expression_value (P := P) (w := w) (base := base) T 5
  have e8 : ∀ i j : Nat, i < 8 → j < 8 → ∀ x ∈ (["a", "b"] : List Str), valM [((Sum.inr "a" : Key), I (i : Int)), ((Sum.inr "b" : Key), I (j : Int))] (.inr x) = some (I (envAB i j x)) ∧ 0 ≤ envAB i j x ∧ envAB i j x ≤ 65535 ∧ x ∉ OPS ∧ x ≠ "number" ∧ x ≠ "variable" := by
    intro i j hi hj x hx
    have hb := envAB_lt hi hj x
    simp only [List.mem_cons, List.not_mem_nil, or_false] at hx
    rcases hx with rfl | rfl
    · exact ⟨rfl, hb.1, hb.2, by decide +kernel, by decide +kernel, by decide +kernel⟩
    · refine ⟨?_, hb.1, hb.2, by decide +kernel, by decide +kernel, by decide +kernel⟩
      have e : envAB i j "b" = (j : Int) := by unfold envAB; rw [if_neg (by decide +kernel)]
      rw [e]
      have ne : ¬ (Sum.inr "a" : Key) = (Sum.inr "b" : Key) := by intro z; injection z with z; exact absurd z (by decide +kernel)
      simp [valM, List.find?, ne]
  refine gs_ret (a_make (fs := [("rows", Tb K (fmTable f r c))]) (ok_Table_init T) hr (by omega) (aa_cons ((a_lcR (own := [("row", 3)]) (jx := 3) (by rfl) T.b_range ⟨rfl, sc_formula_table.nd, blkOk_by (N := n_formula_table) (sc := defScope sFormula_table) (by decide +kernel), rfl, Or.inr rfl, Or.inl rfl, wipe1 3⟩ (a_var (P := I (r : Int)) 1) (fun _ => m') (fun i => L K (((List.range c).map fun j => f.val (envAB i j)).map I)) rfl (fun _ => rfl) (by omega) (by omega) (fun i q hi => fun s1 H1 C1 cl1 fp1 =>
      (a_lcR (own := [("column", 4)]) (jx := 4) (by rfl) T.b_range ⟨rfl, sc_formula_table.nd, blkOk_by (by kernel_rfl), rfl, Or.inl rfl, Or.inr rfl, wipe1 4⟩ (a_var (P := I (c : Int)) 2) (fun _ => q :: m') (fun j => I (f.val (envAB i j))) rfl (fun _ => rfl) (by omega) (by omega) (fun j q2 hj => fun s2 H2 C2 cl2 fp2 =>
        a_call (P := I (f.val (envAB i j))) EV hr (by omega) (aa_cons (a_var (P := f.rep K) 0) (aa_cons (a_disp (kvs := [((Sum.inr "a" : Key), I (i : Int)), ((Sum.inr "b" : Key), I (j : Int))]) (.cons (fun q => a_str) (fun q => a_var 3) (.cons (fun q => a_str) (fun q => a_var 4) .nil)) (by show ([(Sum.inr "a" : Key), (Sum.inr "b" : Key)]).Nodup; decide +kernel) (by show 2 ≤ 15; decide)) aa_nil)) ⟨f, ["a", "b"], _, envAB i j, rfl, hht, hok, e8 i j (by omega) (by omega), rfl, rfl⟩)).eq (by rw [List.map_map, Int.toNat_natCast]; rfl))).eq (P1 := rowsM K ((fmTable f r c).map fun xs => (false, xs))) ?_) aa_nil) ?_) hQ
  · unfold rowsM fmTable
    rw [Int.toNat_natCast, List.map_map, List.map_map]
    rfl
  · intro l
    refine ⟨(fmTable f r c).map fun xs => (false, xs), l, m', rfl, fmTable_wf hok hr8 hc8 false, rfl, rfl, ?_⟩
    rw [List.map_map]
    have : (Prod.snd ∘ fun xs : List Int => (false, xs)) = id := rfl
    rw [this, List.map_id]
    rfl
/-! ### what the law draws -/
def cGen (K : PySem.W.Frag) (n : Nat) : Ct := fun Ps m P m' => ∃ (i : Nat) (a : Addr) (p : Pool) (ns : List Str) (d : Nat), Ps = [R a, L K (ns.map S), I (d : Int)] ∧ m[i]? = some (a, p.mo K) ∧ 0 ≤ p.pos ∧ ns.length ≤ 1000 ∧ d ≤ n ∧ P = (gen ns d p).1.rep K ∧ m' = m.set i (a, (gen ns d p).2.mo K)
theorem gen_step (T : Txt K mg cTalkError cBadText cBadTable cTable) (n : Nat) (ih : ∀ n', n = n' + 1 → Fk P w K mg base (n + 1) "_law_value" (spC (cGen K n')) []) : Fk P w K mg base (n + 2) "_law_value" (spC (cGen K n)) [] := by
  refine Fk_of T.d_law_value (fun _ _ _ _ _ _ us hl => match us, hl with | [_, _, _], _ => rfl) fun f fd F => Fun_ct F sc_law_value _ (fun Ps m Pr m' h => by obtain ⟨i, a, p, ns, d, rfl, _⟩ := h; rfl) ?_
  intro cdv A outer s H E hr Ps m Pr m' hS b0 Q hQ
  obtain ⟨i, a, p, ns, d, rfl, hm, hp, hns, hd, rfl, rfl⟩ := hS
  show GS _ _ _ [some (R a), some (L K (ns.map S)), some (I (d : Int)), none, none, none, none] _ _
  have DR := ok_law_draw (P := P) (w := w) (base := base) T
  have hk := Pool.draw_lt p (size := 10) (by decide)
  have p1 := Pool.draw_pos (size := 10) hp
  rw [← set_id hm]
  rw [← set_id hm, List.set_set] at hQ
  have hm2 : (m.set i (a, p.mo K))[i]? = some (a, p.mo K) := by rw [set_id hm]; exact hm
  refine gs_asgG (i := 3) sc_law_value.nd rfl (Or.inl rfl) (a_draw (size := 10) DR hr (by omega) hm (by decide) (by decide) hp (a_var 0) a_int) ?_
  refine gs_when (w_t (w_and (t_lt (a_var (P := I (p.draw 10).1) 3) a_int) fun _ => w_and1 (t_gt (a_var (P := I (d : Int)) 2) a_int))) (fun h => ?_) (fun h => ?_)
  · simp only [Bool.and_eq_true, decide_eq_true_eq] at h
    obtain ⟨d', rfl⟩ : ∃ d', d = d' + 1 := ⟨d - 1, by omega⟩
    obtain ⟨n', rfl⟩ : ∃ n', n = n' + 1 := ⟨n - 1, by omega⟩
    have GF := ih n' rfl
    rw [gen_op h.1] at hQ
    have p2 := Pool.draw_pos (size := 7) p1
    have hs := Pool.draw_lt (p.draw 10).2 (size := 7) (by decide)
    have ed : ((d' + 1 : Nat) : Int) - 1 = (d' : Int) := by omega
    refine gs_asgG (i := 4) sc_law_value.nd rfl (Or.inl rfl) (a_ixT (P := S (OPS.getD ((p.draw 10).2.draw 7).1.toNat "")) (a_tup (aa_cons a_str (aa_cons a_str (aa_cons a_str (aa_cons a_str (aa_cons a_str (aa_cons a_str (aa_cons a_str aa_nil)))))))) (a_draw (size := 7) DR hr (by omega) hm (by decide) (by decide) p1 (a_var 0) a_int) (atI_of S (xs := OPS) hs.1 (by show _ < (7 : Int); omega))) ?_
    refine gs_asgG (i := 5) sc_law_value.nd rfl (Or.inl rfl) (a_call (P := (gen ns d' ((p.draw 10).2.draw 7).2).1.rep K) (m2 := m.set i (a, (gen ns d' ((p.draw 10).2.draw 7).2).2.mo K)) GF hr (by omega) (aa_cons (a_var 0) (aa_cons (a_var 1) (aa_cons ((a_sub (a_var 2) a_int).eq (by rw [ed])) aa_nil))) ⟨i, a, ((p.draw 10).2.draw 7).2, ns, d', rfl, set_at (List.getElem?_eq_some_iff.mp hm).1, p2, hns, by omega, rfl, by rw [List.set_set]⟩ (dom_at hm)) ?_
    refine gs_ret (a_tup (aa_cons (a_var 4) (aa_cons (a_var 5) (aa_cons (a_call (P := (gen ns d' (gen ns d' ((p.draw 10).2.draw 7).2).2).1.rep K) (m2 := m.set i (a, (gen ns d' (gen ns d' ((p.draw 10).2.draw 7).2).2).2.mo K)) GF hr (by omega) (aa_cons (a_var 0) (aa_cons (a_var 1) (aa_cons ((a_sub (a_var 2) a_int).eq (by rw [ed])) aa_nil))) ⟨i, a, (gen ns d' ((p.draw 10).2.draw 7).2).2, ns, d', rfl, set_at (List.getElem?_eq_some_iff.mp hm).1, gen_pos d' p2, hns, by omega, rfl, by rw [List.set_set]⟩ (dom_at hm)) aa_nil)))) ?_
    exact hQ
  have hno : ¬ ((p.draw 10).1 < 5 ∧ 0 < d) := by
    intro z
    have : (decide ((p.draw 10).1 < 5) && decide ((0 : Int) < (d : Int))) = true := by simp; omega
    rw [this] at h
    exact absurd h (by decide)
  rw [gen_leaf hno] at hQ
  unfold genLeaf at hQ
  refine gs_when (w_t (w_and (t_lt (a_var (P := I (p.draw 10).1) 3) a_int) fun _ => w_and1 (t_gt (a_cb call_len_seq rc_lenL T.b_len PySem.boot_len (aa_cons (a_var (P := L K (ns.map S)) 1) aa_nil)) a_int))) (fun h => ?_) (fun h => ?_)
  · simp only [Bool.and_eq_true, decide_eq_true_eq, List.length_map] at h
    rw [if_pos ⟨h.1, by omega⟩] at hQ
    have hs := Pool.draw_lt (p.draw 10).2 (size := ns.length) (by omega)
    refine gs_asgG (i := 6) sc_law_value.nd rfl (Or.inl rfl) (a_ixL (P := S (ns.getD ((p.draw 10).2.draw ns.length).1.toNat "")) (a_var (P := L K (ns.map S)) 1) (a_draw (size := ns.length) DR hr (by omega) hm (by omega) (by omega) p1 (a_var 0) ((a_cb call_len_seq rc_lenL T.b_len PySem.boot_len (aa_cons (a_var (P := L K (ns.map S)) 1) aa_nil)).eq (by rw [List.length_map]))) (atI_of S hs.1 hs.2)) ?_
    unfold named at hQ
    refine gs_when (t_inT (ws := ["own", "lot"]) (a_var (P := S (ns.getD ((p.draw 10).2.draw ns.length).1.toNat "")) 6) (a_tup (aa_cons a_str (aa_cons a_str aa_nil)))) (fun h2 => ?_) (fun h2 => ?_)
    · have h2 := of_decide_eq_true h2
      simp only [List.mem_cons, List.not_mem_nil, or_false] at h2
      rw [if_pos h2] at hQ
      exact gs_ret (a_tup (aa_cons (a_var 6) aa_nil)) hQ
    · have h2 := of_decide_eq_false h2
      simp only [List.mem_cons, List.not_mem_nil, or_false] at h2
      rw [if_neg h2] at hQ
      exact gs_ret (a_tup (aa_cons a_str (aa_cons (a_var 6) aa_nil))) hQ
  · have hno2 : ¬ ((p.draw 10).1 < 8 ∧ 0 < ns.length) := by
      intro z
      have : (decide ((p.draw 10).1 < 8) && decide ((0 : Int) < ((ns.map S).length : Int))) = true := by simp; omega
      rw [this] at h
      exact absurd h (by decide)
    rw [if_neg hno2] at hQ
    have q1 := Pool.draw_pos (size := 4) p1
    have q2 := Pool.draw_pos (size := 9) q1
    have q3 := Pool.draw_pos (size := 65536) q2
    have hx := Pool.draw_lt ((((p.draw 10).2.draw 4).2.draw 9).2.draw 65536).2 (size := 3) (by decide)
    have hl := leaf_num (q := (p.draw 10).2)
    refine gs_ret (a_tup (aa_cons a_str (aa_cons (a_ixT (P := I ([((p.draw 10).2.draw 4).1, (((p.draw 10).2.draw 4).2.draw 9).1, ((((p.draw 10).2.draw 4).2.draw 9).2.draw 65536).1].getD (((((p.draw 10).2.draw 4).2.draw 9).2.draw 65536).2.draw 3).1.toNat 0)) (a_tup (aa_cons (a_draw (size := 4) DR hr (by omega) hm (by decide) (by decide) p1 (a_var 0) a_int) (aa_cons (a_draw (size := 9) DR hr (by omega) hm (by decide) (by decide) q1 (a_var 0) a_int) (aa_cons (a_draw (size := 65536) DR hr (by omega) hm (by decide) (by decide) q2 (a_var 0) a_int) aa_nil)))) (a_draw (size := 3) DR hr (by omega) hm (by decide) (by decide) q3 (a_var 0) a_int) (atI_of I (xs := [((p.draw 10).2.draw 4).1, (((p.draw 10).2.draw 4).2.draw 9).1, ((((p.draw 10).2.draw 4).2.draw 9).2.draw 65536).1]) hx.1 (by show _ < (3 : Int); omega))) aa_nil))) (hQ.eq ?_ rfl)
    simp only [Fm.rep]
    rw [Int.toNat_of_nonneg hl.2]
    rfl
theorem ok_law_value (T : Txt K mg cTalkError cBadText cBadTable cTable) : ∀ n, Fk P w K mg base (n + 2) "_law_value" (spC (cGen K n)) []
  | 0 => gen_step T 0 fun n' e => nomatch e
  | n + 1 => gen_step T (n + 1) fun n' e => by cases e; exact ok_law_value T n
/-! ### the law's words and values -/
def cLWords (K : PySem.W.Frag) (n : Nat) : Ct := fun Ps m P m' => ∃ (f : Fm), Ps = [f.rep K] ∧ f.ht ≤ n ∧ n ≤ 6 ∧ f.tx ∧ P = Lf (f.words.map S) ∧ m' = m
theorem lwords_step (T : Txt K mg cTalkError cBadText cBadTable cTable) (n : Nat) (ih : ∀ n', n = n' + 1 → Fk P w K mg base n "_law_value_words" (spC (cLWords K n')) []) : Fk P w K mg base (n + 1) "_law_value_words" (spC (cLWords K n)) [] := by
  refine Fk_of T.d_law_value_words (fun _ _ _ _ _ _ us hl => match us, hl with | [_], _ => rfl) fun f fd F => Fun_ct F sc_law_value_words _ (fun Ps m Pr m' h => by obtain ⟨f, rfl, _⟩ := h; rfl) ?_
  intro cdv A outer s H E hr Ps m Pr m' hS b0 Q hQ
  obtain ⟨f, rfl, hht, hn6, htx, rfl, rfl⟩ := hS
  cases f with
  | num k =>
    show GS _ _ _ [some (SV.T K [S "number", I (k : Int)])] _ _
    refine gs_when (t_lt (a_cb call_len_seq rc_lenT T.b_len PySem.boot_len (aa_cons (a_var 0) aa_nil)) a_int) (fun _ => ?_) (fun h => absurd h (by show ¬ (decide ((2 : Int) < 3)) = false; decide))
    exact gs_ret (a_lstF (aa_cons (a_ct call_str_int (rc_str (num_log htx)) T.b_str (by decide +kernel) (aa_cons (a_ixT (P := I (k : Int)) (a_var 0) (a_neg a_int)) aa_nil)) aa_nil)) hQ
  | var x =>
    show GS _ _ _ [some (SV.T K [S "variable", S x])] _ _
    refine gs_when (t_lt (a_cb call_len_seq rc_lenT T.b_len PySem.boot_len (aa_cons (a_var 0) aa_nil)) a_int) (fun _ => ?_) (fun h => absurd h (by show ¬ (decide ((2 : Int) < 3)) = false; decide))
    exact gs_ret (a_lstF (aa_cons (a_ct SkE.call_str_str rc_strS T.b_str (by decide +kernel) (aa_cons (a_ixT (P := S x) (a_var 0) (a_neg a_int)) aa_nil)) aa_nil)) hQ
  | kw x =>
    show GS _ _ _ [some (SV.T K [S x])] _ _
    refine gs_when (t_lt (a_cb call_len_seq rc_lenT T.b_len PySem.boot_len (aa_cons (a_var 0) aa_nil)) a_int) (fun _ => ?_) (fun h => absurd h (by show ¬ (decide ((1 : Int) < 3)) = false; decide))
    exact gs_ret (a_lstF (aa_cons (a_ct SkE.call_str_str rc_strS T.b_str (by decide +kernel) (aa_cons (a_ixT (P := S x) (a_var 0) (a_neg a_int)) aa_nil)) aa_nil)) hQ
  | op o l r =>
    simp only [Fm.ht] at hht
    obtain ⟨n', rfl⟩ : ∃ n', n = n' + 1 := ⟨n - 1, by omega⟩
    have XF := ih n' rfl
    have c1 := words_few l (n := n') (by omega) (by omega)
    have c2 := words_few r (n := n') (by omega) (by omega)
    show GS _ _ _ [some (SV.T K [S o, l.rep K, r.rep K])] _ _
    refine gs_when (t_lt (a_cb call_len_seq rc_lenT T.b_len PySem.boot_len (aa_cons (a_var 0) aa_nil)) a_int) (fun h => absurd h (by show ¬ (decide ((3 : Int) < 3)) = true; decide)) (fun _ => ?_)
    refine gs_ret (a_catL (a_catL (a_lstF (aa_cons (a_ixT (P := S o) (a_var 0) a_int) aa_nil)) (a_call (P := Lf (l.words.map S)) XF hr (by omega) (aa_cons (a_ixT (P := l.rep K) (a_var 0) a_int) aa_nil) ⟨l, rfl, by omega, by omega, htx.2.1, rfl, rfl⟩) (by simp; omega)) (a_call (P := Lf (r.words.map S)) XF hr (by omega) (aa_cons (a_ixT (P := r.rep K) (a_var 0) a_int) aa_nil) ⟨r, rfl, by omega, by omega, htx.2.2, rfl, rfl⟩) (by simp; omega)) (hQ.eq ?_ rfl)
    simp [Fm.words]
theorem ok_law_value_words (T : Txt K mg cTalkError cBadText cBadTable cTable) : ∀ n, Fk P w K mg base (n + 1) "_law_value_words" (spC (cLWords K n)) []
  | 0 => lwords_step T 0 fun n' e => nomatch e
  | n + 1 => lwords_step T (n + 1) fun n' e => by cases e; exact ok_law_value_words T n
theorem num_step (T : Txt K mg cTalkError cBadText cBadTable cTable) (n : Nat) (ih : ∀ n', n = n' + 1 → Fk P w K mg base n "_law_number_of" (spC (cVal K n')) []) : Fk P w K mg base (n + 1) "_law_number_of" (spC (cVal K n)) [] := by
  refine Fk_of T.d_law_number_of (fun _ _ _ _ _ _ us hl => match us, hl with | [_, _], _ => rfl) fun f fd F => Fun_ct F sc_law_number_of _ (fun Ps m Pr m' h => by obtain ⟨f, ns, kvs, env, rfl, _⟩ := h; rfl) ?_
  intro cdv A outer s H E hr Ps m Pr m' hS b0 Q hQ
  obtain ⟨f, ns, kvs, env, rfl, hht, hok, henv, rfl, rfl⟩ := hS
  have hu : (A.deeper (envOfC (Str.ofString "_law_number_of") (defScope sLaw_number_of) s.heap.objs.size ‹Addr› cdv)).units + 1 < cLine := hu_of hr
  cases f with
  | num k =>
    show GS _ _ _ [some (SV.T K [S "number", I (k : Int)]), some (Dk kvs), none, none, none] _ _
    refine gs_when (t_eqS (a_ixT (P := S "number") (a_var 0) a_int) a_str) (fun _ => ?_) (fun h => absurd h (by decide +kernel))
    exact gs_ret (a_ixT (a_var 0) a_int) hQ
  | var x =>
    show GS _ _ _ [some (SV.T K [S "variable", S x]), some (Dk kvs), none, none, none] _ _
    refine gs_when (t_eqS (a_ixT (P := S "variable") (a_var 0) a_int) a_str) (fun h => absurd h (by decide +kernel)) (fun _ => ?_)
    refine gs_when (t_lt (a_cb call_len_seq rc_lenT T.b_len PySem.boot_len (aa_cons (a_var 0) aa_nil)) a_int) (fun _ => ?_) (fun h => absurd h (by show ¬ (decide ((2 : Int) < 3)) = false; decide))
    exact gs_ret (a_dget (k := .inr x) hu (a_var 1) (a_ixT (P := S x) (a_var 0) (a_neg a_int)) (henv x hok).1 (by exact fun _ _ => rfl)) hQ
  | kw x =>
    have e := henv x hok
    show GS _ _ _ [some (SV.T K [S x]), some (Dk kvs), none, none, none] _ _
    refine gs_when (t_eqS (a_ixT (P := S x) (a_var 0) a_int) a_str) (fun h => absurd (of_decide_eq_true h) e.2.2.2.2.1) (fun _ => ?_)
    refine gs_when (t_lt (a_cb call_len_seq rc_lenT T.b_len PySem.boot_len (aa_cons (a_var 0) aa_nil)) a_int) (fun _ => ?_) (fun h => absurd h (by show ¬ (decide ((1 : Int) < 3)) = false; decide))
    exact gs_ret (a_dget (k := .inr x) hu (a_var 1) (a_ixT (P := S x) (a_var 0) (a_neg a_int)) e.1 (by exact fun _ _ => rfl)) hQ
  | op o l r =>
    simp only [Fm.ht] at hht
    obtain ⟨n', rfl⟩ : ∃ n', n = n' + 1 := ⟨n - 1, by omega⟩
    have VF := ih n' rfl
    have hl := val_lt (env := env) (fun x hx => ⟨(henv x hx).2.1, (henv x hx).2.2.1⟩) l hok.2.1
    have hr' := val_lt (env := env) (fun x hx => ⟨(henv x hx).2.1, (henv x hx).2.2.1⟩) r hok.2.2
    have hon : o ≠ "number" := by
      intro z
      have : ∀ o ∈ OPS, o ≠ "number" := by decide +kernel
      exact this o hok.1 z
    have hQ : Ret Q (I (reck2 o (l.val env) (r.val env))) m' b0 := hQ.eq (by rw [reck2_eq o hl hr']; rfl) rfl
    unfold reck2 at hQ
    show GS _ _ _ [some (SV.T K [S o, l.rep K, r.rep K]), some (Dk kvs), none, none, none] _ _
    refine gs_when (t_eqS (a_ixT (P := S o) (a_var 0) a_int) a_str) (fun h => absurd (of_decide_eq_true h) hon) (fun _ => ?_)
    refine gs_when (t_lt (a_cb call_len_seq rc_lenT T.b_len PySem.boot_len (aa_cons (a_var 0) aa_nil)) a_int) (fun h => absurd h (by show ¬ (decide ((3 : Int) < 3)) = true; decide)) (fun _ => ?_)
    refine gs_asgG (i := 2) sc_law_number_of.nd rfl (Or.inl rfl) (a_call (P := I (l.val env)) VF hr (by omega) (aa_cons (a_ixT (P := l.rep K) (a_var 0) a_int) (aa_cons (a_var 1) aa_nil)) ⟨l, ns, kvs, env, rfl, by omega, hok.2.1, henv, rfl, rfl⟩) ?_
    refine gs_asgG (i := 3) sc_law_number_of.nd rfl (Or.inl rfl) (a_call (P := I (r.val env)) VF hr (by omega) (aa_cons (a_ixT (P := r.rep K) (a_var 0) a_int) (aa_cons (a_var 1) aa_nil)) ⟨r, ns, kvs, env, rfl, by omega, hok.2.2, henv, rfl, rfl⟩) ?_
    generalize l.val env = x at hQ hl ⊢
    generalize r.val env = y at hQ hr' ⊢
    refine gs_when (t_eqS (a_ixT (P := S o) (a_var 0) a_int) a_str) (fun h => ?_) (fun h => ?_)
    · rw [if_pos (of_decide_eq_true h)] at hQ
      refine gs_ret (a_sub (a_add (a_var (P := I x) 2) (a_var (P := I y) 3)) (a_mul a_int (a_ct call_int1 rc_intB T.b_int (by decide +kernel) (aa_cons (a_gt (a_add (a_var (P := I x) 2) (a_var (P := I y) 3)) a_int) aa_nil)) (Or.inl ⟨by decide, by decide⟩))) (hQ.eq ?_ rfl)
      by_cases z : x + y > 65535 <;> simp [z]
    rw [if_neg (of_decide_eq_false h)] at hQ
    refine gs_when (t_eqS (a_ixT (P := S o) (a_var 0) a_int) a_str) (fun h => ?_) (fun h => ?_)
    · rw [if_pos (of_decide_eq_true h)] at hQ
      exact gs_ret (a_cb (call_max2 rfl) rc_max T.b_max (by decide +kernel) (aa_cons a_int (aa_cons (a_sub (a_var (P := I x) 2) (a_var (P := I y) 3)) aa_nil))) hQ
    rw [if_neg (of_decide_eq_false h)] at hQ
    refine gs_when (t_eqS (a_ixT (P := S o) (a_var 0) a_int) a_str) (fun h => ?_) (fun h => ?_)
    · rw [if_pos (of_decide_eq_true h)] at hQ
      exact gs_ret (a_sub (a_mul (a_var (P := I x) 2) (a_var (P := I y) 3) (Or.inl ⟨by omega, by omega⟩)) (a_mul (a_fdiv (a_mul (a_var (P := I x) 2) (a_var (P := I y) 3) (Or.inl ⟨by omega, by omega⟩)) a_int ⟨by decide, by decide⟩) a_int (Or.inr ⟨by decide, by decide⟩))) hQ
    rw [if_neg (of_decide_eq_false h)] at hQ
    refine gs_when (t_eqS (a_ixT (P := S o) (a_var 0) a_int) a_str) (fun h => ?_) (fun h => ?_)
    · rw [if_pos (of_decide_eq_true h)] at hQ
      refine gs_ret (a_ct call_int1 rc_intB T.b_int (by decide +kernel) (aa_cons (a_lt (a_var (P := I x) 2) (a_var (P := I y) 3)) aa_nil)) (hQ.eq ?_ rfl)
      by_cases z : x < y <;> simp [z]
    rw [if_neg (of_decide_eq_false h)] at hQ
    refine gs_when (t_eqS (a_ixT (P := S o) (a_var 0) a_int) a_str) (fun h => ?_) (fun h => ?_)
    · rw [if_pos (of_decide_eq_true h)] at hQ
      refine gs_ret (a_ct call_int1 rc_intB T.b_int (by decide +kernel) (aa_cons (a_eqI (a_var (P := I x) 2) (a_var (P := I y) 3)) aa_nil)) (hQ.eq ?_ rfl)
      by_cases z : x = y <;> simp [z]
    rw [if_neg (of_decide_eq_false h)] at hQ
    refine gs_when (t_eqI (a_var (P := I y) 3) a_int) (fun h => ?_) (fun h => ?_)
    · rw [if_pos (of_decide_eq_true h)] at hQ
      exact gs_ret a_int hQ
    have h0 := of_decide_eq_false h
    rw [if_neg h0] at hQ
    refine gs_asgG (i := 4) sc_law_number_of.nd rfl (Or.inl rfl) (a_fdiv (a_var (P := I x) 2) (a_var (P := I y) 3) ⟨by omega, by omega⟩) ?_
    refine gs_when (t_eqS (a_ixT (P := S o) (a_var 0) a_int) a_str) (fun h => ?_) (fun h => ?_)
    · rw [if_pos (of_decide_eq_true h)] at hQ
      exact gs_ret (a_var 4) hQ
    rw [if_neg (of_decide_eq_false h)] at hQ
    exact gs_ret (a_sub (a_var (P := I x) 2) (a_mul (a_var (P := I (x / y)) 4) (a_var (P := I y) 3) (Or.inr ⟨by omega, by omega⟩))) hQ
theorem ok_law_number_of (T : Txt K mg cTalkError cBadText cBadTable cTable) : ∀ n, Fk P w K mg base (n + 1) "_law_number_of" (spC (cVal K n)) []
  | 0 => num_step T 0 fun n' e => nomatch e
  | n + 1 => num_step T (n + 1) fun n' e => by cases e; exact ok_law_number_of T n
/-! ### the law -/
def cLaw (K : PySem.W.Frag) : Ct := fun Ps m P m' => ∃ (ns : List Int), Ps = [L K (ns.map I)] ∧ ns.length ≤ 63 ∧ m = [] ∧ P = B true ∧ m' = []
theorem law_sp (K : PySem.W.Frag) (H : Hp) (a : Addr) (ns : List Int) (hl : ns.length ≤ 63) (_ : Only H) (hS : SqL K H a (ns.map V.int)) : spC (cLaw K) [.ref a] H (fun v _ => v = .bl true) fun _ _ _ => False :=
  ⟨[L K (ns.map I)], [], B true, [], ⟨ns, rfl, hl, rfl, rfl, rfl⟩, rfl, .cons ⟨a, _, rfl, by rw [show dom [] = [] from rfl, mask_nil]; exact hS, all_of V.int⟩ .nil, Own.nil, fun _ _ _ _ pv => pv⟩
theorem ok_law (T : Txt K mg cTalkError cBadText cBadTable cTable) {f : Addr} {fd : FuncData} (F : Fun K "law" "law" sLaw f fd) : FnOk P w K mg base CX0 9 f fd ["script"] (spC (cLaw K)) := by
  refine Fun_ct F sc_law (cLaw K) (fun Ps m Pr m' h => by obtain ⟨ns, rfl, _⟩ := h; rfl) ?_
  intro cdv A outer s H E hr Ps m Pr m' hS b0 Q hQ
  obtain ⟨ns, rfl, hl, rfl, rfl, rfl⟩ := hS
  show GS _ _ _ [some (L K (ns.map I)), none, none, none, none, none, none, none, none, none] _ _
  have DR := ok_law_draw (P := P) (w := w) (base := base) T
  refine gs_asgO (n := 1) sc_law.nd rfl (Or.inl rfl) (o_call (mo := Pool.mo K ⟨ns, 0, 0, 1, 0, 0⟩) (m2 := []) (ok_law_pool T) hr (by omega) (aa_cons (a_var 0) (aa_cons a_int aa_nil)) ⟨ns, 0, rfl, rfl, rfl⟩) fun a => ?_
  generalize hp0 : (⟨ns, 0, 0, 1, 0, 0⟩ : Pool) = p0
  have q0 : 0 ≤ p0.pos := by rw [← hp0]; exact Int.le_refl 0
  have hm : ([(a, p0.mo K)] : Sto)[0]? = some (a, p0.mo K) := rfl
  have hAB : ∀ s ∈ (["a", "b", "b", "a"] : List Str), s ≠ "own" ∧ s ≠ "lot" ∧ s.length ≤ 10 := by decide +kernel
  have hg0 := gen_good hAB 4 p0
  have hh := gen_ht (ns := ["a", "b", "b", "a"]) 4 p0
  have q1 := gen_pos (ns := ["a", "b", "b", "a"]) 4 q0
  show GS _ _ _ [some (L K (ns.map I)), some (R a), none, none, none, none, none, none, none, none] (([(a, p0.mo K)] : Sto).set 0 (a, p0.mo K)) _
  refine gs_asgG (i := 2) sc_law.nd rfl (Or.inr rfl) (a_call (P := (gen ["a", "b", "b", "a"] 4 p0).1.rep K) (m2 := ([(a, p0.mo K)] : Sto).set 0 (a, (gen ["a", "b", "b", "a"] 4 p0).2.mo K)) (ok_law_value T 4) hr (by omega) (aa_cons (a_var 1) (aa_cons (a_lst (aa_cons a_str (aa_cons a_str (aa_cons a_str (aa_cons a_str aa_nil))))) (aa_cons a_int aa_nil))) ⟨0, a, p0, ["a", "b", "b", "a"], 4, rfl, rfl, q0, by decide, by decide, rfl, rfl⟩ rfl) ?_
  generalize gen ["a", "b", "b", "a"] 4 p0 = fp at hg0 hh q1 ⊢
  obtain ⟨f, p1⟩ := fp
  obtain ⟨hg, htx⟩ := hg0
  simp only at hg htx hh q1 ⊢
  have hg : f.good ["a", "b"] := good_mono (by decide +kernel) f hg
  have hok := good_ok f hg
  have hwl := words_few f (n := 5) hh (by decide)
  have hsum := wlen_sum f.words (words_len f htx)
  show GS _ _ _ [some (L K (ns.map I)), some (R a), some (f.rep K), none, none, none, none, none, none, none] (([(a, p0.mo K)] : Sto).set 0 (a, p1.mo K)) _
  refine gs_asgG (i := 3) sc_law.nd rfl (Or.inl rfl) ((a_joinL (s := " ") (ys := f.words) a_str ((a_call (P := Lf (f.words.map S)) (ok_law_value_words T 5) hr (by omega) (aa_cons (a_var (P := f.rep K) 2) aa_nil) ⟨f, rfl, hh, by decide, htx, rfl, rfl⟩).to Lf.L) (by
    have e1 : (" " : Str).length = 1 := by decide +kernel
    show (f.words.map (·.length)).sum + f.words.length * (" " : Str).length ≤ 16777216
    rw [e1]
    omega)).eq (P1 := S f.txt) (by rw [txt_join])) ?_
  have hdp := dt_dp f
  have hwd := dt_wd f
  refine gs_when (t := false) (w_t (w_or (t := false) (u := false) (t_not (t_val (a_call (P := B true) (ok_law_same T 5) hr (by omega) (aa_cons (a_call (P := f.rep K) (ok_read_formula T) hr (by omega) (aa_cons (a_var (P := S f.txt) 3) aa_nil) ⟨f, rfl, hh, hg, htx, rfl, rfl⟩) (aa_cons (a_var (P := f.rep K) 2) aa_nil)) ⟨f.dt, by rw [rep_dt]; rfl, by omega, by omega, rfl, rfl⟩))) fun _ => w_or1 (t_not (t_val (a_call (P := B true) (ok_law_same T 5) hr (by omega) (aa_cons (a_call (P := S f.txt) (ok_formula_text T 5) hr (by omega) (aa_cons (a_var (P := f.rep K) 2) aa_nil) ⟨f, rfl, hh, by decide, htx, rfl, rfl⟩) (aa_cons (a_var (P := S f.txt) 3) aa_nil)) ⟨.str f.txt, by simp [rp], by simp [Dt.dp], by simp [Dt.wd], rfl, rfl⟩))))) (fun h => nomatch h) (fun _ => ?_)
  have hd1 := Pool.draw_lt p1 (size := 8) (by decide)
  have q2 := Pool.draw_pos (size := 8) q1
  refine gs_asgG (i := 4) sc_law.nd rfl (Or.inl rfl) ((a_add a_int (a_draw (size := 8) DR hr (by omega) hm (by decide) (by decide) q1 (a_var 1) a_int)).eq (P1 := I ((1 + (p1.draw 8).1).toNat : Int)) (by rw [Int.toNat_of_nonneg (by omega)])) ?_
  have hr8 : 1 ≤ (1 + (p1.draw 8).1).toNat ∧ (1 + (p1.draw 8).1).toNat ≤ 8 := by omega
  generalize (1 + (p1.draw 8).1).toNat = r at hr8 ⊢
  generalize (p1.draw 8).2 = p2 at q2 ⊢
  have hd2 := Pool.draw_lt p2 (size := 8) (by decide)
  have q3 := Pool.draw_pos (size := 8) q2
  refine gs_asgG (i := 5) sc_law.nd rfl (Or.inl rfl) ((a_add a_int (a_draw (size := 8) DR hr (by omega) hm (by decide) (by decide) q2 (a_var 1) a_int)).eq (P1 := I ((1 + (p2.draw 8).1).toNat : Int)) (by rw [Int.toNat_of_nonneg (by omega)])) ?_
  have hc8 : 1 ≤ (1 + (p2.draw 8).1).toNat ∧ (1 + (p2.draw 8).1).toNat ≤ 8 := by omega
  generalize (1 + (p2.draw 8).1).toNat = c at hc8 ⊢
  generalize (p2.draw 8).2 = p3 at q3 ⊢
  refine gs_asgO (n := 6) sc_law.nd rfl (Or.inl rfl) (o_lst aa_nil) fun d => ?_
  show GS _ _ _ [some (L K (ns.map I)), some (R a), some (f.rep K), some (S f.txt), some (I (r : Int)), some (I (c : Int)), some (R d), none, none, none] ((d, .lst []) :: [(a, p3.mo K)]) _
  have e8 : ∀ i j : Nat, i < 8 → j < 8 → ∀ x ∈ (["a", "b"] : List Str), valM [((Sum.inr "a" : Key), I (i : Int)), ((Sum.inr "b" : Key), I (j : Int))] (.inr x) = some (I (envAB i j x)) ∧ 0 ≤ envAB i j x ∧ envAB i j x ≤ 65535 ∧ x ∉ OPS ∧ x ≠ "number" ∧ x ≠ "variable" := by
    intro i j hi hj x hx
    have hb := envAB_lt hi hj x
    simp only [List.mem_cons, List.not_mem_nil, or_false] at hx
    rcases hx with rfl | rfl
    · exact ⟨rfl, hb.1, hb.2, by decide +kernel, by decide +kernel, by decide +kernel⟩
    · refine ⟨?_, hb.1, hb.2, by decide +kernel, by decide +kernel, by decide +kernel⟩
      have e : envAB i j "b" = (j : Int) := by unfold envAB; rw [if_neg (by decide +kernel)]
      rw [e]
      have ne : ¬ (Sum.inr "a" : Key) = (Sum.inr "b" : Key) := by intro z; injection z with z; exact absurd z (by decide +kernel)
      simp [valM, List.find?, ne]
  have NF := ok_law_number_of (P := P) (w := w) (base := base) T 5
  let RW : Nat → MP := fun i => SV.T K (((List.range c).map fun j => f.val (envAB i j)).map I)
  refine gs_forR (j := 7) (by rfl) T.b_range PassesOwn.never rfl sc_law.nd rfl (Or.inr rfl) (a_var (P := I (r : Int)) 4) (by omega) (by omega)
    (fun i ρ' m2 => ∃ x7, ρ' = [some (L K (ns.map I)), some (R a), some (f.rep K), some (S f.txt), some (I (r : Int)), some (I (c : Int)), some (R d), x7, none, none] ∧ m2 = (d, .lst ((List.range i).map RW)) :: [(a, p3.mo K)]) ⟨none, rfl, rfl⟩ ?_ ?_
  · rintro b1 e1 i ρ' m2 hi ⟨x7, rfl, rfl⟩
    refine gs_app (n := 0) (P := RW i) (a_var (P := R d) 6) ((a_ct call_tuple_of rc_tupL T.b_tuple (by decide +kernel) (aa_cons ((a_lcR (own := [("column", 8)]) (jx := 8) (by rfl) T.b_range ⟨rfl, sc_law.nd, blkOk_by (N := n_law) (sc := defScope sLaw) (by decide +kernel), rfl, Or.inl rfl, Or.inr rfl, wipe1 8⟩ (a_var (P := I (c : Int)) 5) (fun _ => (d, .lst ((List.range i).map RW)) :: [(a, p3.mo K)]) (fun j => I (f.val (envAB i j))) rfl (fun _ => rfl) (by omega) (by omega) (fun j q2 hj => fun s2 H2 C2 cl2 fp2 =>
        a_call (P := I (f.val (envAB i j))) NF hr (by omega) (aa_cons (a_var (P := f.rep K) 2) (aa_cons (a_disp (kvs := [((Sum.inr "a" : Key), I (i : Int)), ((Sum.inr "b" : Key), I (j : Int))]) (.cons (fun q => a_str) (fun q => a_var 7) (.cons (fun q => a_str) (fun q => a_var 8) .nil)) (by show ([(Sum.inr "a" : Key), (Sum.inr "b" : Key)]).Nodup; decide +kernel) (by show 2 ≤ 15; decide)) aa_nil)) ⟨f, ["a", "b"], _, envAB i j, rfl, hh, hok, e8 i j (by omega) (by omega), rfl, rfl⟩)).eq (P1 := L K (((List.range c).map fun j => f.val (envAB i j)).map I)) (by rw [List.map_map, Int.toNat_natCast]; rfl)) aa_nil))) ⟨_, rfl⟩ rfl (by simp; omega) ?_ (pe_bm PySem.F.plainAttrs_list PySem.F.slot_list_append PySem.F.type_list_append mt_append pcE pcA)
    refine gs_nil (nx_sts ⟨_, rfl, ?_⟩)
    rw [List.range_succ, List.map_append]
    rfl
  · rintro ρ' m2 ⟨x7, rfl, rfl⟩
    refine Go.freeze (K := K) 6 rfl ?_
    have hrows : (List.range (r : Int).toNat).map RW = (fmTable f r c).map fun xs => SV.T K (xs.map I) := by
      rw [Int.toNat_natCast]
      unfold fmTable
      rw [List.map_map]
      rfl
    rw [hrows]
    have hwf := fmTable_wf hok hr8 hc8 true
    have hlen := fmTable_len (f := f) (r := r) (c := c)
    refine gs_asgG (i := 9) sc_law.nd rfl (Or.inl rfl) (a_call (P := tabO K cTable (fmTable f r c)) (ok_formula_table T) hr (by omega) (aa_cons (a_var (P := f.rep K) 2) (aa_cons (a_var (P := I (r : Int)) 4) (aa_cons (a_var (P := I (c : Int)) 5) aa_nil))) ⟨f, r, c, rfl, hh, hg, hr8, hc8, rfl, rfl⟩) ?_
    generalize fmTable f r c = tb at hwf hlen ⊢
    obtain ⟨ge, fde, EQ, hfi, hfn, hbe⟩ := fn_Table_eq (P := P) (w := w) (base := base) T
    have hmk : rowsM K (tb.map fun xs => (true, xs)) = L K (tb.map fun xs => SV.T K (xs.map I)) := by
      unfold rowsM
      rw [List.map_map]
      rfl
    refine gs_when (t := false) (w_t (w_or (t := false) (u := false) (t_not (t_val (a_isC (t := .ref cTable) (r := true) (a_var (P := O cTable [("rows", Tb K tb)]) 9) (tyx_O T.cl_Table) (by unfold PySem.W.kitOne; rw [if_pos (by simp)]) T.b_isinstance T.g_Table))) fun _ => w_or1 (t_not (t_val (a_call (P := B true) (ok_law_same T 0) hr (by omega) (aa_cons ((a_ownEq EQ hr (by omega) hfi hfn hbe (a_var (P := O cTable [("rows", Tb K tb)]) 9) (a_make (fs := [("rows", Tb K tb)]) (ok_Table_init T) hr (by omega) (aa_cons (a_var (P := L K (tb.map fun xs => SV.T K (xs.map I))) 6) aa_nil) (fun l => ⟨tb.map fun xs => (true, xs), l, _, by show _ = [R l, rowsM K (tb.map fun xs => (true, xs))]; rw [hmk]; rfl, hwf, rfl, rfl, by rw [List.map_map, show (Prod.snd ∘ fun xs : List Int => (true, xs)) = id from rfl, List.map_id]; rfl⟩)) ⟨tb, tb, rfl, rfl, rfl⟩).eq (P1 := B true) (by rw [tab_eqv])) (aa_cons a_bl aa_nil)) ⟨.bl true, by simp [rp], by simp [Dt.dp], by simp [Dt.wd], rfl, rfl⟩))))) (fun h => nomatch h) (fun _ => ?_)
    have hwd2 := tab_wd (rows := tb) (k := 8) (by omega) (fun xs hx => by have := hlen.2 xs hx; omega)
    have hdp2 := tab_dp tb
    exact gs_ret (a_call (P := B true) (ok_law_same T 2) hr (by omega) (aa_cons (a_fld T.cl_Table.cl T.na_Table_rows (a_var (P := O cTable [("rows", Tb K tb)]) 9) rfl) (aa_cons (a_ct call_tuple_of rc_tupL T.b_tuple (by decide +kernel) (aa_cons (a_var (P := L K (tb.map fun xs => SV.T K (xs.map I))) 6) aa_nil)) aa_nil)) ⟨tabD tb, by rw [← Tb_rp]; rfl, by omega, by omega, rfl, rfl⟩) hQ.drop

end
section
variable {P : Program} {w : World} {K : PySem.W.Frag} {mg : Str → Option Value} {cTalkError cBadText cBadTable cTable : Addr}
theorem law_end {P : Program} {h : Heap} {fa : Addr} {f1 f2 f3 f4 f5 f6 f7 f8 f9 f10 f11 f12 f13 f14 f15 f16 f17 f18 f19 f20 f21 f22 : Addr} (X : K.In h) (G : h.Ns mainGlobals mg) (hfa : mg "law" = some (.ref fa))
    {od1 an1 : Option Addr} {sl1 : Array (Option Value)} {oc1 kV1 dc1 pm1 cd1 ct1 : Value} {od2 an2 : Option Addr} {sl2 : Array (Option Value)} {oc2 kV2 dc2 pm2 cd2 ct2 : Value} {od3 an3 : Option Addr} {sl3 : Array (Option Value)}
    {oc3 kV3 dc3 pm3 cd3 ct3 : Value} {od4 an4 : Option Addr} {sl4 : Array (Option Value)} {oc4 kV4 dc4 pm4 cd4 ct4 : Value} {T4 : Addr} {ocT4 : Value} {odT4 : Option Addr} {nT4 : Nat}
    {slT4 : Array (Option Value)} {tk4_0 : Tok} {od5 an5 : Option Addr} {sl5 : Array (Option Value)} {oc5 kV5 dc5 pm5 cd5 ct5 : Value} {od6 an6 : Option Addr} {sl6 : Array (Option Value)} {oc6 kV6 dc6 pm6 cd6 ct6 : Value}
    {od7 an7 : Option Addr} {sl7 : Array (Option Value)} {oc7 kV7 dc7 pm7 cd7 ct7 : Value} {od8 an8 : Option Addr} {sl8 : Array (Option Value)} {oc8 kV8 dc8 pm8 cd8 ct8 : Value} {od9 an9 : Option Addr} {sl9 : Array (Option Value)}
    {oc9 kV9 dc9 pm9 cd9 ct9 : Value} {od10 an10 : Option Addr} {sl10 : Array (Option Value)} {oc10 kV10 dc10 pm10 cd10 ct10 : Value} {od11 an11 : Option Addr} {sl11 : Array (Option Value)} {oc11 kV11 dc11 pm11 cd11 ct11 : Value} {od12 an12 : Option Addr}
    {sl12 : Array (Option Value)} {oc12 kV12 dc12 pm12 cd12 ct12 : Value} {od13 an13 : Option Addr} {sl13 : Array (Option Value)} {oc13 kV13 dc13 pm13 cd13 ct13 : Value} {od14 an14 : Option Addr} {sl14 : Array (Option Value)} {oc14 kV14 dc14 pm14 cd14 ct14 : Value}
    {od15 an15 : Option Addr} {sl15 : Array (Option Value)} {oc15 kV15 dc15 pm15 cd15 ct15 : Value} {od16 an16 : Option Addr} {sl16 : Array (Option Value)} {oc16 kV16 dc16 pm16 cd16 ct16 : Value} {od17 an17 : Option Addr} {sl17 : Array (Option Value)}
    {oc17 kV17 dc17 pm17 cd17 ct17 : Value} {od18 an18 : Option Addr} {sl18 : Array (Option Value)} {oc18 kV18 dc18 pm18 cd18 ct18 : Value} {od19 an19 : Option Addr} {sl19 : Array (Option Value)} {oc19 kV19 dc19 pm19 cd19 ct19 : Value} {od20 an20 : Option Addr}
    {sl20 : Array (Option Value)} {oc20 kV20 dc20 pm20 cd20 ct20 : Value} {od21 an21 : Option Addr} {sl21 : Array (Option Value)} {oc21 kV21 dc21 pm21 cd21 ct21 : Value} {od22 an22 : Option Addr} {sl22 : Array (Option Value)} {oc22 kV22 dc22 pm22 cd22 ct22 : Value}
    {tg_LARGEST : Tok} {tg_MOST_VALUES : Tok} {tg__DIGITS : Tok} {A__OPERATORS : Addr} {oD__OPERATORS : Option Addr} {nN__OPERATORS : Nat} {sS__OPERATORS : Array (Option Value)} {tq_OPERATORS_0 : Tok}
    {tq_OPERATORS_1 : Tok} {tq_OPERATORS_2 : Tok} {tq_OPERATORS_3 : Tok} {tq_OPERATORS_4 : Tok} {tq_OPERATORS_5 : Tok} {tq_OPERATORS_6 : Tok} {tg__DEEPEST : Tok}
    (aC_TalkError : PySem.W.nsIn K mainGlobals "TalkError" = some (some (.ref cTalkError)))
    (aC_BadText : PySem.W.nsIn K mainGlobals "BadText" = some (some (.ref cBadText)))
    (aC_BadTable : PySem.W.nsIn K mainGlobals "BadTable" = some (some (.ref cBadTable)))
    (aC_Table : PySem.W.nsIn K mainGlobals "Table" = some (some (.ref cTable)))
    (a1 : PySem.W.nsIn K mainGlobals "words_of" = some (some (.ref f1)))
    (l1 : K.lookup f1 = some ⟨oc1, od1, .func (PySem.W.fnOf "words_of" "words_of" (defArgs sWords_of) (defBody sWords_of) (defScope sWords_of) .none kV1 dc1 pm1 an1 cd1 ct1), sl1⟩)
    (c1 : PySem.W.codeIn K cd1 "words_of" = true)
    (k1 : PySem.W.keepIn K (.ref f1) = true)
    (a2 : PySem.W.nsIn K mainGlobals "is_number" = some (some (.ref f2)))
    (l2 : K.lookup f2 = some ⟨oc2, od2, .func (PySem.W.fnOf "is_number" "is_number" (defArgs sIs_number) (defBody sIs_number) (defScope sIs_number) .none kV2 dc2 pm2 an2 cd2 ct2), sl2⟩)
    (c2 : PySem.W.codeIn K cd2 "is_number" = true)
    (k2 : PySem.W.keepIn K (.ref f2) = true)
    (a3 : PySem.W.nsIn K mainGlobals "are_digits" = some (some (.ref f3)))
    (l3 : K.lookup f3 = some ⟨oc3, od3, .func (PySem.W.fnOf "are_digits" "are_digits" (defArgs sAre_digits) (defBody sAre_digits) (defScope sAre_digits) .none kV3 dc3 pm3 an3 cd3 ct3), sl3⟩)
    (c3 : PySem.W.codeIn K cd3 "are_digits" = true)
    (k3 : PySem.W.keepIn K (.ref f3) = true)
    (a4 : PySem.W.nsIn K mainGlobals "read_expression" = some (some (.ref f4)))
    (l4 : K.lookup f4 = some ⟨oc4, od4, .func (PySem.W.fnOf "read_expression" "read_expression" (defArgs sRead_expression) (defBody sRead_expression) (defScope sRead_expression) (.ref T4) kV4 dc4 pm4 an4 cd4 ct4), sl4⟩)
    (c4 : PySem.W.codeIn K cd4 "read_expression" = true)
    (k4 : PySem.W.keepIn K (.ref f4) = true)
    (lT4 : K.lookup T4 = some ⟨ocT4, odT4, .seq (([.int (5) tk4_0] : List Value).toArray) nT4, slT4⟩)
    (a5 : PySem.W.nsIn K mainGlobals "_named" = some (some (.ref f5)))
    (l5 : K.lookup f5 = some ⟨oc5, od5, .func (PySem.W.fnOf "_named" "_named" (defArgs sNamed) (defBody sNamed) (defScope sNamed) .none kV5 dc5 pm5 an5 cd5 ct5), sl5⟩)
    (c5 : PySem.W.codeIn K cd5 "_named" = true)
    (k5 : PySem.W.keepIn K (.ref f5) = true)
    (a6 : PySem.W.nsIn K mainGlobals "expression_text" = some (some (.ref f6)))
    (l6 : K.lookup f6 = some ⟨oc6, od6, .func (PySem.W.fnOf "expression_text" "expression_text" (defArgs sExpression_text) (defBody sExpression_text) (defScope sExpression_text) .none kV6 dc6 pm6 an6 cd6 ct6), sl6⟩)
    (c6 : PySem.W.codeIn K cd6 "expression_text" = true)
    (k6 : PySem.W.keepIn K (.ref f6) = true)
    (a7 : PySem.W.nsIn K mainGlobals "expression_value" = some (some (.ref f7)))
    (l7 : K.lookup f7 = some ⟨oc7, od7, .func (PySem.W.fnOf "expression_value" "expression_value" (defArgs sExpression_value) (defBody sExpression_value) (defScope sExpression_value) .none kV7 dc7 pm7 an7 cd7 ct7), sl7⟩)
    (c7 : PySem.W.codeIn K cd7 "expression_value" = true)
    (k7 : PySem.W.keepIn K (.ref f7) = true)
    (a8 : PySem.W.nsIn K mainGlobals "_reckoned" = some (some (.ref f8)))
    (l8 : K.lookup f8 = some ⟨oc8, od8, .func (PySem.W.fnOf "_reckoned" "_reckoned" (defArgs sReckoned) (defBody sReckoned) (defScope sReckoned) .none kV8 dc8 pm8 an8 cd8 ct8), sl8⟩)
    (c8 : PySem.W.codeIn K cd8 "_reckoned" = true)
    (k8 : PySem.W.keepIn K (.ref f8) = true)
    (a9 : PySem.W.nsIn K mainGlobals "remainder" = some (some (.ref f9)))
    (l9 : K.lookup f9 = some ⟨oc9, od9, .func (PySem.W.fnOf "remainder" "remainder" (defArgs sRemainder) (defBody sRemainder) (defScope sRemainder) .none kV9 dc9 pm9 an9 cd9 ct9), sl9⟩)
    (c9 : PySem.W.codeIn K cd9 "remainder" = true)
    (k9 : PySem.W.keepIn K (.ref f9) = true)
    (a10 : PySem.W.nsIn K mainGlobals "_fault" = some (some (.ref f10)))
    (l10 : K.lookup f10 = some ⟨oc10, od10, .func (PySem.W.fnOf "_fault" "_fault" (defArgs sFault) (defBody sFault) (defScope sFault) .none kV10 dc10 pm10 an10 cd10 ct10), sl10⟩)
    (c10 : PySem.W.codeIn K cd10 "_fault" = true)
    (k10 : PySem.W.keepIn K (.ref f10) = true)
    (a11 : PySem.W.findIn K (.ref cTable) "__init__" = some (some (.ref f11)))
    (i11 : PySem.W.isFn K (.ref f11) = true)
    (l11 : K.lookup f11 = some ⟨oc11, od11, .func (PySem.W.fnOf "__init__" "Table.__init__" (defArgs sTable_init) (defBody sTable_init) (defScope sTable_init) .none kV11 dc11 pm11 an11 cd11 ct11), sl11⟩)
    (c11 : PySem.W.codeIn K cd11 "Table.__init__" = true)
    (k11 : PySem.W.keepIn K (.ref f11) = true)
    (a12 : PySem.W.findIn K (.ref cTable) "__eq__" = some (some (.ref f12)))
    (i12 : PySem.W.isFn K (.ref f12) = true)
    (l12 : K.lookup f12 = some ⟨oc12, od12, .func (PySem.W.fnOf "__eq__" "Table.__eq__" (defArgs sTable_eq) (defBody sTable_eq) (defScope sTable_eq) .none kV12 dc12 pm12 an12 cd12 ct12), sl12⟩)
    (c12 : PySem.W.codeIn K cd12 "Table.__eq__" = true)
    (k12 : PySem.W.keepIn K (.ref f12) = true)
    (a13 : PySem.W.nsIn K mainGlobals "read_formula" = some (some (.ref f13)))
    (l13 : K.lookup f13 = some ⟨oc13, od13, .func (PySem.W.fnOf "read_formula" "read_formula" (defArgs sRead_formula) (defBody sRead_formula) (defScope sRead_formula) .none kV13 dc13 pm13 an13 cd13 ct13), sl13⟩)
    (c13 : PySem.W.codeIn K cd13 "read_formula" = true)
    (k13 : PySem.W.keepIn K (.ref f13) = true)
    (a14 : PySem.W.nsIn K mainGlobals "formula_text" = some (some (.ref f14)))
    (l14 : K.lookup f14 = some ⟨oc14, od14, .func (PySem.W.fnOf "formula_text" "formula_text" (defArgs sFormula_text) (defBody sFormula_text) (defScope sFormula_text) .none kV14 dc14 pm14 an14 cd14 ct14), sl14⟩)
    (c14 : PySem.W.codeIn K cd14 "formula_text" = true)
    (k14 : PySem.W.keepIn K (.ref f14) = true)
    (a15 : PySem.W.nsIn K mainGlobals "formula_table" = some (some (.ref f15)))
    (l15 : K.lookup f15 = some ⟨oc15, od15, .func (PySem.W.fnOf "formula_table" "formula_table" (defArgs sFormula_table) (defBody sFormula_table) (defScope sFormula_table) .none kV15 dc15 pm15 an15 cd15 ct15), sl15⟩)
    (c15 : PySem.W.codeIn K cd15 "formula_table" = true)
    (k15 : PySem.W.keepIn K (.ref f15) = true)
    (a16 : PySem.W.nsIn K mainGlobals "_law_pool" = some (some (.ref f16)))
    (l16 : K.lookup f16 = some ⟨oc16, od16, .func (PySem.W.fnOf "_law_pool" "_law_pool" (defArgs sLaw_pool) (defBody sLaw_pool) (defScope sLaw_pool) .none kV16 dc16 pm16 an16 cd16 ct16), sl16⟩)
    (c16 : PySem.W.codeIn K cd16 "_law_pool" = true)
    (k16 : PySem.W.keepIn K (.ref f16) = true)
    (a17 : PySem.W.nsIn K mainGlobals "_law_draw" = some (some (.ref f17)))
    (l17 : K.lookup f17 = some ⟨oc17, od17, .func (PySem.W.fnOf "_law_draw" "_law_draw" (defArgs sLaw_draw) (defBody sLaw_draw) (defScope sLaw_draw) .none kV17 dc17 pm17 an17 cd17 ct17), sl17⟩)
    (c17 : PySem.W.codeIn K cd17 "_law_draw" = true)
    (k17 : PySem.W.keepIn K (.ref f17) = true)
    (a18 : PySem.W.nsIn K mainGlobals "_law_same" = some (some (.ref f18)))
    (l18 : K.lookup f18 = some ⟨oc18, od18, .func (PySem.W.fnOf "_law_same" "_law_same" (defArgs sLaw_same) (defBody sLaw_same) (defScope sLaw_same) .none kV18 dc18 pm18 an18 cd18 ct18), sl18⟩)
    (c18 : PySem.W.codeIn K cd18 "_law_same" = true)
    (k18 : PySem.W.keepIn K (.ref f18) = true)
    (a19 : PySem.W.nsIn K mainGlobals "_law_value" = some (some (.ref f19)))
    (l19 : K.lookup f19 = some ⟨oc19, od19, .func (PySem.W.fnOf "_law_value" "_law_value" (defArgs sLaw_value) (defBody sLaw_value) (defScope sLaw_value) .none kV19 dc19 pm19 an19 cd19 ct19), sl19⟩)
    (c19 : PySem.W.codeIn K cd19 "_law_value" = true)
    (k19 : PySem.W.keepIn K (.ref f19) = true)
    (a20 : PySem.W.nsIn K mainGlobals "_law_value_words" = some (some (.ref f20)))
    (l20 : K.lookup f20 = some ⟨oc20, od20, .func (PySem.W.fnOf "_law_value_words" "_law_value_words" (defArgs sLaw_value_words) (defBody sLaw_value_words) (defScope sLaw_value_words) .none kV20 dc20 pm20 an20 cd20 ct20), sl20⟩)
    (c20 : PySem.W.codeIn K cd20 "_law_value_words" = true)
    (k20 : PySem.W.keepIn K (.ref f20) = true)
    (a21 : PySem.W.nsIn K mainGlobals "_law_number_of" = some (some (.ref f21)))
    (l21 : K.lookup f21 = some ⟨oc21, od21, .func (PySem.W.fnOf "_law_number_of" "_law_number_of" (defArgs sLaw_number_of) (defBody sLaw_number_of) (defScope sLaw_number_of) .none kV21 dc21 pm21 an21 cd21 ct21), sl21⟩)
    (c21 : PySem.W.codeIn K cd21 "_law_number_of" = true)
    (k21 : PySem.W.keepIn K (.ref f21) = true)
    (a22 : PySem.W.nsIn K mainGlobals "law" = some (some (.ref f22)))
    (l22 : K.lookup f22 = some ⟨oc22, od22, .func (PySem.W.fnOf "law" "law" (defArgs sLaw) (defBody sLaw) (defScope sLaw) .none kV22 dc22 pm22 an22 cd22 ct22), sl22⟩)
    (c22 : PySem.W.codeIn K cd22 "law" = true)
    (k22 : PySem.W.keepIn K (.ref f22) = true)
    (pg_Table : PySem.W.plainGet K cTable Str.empty = true)
    (hd_Table : PySem.W.hasDictIn K cTable = true)
    (po_Table : PySem.W.plainOver K cTable = true)
    (sa_Table : PySem.W.findIn K (.ref cTable) "__setattr__" = some (some (.builtin "object.__setattr__")))
    (mk_Table : PySem.W.makesIn K cTable = true)
    (kc_Table : PySem.W.keepIn K (.ref cTable) = true)
    (ha_Table : PySem.W.findIn K (.ref cTable) "__class__" = some (some (.builtin "object.__class__")))
    (hm_Table : PySem.W.mroIn K cTable (.type "object") = some true)
    (hn_Table : PySem.W.specialIn K (.builtin "object.__class__") "__get__" = some (some (.builtin "getset_descriptor.__get__")))
    (tk_Table : PySem.W.takesIn K (.builtin "object.__class__") = some true)
    (na_Table_rows : PySem.W.findIn K (.ref cTable) "rows" = some none)
    (z_all : PySem.W.nsIn K mainGlobals "all" = some none)
    (z_any : PySem.W.nsIn K mainGlobals "any" = some none)
    (z_bool : PySem.W.nsIn K mainGlobals "bool" = some none)
    (z_int : PySem.W.nsIn K mainGlobals "int" = some none)
    (z_isinstance : PySem.W.nsIn K mainGlobals "isinstance" = some none)
    (z_len : PySem.W.nsIn K mainGlobals "len" = some none)
    (z_list : PySem.W.nsIn K mainGlobals "list" = some none)
    (z_max : PySem.W.nsIn K mainGlobals "max" = some none)
    (z_range : PySem.W.nsIn K mainGlobals "range" = some none)
    (z_str : PySem.W.nsIn K mainGlobals "str" = some none)
    (z_tuple : PySem.W.nsIn K mainGlobals "tuple" = some none)
    (g_LARGEST : PySem.W.nsIn K mainGlobals "LARGEST" = some (some (.int (65535) tg_LARGEST)))
    (g_MOST_VALUES : PySem.W.nsIn K mainGlobals "MOST_VALUES" = some (some (.int (8) tg_MOST_VALUES)))
    (g__DIGITS : PySem.W.nsIn K mainGlobals "_DIGITS" = some (some (.str "0123456789" tg__DIGITS)))
    (g__OPERATORS : PySem.W.nsIn K mainGlobals "_OPERATORS" = some (some (.ref A__OPERATORS)))
    (t__OPERATORS : K.lookup A__OPERATORS = some ⟨.type "tuple", oD__OPERATORS, .seq (([.str "+" tq_OPERATORS_0, .str "-" tq_OPERATORS_1, .str "*" tq_OPERATORS_2, .str "/" tq_OPERATORS_3, .str "mod" tq_OPERATORS_4, .str "<" tq_OPERATORS_5, .str "=" tq_OPERATORS_6] : List Value).toArray) nN__OPERATORS, sS__OPERATORS⟩)
    (g__DEEPEST : PySem.W.nsIn K mainGlobals "_DEEPEST" = some (some (.int (5) tg__DEEPEST)))
    : ∃ fd : FuncData, (∀ (s : Shared) (v : Value), BindsTo s fd ⟨[v], []⟩ [("script", v)]) ∧ ∀ base : Heap, K.In base → base.Ns mainGlobals mg → FnOk P w K mg base CX0 9 fa fd ["script"] (spC (cLaw K)) := by
  have e := hfa.symm.trans (PySem.W.mg_of X G a22)
  cases e
  have T : Txt K mg cTalkError cBadText cBadTable cTable := txt_mk X G aC_TalkError aC_BadText aC_BadTable aC_Table a1 l1 c1 k1 a2 l2 c2 k2 a3 l3 c3 k3 a4 l4 c4 k4 lT4 a5 l5 c5 k5 a6 l6 c6 k6 a7 l7 c7 k7 a8 l8 c8 k8 a9 l9 c9 k9 a10 l10 c10 k10 a11 i11 l11 c11 k11 a12 i12 l12 c12 k12 a13 l13 c13 k13 a14 l14 c14 k14 a15 l15 c15 k15 a16 l16 c16 k16 a17 l17 c17 k17 a18 l18 c18 k18 a19 l19 c19 k19 a20 l20 c20 k20 a21 l21 c21 k21 a22 l22 c22 k22 pg_Table hd_Table po_Table sa_Table mk_Table kc_Table ha_Table hm_Table hn_Table tk_Table na_Table_rows z_all z_any z_bool z_int z_isinstance z_len z_list z_max z_range z_str z_tuple g_LARGEST g_MOST_VALUES g__DIGITS g__OPERATORS t__OPERATORS g__DEEPEST
  have F := fun_mk (st := sLaw) l22 c22 k22
  exact ⟨PySem.W.fnOf "law" "law" (defArgs sLaw) (defBody sLaw) (defScope sLaw) .none kV22 dc22 pm22 an22 cd22 ct22, fun s v => .of_eq rfl, fun base _ _ => ok_law T F⟩
end

end K02
open PySem PySem.W PyProof.Rows
set_option maxRecDepth 100000 in
set_option maxHeartbeats 0 in
theorem PySem.Challenge.cw_splittalk_k02_formulas_holds : PySem.Challenge.rw_splittalk_k02_formulas.Holds := by
  w_on; o_law; k_head; (case hw => w_witness2)
  k_fill
  refine L2.walk_ofK (l := PySem.Challenge.rw_splittalk_k02_formulas) (n := 63) (k := 9) (x := "script") (CX := L2.CX0) (sp := fun K => SV.spC (K02.cLaw K)) rfl (by decide) rfl ⟨rfl, by decide, by decide⟩ (fun w h Y => PySem.W.kIn_of Y) ?F K02.law_sp fun _ _ _ _ z => z
  case F =>
    intro w mg fa h KX G hmg
    refine' K02.law_end KX G hmg ?aC_TalkError ?aC_BadText ?aC_BadTable ?aC_Table ?a1 ?l1 ?c1 ?k1 ?a2 ?l2 ?c2 ?k2 ?a3 ?l3 ?c3 ?k3 ?a4 ?l4 ?c4 ?k4 ?lT4 ?a5 ?l5 ?c5 ?k5 ?a6 ?l6 ?c6 ?k6 ?a7 ?l7 ?c7 ?k7 ?a8 ?l8 ?c8 ?k8 ?a9 ?l9 ?c9 ?k9 ?a10 ?l10 ?c10 ?k10 ?a11 ?i11 ?l11 ?c11 ?k11 ?a12 ?i12 ?l12 ?c12 ?k12 ?a13 ?l13 ?c13 ?k13 ?a14 ?l14 ?c14 ?k14 ?a15 ?l15 ?c15 ?k15 ?a16 ?l16 ?c16 ?k16 ?a17 ?l17 ?c17 ?k17 ?a18 ?l18 ?c18 ?k18 ?a19 ?l19 ?c19 ?k19 ?a20 ?l20 ?c20 ?k20 ?a21 ?l21 ?c21 ?k21 ?a22 ?l22 ?c22 ?k22 ?pg_Table ?hd_Table ?po_Table ?sa_Table ?mk_Table ?kc_Table ?ha_Table ?hm_Table ?hn_Table ?tk_Table ?na_Table_rows ?z_all ?z_any ?z_bool ?z_int ?z_isinstance ?z_len ?z_list ?z_max ?z_range ?z_str ?z_tuple ?g_LARGEST ?g_MOST_VALUES ?g__DIGITS ?g__OPERATORS ?t__OPERATORS ?g__DEEPEST
    (case aC_TalkError => k_is)
    (case aC_BadText => k_is)
    (case aC_BadTable => k_is)
    (case aC_Table => k_is)
    (case a1 => k_is)
    (case l1 => k_is)
    (case c1 => k_is)
    (case k1 => k_is)
    (case a2 => k_is)
    (case l2 => k_is)
    (case c2 => k_is)
    (case k2 => k_is)
    (case a3 => k_is)
    (case l3 => k_is)
    (case c3 => k_is)
    (case k3 => k_is)
    (case a4 => k_is)
    (case l4 => k_is)
    (case c4 => k_is)
    (case k4 => k_is)
    (case lT4 => k_is)
    (case a5 => k_is)
    (case l5 => k_is)
    (case c5 => k_is)
    (case k5 => k_is)
    (case a6 => k_is)
    (case l6 => k_is)
    (case c6 => k_is)
    (case k6 => k_is)
    (case a7 => k_is)
    (case l7 => k_is)
    (case c7 => k_is)
    (case k7 => k_is)
    (case a8 => k_is)
    (case l8 => k_is)
    (case c8 => k_is)
    (case k8 => k_is)
    (case a9 => k_is)
    (case l9 => k_is)
    (case c9 => k_is)
    (case k9 => k_is)
    (case a10 => k_is)
    (case l10 => k_is)
    (case c10 => k_is)
    (case k10 => k_is)
    (case a11 => k_is)
    (case i11 => k_is)
    (case l11 => k_is)
    (case c11 => k_is)
    (case k11 => k_is)
    (case a12 => k_is)
    (case i12 => k_is)
    (case l12 => k_is)
    (case c12 => k_is)
    (case k12 => k_is)
    (case a13 => k_is)
    (case l13 => k_is)
    (case c13 => k_is)
    (case k13 => k_is)
    (case a14 => k_is)
    (case l14 => k_is)
    (case c14 => k_is)
    (case k14 => k_is)
    (case a15 => k_is)
    (case l15 => k_is)
    (case c15 => k_is)
    (case k15 => k_is)
    (case a16 => k_is)
    (case l16 => k_is)
    (case c16 => k_is)
    (case k16 => k_is)
    (case a17 => k_is)
    (case l17 => k_is)
    (case c17 => k_is)
    (case k17 => k_is)
    (case a18 => k_is)
    (case l18 => k_is)
    (case c18 => k_is)
    (case k18 => k_is)
    (case a19 => k_is)
    (case l19 => k_is)
    (case c19 => k_is)
    (case k19 => k_is)
    (case a20 => k_is)
    (case l20 => k_is)
    (case c20 => k_is)
    (case k20 => k_is)
    (case a21 => k_is)
    (case l21 => k_is)
    (case c21 => k_is)
    (case k21 => k_is)
    (case a22 => k_is)
    (case l22 => k_is)
    (case c22 => k_is)
    (case k22 => k_is)
    (case pg_Table => k_is)
    (case hd_Table => k_is)
    (case po_Table => k_is)
    (case sa_Table => k_is)
    (case mk_Table => k_is)
    (case kc_Table => k_is)
    (case ha_Table => k_is)
    (case hm_Table => k_is)
    (case hn_Table => k_is)
    (case tk_Table => k_is)
    (case na_Table_rows => k_is)
    (case z_all => k_is)
    (case z_any => k_is)
    (case z_bool => k_is)
    (case z_int => k_is)
    (case z_isinstance => k_is)
    (case z_len => k_is)
    (case z_list => k_is)
    (case z_max => k_is)
    (case z_range => k_is)
    (case z_str => k_is)
    (case z_tuple => k_is)
    (case g_LARGEST => k_is)
    (case g_MOST_VALUES => k_is)
    (case g__DIGITS => k_is)
    (case g__OPERATORS => k_is)
    (case t__OPERATORS => k_is)
    (case g__DEEPEST => k_is)
