import PyProof.Rows.All
import Wide.All
import OpenK.AllK
import Wide.FinOn
import HandS.ForMost
import HandS.ForExc
import HandS.Codes
import HandS.Evl
import HandS.Wide
import HandS.IsInst
import HandS.FStr
import HandS.Gcd
import HandS.Defaults
import HandS.Iter
import HandS.OwnEq
import HandS.RaiseMore
import HandS.WordsExc
import HandS.ExcOwn
import HandS.ExcInit
import HandS.ClsMeth
import HandS.ExcField
import HandS.ExcIs
import KE.KExcIs
import HandS.HotCalls
import PyProof.StrBlockI
import PyProof.Rows.StrFit
import PySem.Challenge.RW_splittalk_k03_whole_formulas_are_read_ex
set_option Elab.async false
set_option linter.all false
set_option maxRecDepth 100000
set_option maxHeartbeats 2000000
/-! SVBase: values as monotone predicates (MP), a store of owned objects, what evaluates to what (Ev), statements (Go). -/
namespace SV
open PySem L2
open Evl (Ex ex_rd ex_l ex_t sz_of sz_lt)

/-! ### heaps -/

/-- the heap without the addresses of d -/
def mask (H : Hp) (d : List Addr) : Hp := fun a => if a ∈ d then none else H a
theorem mask_in {H : Hp} {d : List Addr} {a : Addr} (h : a ∈ d) : mask H d a = none := if_pos h
theorem mask_out {H : Hp} {d : List Addr} {a : Addr} (h : a ∉ d) : mask H d a = H a := if_neg h
theorem mask_sub {H : Hp} {d : List Addr} : Ex (mask H d) H := fun a o e => by
  by_cases h : a ∈ d
  · rw [mask_in h] at e; cases e
  · rw [mask_out h] at e; exact e
theorem mask_ex {H H' : Hp} {d : List Addr} (e : Ex H H') : Ex (mask H d) (mask H' d) := fun a o q => by
  by_cases h : a ∈ d
  · rw [mask_in h] at q; cases q
  · rw [mask_out h] at q ⊢; exact e a o q
theorem mask_nil {H : Hp} : mask H [] = H := by funext a; simp [mask]
theorem mask_less {H : Hp} {d d' : List Addr} (h : ∀ a, a ∈ d' → a ∈ d) : Ex (mask H d) (mask H d') := fun a o q => by
  by_cases h' : a ∈ d
  · rw [mask_in h'] at q; cases q
  · rw [mask_out h'] at q
    rw [mask_out (fun z => h' (h a z))]; exact q

/-! ### what is known of a value -/
structure MP where
  p : Hp → V → Prop
  mono : ∀ {H H' : Hp} {v : V}, Ex H H' → p H v → p H' v
/-- a value whatever the heap -/
def C (c : V) : MP := ⟨fun _ v => v = c, fun _ h => h⟩
abbrev I (i : Int) : MP := C (.int i)
abbrev B (b : Bool) : MP := C (.bl b)
abbrev S (s : Str) : MP := C (.str s)
abbrev N : MP := C .non
abbrev R (a : Addr) : MP := C (.ref a)
def All (H : Hp) : List MP → List V → Prop := Paired fun P v => P.p H v
theorem All.mono {H H' : Hp} (e : Ex H H') : ∀ {Ps : List MP} {vs : List V}, All H Ps vs → All H' Ps vs
  | _, _, .nil => .nil
  | _, _, .cons h t => .cons (MP.mono _ e h) (All.mono e t)
theorem All.length {H : Hp} : ∀ {Ps : List MP} {vs : List V}, All H Ps vs → Ps.length = vs.length
  | _, _, .nil => rfl
  | _, _, .cons _ t => congrArg (· + 1) (All.length t)
theorem All.get {H : Hp} : ∀ {Ps : List MP} {vs : List V} {i : Nat} {P : MP}, All H Ps vs → Ps[i]? = some P → ∃ v, vs[i]? = some v ∧ P.p H v
  | _, _, _, _, .nil, e => by simp at e
  | _, _, 0, _, .cons h _, e => by simp at e; subst e; exact ⟨_, rfl, h⟩
  | _, _, i + 1, P, .cons _ t, e => by
    obtain ⟨v, h1, h2⟩ := All.get (i := i) (P := P) t (by simpa using e)
    exact ⟨v, by simpa using h1, h2⟩
theorem All.getR {H : Hp} : ∀ {Ps : List MP} {vs : List V} {i : Nat} {v : V}, All H Ps vs → vs[i]? = some v → ∃ P, Ps[i]? = some P ∧ P.p H v
  | _, _, _, _, .nil, e => by simp at e
  | _, _, 0, _, .cons h _, e => by simp at e; subst e; exact ⟨_, rfl, h⟩
  | _, _, i + 1, v, .cons _ t, e => by
    obtain ⟨P, h1, h2⟩ := All.getR (i := i) (v := v) t (by simpa using e)
    exact ⟨P, by simpa using h1, h2⟩
theorem All.append {H : Hp} : ∀ {Ps Qs : List MP} {vs us : List V}, All H Ps vs → All H Qs us → All H (Ps ++ Qs) (vs ++ us)
  | _, _, _, _, .nil, s => s
  | _, _, _, _, .cons r t, s => .cons r (All.append t s)
theorem All.set {H : Hp} {P : MP} {v : V} (h : P.p H v) : ∀ {Ps : List MP} {vs : List V} (i : Nat), All H Ps vs → All H (Ps.set i P) (vs.set i v)
  | _, _, _, .nil => .nil
  | _, _, 0, .cons _ t => .cons h t
  | _, _, i + 1, .cons q t => .cons q (All.set h i t)
theorem All.take {H : Hp} : ∀ {Ps : List MP} {vs : List V} (n : Nat), All H Ps vs → All H (Ps.take n) (vs.take n)
  | _, _, 0, _ => .nil
  | _, _, _ + 1, .nil => .nil
  | _, _, n + 1, .cons r t => .cons r (All.take n t)
theorem All.drop {H : Hp} : ∀ {Ps : List MP} {vs : List V} (n : Nat), All H Ps vs → All H (Ps.drop n) (vs.drop n)
  | _, _, 0, r => r
  | _, _, _ + 1, .nil => .nil
  | _, _, n + 1, .cons _ t => All.drop n t
/-- a tuple | a list that nobody changes any more -/
def T (K : PySem.W.Frag) (Ps : List MP) : MP := ⟨fun H v => ∃ a vs, v = .ref a ∧ SqT K H a vs ∧ All H Ps vs, fun e ⟨a, vs, h1, h2, h3⟩ => ⟨a, vs, h1, ex_t e h2, h3.mono e⟩⟩
def L (K : PySem.W.Frag) (Ps : List MP) : MP := ⟨fun H v => ∃ a vs, v = .ref a ∧ SqL K H a vs ∧ All H Ps vs, fun e ⟨a, vs, h1, h2, h3⟩ => ⟨a, vs, h1, ex_l e h2, h3.mono e⟩⟩
/-- fields by name -/
def Flds (H : Hp) : List (Str × MP) → List (Str × V) → Prop := Paired fun p q => p.1 = q.1 ∧ p.2.p H q.2
theorem Flds.mono {H H' : Hp} (e : Ex H H') : ∀ {Ps : List (Str × MP)} {vs : List (Str × V)}, Flds H Ps vs → Flds H' Ps vs
  | _, _, .nil => .nil
  | _, _, .cons h t => .cons ⟨h.1, MP.mono _ e h.2⟩ (Flds.mono e t)
theorem Flds.look {H : Hp} {f : Str} : ∀ {Ps : List (Str × MP)} {vs : List (Str × V)} {P : MP}, Flds H Ps vs → Ps.lookup f = some P → ∃ v, vs.lookup f = some v ∧ P.p H v
  | _, _, _, .nil, e => by simp at e
  | (g, P0) :: Ps, (g', v0) :: vs, P, .cons h t, e => by
    obtain ⟨h1, h2⟩ := h
    simp only at h1 h2
    subst h1
    by_cases q : f = g
    · subst q
      simp [List.lookup] at e
      subst e
      exact ⟨v0, by simp [List.lookup], h2⟩
    · have qb : (f == g) = false := by simpa using q
      simp only [List.lookup, qb] at e ⊢
      exact Flds.look t e
theorem Flds.lookN {H : Hp} {f : Str} : ∀ {Ps : List (Str × MP)} {vs : List (Str × V)}, Flds H Ps vs → Ps.lookup f = none → vs.lookup f = none
  | _, _, .nil, _ => rfl
  | (g, P0) :: Ps, (g', v0) :: vs, .cons h t, e => by
    obtain ⟨h1, _⟩ := h
    simp only at h1
    subst h1
    by_cases q : f = g
    · subst q
      simp [List.lookup] at e
    · have qb : (f == g) = false := by simpa using q
      simp only [List.lookup, qb] at e ⊢
      exact Flds.lookN t e
theorem Flds.length {H : Hp} : ∀ {Ps : List (Str × MP)} {vs : List (Str × V)}, Flds H Ps vs → Ps.length = vs.length
  | _, _, .nil => rfl
  | _, _, .cons _ t => congrArg (· + 1) (Flds.length t)
def putM (f : Str) (P : MP) : List (Str × MP) → List (Str × MP)
  | [] => [(f, P)]
  | (g, Q) :: r => if g = f then (g, P) :: r else (g, Q) :: putM f P r
theorem Flds.put {H : Hp} {f : Str} {P : MP} {v : V} (hv : P.p H v) : ∀ {Ps : List (Str × MP)} {vs : List (Str × V)}, Flds H Ps vs → Flds H (putM f P Ps) (putF f v vs)
  | _, _, .nil => .cons ⟨rfl, hv⟩ .nil
  | (g, P0) :: Ps, (g', v0) :: vs, .cons h t => by
    obtain ⟨h1, h2⟩ := h
    simp only at h1 h2
    subst h1
    unfold putM putF
    by_cases q : g = f
    · rw [if_pos q, if_pos q]
      exact .cons ⟨rfl, hv⟩ t
    · rw [if_neg q, if_neg q]
      exact .cons ⟨rfl, h2⟩ (Flds.put hv t)
/-- an instance that nobody changes any more -/
def O (C : Addr) (fs : List (Str × MP)) : MP := ⟨fun H v => ∃ a dx ws, v = .ref a ∧ H a = some (.ins C dx ws) ∧ Flds H fs ws, fun e ⟨a, dx, ws, h1, h2, h3⟩ => ⟨a, dx, ws, h1, e _ _ h2, h3.mono e⟩⟩

/-! ### the store: owned objects -/
inductive MO where
  | lst (Ps : List MP)
  | dct (kvs : List (Key × MP))
  | ins (C : Addr) (fs : List (Str × MP))
  /-- any other thing, by what is true of it -/
  | has (φ : Hp → HO → Prop) (up : ∀ {F F' : Hp} {o : HO}, Ex F F' → φ F o → φ F' o)
def KVs (H : Hp) : List (Key × MP) → List (Key × V) → Prop := Paired fun p q => p.1 = q.1 ∧ p.2.p H q.2
theorem KVs.mono {H H' : Hp} (e : Ex H H') : ∀ {Ps : List (Key × MP)} {vs : List (Key × V)}, KVs H Ps vs → KVs H' Ps vs
  | _, _, .nil => .nil
  | _, _, .cons h t => .cons ⟨h.1, MP.mono _ e h.2⟩ (KVs.mono e t)
def MO.ok (F : Hp) : MO → HO → Prop
  | .lst Ps, o => ∃ vs, o = .lst vs ∧ All F Ps vs
  | .dct kvs, o => ∃ ws, o = .dK ws ∧ KVs F kvs ws
  | .ins C fs, o => ∃ dx ws, o = .ins C dx ws ∧ Flds F fs ws
  | .has φ _, o => φ F o
theorem MO.ok.mono {F F' : Hp} (e : Ex F F') {mo : MO} {o : HO} (h : mo.ok F o) : mo.ok F' o := by
  cases mo with
  | lst Ps => obtain ⟨vs, h1, h2⟩ := h; exact ⟨vs, h1, h2.mono e⟩
  | dct kvs => obtain ⟨vs, h1, h2⟩ := h; exact ⟨vs, h1, h2.mono e⟩
  | ins C fs => obtain ⟨dx, vs, h1, h2⟩ := h; exact ⟨dx, vs, h1, h2.mono e⟩
  | has φ up => exact up e h
abbrev Sto := List (Addr × MO)
abbrev dom (m : Sto) : List Addr := m.map (·.1)
structure Own (m : Sto) (H : Hp) : Prop where
  nd : (dom m).Nodup
  ok : ∀ (i : Nat) a mo, m[i]? = some (a, mo) → ∃ o, H a = some o ∧ mo.ok (mask H (dom m)) o
theorem dom_mem {m : Sto} {i : Nat} {a : Addr} {mo : MO} (h : m[i]? = some (a, mo)) : a ∈ dom m := List.mem_map.mpr ⟨(a, mo), List.mem_of_getElem? h, rfl⟩
theorem mem_dom {m : Sto} {a : Addr} (h : a ∈ dom m) : ∃ (i : Nat) (mo : MO), m[i]? = some (a, mo) := by
  obtain ⟨⟨b, mo⟩, h1, h2⟩ := List.mem_map.mp h
  simp only at h2
  subst h2
  obtain ⟨i, hi⟩ := List.getElem?_of_mem h1
  exact ⟨i, mo, hi⟩
theorem nd_ix {α : Type} {N : List α} (hN : N.Nodup) {i j : Nat} {x : α} (a : N[i]? = some x) (b : N[j]? = some x) : i = j := by
  obtain ⟨h1, e1⟩ := List.getElem?_eq_some_iff.mp a
  obtain ⟨h2, e2⟩ := List.getElem?_eq_some_iff.mp b
  exact (List.getElem_inj hN).mp (e1.trans e2.symm)
theorem Own.there {m : Sto} {H : Hp} (o : Own m H) {a : Addr} (h : a ∈ dom m) : H a ≠ none := by
  obtain ⟨i, mo, hi⟩ := mem_dom h
  obtain ⟨u, hu, _⟩ := o.ok i a mo hi
  rw [hu]
  exact fun z => nomatch z
theorem Own.out {m : Sto} {H : Hp} (o : Own m H) {a : Addr} (h : H a = none) : a ∉ dom m := fun z => o.there z h
theorem Own.ext {m : Sto} {H H' : Hp} (o : Own m H) (e : Ex H H') : Own m H' := ⟨o.nd, fun i a mo h => by
  obtain ⟨u, hu, q⟩ := o.ok i a mo h
  exact ⟨u, e a u hu, q.mono (mask_ex e)⟩⟩
theorem Own.nil {H : Hp} : Own [] H := ⟨List.nodup_nil, fun i a mo h => by simp at h⟩
/-- the store's i-th object is written -/
theorem Own.put {m : Sto} {H : Hp} {i : Nat} {a : Addr} {mo mo' : MO} {u : HO} (o : Own m H) (h : m[i]? = some (a, mo)) (q : mo'.ok (mask H (dom m)) u) : Own (m.set i (a, mo')) (upd H a u) := by
  have hd : dom (m.set i (a, mo')) = dom m := by
    unfold dom
    rw [List.map_set]
    refine List.ext_getElem? fun j => ?_
    rw [List.getElem?_set]
    split
    · rename_i hij
      subst hij
      rw [List.getElem?_map, h]
      have : i < m.length := (List.getElem?_eq_some_iff.mp h).1
      simp [this]
    · rfl
  have hm : mask (upd H a u) (dom m) = mask H (dom m) := by
    funext b
    by_cases hb : b ∈ dom m
    · rw [mask_in hb, mask_in hb]
    · rw [mask_out hb, mask_out hb, upd_ne]
      intro z
      subst z
      exact hb (dom_mem h)
  refine ⟨by rw [hd]; exact o.nd, fun j b mb hj => ?_⟩
  rw [hd, hm]
  rw [List.getElem?_set] at hj
  split at hj
  · rename_i hij
    split at hj
    · simp only [Option.some.injEq, Prod.mk.injEq] at hj
      obtain ⟨rfl, rfl⟩ := hj
      exact ⟨u, upd_same, q⟩
    · cases hj
  · rename_i hij
    obtain ⟨v, hv, z⟩ := o.ok j b mb hj
    refine ⟨v, ?_, z⟩
    rw [upd_ne]
    · exact hv
    · intro e
      subst e
      have e1 : (dom m)[i]? = some b := by unfold dom; rw [List.getElem?_map, h]; rfl
      have e2 : (dom m)[j]? = some b := by unfold dom; rw [List.getElem?_map, hj]; rfl
      exact hij (nd_ix o.nd e1 e2)
theorem dom_put {m : Sto} {i : Nat} {a : Addr} {mo mo' : MO} (h : m[i]? = some (a, mo)) : dom (m.set i (a, mo')) = dom m := by
  unfold dom
  rw [List.map_set]
  refine List.ext_getElem? fun j => ?_
  rw [List.getElem?_set]
  split
  · rename_i hij
    subst hij
    rw [List.getElem?_map, h]
    have : i < m.length := (List.getElem?_eq_some_iff.mp h).1
    simp [this]
  · rfl
theorem mask_put {m : Sto} {H : Hp} {i : Nat} {a : Addr} {mo : MO} {u : HO} (h : m[i]? = some (a, mo)) : mask (upd H a u) (dom m) = mask H (dom m) := by
  funext b
  by_cases hb : b ∈ dom m
  · rw [mask_in hb, mask_in hb]
  · rw [mask_out hb, mask_out hb, upd_ne]
    intro z
    subst z
    exact hb (dom_mem h)
/-- a new object comes into the store -/
theorem Own.add {m : Sto} {H : Hp} {a : Addr} {mo : MO} {u : HO} (o : Own m H) (h : H a = none) (q : mo.ok (mask H (dom m)) u) : Own ((a, mo) :: m) (upd H a u) := by
  have hx : Ex (mask H (dom m)) (mask (upd H a u) (dom ((a, mo) :: m))) := fun b v e => by
    by_cases hb : b ∈ dom m
    · rw [mask_in hb] at e; cases e
    · rw [mask_out hb] at e
      have hba : b ≠ a := fun z => by subst z; rw [h] at e; cases e
      rw [mask_out (by simp [dom, hba]; simpa [dom] using hb), upd_ne hba]
      exact e
  refine ⟨List.nodup_cons.mpr ⟨o.out h, o.nd⟩, fun i b mb hi => ?_⟩
  cases i with
  | zero =>
    simp only [List.getElem?_cons_zero, Option.some.injEq, Prod.mk.injEq] at hi
    obtain ⟨rfl, rfl⟩ := hi
    exact ⟨u, upd_same, q.mono hx⟩
  | succ i =>
    have hi : m[i]? = some (b, mb) := by simpa using hi
    obtain ⟨v, hv, z⟩ := o.ok i b mb hi
    refine ⟨v, ?_, z.mono hx⟩
    rw [upd_ne (ne_of_none hv h)]
    exact hv
/-- the newest object goes out of the store -/
theorem mask_drop {m : Sto} {H : Hp} {p : Addr × MO} : Ex (mask H (dom (p :: m))) (mask H (dom m)) := mask_less fun a h => by simp [dom]; exact Or.inr (by simpa [dom] using h)
theorem Own.drop {m : Sto} {H : Hp} {p : Addr × MO} (o : Own (p :: m) H) : Own m H := ⟨(List.nodup_cons.mp o.nd).2, fun i a mo h => by
  obtain ⟨u, hu, q⟩ := o.ok (i + 1) a mo (by simpa using h)
  exact ⟨u, hu, q.mono mask_drop⟩⟩
theorem Own.dropL {l m : Sto} {H : Hp} (o : Own (l ++ m) H) : Own m H := by
  induction l with
  | nil => exact o
  | cons p l ih => exact ih o.drop
theorem mask_dropL {l m : Sto} {H : Hp} : Ex (mask H (dom (l ++ m))) (mask H (dom m)) := mask_less fun a h => by
  simp only [dom, List.map_append, List.mem_append]
  exact Or.inr h
end SV

/-! SVEv: the canonical readings; what an expression evaluates to. -/
namespace SV
open PySem L2
open Evl (Ex ex_rd ex_l ex_t sz_of sz_lt)

/-! ### canonical readings -/
def cE (X : Cx) (e : Expr) : TE := fun σ H Q => ∀ (pins : List (Addr × Obj)) (s : Shared), Inv X pins σ H s → wpAny (model X.prog X.w) X.A (eval e X.env) (EP X pins σ Q) X.xe s
def cT (X : Cx) (e : Expr) : TT := fun σ H Q => ∀ (pins : List (Addr × Obj)) (s : Shared), Inv X pins σ H s → wpAny (model X.prog X.w) X.A (isTrue e X.env (eval e X.env)) (TP X pins σ Q) X.xe s
def cW (X : Cx) (e : Expr) : TT := fun σ H Q => ∀ (whole : Sem Value) (pins : List (Addr × Obj)) (s : Shared), Inv X pins σ H s → wpAny (model X.prog X.w) X.A (isTrue e X.env whole) (TP X pins σ Q) X.xe s
def cA (X : Cx) (es : List Expr) : TA := fun σ H Q => ∀ (pos : Pos) (pins : List (Addr × Obj)) (s : Shared), Inv X pins σ H s → wpAny (model X.prog X.w) X.A (spliced (backTo pos (starEach es X.env))) (AP X pins σ Q) X.xe s
def cS (X : Cx) (st : Stmt) : TS := fun D σ H => ∀ (pins : List (Addr × Obj)) (s : Shared), Inv X pins σ H s → wpAny (model X.prog X.w) X.A (exec st X.env) (SP X pins D) X.xe s
def cSs (X : Cx) (st : List Stmt) : TS := fun D σ H => ∀ (pins : List (Addr × Obj)) (s : Shared), Inv X pins σ H s → wpAny (model X.prog X.w) X.A (execs st X.env) (SP X pins D) X.xe s
section
variable {X : Cx} {e : Expr} {es : List Expr} {st : Stmt} {sts : List Stmt} {σ : L2.St} {H : Hp}
theorem pcE : PE X e (cE X e) := ⟨fun pins s _ _ _ I h => h pins s I⟩
theorem pcT : PT X e (cT X e) := ⟨fun pins s _ _ _ I h => h pins s I⟩
theorem pcW : PW X e (cW X e) := ⟨fun w pins s _ _ _ I h => h w pins s I⟩
theorem pcA : PA X es (cA X es) := ⟨fun pos pins s _ _ _ I h => h pos pins s I⟩
theorem pcS : PS X st (cS X st) := ⟨fun pins s _ _ _ I h => h pins s I⟩
theorem pcSs : PSs X sts (cSs X sts) := ⟨fun pins s _ _ _ I h => h pins s I⟩
theorem cE_of {t : TE} {Q : VK} (p : PE X e t) (h : t σ H Q) : cE X e σ H Q := fun pins s I => p.run pins s σ H Q I h
theorem cT_of {t : TT} {Q : Bool → Hp → Prop} (p : PT X e t) (h : t σ H Q) : cT X e σ H Q := fun pins s I => p.run pins s σ H Q I h
theorem cW_of {t : TT} {Q : Bool → Hp → Prop} (p : PW X e t) (h : t σ H Q) : cW X e σ H Q := fun w pins s I => p.run w pins s σ H Q I h
theorem cA_of {t : TA} {Q : List V → Hp → Prop} (p : PA X es t) (h : t σ H Q) : cA X es σ H Q := fun pos pins s I => p.run pos pins s σ H Q I h
theorem cS_of {t : TS} {D : Ends} (p : PS X st t) (h : t D σ H) : cS X st D σ H := fun pins s I => p.run pins s σ H D I h
theorem cSs_of {t : TS} {D : Ends} (p : PSs X sts t) (h : t D σ H) : cSs X sts D σ H := fun pins s I => p.run pins s σ H D I h
end

/-! ### the state -/
abbrev Rho := List (Option MP)
/-- the slot holds what is said, or nothing is said -/
def Slot1 (H : Hp) (oP : Option MP) (ov : Option V) : Prop := ∀ P, oP = some P → ∃ v, ov = some v ∧ P.p H v
def Slots (H : Hp) : Rho → L2.St → Prop := Paired (Slot1 H)
theorem Slot1.mono {H H' : Hp} (e : Ex H H') {oP : Option MP} {ov : Option V} (h : Slot1 H oP ov) : Slot1 H' oP ov := fun P q => by
  obtain ⟨v, h1, h2⟩ := h P q
  exact ⟨v, h1, P.mono e h2⟩
theorem Slots.mono {H H' : Hp} (e : Ex H H') : ∀ {ρ : Rho} {σ : L2.St}, Slots H ρ σ → Slots H' ρ σ
  | _, _, .nil => .nil
  | _, _, .cons h t => .cons (h.mono e) (Slots.mono e t)
theorem Slots.get {H : Hp} : ∀ {ρ : Rho} {σ : L2.St} {i : Nat} {P : MP}, Slots H ρ σ → ρ[i]? = some (some P) → ∃ v, σ[i]? = some (some v) ∧ P.p H v
  | _, _, _, _, .nil, e => by simp at e
  | _, _, 0, P, .cons h _, e => by
    simp at e
    obtain ⟨v, h1, h2⟩ := h P e
    exact ⟨v, by simp [h1], h2⟩
  | _, _, i + 1, P, .cons _ t, e => by
    obtain ⟨v, h1, h2⟩ := Slots.get (i := i) (P := P) t (by simpa using e)
    exact ⟨v, by simpa using h1, h2⟩
theorem Slots.set {H : Hp} {P : MP} {v : V} (h : P.p H v) : ∀ {ρ : Rho} {σ : L2.St} (i : Nat), Slots H ρ σ → Slots H (ρ.set i (some P)) (σ.set i (some v))
  | _, _, _, .nil => .nil
  | _, _, 0, .cons _ t => .cons (fun P' e => by cases e; exact ⟨v, rfl, h⟩) t
  | _, _, i + 1, .cons q t => .cons q (Slots.set h i t)
theorem Slots.forget {H : Hp} : ∀ {ρ ρ' : Rho} {σ : L2.St}, Slots H ρ σ → Paired (fun a b => b = none ∨ b = a) ρ ρ' → Slots H ρ' σ
  | _, _, _, .nil, .nil => .nil
  | _, _, _, .cons h t, .cons q r => .cons (fun P e => by
      rcases q with q | q
      · rw [q] at e; cases e
      · rw [q] at e; exact h P e) (Slots.forget t r)
theorem Slots.length {H : Hp} : ∀ {ρ : Rho} {σ : L2.St}, Slots H ρ σ → ρ.length = σ.length
  | _, _, .nil => rfl
  | _, _, .cons _ t => congrArg (· + 1) (Slots.length t)
theorem Slots.weak {H : Hp} {P Q : MP} (hw : ∀ v, P.p H v → Q.p H v) : ∀ {ρ : Rho} {σ : L2.St} {i : Nat}, Slots H ρ σ → ρ[i]? = some (some P) → Slots H (ρ.set i (some Q)) σ
  | _, _, _, .nil, e => by simp at e
  | _, _, 0, .cons h t, e => by
    simp at e
    refine .cons (fun P' e' => ?_) t
    cases e'
    obtain ⟨v, h1, h2⟩ := h P e
    exact ⟨v, h1, hw v h2⟩
  | _, _, i + 1, .cons h t, e => .cons h (Slots.weak hw t (by simpa using e))

structure Stt (ρ : Rho) (m : Sto) (σ : L2.St) (H : Hp) : Prop where
  env : Slots (mask H (dom m)) ρ σ
  own : Own m H
abbrev Nxt (m : Sto) (H H' : Hp) : Prop := Ex (mask H (dom m)) (mask H' (dom m))
theorem Stt.go {ρ : Rho} {m m' : Sto} {σ : L2.St} {H H' : Hp} (s : Stt ρ m σ H) (hd : dom m' = dom m) (n : Nxt m H H') (o : Own m' H') : Stt ρ m' σ H' := ⟨by rw [hd]; exact s.env.mono n, o⟩
theorem Nxt.refl {m : Sto} {H : Hp} : Nxt m H H := Ex.refl _
theorem Nxt.of {m : Sto} {H H' : Hp} (e : Ex H H') : Nxt m H H' := mask_ex e
theorem Nxt.trans {m m' : Sto} {H H1 H2 : Hp} (hd : dom m' = dom m) (a : Nxt m H H1) (b : Nxt m' H1 H2) : Nxt m H H2 := by
  have b' : Ex (mask H1 (dom m)) (mask H2 (dom m)) := by rw [← hd]; exact b
  exact Ex.trans a b'

theorem Nxt.to {m m' : Sto} {H H1 : Hp} (n : Nxt m' H H1) (hd : dom m' = dom m) : Nxt m H H1 := by
  have n' : Ex (mask H (dom m')) (mask H1 (dom m')) := n
  rw [hd] at n'
  exact n'

/-- te evaluates to a value of which P is known, turning the store m into m' -/
structure Ev (te : TE) (ρ : Rho) (m : Sto) (P : MP) (m' : Sto) : Prop where
  d : dom m' = dom m
  go : ∀ (σ : L2.St) (H : Hp) (Q : VK), Stt ρ m σ H → (∀ v H', Nxt m H H' → Own m' H' → P.p (mask H' (dom m)) v → Q v H') → te σ H Q
structure EvT (te : TT) (ρ : Rho) (m : Sto) (b : Bool) (m' : Sto) : Prop where
  d : dom m' = dom m
  go : ∀ (σ : L2.St) (H : Hp) (Q : Bool → Hp → Prop), Stt ρ m σ H → (∀ H', Nxt m H H' → Own m' H' → Q b H') → te σ H Q
structure EvA (te : TA) (ρ : Rho) (m : Sto) (Ps : List MP) (m' : Sto) : Prop where
  d : dom m' = dom m
  go : ∀ (σ : L2.St) (H : Hp) (Q : List V → Hp → Prop), Stt ρ m σ H → (∀ vs H', Nxt m H H' → Own m' H' → All (mask H' (dom m)) Ps vs → Q vs H') → te σ H Q
/-- a place that new objects may take -/
def Free (d : List Addr) (H : Hp) : Prop := ∀ a, a ∈ d → H a ≠ none
theorem Own.frees {m : Sto} {H : Hp} (o : Own m H) : Free (dom m) H := fun _ h => o.there h
theorem Free.new {d : List Addr} {H : Hp} (f : Free d H) {p : Addr} (h : H p = none) : p ∉ d := fun z => f p z h
theorem Free.at {d : List Addr} {H : Hp} (f : Free d H) {p : Addr} {o : HO} (h : H p = none) : mask (upd H p o) d p = some o := by
  rw [mask_out (f.new h), upd_same]
/-- operations on values -/
def RV (r : R2) (P1 P2 P : MP) : Prop := ∀ (d : List Addr) (H : Hp) (v u : V) (Q : VK), Free d H → P1.p (mask H d) v → P2.p (mask H d) u → (∀ z H', Ex H H' → P.p (mask H' d) z → Q z H') → r v u H Q
def RU (r : V → Hp → VK → Prop) (P1 P : MP) : Prop := ∀ (d : List Addr) (H : Hp) (v : V) (Q : VK), Free d H → P1.p (mask H d) v → (∀ z H', Ex H H' → P.p (mask H' d) z → Q z H') → r v H Q
def RC (r : List V → Hp → VK → Prop) (Ps : List MP) (P : MP) : Prop := ∀ (d : List Addr) (H : Hp) (vs : List V) (Q : VK), Free d H → All (mask H d) Ps vs → (∀ z H', Ex H H' → P.p (mask H' d) z → Q z H') → r vs H Q
def RM (r : V → List V → Hp → VK → Prop) (P0 : MP) (Ps : List MP) (P : MP) : Prop := ∀ (d : List Addr) (H : Hp) (v : V) (vs : List V) (Q : VK), Free d H → P0.p (mask H d) v → All (mask H d) Ps vs → (∀ z H', Ex H H' → P.p (mask H' d) z → Q z H') → r v vs H Q
def RT (r : V → Hp → (Bool → Hp → Prop) → Prop) (P1 : MP) (b : Bool) : Prop := ∀ (d : List Addr) (H : Hp) (v : V) (Q : Bool → Hp → Prop), Free d H → P1.p (mask H d) v → (∀ H', Ex H H' → Q b H') → r v H Q

section
variable {X : Cx} {ρ : Rho} {m m1 m2 m3 : Sto} {P P1 P2 P3 : MP} {ta tb tc te : TE} {t u : TT} {A : TA} {e a b c : Expr} {es : List Expr} {pos p p2 : Pos}
theorem Ev.can (h : PE X e te) (E : Ev te ρ m P m1) : Ev (cE X e) ρ m P m1 := ⟨E.d, fun σ H Q s q => cE_of h (E.go σ H Q s q)⟩
theorem EvT.can {b : Bool} (h : PT X e t) (E : EvT t ρ m b m1) : EvT (cT X e) ρ m b m1 := ⟨E.d, fun σ H Q s q => cT_of h (E.go σ H Q s q)⟩
theorem EvT.canW {b : Bool} (h : PW X e t) (E : EvT t ρ m b m1) : EvT (cW X e) ρ m b m1 := ⟨E.d, fun σ H Q s q => cW_of h (E.go σ H Q s q)⟩
theorem EvA.can {Ps : List MP} (h : PA X es A) (E : EvA A ρ m Ps m1) : EvA (cA X es) ρ m Ps m1 := ⟨E.d, fun σ H Q s q => cA_of h (E.go σ H Q s q)⟩
/-- the value is known in other words -/
theorem Ev.to (E : Ev te ρ m P m1) (h : ∀ H v, P.p H v → P1.p H v) : Ev te ρ m P1 m1 := ⟨E.d, fun σ H Q s q => E.go σ H Q s fun v H' n o pv => q v H' n o (h _ _ pv)⟩
theorem Ev.eq (E : Ev te ρ m P m1) (h : P = P1) : Ev te ρ m P1 m1 := h ▸ E
theorem EvT.eq {b b' : Bool} (E : EvT t ρ m b m1) (h : b = b') : EvT t ρ m b' m1 := h ▸ E

theorem ev_var {i : Nat} (h : ρ[i]? = some (some P)) : Ev (tVar i) ρ m P m := ⟨rfl, fun σ H Q s q => by
  obtain ⟨v, h1, h2⟩ := s.env.get h
  exact ⟨v, h1, q v H .refl s.own h2⟩⟩
theorem ev_c {v : V} : Ev (tC v) ρ m (C v) m := ⟨rfl, fun σ H Q s q => q v H .refl s.own rfl⟩
theorem ev_op {r : R2} (ha : Ev ta ρ m P1 m1) (hb : Ev tb ρ m1 P2 m2) (hr : RV r P1 P2 P) : Ev (tOp r ta tb) ρ m P m2 := ⟨hb.d.trans ha.d, fun σ H Q s q => by
  refine ha.go σ H _ s fun v H1 n1 o1 p1 => ?_
  have s1 := s.go ha.d n1 o1
  refine hb.go σ H1 _ s1 fun u H2 n2 o2 p2 => ?_
  have hd := hb.d.trans ha.d
  refine hr (dom m2) H2 v u _ o2.frees ?_ ?_ fun z H3 e3 pz => ?_
  · rw [hd]; exact P1.mono (n2.to ha.d) p1
  · rw [hb.d]; exact p2
  · refine q z H3 ((n1.trans ha.d n2).trans rfl (Nxt.of e3)) (o2.ext e3) ?_
    rw [hd] at pz; exact pz⟩
theorem ev_un {r : V → Hp → VK → Prop} (ha : Ev ta ρ m P1 m1) (hr : RU r P1 P) : Ev (tUn r ta) ρ m P m1 := ⟨ha.d, fun σ H Q s q => by
  refine ha.go σ H _ s fun v H1 n1 o1 p1 => ?_
  refine hr (dom m1) H1 v _ o1.frees (by rw [ha.d]; exact p1) fun z H3 e3 pz => ?_
  exact q z H3 (n1.trans rfl (Nxt.of e3)) (o1.ext e3) (by rw [ha.d] at pz; exact pz)⟩
theorem ea_nil : EvA tNil ρ m [] m := ⟨rfl, fun σ H Q s q => q [] H .refl s.own .nil⟩
theorem ea_cons {Ps : List MP} (ha : Ev ta ρ m P m1) (hb : EvA A ρ m1 Ps m2) : EvA (tCons ta A) ρ m (P :: Ps) m2 := ⟨hb.d.trans ha.d, fun σ H Q s q => by
  refine ha.go σ H _ s fun v H1 n1 o1 p1 => ?_
  have s1 := s.go ha.d n1 o1
  refine hb.go σ H1 _ s1 fun vs H2 n2 o2 p2 => ?_
  refine q (v :: vs) H2 (n1.trans ha.d n2) o2 (.cons (P.mono (n2.to ha.d) p1) (by rw [← ha.d]; exact p2))⟩
theorem ev_cb {r : List V → Hp → VK → Prop} {Ps : List MP} (ha : EvA A ρ m Ps m1) (hr : RC r Ps P) : Ev (tCB r A) ρ m P m1 := ⟨ha.d, fun σ H Q s q => by
  refine ha.go σ H _ s fun vs H1 n1 o1 p1 => ?_
  refine hr (dom m1) H1 vs _ o1.frees (by rw [ha.d]; exact p1) fun z H3 e3 pz => ?_
  exact q z H3 (n1.trans rfl (Nxt.of e3)) (o1.ext e3) (by rw [ha.d] at pz; exact pz)⟩
theorem ev_tup {Ps : List MP} (ha : EvA A ρ m Ps m1) (hl : Ps.length ≤ 100000) : Ev (tTup A) ρ m (T X.K Ps) m1 := ⟨ha.d, fun σ H Q s q => by
  refine ha.go σ H _ s fun vs H1 n1 o1 p1 => ⟨sz_of (by rw [← p1.length]; exact hl), fun l h => ?_⟩
  have e : Ex H1 (upd H1 l (.tup vs)) := Ex.new h
  refine q (.ref l) _ (n1.trans rfl (Nxt.of e)) (o1.ext e) ⟨l, vs, rfl, Or.inl (Or.inl ?_), p1.mono (mask_ex e)⟩
  exact Free.at (by rw [← ha.d]; exact o1.frees) h⟩
theorem ev_lst {Ps : List MP} (ha : EvA A ρ m Ps m1) (hl : Ps.length ≤ 100000) : Ev (tLst A) ρ m (L X.K Ps) m1 := ⟨ha.d, fun σ H Q s q => by
  refine ha.go σ H _ s fun vs H1 n1 o1 p1 => ⟨sz_of (by rw [← p1.length]; exact hl), fun l h => ?_⟩
  have e : Ex H1 (upd H1 l (.lst vs)) := Ex.new h
  refine q (.ref l) _ (n1.trans rfl (Nxt.of e)) (o1.ext e) ⟨l, vs, rfl, Or.inl (Or.inl ?_), p1.mono (mask_ex e)⟩
  exact Free.at (by rw [← ha.d]; exact o1.frees) h⟩
/-! tests -/
theorem et_tst {b : Bool} (ha : Ev te ρ m (B b) m1) : EvT (tTest te) ρ m b m1 := ⟨ha.d, fun σ H Q s q => ha.go σ H _ s fun v H1 n1 o1 p1 => ⟨b, p1, q H1 n1 o1⟩⟩
theorem et_b {b : Bool} (ha : Ev te ρ m (B b) m1) : EvT (tB te) ρ m b m1 := ⟨ha.d, fun σ H Q s q => ha.go σ H _ s fun v H1 n1 o1 p1 => ⟨b, p1, q H1 n1 o1⟩⟩
theorem et_not {b : Bool} (ha : EvT t ρ m b m1) : EvT (tNot t) ρ m (!b) m1 := ⟨ha.d, fun σ H Q s q => ha.go σ H _ s fun H1 n1 o1 => q H1 n1 o1⟩
/-- and, or: the second part only where it is asked; it leaves the store -/
theorem et_and {a b : Bool} (h1 : EvT t ρ m a m1) (h2 : a = true → EvT u ρ m1 b m1) : EvT (tAnd t u) ρ m (a && b) m1 := ⟨h1.d, fun σ H Q s q => h1.go σ H _ s fun H1 n1 o1 => by
  cases a with
  | true =>
    show u σ H1 Q
    exact (h2 rfl).go σ H1 Q (s.go h1.d n1 o1) fun H2 n2 o2 => q H2 (n1.trans h1.d n2) o2
  | false =>
    show Q false H1
    exact q H1 n1 o1⟩
theorem et_or {a b : Bool} (h1 : EvT t ρ m a m1) (h2 : a = false → EvT u ρ m1 b m1) : EvT (tOr t u) ρ m (a || b) m1 := ⟨h1.d, fun σ H Q s q => h1.go σ H _ s fun H1 n1 o1 => by
  cases a with
  | true =>
    show Q true H1
    exact q H1 n1 o1
  | false =>
    show u σ H1 Q
    exact (h2 rfl).go σ H1 Q (s.go h1.d n1 o1) fun H2 n2 o2 => q H2 (n1.trans h1.d n2) o2⟩
theorem ev_andV {a b : Bool} (h1 : Ev ta ρ m (B a) m1) (h2 : a = true → Ev tb ρ m1 (B b) m1) : Ev (tAndV ta tb) ρ m (B (a && b)) m1 := ⟨h1.d, fun σ H Q s q => h1.go σ H _ s fun v H1 n1 o1 p1 => ⟨a, p1, by
  cases a with
  | true =>
    show tb σ H1 Q
    exact (h2 rfl).go σ H1 Q (s.go h1.d n1 o1) fun v2 H2 n2 o2 p2 => q v2 H2 (n1.trans h1.d n2) o2 (by rw [← h1.d]; exact p2)
  | false =>
    show Q (.bl false) H1
    exact q _ H1 n1 o1 rfl⟩⟩
theorem ev_orV {a b : Bool} (h1 : Ev ta ρ m (B a) m1) (h2 : a = false → Ev tb ρ m1 (B b) m1) : Ev (tOrV ta tb) ρ m (B (a || b)) m1 := ⟨h1.d, fun σ H Q s q => h1.go σ H _ s fun v H1 n1 o1 p1 => ⟨a, p1, by
  cases a with
  | true =>
    show Q (.bl true) H1
    exact q _ H1 n1 o1 rfl
  | false =>
    show tb σ H1 Q
    exact (h2 rfl).go σ H1 Q (s.go h1.d n1 o1) fun v2 H2 n2 o2 p2 => q v2 H2 (n1.trans h1.d n2) o2 (by rw [← h1.d]; exact p2)⟩⟩
theorem ev_notV {a : Bool} (h1 : Ev ta ρ m (B a) m1) : Ev (tNotV ta) ρ m (B (!a)) m1 := ⟨h1.d, fun σ H Q s q => h1.go σ H _ s fun v H1 n1 o1 p1 => ⟨a, p1, q _ H1 n1 o1 rfl⟩⟩
theorem ev_if {a : Bool} (h : EvT t ρ m a m1) (h1 : a = true → Ev ta ρ m1 P m2) (h2 : a = false → Ev tb ρ m1 P m2) (hd : dom m2 = dom m1) : Ev (tIf t ta tb) ρ m P m2 := ⟨hd.trans h.d, fun σ H Q s q => h.go σ H _ s fun H1 n1 o1 => by
  cases a with
  | true =>
    show ta σ H1 Q
    exact (h1 rfl).go σ H1 Q (s.go h.d n1 o1) fun v2 H2 n2 o2 p2 => q v2 H2 (n1.trans h.d n2) o2 (by rw [← h.d]; exact p2)
  | false =>
    show tb σ H1 Q
    exact (h2 rfl).go σ H1 Q (s.go h.d n1 o1) fun v2 H2 n2 o2 p2 => q v2 H2 (n1.trans h.d n2) o2 (by rw [← h.d]; exact p2)⟩
end
end SV

/-! SVStm: statements. -/
namespace SV
open PySem L2
open Evl (Ex ex_rd ex_l ex_t sz_of sz_lt)

/-- from the state (ρ, m), which has grown from the base b0, the suite t reaches what D wants -/
def Go (t : TS) (D : Ends) (ρ : Rho) (m : Sto) (b0 : Hp) : Prop := ∀ (σ : L2.St) (H : Hp), Stt ρ m σ H → Ex b0 (mask H (dom m)) → t D σ H
/-- what is wanted at a return: P, the store m' -/
def Ret (Q : VK) (P : MP) (m' : Sto) (b0 : Hp) : Prop := ∀ v H, Own m' H → Ex b0 (mask H (dom m')) → P.p (mask H (dom m')) v → Q v H
/-- a state is handed on -/
def Nx (n : L2.St → Hp → Prop) (ρ : Rho) (m : Sto) (b0 : Hp) : Prop := ∀ (σ : L2.St) (H : Hp), Stt ρ m σ H → Ex b0 (mask H (dom m)) → n σ H

section
variable {X : Cx} {ρ ρ' : Rho} {m m1 m2 m3 m' : Sto} {P P1 P2 P3 : MP} {e a b c : Expr} {es : List Expr} {pos p p2 p3 : Pos} {D : Ends} {st : Stmt} {rest body orelse : List Stmt} {b0 : Hp} {x y : Str} {n : L2.St → Hp → Prop}
abbrev AE (X : Cx) (e : Expr) (ρ : Rho) (m : Sto) (P : MP) (m' : Sto) : Prop := Ev (cE X e) ρ m P m'
abbrev AT (X : Cx) (e : Expr) (ρ : Rho) (m : Sto) (b : Bool) (m' : Sto) : Prop := EvT (cT X e) ρ m b m'
abbrev AW (X : Cx) (e : Expr) (ρ : Rho) (m : Sto) (b : Bool) (m' : Sto) : Prop := EvT (cW X e) ρ m b m'
abbrev AA (X : Cx) (es : List Expr) (ρ : Rho) (m : Sto) (Ps : List MP) (m' : Sto) : Prop := EvA (cA X es) ρ m Ps m'
/-- a block -/
abbrev GS (X : Cx) (sts : List Stmt) (D : Ends) (ρ : Rho) (m : Sto) (b0 : Hp) : Prop := Go (cSs X sts) D ρ m b0
theorem gs_cons (h : Go (cS X st) { D with nx := cSs X rest D } ρ m b0) : GS X (st :: rest) D ρ m b0 := fun σ H s ex => cSs_of (pss_cons pcS pcSs) (h σ H s ex)
theorem gs_nil (h : Nx D.nx ρ m b0) : GS X [] D ρ m b0 := fun σ H s ex => cSs_of pss_nil (h σ H s ex)
theorem nx_go {D : Ends} (h : GS X rest D ρ m b0) : Nx (cSs X rest D) ρ m b0 := h
/-- the state in other words -/
theorem Go.forget {t : TS} (h : Go t D ρ' m b0) (hw : ∀ H σ, Slots H ρ σ → Slots H ρ' σ) : Go t D ρ m b0 := fun σ H s ex => h σ H ⟨hw _ _ s.env, s.own⟩ ex

theorem gs_asgG {i : Nat} (hN : X.N.Nodup) (hi : X.N[i]? = some x) (hx : Loc X.env.scope x) (he : AE X e ρ m P m1) (k : GS X rest D (ρ.set i (some P)) m1 b0)
    (hs : swapsWith e (some (.Name x p)) p2.line X.env = pure false := by rfl) (hf : X.fn x = true ∨ X.env.scope.names.lookup x = some .local := by first | exact .inl rfl | exact .inr rfl) : GS X (.Assign [.Name x p] e p2 :: rest) D ρ m b0 :=
  gs_cons fun σ H s ex => cS_of (ps_set hN hi hx pcE hs hf) (he.go σ H _ s fun v H1 n1 o1 p1 => k (σ.set i (some v)) H1 ⟨by rw [he.d]; exact (s.env.mono n1).set p1 i, o1⟩ (by rw [he.d]; exact ex.trans n1))
theorem gs_ret (he : AE X e ρ m P m1) (k : Ret D.rt P m1 b0) : GS X (.Return (some e) p :: rest) D ρ m b0 :=
  gs_cons fun σ H s ex => cS_of (ps_ret pcE) (he.go σ H _ s fun v H1 n1 o1 p1 => k v H1 o1 (by rw [he.d]; exact ex.trans n1) (by rw [he.d]; exact p1))
theorem gs_retN (k : Ret D.rt N m b0) : GS X (.Return none p :: rest) D ρ m b0 :=
  gs_cons fun σ H s ex => cS_of ps_retN (k .non H s.own ex rfl)
/-- a branching: what follows is shown behind each branch -/
theorem gs_if {t : Bool} (hc : AT X c ρ m t m1) (h1 : t = true → GS X body { D with nx := cSs X rest D } ρ m1 b0) (h2 : t = false → GS X orelse { D with nx := cSs X rest D } ρ m1 b0) : GS X (.If c body orelse p :: rest) D ρ m b0 :=
  gs_cons fun σ H s ex => cS_of (ps_if pcT pcSs pcSs) (hc.go σ H _ s fun H1 n1 o1 => by
    have ex1 : Ex b0 (mask H1 (dom m1)) := by rw [hc.d]; exact ex.trans n1
    cases t with
    | true =>
      show cSs X body _ σ H1
      exact h1 rfl σ H1 (s.go hc.d n1 o1) ex1
    | false =>
      show cSs X orelse _ σ H1
      exact h2 rfl σ H1 (s.go hc.d n1 o1) ex1)
/-- an if without else -/
theorem gs_when {t : Bool} (hc : AT X c ρ m t m1) (h1 : t = true → GS X body { D with nx := cSs X rest D } ρ m1 b0) (h2 : t = false → GS X rest D ρ m1 b0) : GS X (.If c body [] p :: rest) D ρ m b0 :=
  gs_if hc h1 fun h => gs_nil (h2 h)
theorem gs_end (k : GS X rest D ρ m b0) : GS X [] { D with nx := cSs X rest D } ρ m b0 := gs_nil k
/-- a branching both ways of which meet in one state -/
theorem gs_meet (Mid : L2.St → Hp → Prop) (h : Go (cS X st) { D with nx := Mid } ρ m b0) (k : ∀ σ H, Mid σ H → cSs X rest D σ H) : GS X (st :: rest) D ρ m b0 :=
  gs_cons fun σ H s ex pins sh I => thn (h σ H s ex pins sh I) fun f s1 q => by
    cases f with
    | next =>
      obtain ⟨σ', H', I', q⟩ := q
      exact ⟨σ', H', I', k σ' H' q⟩
    | ret v => exact q
    | brk => exact q
    | cont => exact q
theorem gs_expr (he : AE X e ρ m P m1) (k : GS X rest D ρ m1 b0) (hs : swapsWith e none p.line X.env = pure false := by rfl) : GS X (.Expr e p :: rest) D ρ m b0 :=
  gs_cons fun σ H s ex => cS_of (ps_expr pcE hs) (he.go σ H _ s fun v H1 n1 o1 p1 => k σ H1 (s.go he.d n1 o1) (by rw [he.d]; exact ex.trans n1))
theorem gs_pass (k : GS X rest D ρ m b0) : GS X (.Pass p :: rest) D ρ m b0 := gs_cons fun σ H s ex => cS_of ps_pass (k σ H s ex)
theorem gs_break (k : Nx D.bk ρ m b0) : GS X (.Break p :: rest) D ρ m b0 := gs_cons fun σ H s ex => cS_of ps_break (k σ H s ex)
theorem gs_continue (k : Nx D.ct ρ m b0) : GS X (.Continue p :: rest) D ρ m b0 := gs_cons fun σ H s ex => cS_of ps_continue (k σ H s ex)
/-- a, b = b, a at once -/
theorem gs_par {i j : Nat} {kt k2 : _} {pt pt2 : Pos} (hc : X.calm = true) (hN : X.N.Nodup) (hi : X.N[i]? = some x) (hj : X.N[j]? = some y) (hij : i ≠ j) (hx : X.env.scope.names.lookup x = some .local) (hy : X.env.scope.names.lookup y = some .local)
    (ha : AA X [a, b] ρ m [P1, P2] m1) (k : GS X rest D ((ρ.set i (some P1)).set j (some P2)) m1 b0)
    (hps : PS X (.Assign [.Tuple [.Name x p, .Name y p2] kt pt] (.Tuple [a, b] k2 pt2) pos) (tPar i j (cA X [a, b]))) : GS X (.Assign [.Tuple [.Name x p, .Name y p2] kt pt] (.Tuple [a, b] k2 pt2) pos :: rest) D ρ m b0 :=
  gs_cons fun σ H s ex => cS_of hps (ha.go σ H _ s fun vs H1 n1 o1 p1 => by
    match vs, p1 with
    | [v, u], .cons q1 (.cons q2 .nil) =>
      exact ⟨v, u, rfl, k _ H1 ⟨by rw [ha.d]; exact ((s.env.mono n1).set q1 i).set q2 j, o1⟩ (by rw [ha.d]; exact ex.trans n1)⟩)
end

/-! ### the end of a def -/
theorem Ret.same {Q : VK} {P : MP} {m : Sto} {b0 : Hp} (h : Ret Q P m b0) : Ret Q P m b0 := h
theorem Ret.to {Q : VK} {P P1 : MP} {m : Sto} {b0 : Hp} (h : Ret Q P m b0) (hw : ∀ H v, P1.p H v → P.p H v) : Ret Q P1 m b0 := fun v H o ex pv => h v H o ex (hw _ _ pv)
theorem Ret.eq {Q : VK} {P P1 : MP} {m m1 : Sto} {b0 : Hp} (h : Ret Q P m b0) (e : P1 = P) (e2 : m1 = m) : Ret Q P1 m1 b0 := by subst e; subst e2; exact h
/-- what the def owned goes -/
theorem Ret.drop {Q : VK} {P : MP} {m : Sto} {q : Addr × MO} {b0 : Hp} (h : Ret Q P m b0) : Ret Q P (q :: m) b0 := fun v H o ex pv => h v H o.drop (ex.trans mask_drop) (P.mono mask_drop pv)
/-- an owned list is handed back -/
theorem Ret.lst {K : PySem.W.Frag} {Q : VK} {Ps : List MP} {m : Sto} {a : Addr} {b0 : Hp} (h : Ret Q (L K Ps) m b0) : Ret Q (R a) ((a, .lst Ps) :: m) b0 := fun v H o ex pv => by
  obtain ⟨u, hu, vs, rfl, q⟩ := o.ok 0 a _ rfl
  refine h v H o.drop (ex.trans mask_drop) ⟨a, vs, pv, Or.inl (Or.inl ?_), q.mono mask_drop⟩
  rw [mask_out (List.nodup_cons.mp o.nd).1]
  exact hu
/-- an owned list becomes a value: the slots that hold it are said anew -/
theorem Go.freeze {K : PySem.W.Frag} {t : TS} {D : Ends} {ρ : Rho} {m : Sto} {b0 : Hp} {a : Addr} {Ps : List MP} (i : Nat) (hi : ρ[i]? = some (some (R a))) (k : Go t D (ρ.set i (some (L K Ps))) m b0) : Go t D ρ ((a, .lst Ps) :: m) b0 := fun σ H s ex => by
  refine k σ H ⟨?_, s.own.drop⟩ (ex.trans mask_drop)
  obtain ⟨u, hu, vs, rfl, q⟩ := s.own.ok 0 a _ rfl
  refine (s.env.mono mask_drop).weak (fun v pv => ?_) hi
  refine ⟨a, vs, pv, Or.inl (Or.inl ?_), q.mono mask_drop⟩
  rw [mask_out (List.nodup_cons.mp s.own.nd).1]
  exact hu
/-- what is owned and of no use goes -/
theorem Go.drop {t : TS} {D : Ends} {ρ : Rho} {m : Sto} {b0 : Hp} {q : Addr × MO} (k : Go t D ρ m b0) : Go t D ρ (q :: m) b0 := fun σ H s ex => k σ H ⟨s.env.mono mask_drop, s.own.drop⟩ (ex.trans mask_drop)

/-! ### loops -/
theorem Ret.base {Q : VK} {P : MP} {m : Sto} {b0 b1 : Hp} (h : Ret Q P m b0) (e : Ex b0 b1) : Ret Q P m b1 := fun v H o ex pv => h v H o (e.trans ex) pv
theorem Nx.base {n : L2.St → Hp → Prop} {ρ : Rho} {m : Sto} {b0 b1 : Hp} (h : Nx n ρ m b0) (e : Ex b0 b1) : Nx n ρ m b1 := fun σ H s ex => h σ H s (e.trans ex)
theorem Go.base {t : TS} {D : Ends} {ρ : Rho} {m : Sto} {b0 b1 : Hp} (h : Go t D ρ m b0) (e : Ex b0 b1) : Go t D ρ m b1 := fun σ H s ex => h σ H s (e.trans ex)
/-- one of the states of W -/
def Sts (W : Rho → Sto → Prop) (b1 : Hp) : L2.St → Hp → Prop := fun σ H => ∃ ρ2 m2, W ρ2 m2 ∧ Stt ρ2 m2 σ H ∧ Ex b1 (mask H (dom m2))
theorem nx_sts {W : Rho → Sto → Prop} {ρ : Rho} {m : Sto} {b1 : Hp} (h : W ρ m) : Nx (Sts W b1) ρ m b1 := fun σ H s ex => ⟨ρ, m, h, s, ex⟩
section
variable {X : Cx} {ρ : Rho} {m m1 : Sto} {P : MP} {e iter c : Expr} {pos p p2 : Pos} {D : Ends} {rest body : List Stmt} {b0 : Hp} {x : Str} {tg : Expr}
/-- for x in a list that stays; the states W i, i items taken -/
theorem gs_forL {j : Nat} {Ps : List MP} (hp : PassesOwn (model X.prog X.w) X.A X.env X.xe) (hc : X.calm = true) (hN : X.N.Nodup) (hj : X.N[j]? = some x) (hx : Loc X.env.scope x) (he : AE X iter ρ m (L X.K Ps) m1)
    (W : Nat → Rho → Sto → Prop) (h0 : W 0 ρ m1)
    (hs : ∀ b1, Ex b0 b1 → ∀ (i : Nat) (P : MP) ρ' m', Ps[i]? = some P → W i ρ' m' → GS X body { D with nx := Sts (W (i + 1)) b1, ct := Sts (W (i + 1)) b1, bk := cSs X rest D } (ρ'.set j (some P)) m' b1)
    (hd : ∀ ρ' m', W Ps.length ρ' m' → GS X rest D ρ' m' b0)
    (hs2 : ∀ x, foldedSetIterable iter X.env x = pure x := by intro _; rfl) (hf : X.fn x = true ∨ X.env.scope.names.lookup x = some .local := by first | exact .inl rfl | exact .inr rfl) : GS X (.For (.Name x p) iter body [] pos :: rest) D ρ m b0 :=
  gs_cons fun σ H s ex => cS_of (ps_for hp hc (pi_list pcE) (pg_name hN hj hx hf) pcSs hs2) (he.go σ H _ s fun v H1 n1 o1 p1 => by
    obtain ⟨a, vs, rfl, ha, hall⟩ := p1
    refine ⟨a, rfl, ⟨vs, ex_l mask_sub ha⟩, ?_⟩
    have hlen := hall.length
    have eb : Ex b0 (mask H1 (dom m)) := ex.trans n1
    refine for_list (xs := vs) (fun i σ' H' => Sts (W i) (mask H1 (dom m)) σ' H') ⟨ρ, m1, h0, s.go he.d n1 o1, by rw [he.d]; exact Ex.refl _⟩ (fun i σ' H' _ ⟨ρ2, m2, w, s2, e2⟩ => ex_l mask_sub (ex_l e2 ha)) ?_ ?_
    · rintro i y σ' H' hi ⟨ρ2, m2, w, s2, e2⟩
      obtain ⟨P, hP, hy⟩ := hall.getR hi
      exact hs _ eb i P ρ2 m2 hP w (σ'.set j (some y)) H' ⟨s2.env.set (P.mono e2 hy) j, s2.own⟩ e2
    · rintro σ' H' ⟨ρ2, m2, w, s2, e2⟩
      exact hd ρ2 m2 (by rw [hlen]; exact w) σ' H' s2 (eb.trans e2))
theorem gs_forT {j : Nat} {Ps : List MP} (hp : PassesOwn (model X.prog X.w) X.A X.env X.xe) (hc : X.calm = true) (hN : X.N.Nodup) (hj : X.N[j]? = some x) (hx : Loc X.env.scope x) (he : AE X iter ρ m (T X.K Ps) m1)
    (W : Nat → Rho → Sto → Prop) (h0 : W 0 ρ m1)
    (hs : ∀ b1, Ex b0 b1 → ∀ (i : Nat) (P : MP) ρ' m', Ps[i]? = some P → W i ρ' m' → GS X body { D with nx := Sts (W (i + 1)) b1, ct := Sts (W (i + 1)) b1, bk := cSs X rest D } (ρ'.set j (some P)) m' b1)
    (hd : ∀ ρ' m', W Ps.length ρ' m' → GS X rest D ρ' m' b0)
    (hs2 : ∀ x, foldedSetIterable iter X.env x = pure x := by intro _; rfl) (hf : X.fn x = true ∨ X.env.scope.names.lookup x = some .local := by first | exact .inl rfl | exact .inr rfl) : GS X (.For (.Name x p) iter body [] pos :: rest) D ρ m b0 :=
  gs_cons fun σ H s ex => cS_of (ps_for hp hc (pi_tup pcE) (pg_name hN hj hx hf) pcSs hs2) (he.go σ H _ s fun v H1 n1 o1 p1 => by
    obtain ⟨a, vs, rfl, ha, hall⟩ := p1
    refine ⟨a, rfl, ⟨vs, ex_t mask_sub ha⟩, ?_⟩
    have hlen := hall.length
    have eb : Ex b0 (mask H1 (dom m)) := ex.trans n1
    refine for_tup (xs := vs) (fun i σ' H' => Sts (W i) (mask H1 (dom m)) σ' H') ⟨ρ, m1, h0, s.go he.d n1 o1, by rw [he.d]; exact Ex.refl _⟩ (fun i σ' H' _ ⟨ρ2, m2, w, s2, e2⟩ => ex_t mask_sub (ex_t e2 ha)) ?_ ?_
    · rintro i y σ' H' hi ⟨ρ2, m2, w, s2, e2⟩
      obtain ⟨P, hP, hy⟩ := hall.getR hi
      exact hs _ eb i P ρ2 m2 hP w (σ'.set j (some y)) H' ⟨s2.env.set (P.mono e2 hy) j, s2.own⟩ e2
    · rintro σ' H' ⟨ρ2, m2, w, s2, e2⟩
      exact hd ρ2 m2 (by rw [hlen]; exact w) σ' H' s2 (eb.trans e2))
/-- for x in range(n) -/
theorem gs_forR {j : Nat} {n : Int} {a : Expr} (hg : Gl X "range") (hm : X.mg "range" = none) (hp : PassesOwn (model X.prog X.w) X.A X.env X.xe) (hc : X.calm = true) (hN : X.N.Nodup) (hj : X.N[j]? = some x) (hx : Loc X.env.scope x) (he : AE X a ρ m (I n) m1)
    (hn : n ≤ 100000) (hn0 : -100000 ≤ n) (W : Nat → Rho → Sto → Prop) (h0 : W 0 ρ m1)
    (hs : ∀ b1, Ex b0 b1 → ∀ (i : Nat) ρ' m', (i : Int) < n → W i ρ' m' → GS X body { D with nx := Sts (W (i + 1)) b1, ct := Sts (W (i + 1)) b1, bk := cSs X rest D } (ρ'.set j (some (I (i : Int)))) m' b1)
    (hd : ∀ ρ' m', W n.toNat ρ' m' → GS X rest D ρ' m' b0) (hse : starEach [a] X.env = [(false, eval a X.env)] := by rfl)
    (hs2 : ∀ x, foldedSetIterable (.Call (.Name "range" p2) [a] [] pos) X.env x = pure x := by intro _; rfl) (hf : X.fn x = true ∨ X.env.scope.names.lookup x = some .local := by first | exact .inl rfl | exact .inr rfl) : GS X (.For (.Name x p) (.Call (.Name "range" p2) [a] [] p3) body [] pos :: rest) D ρ m b0 :=
  have ha : AA X [a] ρ m [I n] m1 := EvA.can (pa_cons pcE pa_nil hse) (ea_cons he ea_nil)
  gs_cons fun σ H s ex => cS_of (ps_for hp hc (pi_range1 hg hm pcA hse) (pg_name hN hj hx hf) pcSs hs2) (ha.go σ H _ s fun vs H1 n1 o1 p1 => by
    match vs, p1 with
    | [v], .cons q1 .nil =>
      have q1 : v = .int n := q1
      subst q1
      refine ⟨n, rfl, by omega, by omega, ?_⟩
      have eb : Ex b0 (mask H1 (dom m)) := ex.trans n1
      refine for_range (lo := 0) (n := n.toNat) (fun i σ' H' => Sts (W i) (mask H1 (dom m)) σ' H') ⟨ρ, m1, h0, s.go he.d n1 o1, by rw [he.d]; exact Ex.refl _⟩ ?_ ?_
      · rintro i σ' H' hi ⟨ρ2, m2, w, s2, e2⟩
        have e0 : (0 : Int) + (i : Int) = (i : Int) := Int.zero_add _
        show cSs X body _ (σ'.set j (some (.int ((0 : Int) + (i : Int))))) H'
        rw [e0]
        exact hs _ eb i ρ2 m2 (by omega) w (σ'.set j (some (.int (i : Int)))) H' ⟨s2.env.set (P := I (i : Int)) rfl j, s2.own⟩ e2
      · rintro σ' H' ⟨ρ2, m2, w, s2, e2⟩
        exact hd ρ2 m2 w σ' H' s2 (eb.trans e2))
/-- range(lo, n) -/
theorem gs_forR2 {j : Nat} {lo n : Int} {a b : Expr} (hg : Gl X "range") (hm : X.mg "range" = none) (hp : PassesOwn (model X.prog X.w) X.A X.env X.xe) (hc : X.calm = true) (hN : X.N.Nodup) (hj : X.N[j]? = some x) (hx : Loc X.env.scope x) (he : AE X a ρ m (I lo) m1) {m2 : Sto} (he2 : AE X b ρ m1 (I n) m2)
    (hn : n ≤ 100000) (hn0 : -100000 ≤ n) (hl : lo ≤ 100000) (hl0 : -100000 ≤ lo) (W : Nat → Rho → Sto → Prop) (h0 : W 0 ρ m2)
    (hs : ∀ b1, Ex b0 b1 → ∀ (i : Nat) ρ' m', lo + (i : Int) < n → W i ρ' m' → GS X body { D with nx := Sts (W (i + 1)) b1, ct := Sts (W (i + 1)) b1, bk := cSs X rest D } (ρ'.set j (some (I (lo + (i : Int))))) m' b1)
    (hd : ∀ ρ' m', W (n - lo).toNat ρ' m' → GS X rest D ρ' m' b0) (hse : starEach [a, b] X.env = [(false, eval a X.env), (false, eval b X.env)] := by rfl) (hse2 : starEach [b] X.env = [(false, eval b X.env)] := by rfl)
    (hs2 : ∀ x, foldedSetIterable (.Call (.Name "range" p2) [a, b] [] p3) X.env x = pure x := by intro _; rfl) (hf : X.fn x = true ∨ X.env.scope.names.lookup x = some .local := by first | exact .inl rfl | exact .inr rfl) : GS X (.For (.Name x p) (.Call (.Name "range" p2) [a, b] [] p3) body [] pos :: rest) D ρ m b0 :=
  have ha : AA X [a, b] ρ m [I lo, I n] m2 := EvA.can (pa_cons pcE (pa_cons pcE pa_nil hse2) (hse.trans (by rw [hse2]))) (ea_cons he (ea_cons he2 ea_nil))
  gs_cons fun σ H s ex => cS_of (ps_for hp hc (pi_range2 hg hm pcA hse hse2) (pg_name hN hj hx hf) pcSs hs2) (ha.go σ H _ s fun vs H1 n1 o1 p1 => by
    match vs, p1 with
    | [v, u], .cons q1 (.cons q2 .nil) =>
      have q1 : v = .int lo := q1
      have q2 : u = .int n := q2
      subst q1 q2
      refine ⟨lo, n, rfl, ⟨by omega, by omega, by omega, by omega⟩, ?_⟩
      have eb : Ex b0 (mask H1 (dom m)) := ex.trans n1
      refine for_range (lo := lo) (n := (n - lo).toNat) (fun i σ' H' => Sts (W i) (mask H1 (dom m)) σ' H') ⟨ρ, m2, h0, s.go ha.d n1 o1, by rw [ha.d]; exact Ex.refl _⟩ ?_ ?_
      · rintro i σ' H' hi ⟨ρ2, m2, w, s2, e2⟩
        exact hs _ eb i ρ2 m2 (by omega) w (σ'.set j (some (.int (lo + (i : Int))))) H' ⟨s2.env.set (P := I (lo + (i : Int))) rfl j, s2.own⟩ e2
      · rintro σ' H' ⟨ρ2, m2, w, s2, e2⟩
        exact hd ρ2 m2 w σ' H' s2 (eb.trans e2))
/-- while: the states W, a measure that falls -/
theorem gs_while (hp : PassesOwn (model X.prog X.w) X.A X.env X.xe) (W : Nat → Rho → Sto → Prop) (k0 : Nat) (h0 : W k0 ρ m)
    (hs : ∀ b1, Ex b0 b1 → ∀ (k : Nat) ρ' m', W k ρ' m' → ∃ (b : Bool) (m2 : Sto), AT X c ρ' m' b m2 ∧
      (b = true → GS X body { D with nx := Sts (fun ρ2 m2 => ∃ k', k' < k ∧ W k' ρ2 m2) b1, ct := Sts (fun ρ2 m2 => ∃ k', k' < k ∧ W k' ρ2 m2) b1, bk := cSs X rest D } ρ' m2 b1) ∧ (b = false → GS X rest D ρ' m2 b1)) :
    GS X (.While c body [] p :: rest) D ρ m b0 :=
  gs_cons fun σ H s ex => cS_of (ps_while hp pcT pcSs) (by
    refine ⟨fun k σ' H' => Sts (W k) b0 σ' H', ⟨k0, ρ, m, h0, s, ex⟩, ?_⟩
    rintro k σ' H' ⟨ρ2, m2, w, s2, e2⟩
    obtain ⟨b, m3, ht, hy, hn⟩ := hs b0 (Ex.refl _) k ρ2 m2 w
    refine ht.go σ' H' _ s2 fun H1 n1 o1 => ?_
    have e3 : Ex b0 (mask H1 (dom m3)) := by rw [ht.d]; exact e2.trans n1
    cases b with
    | true =>
      rw [if_pos rfl]
      refine ⟨Sts (fun ρ2 m2 => ∃ k', k' < k ∧ W k' ρ2 m2) b0, fun σ4 H4 ⟨ρ4, m4, ⟨k', hk, w4⟩, s4, e4⟩ => ⟨k', hk, ρ4, m4, w4, s4, e4⟩, ?_⟩
      exact hy rfl σ' H1 (s2.go ht.d n1 o1) e3
    | false =>
      rw [if_neg Bool.false_ne_true]
      exact hn rfl σ' H1 (s2.go ht.d n1 o1) e3)
end
end SV

/-! SVRul: a rule for each kind of expression. -/
namespace SV
open PySem L2
open Evl (Ex ex_rd ex_l ex_t sz_of sz_lt)
section
variable {X : Cx} {ρ : Rho} {m m1 m2 m3 : Sto} {P P1 P2 P3 : MP} {e a b c f : Expr} {es rest : List Expr} {pos p p2 p3 : Pos} {x : Str} {i j k : Int}
/-! ### names, constants -/
theorem a_var (n : Nat) (h : ρ[n]? = some (some P) := by rfl) (hN : X.N[n]? = some x := by rfl) (hv : Vis X.env.scope x := by first | exact Or.inl rfl | exact Or.inr (Or.inl rfl) | exact Or.inr (Or.inr rfl)) (hd : (x == ("__debug__" : Str)) = false := by decide)
    (hcd : (x == ("__classdict__" : Str)) = false := by decide) : AE X (.Name x pos) ρ m P m := Ev.can (pv n hN hv hd hcd) (ev_var h)
theorem a_int {i : Int} {j : Nat} : AE X (.Constant (.int i) j pos) ρ m (I i) m := Ev.can pe_int ev_c
theorem a_bl {b : Bool} {j : Nat} : AE X (.Constant (.bool b) j pos) ρ m (B b) m := Ev.can pe_bl ev_c
theorem a_non {j : Nat} : AE X (.Constant .none j pos) ρ m N m := Ev.can pe_non ev_c
theorem a_str {s : Str} {j : Nat} : AE X (.Constant (.str s) j pos) ρ m (S s) m := Ev.can pe_str ev_c
theorem a_glob {v : V} {u : Value} (hm : X.mg x = some u) (r : RelV v u) (hg : Gl X x := by rfl) (hd : (x == ("__debug__" : Str)) = false := by decide) : AE X (.Name x pos) ρ m (C v) m := Ev.can (pe_glob hg hm r hd) ev_c
theorem a_gint {i : Int} {t : Tok} (hm : X.mg x = some (.int i t)) (hg : Gl X x := by rfl) (hd : (x == ("__debug__" : Str)) = false := by decide) : AE X (.Name x pos) ρ m (I i) m := a_glob hm ⟨_, rfl⟩ hg hd
theorem a_gstr {s : Str} {t : Tok} (hm : X.mg x = some (.str s t)) (hg : Gl X x := by rfl) (hd : (x == ("__debug__" : Str)) = false := by decide) : AE X (.Name x pos) ρ m (S s) m := a_glob hm ⟨_, rfl⟩ hg hd
theorem a_gref {a : Addr} (hm : X.mg x = some (.ref a)) (hg : Gl X x := by rfl) (hd : (x == ("__debug__" : Str)) = false := by decide) : AE X (.Name x pos) ρ m (R a) m := a_glob hm rfl hg hd
theorem a_bty {n : String} (hm : X.mg x = none) (hv : bootBuiltins x = some (.type n)) (hg : Gl X x := by rfl) (hn : x ≠ "__name__" := by decide) (hd : (x == ("__debug__" : Str)) = false := by decide) : AE X (.Name x pos) ρ m (C (.ty n)) m := Ev.can (pe_bltn (v := .ty n) hg hm hv (show RelV (.ty n) (.type n) from rfl) hn hd) ev_c
/-! ### operators -/
theorem a_bin {op : Operator} {r : R2} (ho : OpR X (binaryOp op) r) (hr : RV r P1 P2 P) (ha : AE X a ρ m P1 m1) (hb : AE X b ρ m1 P2 m2) : AE X (.BinOp a op b pos) ρ m P m2 := Ev.can (pe_op ho pcE pcE) (ev_op ha hb hr)
theorem rv_I0 {g : Int → Int → V} : RV (rI0 g) (I i) (I j) (C (g i j)) := fun d H v u Q _ h1 h2 q => ⟨i, j, h1, h2, q _ H (Ex.refl _) rfl⟩
theorem rv_I {Cn : Int → Int → Prop} {g : Int → Int → V} (hc : Cn i j) : RV (rI Cn g) (I i) (I j) (C (g i j)) := fun d H v u Q _ h1 h2 q => ⟨i, j, h1, h2, hc, q _ H (Ex.refl _) rfl⟩
theorem a_add (ha : AE X a ρ m (I i) m1) (hb : AE X b ρ m1 (I j) m2) : AE X (.BinOp a .Add b pos) ρ m (I (i + j)) m2 := a_bin op_add rv_I0 ha hb
theorem a_sub (ha : AE X a ρ m (I i) m1) (hb : AE X b ρ m1 (I j) m2) : AE X (.BinOp a .Sub b pos) ρ m (I (i - j)) m2 := a_bin op_sub rv_I0 ha hb
theorem a_mul (ha : AE X a ρ m (I i) m1) (hb : AE X b ρ m1 (I j) m2) (hc : CMul i j) : AE X (.BinOp a .Mult b pos) ρ m (I (i * j)) m2 := a_bin op_mul (rv_I hc) ha hb
theorem a_fdiv (ha : AE X a ρ m (I i) m1) (hb : AE X b ρ m1 (I j) m2) (hc : CDiv i j) : AE X (.BinOp a .FloorDiv b pos) ρ m (I (i / j)) m2 := a_bin op_fdiv (rv_I hc) ha hb
theorem a_mod (ha : AE X a ρ m (I i) m1) (hb : AE X b ρ m1 (I j) m2) (hc : 0 < j) : AE X (.BinOp a .Mod b pos) ρ m (I (i % j)) m2 := a_bin op_mod (rv_I hc) ha hb
theorem a_pow (ha : AE X a ρ m (I i) m1) (hb : AE X b ρ m1 (I j) m2) (hc : CPow i j) : AE X (.BinOp a .Pow b pos) ρ m (I (i ^ j.toNat)) m2 := a_bin op_pow (rv_I hc) ha hb
theorem a_mulW (ha : AE X a ρ m (I i) m1) (hb : AE X b ρ m1 (I j) m2) (hc : CMulW i j) : AE X (.BinOp a .Mult b pos) ρ m (I (i * j)) m2 := a_bin op_mulW (rv_I hc) ha hb
theorem a_fdivW (ha : AE X a ρ m (I i) m1) (hb : AE X b ρ m1 (I j) m2) (hc : CDivW i j) : AE X (.BinOp a .FloorDiv b pos) ρ m (I (i / j)) m2 := a_bin op_fdivW (rv_I hc) ha hb
theorem a_neg (ha : AE X a ρ m (I i) m1) : AE X (.UnaryOp .USub a pos) ρ m (I (-i)) m1 := Ev.can (pe_un un_neg pcE) (ev_un ha fun d H v Q _ h q => ⟨i, h, q _ H (Ex.refl _) rfl⟩)
/-- texts -/
theorem a_cat {s t : Str} (ha : AE X a ρ m (S s) m1) (hb : AE X b ρ m1 (S t) m2) (hl : s.length + t.length ≤ 1000000) : AE X (.BinOp a .Add b pos) ρ m (S (s ++ t)) m2 :=
  a_bin op_add_str (fun d H v u Q _ h1 h2 q => ⟨s, t, h1, h2, Nat.le_trans hl (by decide), q _ H (Ex.refl _) rfl⟩) ha hb
/-! ### comparisons -/
theorem a_cmp {op : CmpOp} {r : R2} (ho : OpR X (compareOp op) r) (hr : RV r P1 P2 P) (ha : AE X a ρ m P1 m1) (hb : AE X b ρ m1 P2 m2) (hm : behindInMarks op b = false := by first | exact nobehind _ (by decide) (by decide) | rfl) : AE X (.Compare a [op] [b] pos) ρ m P m2 :=
  Ev.can (pe_cmpR ho pcE pcE hm) (ev_op ha hb hr)
theorem t_cmp {op : CmpOp} {r : R2} {t : Bool} (ho : OpR X (compareOp op) r) (hr : RV r P1 P2 (B t)) (ha : AE X a ρ m P1 m1) (hb : AE X b ρ m1 P2 m2) (hm : behindInMarks op b = false := by first | exact nobehind _ (by decide) (by decide) | rfl) : AT X (.Compare a [op] [b] pos) ρ m t m2 :=
  EvT.can (pt_cmpR ho pcE pcE hm) (et_tst (ev_op ha hb hr))
theorem t_val {t : Bool} (ha : AE X a ρ m (B t) m1) (he : ∀ whole, isTrue a X.env whole = (do let v ← whole; standAt a.pos; holding [v] (truthy v)) := by intro _; rfl) : AT X a ρ m t m1 := EvT.can (pt_val pcE he) (et_b ha)
theorem t_lt (ha : AE X a ρ m (I i) m1) (hb : AE X b ρ m1 (I j) m2) : AT X (.Compare a [.Lt] [b] pos) ρ m (decide (i < j)) m2 := t_cmp op_lt rv_I0 ha hb
theorem t_le (ha : AE X a ρ m (I i) m1) (hb : AE X b ρ m1 (I j) m2) : AT X (.Compare a [.LtE] [b] pos) ρ m (decide (i ≤ j)) m2 := t_cmp op_le rv_I0 ha hb
theorem t_gt (ha : AE X a ρ m (I i) m1) (hb : AE X b ρ m1 (I j) m2) : AT X (.Compare a [.Gt] [b] pos) ρ m (decide (j < i)) m2 := t_cmp op_gt rv_I0 ha hb
theorem t_ge (ha : AE X a ρ m (I i) m1) (hb : AE X b ρ m1 (I j) m2) : AT X (.Compare a [.GtE] [b] pos) ρ m (decide (j ≤ i)) m2 := t_cmp op_ge rv_I0 ha hb
theorem a_lt (ha : AE X a ρ m (I i) m1) (hb : AE X b ρ m1 (I j) m2) : AE X (.Compare a [.Lt] [b] pos) ρ m (B (decide (i < j))) m2 := a_cmp op_lt rv_I0 ha hb
theorem a_le (ha : AE X a ρ m (I i) m1) (hb : AE X b ρ m1 (I j) m2) : AE X (.Compare a [.LtE] [b] pos) ρ m (B (decide (i ≤ j))) m2 := a_cmp op_le rv_I0 ha hb
theorem a_gt (ha : AE X a ρ m (I i) m1) (hb : AE X b ρ m1 (I j) m2) : AE X (.Compare a [.Gt] [b] pos) ρ m (B (decide (j < i))) m2 := a_cmp op_gt rv_I0 ha hb
theorem a_ge (ha : AE X a ρ m (I i) m1) (hb : AE X b ρ m1 (I j) m2) : AE X (.Compare a [.GtE] [b] pos) ρ m (B (decide (j ≤ i))) m2 := a_cmp op_ge rv_I0 ha hb
/-- == of ints, texts, truth values, None -/
theorem rv_eq {v u : V} (h : scal v u = true) : RV rEq (C v) (C u) (B (decide (v = u))) := fun d H v' u' Q _ h1 h2 q => by
  cases h1; cases h2
  exact ⟨h, q _ H (Ex.refl _) rfl⟩
theorem rv_ne {v u : V} (h : scal v u = true) : RV rNe (C v) (C u) (B (!decide (v = u))) := fun d H v' u' Q _ h1 h2 q => by
  cases h1; cases h2
  exact ⟨h, q _ H (Ex.refl _) rfl⟩
theorem decI : decide (V.int i = V.int j) = decide (i = j) := by by_cases h : i = j <;> simp [h]
theorem decS {s t : Str} : decide (V.str s = V.str t) = decide (s = t) := by by_cases h : s = t <;> simp [h]
theorem decB {s t : Bool} : decide (V.bl s = V.bl t) = (s == t) := by cases s <;> cases t <;> rfl
theorem t_eq {v u : V} (ha : AE X a ρ m (C v) m1) (hb : AE X b ρ m1 (C u) m2) (h : scal v u = true := by rfl) : AT X (.Compare a [.Eq] [b] pos) ρ m (decide (v = u)) m2 := t_cmp op_eq (rv_eq h) ha hb
theorem t_ne {v u : V} (ha : AE X a ρ m (C v) m1) (hb : AE X b ρ m1 (C u) m2) (h : scal v u = true := by rfl) : AT X (.Compare a [.NotEq] [b] pos) ρ m (!decide (v = u)) m2 := t_cmp op_ne (rv_ne h) ha hb
theorem a_eq {v u : V} (ha : AE X a ρ m (C v) m1) (hb : AE X b ρ m1 (C u) m2) (h : scal v u = true := by rfl) : AE X (.Compare a [.Eq] [b] pos) ρ m (B (decide (v = u))) m2 := a_cmp op_eq (rv_eq h) ha hb
theorem a_ne {v u : V} (ha : AE X a ρ m (C v) m1) (hb : AE X b ρ m1 (C u) m2) (h : scal v u = true := by rfl) : AE X (.Compare a [.NotEq] [b] pos) ρ m (B (!decide (v = u))) m2 := a_cmp op_ne (rv_ne h) ha hb
theorem t_eqI (ha : AE X a ρ m (I i) m1) (hb : AE X b ρ m1 (I j) m2) : AT X (.Compare a [.Eq] [b] pos) ρ m (decide (i = j)) m2 := (t_eq ha hb).eq decI
theorem t_neI (ha : AE X a ρ m (I i) m1) (hb : AE X b ρ m1 (I j) m2) : AT X (.Compare a [.NotEq] [b] pos) ρ m (!decide (i = j)) m2 := (t_ne ha hb).eq (by rw [decI])
theorem a_eqI (ha : AE X a ρ m (I i) m1) (hb : AE X b ρ m1 (I j) m2) : AE X (.Compare a [.Eq] [b] pos) ρ m (B (decide (i = j))) m2 := (a_eq ha hb).eq (by rw [decI])
theorem a_neI (ha : AE X a ρ m (I i) m1) (hb : AE X b ρ m1 (I j) m2) : AE X (.Compare a [.NotEq] [b] pos) ρ m (B (!decide (i = j))) m2 := (a_ne ha hb).eq (by rw [decI])
theorem t_eqS {s t : Str} (ha : AE X a ρ m (S s) m1) (hb : AE X b ρ m1 (S t) m2) : AT X (.Compare a [.Eq] [b] pos) ρ m (decide (s = t)) m2 := (t_eq ha hb).eq decS
theorem t_neS {s t : Str} (ha : AE X a ρ m (S s) m1) (hb : AE X b ρ m1 (S t) m2) : AT X (.Compare a [.NotEq] [b] pos) ρ m (!decide (s = t)) m2 := (t_ne ha hb).eq (by rw [decS])
theorem a_eqS {s t : Str} (ha : AE X a ρ m (S s) m1) (hb : AE X b ρ m1 (S t) m2) : AE X (.Compare a [.Eq] [b] pos) ρ m (B (decide (s = t))) m2 := (a_eq ha hb).eq (by rw [decS])
theorem a_eqB {s t : Bool} (ha : AE X a ρ m (B s) m1) (hb : AE X b ρ m1 (B t) m2) : AE X (.Compare a [.Eq] [b] pos) ρ m (B (s == t)) m2 := (a_eq ha hb).eq (by rw [decB])
theorem t_neB {s t : Bool} (ha : AE X a ρ m (B s) m1) (hb : AE X b ρ m1 (B t) m2) : AT X (.Compare a [.NotEq] [b] pos) ρ m (!(s == t)) m2 := (t_ne ha hb).eq (by rw [decB])
/-- lo <= x <= hi -/
theorem et_chain {r r' : R2} {ta tb tc : TE} {t u : Bool} (ha : Ev ta ρ m P1 m1) (hb : Ev tb ρ m1 P2 m2) (hr : RV r P1 P2 (B t)) (hc : Ev tc ρ m2 P3 m2) (hr' : RV r' P2 P3 (B u)) : EvT (tTest (tChain r r' ta tb tc)) ρ m (t && u) m2 := ⟨hb.d.trans ha.d, fun σ H Q s q => by
  refine ha.go σ H _ s fun v H1 n1 o1 p1 => ?_
  have s1 := s.go ha.d n1 o1
  refine hb.go σ H1 _ s1 fun w H2 n2 o2 p2 => ?_
  have hd := hb.d.trans ha.d
  have s2 := s1.go hb.d n2 o2
  have n12 := n1.trans ha.d n2
  refine hr (dom m2) H2 v w _ o2.frees (by rw [hd]; exact P1.mono (n2.to ha.d) p1) (by rw [hb.d]; exact p2) fun z H3 e3 pz => ⟨t, pz, ?_⟩
  have n3 : Nxt m2 H2 H3 := Nxt.of e3
  have o3 := o2.ext e3
  cases t with
  | false =>
    rw [if_neg Bool.false_ne_true]
    exact ⟨false, rfl, q H3 (n12.trans hd n3) o3⟩
  | true =>
    rw [if_pos rfl]
    refine hc.go σ H3 _ (s2.go rfl n3 o3) fun w' H4 n4 o4 p4 => ?_
    refine hr' (dom m2) H4 w w' _ o4.frees (P2.mono n4 (P2.mono n3 (by rw [hb.d]; exact p2))) p4 fun z H5 e5 pz => ⟨u, pz, ?_⟩
    exact q H5 (((n12.trans hd n3).trans hd n4).trans hd (Nxt.of e5)) (o4.ext e5)⟩
theorem t_chain {op op' : CmpOp} {r r' : R2} {t u : Bool} (ho : OpR X (compareOp op) r) (ho' : OpR X (compareOp op') r') (hr : RV r P1 P2 (B t)) (hr' : RV r' P2 P3 (B u)) (ha : AE X a ρ m P1 m1) (hb : AE X b ρ m1 P2 m2) (hc : AE X c ρ m2 P3 m2) (hm : lastMarks [op, op'] [b, c] = false := by with_unfolding_all rfl) :
    AT X (.Compare a [op, op'] [b, c] pos) ρ m (t && u) m2 := EvT.can (pt_chain ho ho' pcE pcE pcE hm) (et_chain ha hb hr hc hr')
theorem t_leLe (ha : AE X a ρ m (I i) m1) (hb : AE X b ρ m1 (I j) m2) (hc : AE X c ρ m2 (I k) m2) (hm : lastMarks [.LtE, .LtE] [b, c] = false := by with_unfolding_all rfl) : AT X (.Compare a [.LtE, .LtE] [b, c] pos) ρ m (decide (i ≤ j) && decide (j ≤ k)) m2 := t_chain op_le op_le rv_I0 rv_I0 ha hb hc hm
theorem t_ltLt (ha : AE X a ρ m (I i) m1) (hb : AE X b ρ m1 (I j) m2) (hc : AE X c ρ m2 (I k) m2) (hm : lastMarks [.Lt, .Lt] [b, c] = false := by with_unfolding_all rfl) : AT X (.Compare a [.Lt, .Lt] [b, c] pos) ρ m (decide (i < j) && decide (j < k)) m2 := t_chain op_lt op_lt rv_I0 rv_I0 ha hb hc hm
/-! ### and, or, not, if else -/
theorem w_t {t : Bool} (h : AW X a ρ m t m1) : AT X a ρ m t m1 := EvT.can (PW.pt pcW) h
theorem w_and1 {t : Bool} (h : AT X a ρ m t m1) : AW X (.BoolOp .And [a] pos) ρ m t m1 := EvT.canW (pw_and1 pcT) h
theorem w_or1 {t : Bool} (h : AT X a ρ m t m1) : AW X (.BoolOp .Or [a] pos) ρ m t m1 := EvT.canW (pw_or1 pcT) h
theorem w_and {t u : Bool} (ha : AT X a ρ m t m1) (hb : t = true → AW X (.BoolOp .And (b :: rest) pos) ρ m1 u m1) : AW X (.BoolOp .And (a :: b :: rest) pos) ρ m (t && u) m1 := EvT.canW (pw_and pcT pcW) (et_and ha hb)
theorem w_or {t u : Bool} (ha : AT X a ρ m t m1) (hb : t = false → AW X (.BoolOp .Or (b :: rest) pos) ρ m1 u m1) : AW X (.BoolOp .Or (a :: b :: rest) pos) ρ m (t || u) m1 := EvT.canW (pw_or pcT pcW) (et_or ha hb)
theorem t_not {t : Bool} (h : AT X a ρ m t m1) : AT X (.UnaryOp .Not a pos) ρ m (!t) m1 := EvT.can (pt_not pcT) (et_not h)
theorem a_one {op : BoolOp} (h : AE X a ρ m P m1) : AE X (.BoolOp op [a] pos) ρ m P m1 := Ev.can (pe_one pcE) h
theorem a_and {t u : Bool} (ha : AE X a ρ m (B t) m1) (hb : t = true → AE X (.BoolOp .And (b :: rest) pos) ρ m1 (B u) m1) : AE X (.BoolOp .And (a :: b :: rest) pos) ρ m (B (t && u)) m1 := Ev.can (pe_and pcE pcE) (ev_andV ha hb)
theorem a_or {t u : Bool} (ha : AE X a ρ m (B t) m1) (hb : t = false → AE X (.BoolOp .Or (b :: rest) pos) ρ m1 (B u) m1) : AE X (.BoolOp .Or (a :: b :: rest) pos) ρ m (B (t || u)) m1 := Ev.can (pe_or pcE pcE) (ev_orV ha hb)
theorem a_not {t : Bool} (h : AE X a ρ m (B t) m1) : AE X (.UnaryOp .Not a pos) ρ m (B (!t)) m1 := Ev.can (pe_not pcE) (ev_notV h)
theorem a_if {t : Bool} (h : AT X c ρ m t m1) (h1 : t = true → AE X a ρ m1 P m2) (h2 : t = false → AE X b ρ m1 P m2) (hd : dom m2 = dom m1 := by rfl) : AE X (.IfExp c a b pos) ρ m P m2 := Ev.can (pe_ifExp pcT pcE pcE) (ev_if h h1 h2 hd)
/-- is None -/
theorem rv_isN {v : V} : RV (fun x y H Q => y = .non ∧ Q (.bl (decide (x = .non))) H) (C v) N (B (decide (v = .non))) := fun d H v' u' Q _ h1 h2 q => by
  cases h1; cases h2
  exact ⟨rfl, q _ H (Ex.refl _) rfl⟩
theorem rv_notN {v : V} : RV (fun x y H Q => y = .non ∧ Q (.bl (!decide (x = .non))) H) (C v) N (B (!decide (v = .non))) := fun d H v' u' Q _ h1 h2 q => by
  cases h1; cases h2
  exact ⟨rfl, q _ H (Ex.refl _) rfl⟩
theorem t_isN {v : V} (ha : AE X a ρ m (C v) m1) (hb : AE X b ρ m1 N m2) : AT X (.Compare a [.Is] [b] pos) ρ m (decide (v = .non)) m2 := t_cmp op_isN rv_isN ha hb
theorem t_notN {v : V} (ha : AE X a ρ m (C v) m1) (hb : AE X b ρ m1 N m2) : AT X (.Compare a [.IsNot] [b] pos) ρ m (!decide (v = .non)) m2 := t_cmp op_notN rv_notN ha hb
theorem a_isN {v : V} (ha : AE X a ρ m (C v) m1) (hb : AE X b ρ m1 N m2) : AE X (.Compare a [.Is] [b] pos) ρ m (B (decide (v = .non))) m2 := a_cmp op_isN rv_isN ha hb
/-! ### displays -/
theorem aa_nil : AA X [] ρ m [] m := EvA.can pa_nil ea_nil
theorem aa_cons {Ps : List MP} (ha : AE X e ρ m P m1) (hr : AA X es ρ m1 Ps m2) (hs : starEach (e :: es) X.env = (false, eval e X.env) :: starEach es X.env := by rfl) : AA X (e :: es) ρ m (P :: Ps) m2 := EvA.can (pa_cons pcE pcA hs) (ea_cons ha hr)
theorem a_tup {Ps : List MP} {x1} (h : AA X es ρ m Ps m1) (hl : Ps.length ≤ 100000 := by first | decide | exact Nat.le_of_ble_eq_true rfl) : AE X (.Tuple es x1 pos) ρ m (T X.K Ps) m1 := Ev.can (pe_tup pcA) (ev_tup (X := X) h hl)
theorem a_lst {Ps : List MP} (h : AA X es ρ m Ps m1) (hl : Ps.length ≤ 100000 := by first | decide | exact Nat.le_of_ble_eq_true rfl) : AE X (.List es pos) ρ m (L X.K Ps) m1 := Ev.can (pe_lst pcA) (ev_lst (X := X) h hl)
/-! ### items -/
theorem a_ix {r : R2} (hx : IxR X r) (hr : RV r P1 P2 P) (ha : AE X a ρ m P1 m1) (hb : AE X b ρ m1 P2 m2) (hs : PlainIx b := by exact fun _ _ => rfl) : AE X (.Subscript a b pos) ρ m P m2 := Ev.can (pe_ix hx pcE pcE hs) (ev_op ha hb hr)
theorem all_at {H : Hp} {Ps : List MP} {vs : List V} (h : All H Ps vs) (hi : atI Ps i = some P) : ∃ v, atI vs i = some v ∧ P.p H v := by
  unfold atI at hi ⊢
  rw [← h.length]
  cases e : ixN Ps.length i with
  | none => rw [e] at hi; cases hi
  | some j =>
    rw [e] at hi
    exact h.get hi
theorem rv_ixT {K : PySem.W.Frag} {Ps : List MP} (hi : atI Ps i = some P) : RV (rIxT K) (T K Ps) (I i) P := fun d H v u Q _ h1 h2 q => by
  obtain ⟨a, vs, rfl, ht, hall⟩ := h1
  obtain ⟨x, hx, px⟩ := all_at hall hi
  exact ⟨a, vs, i, x, rfl, h2, ex_t mask_sub ht, hx, q _ H (Ex.refl _) px⟩
theorem rv_ixL {K : PySem.W.Frag} {Ps : List MP} (hi : atI Ps i = some P) : RV (rIxL K) (L K Ps) (I i) P := fun d H v u Q _ h1 h2 q => by
  obtain ⟨a, vs, rfl, ht, hall⟩ := h1
  obtain ⟨x, hx, px⟩ := all_at hall hi
  exact ⟨a, vs, i, x, rfl, h2, ex_l mask_sub ht, hx, q _ H (Ex.refl _) px⟩
theorem a_ixT {Ps : List MP} (ha : AE X a ρ m (T X.K Ps) m1) (hb : AE X b ρ m1 (I i) m2) (hi : atI Ps i = some P := by rfl) (hs : PlainIx b := by exact fun _ _ => rfl) : AE X (.Subscript a b pos) ρ m P m2 := a_ix ix_tup (rv_ixT hi) ha hb hs
theorem a_ixL {Ps : List MP} (ha : AE X a ρ m (L X.K Ps) m1) (hb : AE X b ρ m1 (I i) m2) (hi : atI Ps i = some P := by rfl) (hs : PlainIx b := by exact fun _ _ => rfl) : AE X (.Subscript a b pos) ρ m P m2 := a_ix ix_list (rv_ixL hi) ha hb hs
/-- an owned list's item: n is its place in the store -/
theorem a_ixO {Ps : List MP} {l : Addr} (n : Nat) (ha : AE X a ρ m (R l) m1) (hb : AE X b ρ m1 (I i) m2) (hn : m2[n]? = some (l, .lst Ps) := by rfl) (hi : atI Ps i = some P := by rfl) (hs : PlainIx b := by exact fun _ _ => rfl) : AE X (.Subscript a b pos) ρ m P m2 :=
  Ev.can (pe_ix ix_list pcE pcE hs) ⟨hb.d.trans ha.d, fun σ H Q s q => by
    refine ha.go σ H _ s fun v H1 n1 o1 p1 => ?_
    have s1 := s.go ha.d n1 o1
    refine hb.go σ H1 _ s1 fun u H2 n2 o2 p2 => ?_
    obtain ⟨o, ho, vs, rfl, hall⟩ := o2.ok n l _ hn
    obtain ⟨x, hx, px⟩ := all_at hall hi
    refine ⟨l, vs, i, x, p1, p2, Or.inl (Or.inl ho), hx, q x H2 (n1.trans ha.d n2) o2 ?_⟩
    rw [← hb.d.trans ha.d]; exact px⟩
end
end SV

/-! SVCal: defs, calls. -/
namespace SV
open PySem L2 PyProof.Rows
open Evl (Ex ex_rd ex_l ex_t sz_of sz_lt)
/-- what a def does: the arguments, the store, the answer, the store behind -/
abbrev Ct := List MP → Sto → MP → Sto → Prop
def spC (S : Ct) : Sp := fun vs H Q _ => ∃ Ps m P m', S Ps m P m' ∧ dom m' = dom m ∧ All (mask H (dom m)) Ps vs ∧ Own m H ∧ ∀ v H', Nxt m H H' → Own m' H' → P.p (mask H' (dom m)) v → Q v H'
/-- a def that hands back a new object, which the caller owns -/
abbrev CtO := List MP → Sto → MO → Sto → Prop
def RetO (Q : VK) (mo : MO) (m' : Sto) (b0 : Hp) : Prop := ∀ a H, Own ((a, mo) :: m') H → Ex b0 (mask H (dom ((a, mo) :: m'))) → Q (.ref a) H
def spO (S : CtO) : Sp := fun vs H Q _ => ∃ Ps m mo m', S Ps m mo m' ∧ dom m' = dom m ∧ All (mask H (dom m)) Ps vs ∧ Own m H ∧ RetO Q mo m' (mask H (dom m))
def start' (N : List Str) (Ps : List MP) : Rho := Ps.map some ++ List.replicate (N.length - Ps.length) none
theorem env_start {H : Hp} {N : List Str} {Ps : List MP} {vs : List V} (h : All H Ps vs) : Slots H (start' N Ps) (L2.start N vs) := by
  unfold start' L2.start
  rw [h.length]
  have h2 : ∀ n : Nat, Slots H (List.replicate n none) (List.replicate n none) := fun n => by
    induction n with
    | zero => exact .nil
    | succ n ih => exact .cons (fun P e => nomatch e) ih
  have app : ∀ {ρ1 ρ2 : Rho} {s1 s2 : L2.St}, Slots H ρ1 s1 → Slots H ρ2 s2 → Slots H (ρ1 ++ ρ2) (s1 ++ s2) := fun {ρ1 ρ2 s1 s2} a b => by
    induction a with
    | nil => exact b
    | cons r t ih => exact .cons r ih
  refine app ?_ (h2 _)
  clear h2 app
  induction h with
  | nil => exact .nil
  | cons r t ih => exact .cons (fun P e => by cases e; exact ⟨_, rfl, r⟩) ih
section
variable {P : Program} {w : World} {K : PySem.W.Frag} {mg : Str → Option Value} {base : Heap}
abbrev ends (Q : VK) : Ends := { nx := fun _ H' => Q .non H', rt := Q }
abbrev bodyX (CXi : CXT) (P : Program) (w : World) (K : PySem.W.Frag) (mg : Str → Option Value) (base : Heap) (N : List Str) (qual : Str) (sc : Scope) (f : Addr) (cdv : Value) (A : Around) (outer : List Env) (s : Shared) (H : Hp) (E : XK) : Cx := (cxOf CXi P w K mg base N qual sc f cdv A outer s H E).nox
theorem Fun_ct {x qual : Str} {st : Stmt} {f : Addr} {fd : FuncData} {N ps : List Str} {k : Nat} (F : Fun K x qual st f fd) (Sc : FnScope N ps (defScope st)) (S : Ct) (hl : ∀ Ps m P m', S Ps m P m' → Ps.length = ps.length)
    (hbody : ∀ (cdv : Value) (A : Around) (outer : List PySem.Env) (s : Shared) (H : Hp) (E : XK), Room k (A.deeper (envOfC qual (defScope st) s.heap.objs.size f cdv)) → ∀ (Ps : List MP) (m : Sto) (Pr : MP) (m' : Sto), S Ps m Pr m' → ∀ (b0 : Hp) (Q : VK), Ret Q Pr m' b0 →
      GS (bodyX CX0 P w K mg base N qual (defScope st) f cdv A outer s H E) (defBody st) (ends Q) (start' N Ps) m b0) : FnOk P w K mg base CX0 (k + 1) f fd ps (spC S) := by
  refine F.ok Sc (fun vs H Q E ⟨Ps, m, Pr, m', h, _, a, _⟩ => by rw [← a.length]; exact hl Ps m Pr m' h) (fun cdv A outer s H vs Q E hr ⟨Ps, m, Pr, m', h, hd, a, o, q⟩ => ?_)
  refine ⟨cSs _ _, pcSs, hbody cdv A outer s H E hr Ps m Pr m' h (mask H (dom m)) Q (fun v H' o' ex pv => ?_) _ H ⟨env_start a, o⟩ (Ex.refl _)⟩
  · exact q v H' (by rw [hd] at ex; exact ex) o' (by rw [hd] at pv; exact pv)
theorem Fun_ctO {x qual : Str} {st : Stmt} {f : Addr} {fd : FuncData} {N ps : List Str} {k : Nat} (F : Fun K x qual st f fd) (Sc : FnScope N ps (defScope st)) (S : CtO) (hl : ∀ Ps m P m', S Ps m P m' → Ps.length = ps.length)
    (hbody : ∀ (cdv : Value) (A : Around) (outer : List PySem.Env) (s : Shared) (H : Hp) (E : XK), Room k (A.deeper (envOfC qual (defScope st) s.heap.objs.size f cdv)) → ∀ (Ps : List MP) (m : Sto) (mo : MO) (m' : Sto), S Ps m mo m' → ∀ (b0 : Hp) (Q : VK), RetO Q mo m' b0 →
      GS (bodyX CX0 P w K mg base N qual (defScope st) f cdv A outer s H E) (defBody st) (ends Q) (start' N Ps) m b0) : FnOk P w K mg base CX0 (k + 1) f fd ps (spO S) := by
  refine F.ok Sc (fun vs H Q E ⟨Ps, m, Pr, m', h, _, a, _⟩ => by rw [← a.length]; exact hl Ps m Pr m' h) (fun cdv A outer s H vs Q E hr ⟨Ps, m, mo, m', h, hd, a, o, q⟩ => ?_)
  exact ⟨cSs _ _, pcSs, hbody cdv A outer s H E hr Ps m mo m' h (mask H (dom m)) Q q _ H ⟨env_start a, o⟩ (Ex.refl _)⟩
/-- the module's name x is a def that keeps S; D: its defaults -/
structure Fk (P : Program) (w : World) (K : PySem.W.Frag) (mg : Str → Option Value) (base : Heap) (k : Nat) (x : Str) (sp : Sp) (D : List V) : Prop where
  ex : ∃ (f : Addr) (fd : FuncData) (ps : List Str) (ds : List Value), FnOk P w K mg base CX0 k f fd ps sp ∧ mg x = some (.ref f) ∧ PySem.W.keepIn K (.ref f) = true ∧ Binds K fd ps ds ∧ Vals D ds
theorem Fk.mono {k j : Nat} {x : Str} {sp : Sp} {D : List V} (h : Fk P w K mg base k x sp D) (hk : k ≤ j) : Fk P w K mg base j x sp D := by
  obtain ⟨f, fd, ps, ds, h1, h2⟩ := h.ex
  exact ⟨f, fd, ps, ds, h1.mono hk, h2⟩
end
section
variable {X : Cx} {ρ : Rho} {m m1 m2 m3 : Sto} {P P1 P2 P3 : MP} {e a b c f : Expr} {es rest : List Expr} {pos p p2 p3 apos : Pos} {x : Str} {i j k : Int}
theorem all_c {H : Hp} : ∀ {D : List V}, All H (D.map C) D
  | [] => .nil
  | _ :: _ => .cons rfl all_c
theorem all_map {α : Type} {H : Hp} (f : α → V) : ∀ {xs : List α} {ws : List V}, All H (xs.map fun x => C (f x)) ws → ws = xs.map f
  | [], _, .nil => rfl
  | x :: xs, _, .cons r t => by rw [all_map f t, show _ = f x from r]; rfl
theorem ev_call {sp : TE} {S : Ct} {D : List V} {Ps : List MP} {A : TA} {E : XK} (ha : EvA A ρ m Ps m1) (h : S (Ps ++ D.map C) m1 P m2) (hd : dom m2 = dom m1) : Ev (tCall (spC S) D E A) ρ m P m2 := ⟨hd.trans ha.d, fun σ H Q s q => by
  refine ha.go σ H _ s fun vs H1 n1 o1 p1 => ?_
  refine ⟨_, m1, P, m2, h, hd, All.append (by rw [ha.d]; exact p1) all_c, o1, fun v H' n2 o2 pv => ?_⟩
  exact q v H' (n1.trans ha.d n2) o2 (by rw [← ha.d]; exact pv)⟩
theorem a_call {n l : Nat} {S : Ct} {D : List V} {Ps : List MP} (F : Fk X.prog X.w X.K X.mg X.base n x (spC S) D) (hr : Room l X.A) (hn : n ≤ l) (ha : AA X (e :: es) ρ m Ps m1) (h : S (Ps ++ D.map C) m1 P m2) (hd : dom m2 = dom m1 := by rfl) (hg : Gl X x := by rfl)
    (hdb : (x == ("__debug__" : Str)) = false := by decide) (he : starEach (e :: es) X.env = (false, eval e X.env) :: starEach es X.env := by rfl) (hpl : (backTo pos (starEach es X.env)).any (·.1) = false := by rfl) : AE X (.Call (.Name x p) (e :: es) [] pos) ρ m P m2 := by
  obtain ⟨f, fd, ps, ds, h1, h2, h3, h4, h5⟩ := F.ex
  exact Ev.can (pe_call h1 (hr.mono hn) hg h2 h3 h4 h5 (pass0 (X := X)) pcA hdb he hpl) (ev_call (sp := fun _ _ _ => True) ha h hd)
/-- built-in functions -/
theorem a_cb {id : String} {r : List V → Hp → VK → Prop} {Ps : List MP} (hc : CallR X (.builtin id) r) (hr : RC r Ps P) (hm : X.mg x = none) (hv : bootBuiltins x = some (.builtin id)) (ha : AA X (e :: es) ρ m Ps m1) (hg : Gl X x := by rfl) (hn : x ≠ "__name__" := by decide) (hdb : (x == ("__debug__" : Str)) = false := by decide)
    (he : starEach (e :: es) X.env = (false, eval e X.env) :: starEach es X.env := by rfl) (hpl : (backTo pos (starEach es X.env)).any (·.1) = false := by rfl) : AE X (.Call (.Name x p) (e :: es) [] pos) ρ m P m1 := Ev.can (pe_callB hc hg hm hv pcA hn hdb he hpl) (ev_cb ha hr)
theorem a_ct {id : String} {r : List V → Hp → VK → Prop} {Ps : List MP} (hc : CallR X (.type id) r) (hr : RC r Ps P) (hm : X.mg x = none) (hv : bootBuiltins x = some (.type id)) (ha : AA X (e :: es) ρ m Ps m1) (hg : Gl X x := by rfl) (hn : x ≠ "__name__" := by decide) (hdb : (x == ("__debug__" : Str)) = false := by decide)
    (he : starEach (e :: es) X.env = (false, eval e X.env) :: starEach es X.env := by rfl) (hpl : (backTo pos (starEach es X.env)).any (·.1) = false := by rfl) : AE X (.Call (.Name x p) (e :: es) [] pos) ρ m P m1 := Ev.can (pe_callTy hc hg hm hv pcA hn hdb he hpl) (ev_cb ha hr)
theorem rc_lenL {K : PySem.W.Frag} {Ps : List MP} : RC (fun xs H Q => ∃ p ys, xs = [.ref p] ∧ (SqL K H p ys ∨ SqT K H p ys) ∧ Q (.int ys.length) H) [L K Ps] (I Ps.length) := fun d H vs Q _ h q => by
  match vs, h with
  | [_], .cons ⟨a, ws, rfl, h1, h2⟩ .nil => exact ⟨a, ws, rfl, .inl (ex_l mask_sub h1), q _ H (Ex.refl _) (by rw [h2.length]; exact rfl)⟩
theorem rc_lenT {K : PySem.W.Frag} {Ps : List MP} : RC (fun xs H Q => ∃ p ys, xs = [.ref p] ∧ (SqL K H p ys ∨ SqT K H p ys) ∧ Q (.int ys.length) H) [T K Ps] (I Ps.length) := fun d H vs Q _ h q => by
  match vs, h with
  | [_], .cons ⟨a, ws, rfl, h1, h2⟩ .nil => exact ⟨a, ws, rfl, .inr (ex_t mask_sub h1), q _ H (Ex.refl _) (by rw [h2.length]; exact rfl)⟩
theorem rc_lenS {s : Str} (hl : s.length ≤ 1000000) : RC (fun xs H Q => ∃ z, xs = [.str z] ∧ z.length ≤ sizeLine ∧ Q (.int z.length) H) [S s] (I s.length) := fun d H vs Q _ h q => by
  match vs, h with
  | [_], .cons rfl .nil => exact ⟨s, rfl, Nat.le_trans hl (by decide), q _ H (Ex.refl _) rfl⟩
theorem rc_int : RC (fun xs H Q => (∃ i, xs = [V.int i] ∧ Q (.int i) H) ∨ ∃ k, xs = [V.bl k] ∧ Q (.int (if k then 1 else 0)) H) [I i] (I i) := fun d H vs Q _ h q => by
  match vs, h with
  | [_], .cons rfl .nil => exact .inl ⟨i, rfl, q _ H (Ex.refl _) rfl⟩
theorem rc_intB {t : Bool} : RC (fun xs H Q => (∃ i, xs = [V.int i] ∧ Q (.int i) H) ∨ ∃ k, xs = [V.bl k] ∧ Q (.int (if k then 1 else 0)) H) [B t] (I (if t then 1 else 0)) := fun d H vs Q _ h q => by
  match vs, h with
  | [_], .cons rfl .nil => exact .inr ⟨t, rfl, q _ H (Ex.refl _) rfl⟩
theorem rc_str (hl : i.natAbs.log2 < 1920) : RC (fun xs H Q => ∃ i : Int, xs = [.int i] ∧ i.natAbs.log2 < 1920 ∧ Q (.str (toString i)) H) [I i] (S (toString i)) := fun d H vs Q _ h q => by
  match vs, h with
  | [_], .cons rfl .nil => exact ⟨i, rfl, hl, q _ H (Ex.refl _) rfl⟩
theorem rc_max : RC (fun xs H Q => ∃ i j, xs = [V.int i, V.int j] ∧ Q (.int (if j > i then j else i)) H) [I i, I j] (I (if j > i then j else i)) := fun d H vs Q _ h q => by
  match vs, h with
  | [_, _], .cons rfl (.cons rfl .nil) => exact ⟨i, j, rfl, q _ H (Ex.refl _) rfl⟩
theorem rc_min : RC (fun xs H Q => ∃ i j, xs = [V.int i, V.int j] ∧ Q (.int (if j < i then j else i)) H) [I i, I j] (I (if j < i then j else i)) := fun d H vs Q _ h q => by
  match vs, h with
  | [_, _], .cons rfl (.cons rfl .nil) => exact ⟨i, j, rfl, q _ H (Ex.refl _) rfl⟩
theorem rc_abs : RC (fun xs H Q => ∃ i, xs = [V.int i] ∧ Q (.int (if i < 0 then -i else i)) H) [I i] (I (if i < 0 then -i else i)) := fun d H vs Q _ h q => by
  match vs, h with
  | [_], .cons rfl .nil => exact ⟨i, rfl, q _ H (Ex.refl _) rfl⟩
theorem rc_tupL {K : PySem.W.Frag} {Ps : List MP} : RC (fun xs H Q => ∃ p ys, xs = [.ref p] ∧ ((SqL K H p ys ∧ ∀ l, H l = none → Q (.ref l) (upd H l (.tup ys))) ∨ (SqT K H p ys ∧ Q (.ref p) H))) [L K Ps] (T K Ps) := fun d H vs Q fr h q => by
  match vs, h with
  | [_], .cons ⟨a, ws, rfl, h1, h2⟩ .nil =>
    exact ⟨a, ws, rfl, .inl ⟨ex_l mask_sub h1, fun l hl => q _ _ (Ex.new hl) ⟨l, ws, rfl, Or.inl (Or.inl (fr.at hl)), h2.mono (mask_ex (Ex.new hl))⟩⟩⟩
theorem rc_tupT {K : PySem.W.Frag} {Ps : List MP} : RC (fun xs H Q => ∃ p ys, xs = [.ref p] ∧ ((SqL K H p ys ∧ ∀ l, H l = none → Q (.ref l) (upd H l (.tup ys))) ∨ (SqT K H p ys ∧ Q (.ref p) H))) [T K Ps] (T K Ps) := fun d H vs Q fr h q => by
  match vs, h with
  | [_], .cons ⟨a, ws, rfl, h1, h2⟩ .nil =>
    exact ⟨a, ws, rfl, .inr ⟨ex_t mask_sub h1, q _ _ (Ex.refl _) ⟨a, ws, rfl, h1, h2⟩⟩⟩
theorem rc_listL {K : PySem.W.Frag} {Ps : List MP} : RC (fun xs H Q => ∃ p ys, xs = [.ref p] ∧ (SqL K H p ys ∨ SqT K H p ys) ∧ ∀ l, H l = none → Q (.ref l) (upd H l (.lst ys))) [L K Ps] (L K Ps) := fun d H vs Q fr h q => by
  match vs, h with
  | [_], .cons ⟨a, ws, rfl, h1, h2⟩ .nil =>
    exact ⟨a, ws, rfl, .inl (ex_l mask_sub h1), fun l hl => q _ _ (Ex.new hl) ⟨l, ws, rfl, Or.inl (Or.inl (fr.at hl)), h2.mono (mask_ex (Ex.new hl))⟩⟩
theorem rc_listT {K : PySem.W.Frag} {Ps : List MP} : RC (fun xs H Q => ∃ p ys, xs = [.ref p] ∧ (SqL K H p ys ∨ SqT K H p ys) ∧ ∀ l, H l = none → Q (.ref l) (upd H l (.lst ys))) [T K Ps] (L K Ps) := fun d H vs Q fr h q => by
  match vs, h with
  | [_], .cons ⟨a, ws, rfl, h1, h2⟩ .nil =>
    exact ⟨a, ws, rfl, .inr (ex_t mask_sub h1), fun l hl => q _ _ (Ex.new hl) ⟨l, ws, rfl, Or.inl (Or.inl (fr.at hl)), h2.mono (mask_ex (Ex.new hl))⟩⟩
theorem rc_all {K : PySem.W.Frag} {bs : List Bool} : RC (rAll K) [L K (bs.map B)] (B (bs.all id)) := fun d H vs Q fr h q => by
  match vs, h with
  | [_], .cons ⟨a, ws, rfl, h1, h2⟩ .nil =>
    have e := all_map V.bl h2
    subst e
    exact ⟨a, bs, rfl, ex_l mask_sub h1, q _ H (Ex.refl _) rfl⟩
theorem rc_any {K : PySem.W.Frag} {bs : List Bool} : RC (rAny K) [L K (bs.map B)] (B (bs.any id)) := fun d H vs Q fr h q => by
  match vs, h with
  | [_], .cons ⟨a, ws, rfl, h1, h2⟩ .nil =>
    have e := all_map V.bl h2
    subst e
    exact ⟨a, bs, rfl, ex_l mask_sub h1, q _ H (Ex.refl _) rfl⟩
end
end SV

/-! SVMut: owned objects: made, written, handed on; instances; comprehensions. -/
namespace SV
open PySem L2 PyProof.Rows
open Evl (Ex ex_rd ex_l ex_t sz_of sz_lt)
/-- te makes a new object that is owned -/
structure EvO (te : TE) (ρ : Rho) (m : Sto) (mo : MO) (m' : Sto) : Prop where
  d : dom m' = dom m
  go : ∀ (σ : L2.St) (H : Hp) (Q : VK), Stt ρ m σ H → (∀ a H', Own ((a, mo) :: m') H' → Ex (mask H (dom m)) (mask H' (dom ((a, mo) :: m'))) → Q (.ref a) H') → te σ H Q
abbrev AO (X : Cx) (e : Expr) (ρ : Rho) (m : Sto) (mo : MO) (m' : Sto) : Prop := EvO (cE X e) ρ m mo m'
/-- a new address: what was there stays in sight -/
theorem new_sight {m : Sto} {H : Hp} {a : Addr} {mo : MO} {u : HO} (h : H a = none) : Ex (mask H (dom m)) (mask (upd H a u) (dom ((a, mo) :: m))) := fun b o e => by
  by_cases hb : b ∈ dom m
  · rw [mask_in hb] at e; cases e
  · rw [mask_out hb] at e
    have hba : b ≠ a := fun z => by subst z; rw [h] at e; cases e
    have : b ∉ dom ((a, mo) :: m) := fun z => by
      rcases List.mem_cons.mp z with z | z
      · exact hba z
      · exact hb z
    rw [mask_out this, upd_ne hba]
    exact e
section
variable {X : Cx} {ρ : Rho} {m m1 m2 m3 : Sto} {P P1 P2 P3 : MP} {mo mo' : MO} {e a b c f o : Expr} {es rest : List Expr} {pos p p2 p3 apos cpos : Pos} {x fl : Str} {i j k : Int} {te ta : TE} {A : TA} {D : Ends} {b0 : Hp} {sts : List Stmt}
theorem EvO.can (h : PE X e te) (E : EvO te ρ m mo m1) : EvO (cE X e) ρ m mo m1 := ⟨E.d, fun σ H Q s q => cE_of h (E.go σ H Q s q)⟩
theorem o_lst {Ps : List MP} (ha : AA X es ρ m Ps m1) (hl : Ps.length ≤ 100000 := by first | decide | exact Nat.le_of_ble_eq_true rfl) : AO X (.List es pos) ρ m (.lst Ps) m1 := EvO.can (pe_lst pcA) ⟨ha.d, fun σ H Q s q => by
  refine ha.go σ H _ s fun vs H1 n1 o1 p1 => ⟨sz_of (by rw [← p1.length]; exact hl), fun l h => ?_⟩
  refine q l _ (o1.add h ⟨vs, rfl, by rw [ha.d]; exact p1⟩) ?_
  have n1' : Ex (mask H (dom m)) (mask H1 (dom m1)) := by rw [ha.d]; exact n1
  exact n1'.trans (new_sight h)⟩
/-- {}: an owned dict -/
theorem o_dict : AO X (.Dict [] [] pos) ρ m (.dct []) m := EvO.can pe_dnewK ⟨rfl, fun σ H Q s q => fun l h => q l _ (s.own.add h ⟨[], rfl, .nil⟩) (new_sight h)⟩
theorem ev_callO {S : CtO} {Dv : List V} {Ps : List MP} {E : XK} (ha : EvA A ρ m Ps m1) (h : S (Ps ++ Dv.map C) m1 mo m2) (hd : dom m2 = dom m1) : EvO (tCall (spO S) Dv E A) ρ m mo m2 := ⟨hd.trans ha.d, fun σ H Q s q => by
  refine ha.go σ H _ s fun vs H1 n1 o1 p1 => ?_
  refine ⟨_, m1, mo, m2, h, hd, All.append (by rw [ha.d]; exact p1) all_c, o1, fun l H' o2 n2 => ?_⟩
  have n1' : Ex (mask H (dom m)) (mask H1 (dom m1)) := by rw [ha.d]; exact n1
  exact q l H' o2 (n1'.trans n2)⟩
theorem o_call {n l : Nat} {S : CtO} {Dv : List V} {Ps : List MP} (F : Fk X.prog X.w X.K X.mg X.base n x (spO S) Dv) (hr : Room l X.A) (hn : n ≤ l) (ha : AA X (e :: es) ρ m Ps m1) (h : S (Ps ++ Dv.map C) m1 mo m2) (hd : dom m2 = dom m1 := by rfl) (hg : Gl X x := by rfl)
    (hdb : (x == ("__debug__" : Str)) = false := by decide) (he : starEach (e :: es) X.env = (false, eval e X.env) :: starEach es X.env := by rfl) (hpl : (backTo pos (starEach es X.env)).any (·.1) = false := by rfl) : AO X (.Call (.Name x p) (e :: es) [] pos) ρ m mo m2 := by
  obtain ⟨f, fd, ps, ds, h1, h2, h3, h4, h5⟩ := F.ex
  exact EvO.can (pe_call h1 (hr.mono hn) hg h2 h3 h4 h5 (pass0 (X := X)) pcA hdb he hpl) (ev_callO ha h hd)
theorem gs_asgO {n : Nat} (hN : X.N.Nodup) (hi : X.N[n]? = some x) (hx : Loc X.env.scope x) (he : AO X e ρ m mo m1) (k : ∀ a, GS X sts D (ρ.set n (some (R a))) ((a, mo) :: m1) b0)
    (hs : swapsWith e (some (.Name x p)) p2.line X.env = pure false := by rfl) (hf : X.fn x = true ∨ X.env.scope.names.lookup x = some .local := by first | exact .inl rfl | exact .inr rfl) : GS X (.Assign [.Name x p] e p2 :: sts) D ρ m b0 :=
  gs_cons fun σ H s ex => cS_of (ps_set hN hi hx pcE hs hf) (he.go σ H _ s fun l H1 o1 n1 => k l (σ.set n (some (.ref l))) H1 ⟨(s.env.mono n1).set (P := R l) rfl n, o1⟩ (ex.trans n1))
theorem gs_retO (he : AO X e ρ m mo m1) (k : RetO D.rt mo m1 b0) : GS X (.Return (some e) p :: sts) D ρ m b0 :=
  gs_cons fun σ H s ex => cS_of (ps_ret pcE) (he.go σ H _ s fun l H1 o1 n1 => k l H1 o1 (ex.trans n1))
/-- xs.append(e) -/
theorem gs_app {Ps : List MP} {l : Addr} (n : Nat) (ho : AE X o ρ m (R l) m) (he : AE X e ρ m P m1) (hn0 : ∃ Ps0, m[n]? = some (l, .lst Ps0)) (hn : m1[n]? = some (l, .lst Ps)) (hl : Ps.length < 100000) (k : GS X sts D ρ (m1.set n (l, .lst (Ps ++ [P]))) b0)
    (hpe : PE X (.Call (.Attribute o "append" apos) [e] [] cpos) (tBM X.K "list" rAppend (cE X o) (cA X [e]))) (hs1 : starEach [e] X.env = [(false, eval e X.env)] := by rfl)
    (hs : swapsWith (.Call (.Attribute o "append" apos) [e] [] cpos) none p.line X.env = pure false := by rfl) : GS X (.Expr (.Call (.Attribute o "append" apos) [e] [] cpos) p :: sts) D ρ m b0 :=
  gs_cons fun σ H s ex => cS_of (ps_expr hpe hs) (ho.go σ H _ s fun v H1 n1 o1 p1 => by
    have p1 : v = .ref l := p1
    subst p1
    obtain ⟨Ps0, hn0⟩ := hn0
    obtain ⟨u0, hu0, vs0, rfl, _⟩ := o1.ok n l _ hn0
    refine ⟨Or.inl ⟨rfl, vs0, Or.inl (Or.inl hu0)⟩, ?_⟩
    have s1 := s.go rfl n1 o1
    have ha : AA X [e] ρ m [P] m1 := aa_cons he aa_nil hs1
    refine ha.go σ H1 _ s1 fun ws H2 n2 o2 p2 => ?_
    match ws, p2 with
    | [y], .cons hy .nil =>
      obtain ⟨u, hu, vs, rfl, hall⟩ := o2.ok n l _ hn
      refine ⟨l, vs, y, rfl, rfl, hu, sz_lt (by rw [← hall.length]; exact hl), ?_⟩
      have hy2 : P.p (mask H2 (dom m1)) y := by rw [he.d]; exact hy
      have o3 : Own (m1.set n (l, .lst (Ps ++ [P]))) (upd H2 l (.lst (vs ++ [y]))) := o2.put hn ⟨_, rfl, hall.append (.cons hy2 .nil)⟩
      have hm : mask (upd H2 l (.lst (vs ++ [y]))) (dom (m1.set n (l, .lst (Ps ++ [P])))) = mask H2 (dom m) := by rw [dom_put hn, mask_put hn, he.d]
      refine k σ _ ⟨?_, o3⟩ ?_
      · rw [hm]; exact (s.env.mono n1).mono n2
      · rw [hm]; exact (ex.trans n1).trans n2)
/-- xs[i] = e -/
theorem gs_setO {Ps : List MP} {l : Addr} {k1 : Nat} (n : Nat) (he : AE X e ρ m P m1) (ho : AE X o ρ m1 (R l) m2) (hi : AE X a ρ m2 (I i) m3) (hn : m3[n]? = some (l, .lst Ps)) (hk : ixN Ps.length i = some k1) (k : GS X sts D ρ (m3.set n (l, .lst (Ps.set k1 P))) b0)
    (hps : PS X (.Assign [.Subscript o a p] e p2) (tAsg (cE X e) (gSub (cE X o) (cE X a) rSetL))) : GS X (.Assign [.Subscript o a p] e p2 :: sts) D ρ m b0 :=
  gs_cons fun σ H s ex => cS_of hps (he.go σ H _ s fun v H1 n1 o1 p1 => by
    have s1 := s.go he.d n1 o1
    refine ho.go σ H1 _ s1 fun w H2 n2 o2 p2 => ?_
    have s2 := s1.go ho.d n2 o2
    have p2 : w = .ref l := p2
    subst p2
    refine hi.go σ H2 _ s2 fun z H3 n3 o3 p3 => ?_
    have p3 : z = .int i := p3
    subst p3
    obtain ⟨u, hu, vs, rfl, hall⟩ := o3.ok n l _ hn
    refine ⟨l, vs, i, k1, rfl, rfl, hu, by rw [← hall.length]; exact hk, ?_⟩
    have hd3 : dom m3 = dom m := hi.d.trans (ho.d.trans he.d)
    have nn : Nxt m H H3 := ((n1.trans he.d n2).trans (ho.d.trans he.d) n3)
    have hp : P.p (mask H3 (dom m3)) v := by
      rw [hd3]
      exact P.mono (Ex.trans (n2.to he.d) (n3.to (ho.d.trans he.d))) p1
    have o4 : Own (m3.set n (l, .lst (Ps.set k1 P))) (upd H3 l (.lst (vs.set k1 v))) := o3.put hn ⟨_, rfl, hall.set hp k1⟩
    have hm : mask (upd H3 l (.lst (vs.set k1 v))) (dom (m3.set n (l, .lst (Ps.set k1 P)))) = mask H3 (dom m) := by rw [dom_put hn, mask_put hn, hd3]
    refine k σ _ ⟨?_, o4⟩ ?_
    · rw [hm]; exact s.env.mono nn
    · rw [hm]; exact ex.trans nn)
/-- o.f = e, o an owned instance -/
theorem gs_fldO {fs : List (Str × MP)} {l Cc : Addr} (n : Nat) (c : Cls X.K Cc) (hno : NoAttr X.K Cc fl) (he : AE X e ρ m P m1) (ho : AE X o ρ m1 (R l) m2) (hn : m2[n]? = some (l, .ins Cc fs)) (hl : fs.length < 1000) (k : GS X sts D ρ (m2.set n (l, .ins Cc (putM fl P fs))) b0)
    (hs : swapsWith e (some (.Attribute o fl p)) p2.line X.env = pure false := by rfl) : GS X (.Assign [.Attribute o fl p] e p2 :: sts) D ρ m b0 :=
  gs_cons fun σ H s ex => cS_of (ps_fld pcE pcE hs) (he.go σ H _ s fun v H1 n1 o1 p1 => by
    have s1 := s.go he.d n1 o1
    refine ho.go σ H1 _ s1 fun w H2 n2 o2 p2 => ?_
    have p2 : w = .ref l := p2
    subst p2
    obtain ⟨u, hu, dx, ws, rfl, hall⟩ := o2.ok n l _ hn
    refine ⟨l, Cc, dx, ws, rfl, hu, c, hno, by rw [← hall.length]; exact hl, ?_⟩
    have hd2 : dom m2 = dom m := ho.d.trans he.d
    have nn : Nxt m H H2 := n1.trans he.d n2
    have hp : P.p (mask H2 (dom m2)) v := by
      rw [hd2]
      exact P.mono (n2.to he.d) p1
    have o4 : Own (m2.set n (l, .ins Cc (putM fl P fs))) (upd H2 l (.ins Cc dx (putF fl v ws))) := o2.put hn ⟨dx, _, rfl, hall.put hp⟩
    have hm : mask (upd H2 l (.ins Cc dx (putF fl v ws))) (dom (m2.set n (l, .ins Cc (putM fl P fs)))) = mask H2 (dom m) := by rw [dom_put hn, mask_put hn, hd2]
    refine k σ _ ⟨?_, o4⟩ ?_
    · rw [hm]; exact s.env.mono nn
    · rw [hm]; exact ex.trans nn)
/-- e.f -/
theorem a_fld {fs : List (Str × MP)} {Cc : Addr} (c : Cls X.K Cc) (hno : NoAttr X.K Cc fl) (he : AE X e ρ m (O Cc fs) m1) (hf : fs.lookup fl = some P) (hb : attributeBase e fl X.env (eval e X.env) = eval e X.env := by rfl) : AE X (.Attribute e fl pos) ρ m P m1 :=
  Ev.can (pe_fld pcE hb) ⟨he.d, fun σ H Q s q => he.go σ H _ s fun v H1 n1 o1 p1 => by
    obtain ⟨l, dx, ws, rfl, h1, h2⟩ := p1
    obtain ⟨z, h3, h4⟩ := h2.look hf
    exact ⟨l, Cc, dx, ws, z, rfl, mask_sub _ _ h1, c, hno, h3, q z H1 n1 o1 h4⟩⟩
theorem a_fldO {fs : List (Str × MP)} {l Cc : Addr} (n : Nat) (c : Cls X.K Cc) (hno : NoAttr X.K Cc fl) (he : AE X e ρ m (R l) m1) (hn : m1[n]? = some (l, .ins Cc fs)) (hf : fs.lookup fl = some P) (hb : attributeBase e fl X.env (eval e X.env) = eval e X.env := by rfl) : AE X (.Attribute e fl pos) ρ m P m1 :=
  Ev.can (pe_fld pcE hb) ⟨he.d, fun σ H Q s q => he.go σ H _ s fun v H1 n1 o1 p1 => by
    obtain ⟨u, hu, dx, ws, rfl, h2⟩ := o1.ok n l _ hn
    obtain ⟨z, h3, h4⟩ := h2.look hf
    exact ⟨l, Cc, dx, ws, z, p1, hu, c, hno, h3, q z H1 n1 o1 (by rw [← he.d]; exact h4)⟩⟩
/-- a class of the text, made by its __init__ -/
structure Fc (P : Program) (w : World) (K : PySem.W.Frag) (mg : Str → Option Value) (base : Heap) (k : Nat) (x : Str) (Cc : Addr) (sp : Sp) (D : List V) : Prop where
  ex : ∃ (f : Addr) (fd : FuncData) (ps : List Str) (ds : List Value), L2.Mk K Cc f ∧ FnOk P w K mg base CX0 k f fd ps sp ∧ mg x = some (.ref Cc) ∧ Binds K fd ps ds ∧ Vals D ds
/-- what __init__ does: self is owned, and bare at first -/
theorem a_make {n lv : Nat} {S : Ct} {Dv : List V} {Ps : List MP} {Cc : Addr} {fs : List (Str × MP)} (F : Fc X.prog X.w X.K X.mg X.base n x Cc (spC S) Dv) (hr : Room lv X.A) (hn : n + 1 ≤ lv) (ha : AA X (e :: es) ρ m Ps m1)
    (h : ∀ s, S (R s :: (Ps ++ Dv.map C)) ((s, .ins Cc []) :: m1) N ((s, .ins Cc fs) :: m2)) (hd : dom m2 = dom m1 := by rfl) (hg : Gl X x := by rfl)
    (hdb : (x == ("__debug__" : Str)) = false := by decide) (he : starEach (e :: es) X.env = (false, eval e X.env) :: starEach es X.env := by rfl) (hpl : (backTo pos (starEach es X.env)).any (·.1) = false := by rfl) : AE X (.Call (.Name x p) (e :: es) [] pos) ρ m (O Cc fs) m2 := by
  obtain ⟨g, fd, ps, ds, h0, h1, h2, h4, h5⟩ := F.ex
  refine Ev.can (pe_make h0 h1 (hr.mono hn) hg h2 h4 h5 (pass0 (X := X)) pcA hdb he hpl) ⟨hd.trans ha.d, fun σ H Q s q => ?_⟩
  refine ha.go σ H _ s fun vs H1 n1 o1 p1 => ?_
  intro y dx hy hdx hne
  have hy2 : upd H1 dx (.own y) y = none := by rw [upd_ne (Ne.symm hne)]; exact hy
  have o2 : Own m1 (upd H1 dx (.own y)) := o1.ext (Ex.new hdx)
  have e1 : Ex H1 (upd (upd H1 dx (.own y)) y (.ins Cc dx [])) := (Ex.new hdx).trans (Ex.new hy2)
  have o3 : Own ((y, .ins Cc []) :: m1) (upd (upd H1 dx (.own y)) y (.ins Cc dx [])) := o2.add hy2 ⟨dx, [], rfl, .nil⟩
  have sight : Ex (mask H1 (dom m1)) (mask (upd (upd H1 dx (.own y)) y (.ins Cc dx [])) (dom ((y, MO.ins Cc []) :: m1))) := (mask_ex (Ex.new hdx)).trans (new_sight hy2)
  refine ⟨_, _, _, _, h y, by simp only [dom, List.map_cons]; rw [show m2.map (·.1) = m1.map (·.1) from hd], .cons rfl (All.append ((by rw [ha.d]; exact p1 : All (mask H1 (dom m1)) Ps vs).mono sight) all_c), o3, fun v H' n3 o4 pv => ?_⟩
  refine ⟨pv, ?_⟩
  have n4 : Ex (mask H1 (dom m1)) (mask H' (dom m1)) := sight.trans (Ex.trans n3 mask_drop)
  refine q (.ref y) H' (n1.trans ha.d n4) o4.drop ?_
  obtain ⟨u, hu, dx', ws, rfl, hall⟩ := o4.ok 0 y _ rfl
  refine ⟨y, dx', ws, rfl, ?_, ?_⟩
  · rw [mask_out]
    · exact hu
    · rw [← ha.d, ← hd]; exact (List.nodup_cons.mp o4.nd).1
  · have := hall.mono (mask_drop (p := (y, MO.ins Cc fs)) (m := m2) (H := H'))
    rw [hd, ha.d] at this
    exact this
/-! ### a store of which one place is known -/
theorem set_at {m : Sto} {n : Nat} {q : Addr × MO} (h : n < m.length) : (m.set n q)[n]? = some q := by
  rw [List.getElem?_set_self h]
theorem set_id {m : Sto} {n : Nat} {q : Addr × MO} (h : m[n]? = some q) : m.set n q = m := by
  refine List.ext_getElem? fun j => ?_
  rw [List.getElem?_set]
  split
  · rename_i e; subst e
    rw [if_pos (List.getElem?_eq_some_iff.mp h).1, h]
  · rfl
theorem a_ixS {Ps : List MP} {l : Addr} {n : Nat} (hl : n < m.length) (ha : AE X a ρ (m.set n (l, .lst Ps)) (R l) (m.set n (l, .lst Ps))) (hb : AE X b ρ (m.set n (l, .lst Ps)) (I i) (m.set n (l, .lst Ps))) (hi : atI Ps i = some P := by rfl) (hs : PlainIx b := by exact fun _ _ => rfl) :
    AE X (.Subscript a b pos) ρ (m.set n (l, .lst Ps)) P (m.set n (l, .lst Ps)) := a_ixO n ha hb (set_at hl) hi hs
theorem gs_setS {Ps : List MP} {l : Addr} {k1 : Nat} {n : Nat} (hl : n < m.length) (he : AE X e ρ (m.set n (l, .lst Ps)) P (m.set n (l, .lst Ps))) (ho : AE X o ρ (m.set n (l, .lst Ps)) (R l) (m.set n (l, .lst Ps))) (hi : AE X a ρ (m.set n (l, .lst Ps)) (I i) (m.set n (l, .lst Ps))) (hk : ixN Ps.length i = some k1 := by rfl)
    (k : GS X sts D ρ (m.set n (l, .lst (Ps.set k1 P))) b0)
    (hps : PS X (.Assign [.Subscript o a p] e p2) (tAsg (cE X e) (gSub (cE X o) (cE X a) rSetL)) := by exact ps_asg pcE (pg_sub pcE pcE set_list)) : GS X (.Assign [.Subscript o a p] e p2 :: sts) D ρ (m.set n (l, .lst Ps)) b0 :=
  gs_setO n he ho hi (set_at hl) hk (by rw [List.set_set]; exact k) hps
/-- a branching whose ways meet in a state of W -/
theorem gs_ifM {t : Bool} {body orelse : List Stmt} (W : Rho → Sto → Prop) (hc : AT X c ρ m t m1) (h1 : t = true → GS X body { D with nx := Sts W b0 } ρ m1 b0) (h2 : t = false → GS X orelse { D with nx := Sts W b0 } ρ m1 b0)
    (k : ∀ ρ' m', W ρ' m' → GS X sts D ρ' m' b0) : GS X (.If c body orelse p :: sts) D ρ m b0 :=
  gs_meet (Sts W b0) (fun σ H s ex => cS_of (ps_if pcT pcSs pcSs) (hc.go σ H _ s fun H1 n1 o1 => by
    have ex1 : Ex b0 (mask H1 (dom m1)) := by rw [hc.d]; exact ex.trans n1
    cases t with
    | true =>
      show cSs X body _ σ H1
      exact h1 rfl σ H1 (s.go hc.d n1 o1) ex1
    | false =>
      show cSs X orelse _ σ H1
      exact h2 rfl σ H1 (s.go hc.d n1 o1) ex1)) fun σ H ⟨ρ2, m2, w, s2, e2⟩ => k ρ2 m2 w σ H s2 e2
end
end SV

/-! SVMor: comprehensions, unpacking, texts, dicts, isinstance. -/
namespace SV
open PySem L2 PyProof.Rows
open Evl (Ex ex_rd ex_l ex_t sz_of sz_lt)
section
variable {X : Cx} {ρ : Rho} {m m1 m2 m3 : Sto} {P P1 P2 P3 : MP} {mo mo' : MO} {e a b c f o elt iter : Expr} {es rest : List Expr} {pos p p2 p3 apos cpos px : Pos} {x fl : Str} {i j k : Int} {te ta : TE} {A : TA} {D : Ends} {b0 : Hp} {sts : List Stmt} {scope : Scope}
/-! ### comprehensions -/
def wipeR (ρ : Rho) : List Nat → Rho
  | [] => ρ
  | v :: vs => (wipeR ρ vs).set v none
theorem slots_none {H : Hp} : ∀ {ρ : Rho} {σ : L2.St} (i : Nat), Slots H ρ σ → Slots H (ρ.set i none) (σ.set i none)
  | _, _, _, .nil => .nil
  | _, _, 0, .cons _ t => .cons (fun _ q => nomatch q) t
  | _, _, i + 1, .cons q t => .cons q (slots_none i t)
theorem slots_wipe {H : Hp} {σ : L2.St} (h : Slots H ρ σ) : ∀ vs : List Nat, Slots H (wipeR ρ vs) (wipe σ vs)
  | [] => h
  | v :: vs => slots_none v (slots_wipe h vs)
/-- the element's reading, whatever the block -/
def cB (X : Cx) (scope : Scope) (e : Expr) : TE := fun σ H Q => ∀ (s : Shared) (H0 : Hp) (Cc : Addr) (cl : List (Str × Addr)) (fp : List Addr), cE (X.blk s H0 scope (compEnvC scope cl Cc X.env) fp) e σ H Q
def cBT (X : Cx) (scope : Scope) (e : Expr) : TT := fun σ H Q => ∀ (s : Shared) (H0 : Hp) (Cc : Addr) (cl : List (Str × Addr)) (fp : List Addr), cT (X.blk s H0 scope (compEnvC scope cl Cc X.env) fp) e σ H Q
theorem pcB : ∀ (s : Shared) (H0 : Hp) (Cc : Addr) (cl : List (Str × Addr)) (fp : List Addr), PE (X.blk s H0 scope (compEnvC scope cl Cc X.env) fp) e (cB X scope e) := fun s H0 Cc cl fp => ⟨fun pins sh σ H Q I h => h s H0 Cc cl fp pins sh I⟩
theorem pcBT : ∀ (s : Shared) (H0 : Hp) (Cc : Addr) (cl : List (Str × Addr)) (fp : List Addr), PT (X.blk s H0 scope (compEnvC scope cl Cc X.env) fp) e (cBT X scope e) := fun s H0 Cc cl fp => ⟨fun pins sh σ H Q I h => h s H0 Cc cl fp pins sh I⟩
abbrev BE (X : Cx) (scope : Scope) (e : Expr) (ρ : Rho) (m : Sto) (P : MP) (m' : Sto) : Prop := ∀ (s : Shared) (H0 : Hp) (Cc : Addr) (cl : List (Str × Addr)) (fp : List Addr), AE (X.blk s H0 scope (compEnvC scope cl Cc X.env) fp) e ρ m P m'
abbrev BT (X : Cx) (scope : Scope) (e : Expr) (ρ : Rho) (m : Sto) (b : Bool) (m' : Sto) : Prop := ∀ (s : Shared) (H0 : Hp) (Cc : Addr) (cl : List (Str × Addr)) (fp : List Addr), AT (X.blk s H0 scope (compEnvC scope cl Cc X.env) fp) e ρ m b m'
theorem BE.ev (h : BE X scope e ρ m P m1) (hd : dom m1 = dom m) : Ev (cB X scope e) ρ m P m1 := ⟨hd, fun σ H Q s q sh H0 Cc cl fp => (h sh H0 Cc cl fp).go σ H Q s q⟩
theorem BT.ev {t : Bool} (h : BT X scope e ρ m t m1) (hd : dom m1 = dom m) : EvT (cBT X scope e) ρ m t m1 := ⟨hd, fun σ H Q s q sh H0 Cc cl fp => (h sh H0 Cc cl fp).go σ H Q s q⟩
theorem et_yes : EvT tYes ρ m true m := ⟨rfl, fun σ H Q s q => q H .refl s.own⟩
/-- the state of a comprehension behind i items: its list D holds what is made so far -/
structure LcSt (ρ : Rho) (m : Sto) (σ : L2.St) (b1 : Hp) (Dl : Addr) (Qs : List MP) (H : Hp) : Prop where
  own : Own ((Dl, .lst Qs) :: m) H
  sl : Slots (mask H (dom ((Dl, .lst Qs) :: m))) ρ σ
  gr : Ex b1 (mask H (dom ((Dl, .lst Qs) :: m)))
/-- the items made: those that the test lets in -/
def picks (bs : Nat → Bool) (Rs : Nat → MP) (n : Nat) : List MP := ((List.range n).filter bs).map Rs
theorem picks_yes {bs : Nat → Bool} {Rs : Nat → MP} {n : Nat} (h : bs n = true) : picks bs Rs (n + 1) = picks bs Rs n ++ [Rs n] := by
  unfold picks
  rw [List.range_succ, List.filter_append, List.map_append, List.filter_cons, if_pos h] <;> rfl
theorem picks_no {bs : Nat → Bool} {Rs : Nat → MP} {n : Nat} (h : bs n = false) : picks bs Rs (n + 1) = picks bs Rs n := by
  unfold picks
  rw [List.range_succ, List.filter_append, List.map_append, List.filter_cons, if_neg (by rw [h]; decide)]
  show _ ++ [] = _
  rw [List.append_nil]
theorem picks_len {bs : Nat → Bool} {Rs : Nat → MP} {n : Nat} : (picks bs Rs n).length ≤ n := by
  unfold picks
  rw [List.length_map]
  have h := List.length_filter_le bs (List.range n)
  rw [List.length_range] at h
  exact h
theorem picks_all {Rs : Nat → MP} {n : Nat} : picks (fun _ => true) Rs n = (List.range n).map Rs := by
  unfold picks
  rw [List.filter_eq_self.mpr (fun _ _ => rfl)]
/-- one turn -/
theorem lc_turn {tt : TT} {te : TE} {σ : L2.St} {b1 : Hp} {Dl : Addr} {bs : Nat → Bool} {Rs : Nat → MP} {n : Nat} {v : V} {jx : Nat} {H : Hp} {ρw : Rho} {mn mn' : Sto} (st : LcSt ρw mn σ b1 Dl (picks bs Rs n) H) (hn : n < 50000) (hv : P.p b1 v) (hdm : dom mn' = dom mn)
    (ht : ∀ q, EvT tt (ρw.set jx (some P)) (q :: mn) (bs n) (q :: mn)) (he : bs n = true → ∀ q, Ev te (ρw.set jx (some P)) (q :: mn) (Rs n) (q :: mn')) (hno : bs n = false → mn' = mn) :
    tt (σ.set jx (some v)) H fun b H3 => if b = true then te (σ.set jx (some v)) H3 fun y H4 => ∃ acc, H4 Dl = some (.lst acc) ∧ acc.length < sizeLine ∧ LcSt ρw mn' σ b1 Dl (picks bs Rs (n + 1)) (upd H4 Dl (.lst (acc ++ [y]))) else LcSt ρw mn' σ b1 Dl (picks bs Rs (n + 1)) H3 := by
  have hv' := P.mono st.gr hv
  refine (ht (Dl, .lst (picks bs Rs n))).go _ H _ ⟨st.sl.set hv' jx, st.own⟩ fun H3 n3 o3 => ?_
  cases hb : bs n with
  | false =>
    rw [if_neg Bool.false_ne_true, picks_no hb, hno hb]
    exact ⟨o3, st.sl.mono n3, st.gr.trans n3⟩
  | true =>
    rw [if_pos rfl]
    refine (he hb (Dl, .lst (picks bs Rs n))).go _ H3 _ ⟨(st.sl.set hv' jx).mono n3, o3⟩ fun y H4 n4 o4 p4 => ?_
    obtain ⟨u, hu, acc, rfl, hall⟩ := o4.ok 0 Dl _ rfl
    have hdq : dom ((Dl, MO.lst (picks bs Rs n)) :: mn') = dom ((Dl, MO.lst (picks bs Rs n)) :: mn) := by simp only [dom, List.map_cons]; rw [show mn'.map (·.1) = mn.map (·.1) from hdm]
    have p4' : (Rs n).p (mask H4 (dom ((Dl, MO.lst (picks bs Rs n)) :: mn'))) y := by rw [hdq]; exact p4
    refine ⟨acc, hu, sz_lt ?_, ?_⟩
    · rw [← hall.length]
      have := picks_len (bs := bs) (Rs := Rs) (n := n)
      omega
    · rw [picks_yes hb]
      have o5 : Own ((Dl, MO.lst (picks bs Rs n ++ [Rs n])) :: mn') (upd H4 Dl (.lst (acc ++ [y]))) := o4.put (i := 0) (mo' := .lst (picks bs Rs n ++ [Rs n])) rfl ⟨_, rfl, hall.append (.cons p4' .nil)⟩
      have hm : mask (upd H4 Dl (.lst (acc ++ [y]))) (dom ((Dl, MO.lst (picks bs Rs n ++ [Rs n])) :: mn')) = mask H4 (dom ((Dl, MO.lst (picks bs Rs n)) :: mn)) := by
        rw [← hdq]
        exact mask_put (m := (Dl, MO.lst (picks bs Rs n)) :: mn') (i := 0) (mo := .lst (picks bs Rs n)) rfl
      exact ⟨o5, by rw [hm]; exact (st.sl.mono n3).mono n4, by rw [hm]; exact (st.gr.trans n3).trans n4⟩
theorem LcSt.start {σ : L2.St} {H : Hp} {bs : Nat → Bool} {Rs : Nat → MP} {own : List Nat} (s : Stt ρ m σ H) {Dl : Addr} (h : H Dl = none) : LcSt (wipeR ρ own) m (wipe σ own) (mask H (dom m)) Dl (picks bs Rs 0) (upd H Dl (.lst [])) :=
  ⟨s.own.add h ⟨[], rfl, .nil⟩, slots_wipe (s.env.mono (new_sight h)) own, new_sight h⟩
/-- the list is made: it is a value -/
theorem LcSt.fin {K : PySem.W.Frag} {ρw : Rho} {σ : L2.St} {b1 H : Hp} {Dl : Addr} {Qs : List MP} {Q : VK} (st : LcSt ρw m σ b1 Dl Qs H) (q : ∀ v H', Own m H' → Ex b1 (mask H' (dom m)) → (L K Qs).p (mask H' (dom m)) v → Q v H') : Q (.ref Dl) H := by
  obtain ⟨u, hu, vs, rfl, hall⟩ := st.own.ok 0 Dl _ rfl
  refine q _ H st.own.drop (st.gr.trans mask_drop) ⟨Dl, vs, rfl, Or.inl (Or.inl ?_), hall.mono mask_drop⟩
  rw [mask_out (List.nodup_cons.mp st.own.nd).1]
  exact hu
theorem LcSt.finO {ρw : Rho} {σ : L2.St} {b1 H : Hp} {Dl : Addr} {Qs : List MP} {Q : VK} (st : LcSt ρw m σ b1 Dl Qs H) (q : ∀ a H', Own ((a, .lst Qs) :: m) H' → Ex b1 (mask H' (dom ((a, .lst Qs) :: m))) → Q (.ref a) H') : Q (.ref Dl) H := q Dl H st.own st.gr
/-- what stands for «for x in ..» of a comprehension, its test, its element; jx: x's slot -/
structure LcOk (X : Cx) (scope : Scope) (own : List (Str × Nat)) (x : Str) (jx : Nat) : Prop where
  hc : X.calm = true
  hN : X.N.Nodup
  ok : BlkOk X.N X.env.scope scope own
  hj : X.N[jx]? = some x
  hx : Loc (relabel scope X.env) x
  hf : ((scope.names.lookup x == some .cell) = true) ∨ (relabel scope X.env).names.lookup x = some .local
  hw : ∀ (σ : L2.St) (v : V), wipe ((wipe σ (own.map (·.2))).set jx (some v)) (own.map (·.2)) = wipe σ (own.map (·.2))
theorem LcOk.pg {own : List (Str × Nat)} {jx : Nat} (h : LcOk X scope own x jx) : ∀ (s : Shared) (H : Hp) (C : Addr) (cl : List (Str × Addr)) (fp : List Addr), PG (X.blk s H scope (compEnvC scope cl C X.env) fp) (.Name x px) (gName jx) := fun s H C cl fp => pg_name h.hN h.hj h.hx h.hf
variable {own : List (Str × Nat)} {jx : Nat}
/-- [elt for x in xs], xs a list; the store may turn -/
theorem a_lcL {Ps : List MP} (ok : LcOk X scope own x jx) (hi : AE X iter ρ m (L X.K Ps) m1) (ms : Nat → Sto) (Rs : Nat → MP) (h0 : ms 0 = m1) (hd : ∀ n, dom (ms n) = dom m1) (hz : Ps.length ≤ 40000)
    (he : ∀ n P q, Ps[n]? = some P → BE X scope elt ((wipeR ρ (own.map (·.2))).set jx (some P)) (q :: ms n) (Rs n) (q :: ms (n + 1))) (hs : ∀ x, foldedSetIterable iter X.env x = pure x := by intro _; rfl) :
    AE X (.ListComp elt [⟨.Name x px, iter, [], 0⟩] scope pos) ρ m (L X.K ((List.range Ps.length).map Rs)) (ms Ps.length) :=
  Ev.can (pe_lc ok.hc ok.hN (pi_list pcE) ok.ok ok.pg (fun _ _ _ _ _ => pts_nil) pcB hs) ⟨(hd _).trans hi.d, fun σ H Q s q => hi.go σ H _ s fun v H1 n1 o1 p1 => by
    obtain ⟨l, vs, rfl, hl, hall⟩ := p1
    have hlen := hall.length
    refine ⟨l, rfl, ⟨vs, ex_l mask_sub hl⟩, fun Dl hDl => ?_⟩
    have s1 := s.go hi.d n1 o1
    refine lc_list (xs := vs) (fun n H' => LcSt (wipeR ρ (own.map (·.2))) (ms n) (wipe σ (own.map (·.2))) (mask H1 (dom m1)) Dl (picks (fun _ => true) Rs n) H') (by have := LcSt.start (bs := fun _ => true) (Rs := Rs) (own := own.map (·.2)) s1 hDl; rw [h0]; exact this) (fun n H' _ st => ex_l mask_sub (ex_l st.gr (by rw [hi.d]; exact hl))) ?_ ?_
    · intro n y H' hy st
      obtain ⟨P, hP, hpy⟩ := hall.getR hy
      have hn : n < Ps.length := (List.getElem?_eq_some_iff.mp hP).1
      refine ⟨ok.hw σ y, ?_⟩
      exact lc_turn (mn' := ms (n + 1)) st (by omega) (by rw [hi.d]; exact hpy) ((hd _).trans (hd _).symm) (fun q => et_yes) (fun _ q => BE.ev (he n P q hP) (by have e1 := hd (n + 1); have e2 := hd n; simp only [dom, List.map_cons] at e1 e2 ⊢; rw [e1, e2])) (fun z => nomatch z)
    · intro H' st
      rw [← hlen] at st
      refine st.fin (K := X.K) fun v H'' o'' g'' p'' => q v H'' ?_ o'' ?_
      · have g3 : Ex (mask H1 (dom m)) (mask H'' (dom m)) := by
          have g4 : Ex (mask H1 (dom m1)) (mask H'' (dom (ms Ps.length))) := g''
          rw [hd, hi.d] at g4; exact g4
        exact Ex.trans n1 g3
      · rw [← picks_all]
        have p3 : (L X.K (picks (fun _ => true) Rs Ps.length)).p (mask H'' (dom (ms Ps.length))) v := p''
        rw [hd, hi.d] at p3; exact p3⟩
/-- [elt for x in xs], xs a list; the store may turn -/
theorem o_lcL {Ps : List MP} (ok : LcOk X scope own x jx) (hi : AE X iter ρ m (L X.K Ps) m1) (ms : Nat → Sto) (Rs : Nat → MP) (h0 : ms 0 = m1) (hd : ∀ n, dom (ms n) = dom m1) (hz : Ps.length ≤ 40000)
    (he : ∀ n P q, Ps[n]? = some P → BE X scope elt ((wipeR ρ (own.map (·.2))).set jx (some P)) (q :: ms n) (Rs n) (q :: ms (n + 1))) (hs : ∀ x, foldedSetIterable iter X.env x = pure x := by intro _; rfl) :
    AO X (.ListComp elt [⟨.Name x px, iter, [], 0⟩] scope pos) ρ m (.lst ((List.range Ps.length).map Rs)) (ms Ps.length) :=
  EvO.can (pe_lc ok.hc ok.hN (pi_list pcE) ok.ok ok.pg (fun _ _ _ _ _ => pts_nil) pcB hs) ⟨(hd _).trans hi.d, fun σ H Q s q => hi.go σ H _ s fun v H1 n1 o1 p1 => by
    obtain ⟨l, vs, rfl, hl, hall⟩ := p1
    have hlen := hall.length
    refine ⟨l, rfl, ⟨vs, ex_l mask_sub hl⟩, fun Dl hDl => ?_⟩
    have s1 := s.go hi.d n1 o1
    refine lc_list (xs := vs) (fun n H' => LcSt (wipeR ρ (own.map (·.2))) (ms n) (wipe σ (own.map (·.2))) (mask H1 (dom m1)) Dl (picks (fun _ => true) Rs n) H') (by have := LcSt.start (bs := fun _ => true) (Rs := Rs) (own := own.map (·.2)) s1 hDl; rw [h0]; exact this) (fun n H' _ st => ex_l mask_sub (ex_l st.gr (by rw [hi.d]; exact hl))) ?_ ?_
    · intro n y H' hy st
      obtain ⟨P, hP, hpy⟩ := hall.getR hy
      have hn : n < Ps.length := (List.getElem?_eq_some_iff.mp hP).1
      refine ⟨ok.hw σ y, ?_⟩
      exact lc_turn (mn' := ms (n + 1)) st (by omega) (by rw [hi.d]; exact hpy) ((hd _).trans (hd _).symm) (fun q => et_yes) (fun _ q => BE.ev (he n P q hP) (by have e1 := hd (n + 1); have e2 := hd n; simp only [dom, List.map_cons] at e1 e2 ⊢; rw [e1, e2])) (fun z => nomatch z)
    · intro H' st
      rw [← hlen] at st
      refine st.finO fun l' H'' o'' g'' => ?_
      have n1' : Ex (mask H (dom m)) (mask H1 (dom m1)) := by rw [hi.d]; exact n1
      rw [picks_all] at o'' g''
      exact q l' H'' o'' (n1'.trans g'')⟩
/-- [elt if test for x in xs], xs a list; the store may turn -/
theorem a_lcLf {Ps : List MP} (ok : LcOk X scope own x jx) (hi : AE X iter ρ m (L X.K Ps) m1) (bs : Nat → Bool) {tst : Expr} (ms : Nat → Sto) (Rs : Nat → MP) (h0 : ms 0 = m1) (hd : ∀ n, dom (ms n) = dom m1) (hz : Ps.length ≤ 40000)
    (ht : ∀ n P q, Ps[n]? = some P → BT X scope tst ((wipeR ρ (own.map (·.2))).set jx (some P)) (q :: ms n) (bs n) (q :: ms n))
    (hno : ∀ n, bs n = false → ms (n + 1) = ms n) (he : ∀ n P q, Ps[n]? = some P → bs n = true → BE X scope elt ((wipeR ρ (own.map (·.2))).set jx (some P)) (q :: ms n) (Rs n) (q :: ms (n + 1))) (hs : ∀ x, foldedSetIterable iter X.env x = pure x := by intro _; rfl) :
    AE X (.ListComp elt [⟨.Name x px, iter, [tst], 0⟩] scope pos) ρ m (L X.K (picks bs Rs Ps.length)) (ms Ps.length) :=
  Ev.can (pe_lc ok.hc ok.hN (pi_list pcE) ok.ok ok.pg (fun s H0 Cc cl fp => pts_one (pcBT s H0 Cc cl fp)) pcB hs) ⟨(hd _).trans hi.d, fun σ H Q s q => hi.go σ H _ s fun v H1 n1 o1 p1 => by
    obtain ⟨l, vs, rfl, hl, hall⟩ := p1
    have hlen := hall.length
    refine ⟨l, rfl, ⟨vs, ex_l mask_sub hl⟩, fun Dl hDl => ?_⟩
    have s1 := s.go hi.d n1 o1
    refine lc_list (xs := vs) (fun n H' => LcSt (wipeR ρ (own.map (·.2))) (ms n) (wipe σ (own.map (·.2))) (mask H1 (dom m1)) Dl (picks (bs) Rs n) H') (by have := LcSt.start (bs := bs) (Rs := Rs) (own := own.map (·.2)) s1 hDl; rw [h0]; exact this) (fun n H' _ st => ex_l mask_sub (ex_l st.gr (by rw [hi.d]; exact hl))) ?_ ?_
    · intro n y H' hy st
      obtain ⟨P, hP, hpy⟩ := hall.getR hy
      have hn : n < Ps.length := (List.getElem?_eq_some_iff.mp hP).1
      refine ⟨ok.hw σ y, ?_⟩
      exact lc_turn (mn' := ms (n + 1)) st (by omega) (by rw [hi.d]; exact hpy) ((hd _).trans (hd _).symm) (fun q => BT.ev (ht n P q hP) rfl) (fun hb q => BE.ev (he n P q hP hb) (by have e1 := hd (n + 1); have e2 := hd n; simp only [dom, List.map_cons] at e1 e2 ⊢; rw [e1, e2])) (hno n)
    · intro H' st
      rw [← hlen] at st
      refine st.fin (K := X.K) fun v H'' o'' g'' p'' => q v H'' ?_ o'' ?_
      · have g3 : Ex (mask H1 (dom m)) (mask H'' (dom m)) := by
          have g4 : Ex (mask H1 (dom m1)) (mask H'' (dom (ms Ps.length))) := g''
          rw [hd, hi.d] at g4; exact g4
        exact Ex.trans n1 g3
      · have p3 : (L X.K (picks (bs) Rs Ps.length)).p (mask H'' (dom (ms Ps.length))) v := p''
        rw [hd, hi.d] at p3; exact p3⟩
/-- [elt if test for x in xs], xs a list; the store may turn -/
theorem o_lcLf {Ps : List MP} (ok : LcOk X scope own x jx) (hi : AE X iter ρ m (L X.K Ps) m1) (bs : Nat → Bool) {tst : Expr} (ms : Nat → Sto) (Rs : Nat → MP) (h0 : ms 0 = m1) (hd : ∀ n, dom (ms n) = dom m1) (hz : Ps.length ≤ 40000)
    (ht : ∀ n P q, Ps[n]? = some P → BT X scope tst ((wipeR ρ (own.map (·.2))).set jx (some P)) (q :: ms n) (bs n) (q :: ms n))
    (hno : ∀ n, bs n = false → ms (n + 1) = ms n) (he : ∀ n P q, Ps[n]? = some P → bs n = true → BE X scope elt ((wipeR ρ (own.map (·.2))).set jx (some P)) (q :: ms n) (Rs n) (q :: ms (n + 1))) (hs : ∀ x, foldedSetIterable iter X.env x = pure x := by intro _; rfl) :
    AO X (.ListComp elt [⟨.Name x px, iter, [tst], 0⟩] scope pos) ρ m (.lst (picks bs Rs Ps.length)) (ms Ps.length) :=
  EvO.can (pe_lc ok.hc ok.hN (pi_list pcE) ok.ok ok.pg (fun s H0 Cc cl fp => pts_one (pcBT s H0 Cc cl fp)) pcB hs) ⟨(hd _).trans hi.d, fun σ H Q s q => hi.go σ H _ s fun v H1 n1 o1 p1 => by
    obtain ⟨l, vs, rfl, hl, hall⟩ := p1
    have hlen := hall.length
    refine ⟨l, rfl, ⟨vs, ex_l mask_sub hl⟩, fun Dl hDl => ?_⟩
    have s1 := s.go hi.d n1 o1
    refine lc_list (xs := vs) (fun n H' => LcSt (wipeR ρ (own.map (·.2))) (ms n) (wipe σ (own.map (·.2))) (mask H1 (dom m1)) Dl (picks (bs) Rs n) H') (by have := LcSt.start (bs := bs) (Rs := Rs) (own := own.map (·.2)) s1 hDl; rw [h0]; exact this) (fun n H' _ st => ex_l mask_sub (ex_l st.gr (by rw [hi.d]; exact hl))) ?_ ?_
    · intro n y H' hy st
      obtain ⟨P, hP, hpy⟩ := hall.getR hy
      have hn : n < Ps.length := (List.getElem?_eq_some_iff.mp hP).1
      refine ⟨ok.hw σ y, ?_⟩
      exact lc_turn (mn' := ms (n + 1)) st (by omega) (by rw [hi.d]; exact hpy) ((hd _).trans (hd _).symm) (fun q => BT.ev (ht n P q hP) rfl) (fun hb q => BE.ev (he n P q hP hb) (by have e1 := hd (n + 1); have e2 := hd n; simp only [dom, List.map_cons] at e1 e2 ⊢; rw [e1, e2])) (hno n)
    · intro H' st
      rw [← hlen] at st
      refine st.finO fun l' H'' o'' g'' => ?_
      have n1' : Ex (mask H (dom m)) (mask H1 (dom m1)) := by rw [hi.d]; exact n1
      exact q l' H'' o'' (n1'.trans g'')⟩
/-- [elt for x in xs], xs a tuple; the store may turn -/
theorem a_lcT {Ps : List MP} (ok : LcOk X scope own x jx) (hi : AE X iter ρ m (T X.K Ps) m1) (ms : Nat → Sto) (Rs : Nat → MP) (h0 : ms 0 = m1) (hd : ∀ n, dom (ms n) = dom m1) (hz : Ps.length ≤ 40000)
    (he : ∀ n P q, Ps[n]? = some P → BE X scope elt ((wipeR ρ (own.map (·.2))).set jx (some P)) (q :: ms n) (Rs n) (q :: ms (n + 1))) (hs : ∀ x, foldedSetIterable iter X.env x = pure x := by intro _; rfl) :
    AE X (.ListComp elt [⟨.Name x px, iter, [], 0⟩] scope pos) ρ m (L X.K ((List.range Ps.length).map Rs)) (ms Ps.length) :=
  Ev.can (pe_lc ok.hc ok.hN (pi_tup pcE) ok.ok ok.pg (fun _ _ _ _ _ => pts_nil) pcB hs) ⟨(hd _).trans hi.d, fun σ H Q s q => hi.go σ H _ s fun v H1 n1 o1 p1 => by
    obtain ⟨l, vs, rfl, hl, hall⟩ := p1
    have hlen := hall.length
    refine ⟨l, rfl, ⟨vs, ex_t mask_sub hl⟩, fun Dl hDl => ?_⟩
    have s1 := s.go hi.d n1 o1
    refine lc_tup (xs := vs) (fun n H' => LcSt (wipeR ρ (own.map (·.2))) (ms n) (wipe σ (own.map (·.2))) (mask H1 (dom m1)) Dl (picks (fun _ => true) Rs n) H') (by have := LcSt.start (bs := fun _ => true) (Rs := Rs) (own := own.map (·.2)) s1 hDl; rw [h0]; exact this) (fun n H' _ st => ex_t mask_sub (ex_t st.gr (by rw [hi.d]; exact hl))) ?_ ?_
    · intro n y H' hy st
      obtain ⟨P, hP, hpy⟩ := hall.getR hy
      have hn : n < Ps.length := (List.getElem?_eq_some_iff.mp hP).1
      refine ⟨ok.hw σ y, ?_⟩
      exact lc_turn (mn' := ms (n + 1)) st (by omega) (by rw [hi.d]; exact hpy) ((hd _).trans (hd _).symm) (fun q => et_yes) (fun _ q => BE.ev (he n P q hP) (by have e1 := hd (n + 1); have e2 := hd n; simp only [dom, List.map_cons] at e1 e2 ⊢; rw [e1, e2])) (fun z => nomatch z)
    · intro H' st
      rw [← hlen] at st
      refine st.fin (K := X.K) fun v H'' o'' g'' p'' => q v H'' ?_ o'' ?_
      · have g3 : Ex (mask H1 (dom m)) (mask H'' (dom m)) := by
          have g4 : Ex (mask H1 (dom m1)) (mask H'' (dom (ms Ps.length))) := g''
          rw [hd, hi.d] at g4; exact g4
        exact Ex.trans n1 g3
      · rw [← picks_all]
        have p3 : (L X.K (picks (fun _ => true) Rs Ps.length)).p (mask H'' (dom (ms Ps.length))) v := p''
        rw [hd, hi.d] at p3; exact p3⟩
/-- [elt for x in xs], xs a tuple; the store may turn -/
theorem o_lcT {Ps : List MP} (ok : LcOk X scope own x jx) (hi : AE X iter ρ m (T X.K Ps) m1) (ms : Nat → Sto) (Rs : Nat → MP) (h0 : ms 0 = m1) (hd : ∀ n, dom (ms n) = dom m1) (hz : Ps.length ≤ 40000)
    (he : ∀ n P q, Ps[n]? = some P → BE X scope elt ((wipeR ρ (own.map (·.2))).set jx (some P)) (q :: ms n) (Rs n) (q :: ms (n + 1))) (hs : ∀ x, foldedSetIterable iter X.env x = pure x := by intro _; rfl) :
    AO X (.ListComp elt [⟨.Name x px, iter, [], 0⟩] scope pos) ρ m (.lst ((List.range Ps.length).map Rs)) (ms Ps.length) :=
  EvO.can (pe_lc ok.hc ok.hN (pi_tup pcE) ok.ok ok.pg (fun _ _ _ _ _ => pts_nil) pcB hs) ⟨(hd _).trans hi.d, fun σ H Q s q => hi.go σ H _ s fun v H1 n1 o1 p1 => by
    obtain ⟨l, vs, rfl, hl, hall⟩ := p1
    have hlen := hall.length
    refine ⟨l, rfl, ⟨vs, ex_t mask_sub hl⟩, fun Dl hDl => ?_⟩
    have s1 := s.go hi.d n1 o1
    refine lc_tup (xs := vs) (fun n H' => LcSt (wipeR ρ (own.map (·.2))) (ms n) (wipe σ (own.map (·.2))) (mask H1 (dom m1)) Dl (picks (fun _ => true) Rs n) H') (by have := LcSt.start (bs := fun _ => true) (Rs := Rs) (own := own.map (·.2)) s1 hDl; rw [h0]; exact this) (fun n H' _ st => ex_t mask_sub (ex_t st.gr (by rw [hi.d]; exact hl))) ?_ ?_
    · intro n y H' hy st
      obtain ⟨P, hP, hpy⟩ := hall.getR hy
      have hn : n < Ps.length := (List.getElem?_eq_some_iff.mp hP).1
      refine ⟨ok.hw σ y, ?_⟩
      exact lc_turn (mn' := ms (n + 1)) st (by omega) (by rw [hi.d]; exact hpy) ((hd _).trans (hd _).symm) (fun q => et_yes) (fun _ q => BE.ev (he n P q hP) (by have e1 := hd (n + 1); have e2 := hd n; simp only [dom, List.map_cons] at e1 e2 ⊢; rw [e1, e2])) (fun z => nomatch z)
    · intro H' st
      rw [← hlen] at st
      refine st.finO fun l' H'' o'' g'' => ?_
      have n1' : Ex (mask H (dom m)) (mask H1 (dom m1)) := by rw [hi.d]; exact n1
      rw [picks_all] at o'' g''
      exact q l' H'' o'' (n1'.trans g'')⟩
/-- [elt if test for x in xs], xs a tuple; the store may turn -/
theorem a_lcTf {Ps : List MP} (ok : LcOk X scope own x jx) (hi : AE X iter ρ m (T X.K Ps) m1) (bs : Nat → Bool) {tst : Expr} (ms : Nat → Sto) (Rs : Nat → MP) (h0 : ms 0 = m1) (hd : ∀ n, dom (ms n) = dom m1) (hz : Ps.length ≤ 40000)
    (ht : ∀ n P q, Ps[n]? = some P → BT X scope tst ((wipeR ρ (own.map (·.2))).set jx (some P)) (q :: ms n) (bs n) (q :: ms n))
    (hno : ∀ n, bs n = false → ms (n + 1) = ms n) (he : ∀ n P q, Ps[n]? = some P → bs n = true → BE X scope elt ((wipeR ρ (own.map (·.2))).set jx (some P)) (q :: ms n) (Rs n) (q :: ms (n + 1))) (hs : ∀ x, foldedSetIterable iter X.env x = pure x := by intro _; rfl) :
    AE X (.ListComp elt [⟨.Name x px, iter, [tst], 0⟩] scope pos) ρ m (L X.K (picks bs Rs Ps.length)) (ms Ps.length) :=
  Ev.can (pe_lc ok.hc ok.hN (pi_tup pcE) ok.ok ok.pg (fun s H0 Cc cl fp => pts_one (pcBT s H0 Cc cl fp)) pcB hs) ⟨(hd _).trans hi.d, fun σ H Q s q => hi.go σ H _ s fun v H1 n1 o1 p1 => by
    obtain ⟨l, vs, rfl, hl, hall⟩ := p1
    have hlen := hall.length
    refine ⟨l, rfl, ⟨vs, ex_t mask_sub hl⟩, fun Dl hDl => ?_⟩
    have s1 := s.go hi.d n1 o1
    refine lc_tup (xs := vs) (fun n H' => LcSt (wipeR ρ (own.map (·.2))) (ms n) (wipe σ (own.map (·.2))) (mask H1 (dom m1)) Dl (picks (bs) Rs n) H') (by have := LcSt.start (bs := bs) (Rs := Rs) (own := own.map (·.2)) s1 hDl; rw [h0]; exact this) (fun n H' _ st => ex_t mask_sub (ex_t st.gr (by rw [hi.d]; exact hl))) ?_ ?_
    · intro n y H' hy st
      obtain ⟨P, hP, hpy⟩ := hall.getR hy
      have hn : n < Ps.length := (List.getElem?_eq_some_iff.mp hP).1
      refine ⟨ok.hw σ y, ?_⟩
      exact lc_turn (mn' := ms (n + 1)) st (by omega) (by rw [hi.d]; exact hpy) ((hd _).trans (hd _).symm) (fun q => BT.ev (ht n P q hP) rfl) (fun hb q => BE.ev (he n P q hP hb) (by have e1 := hd (n + 1); have e2 := hd n; simp only [dom, List.map_cons] at e1 e2 ⊢; rw [e1, e2])) (hno n)
    · intro H' st
      rw [← hlen] at st
      refine st.fin (K := X.K) fun v H'' o'' g'' p'' => q v H'' ?_ o'' ?_
      · have g3 : Ex (mask H1 (dom m)) (mask H'' (dom m)) := by
          have g4 : Ex (mask H1 (dom m1)) (mask H'' (dom (ms Ps.length))) := g''
          rw [hd, hi.d] at g4; exact g4
        exact Ex.trans n1 g3
      · have p3 : (L X.K (picks (bs) Rs Ps.length)).p (mask H'' (dom (ms Ps.length))) v := p''
        rw [hd, hi.d] at p3; exact p3⟩
/-- [elt if test for x in xs], xs a tuple; the store may turn -/
theorem o_lcTf {Ps : List MP} (ok : LcOk X scope own x jx) (hi : AE X iter ρ m (T X.K Ps) m1) (bs : Nat → Bool) {tst : Expr} (ms : Nat → Sto) (Rs : Nat → MP) (h0 : ms 0 = m1) (hd : ∀ n, dom (ms n) = dom m1) (hz : Ps.length ≤ 40000)
    (ht : ∀ n P q, Ps[n]? = some P → BT X scope tst ((wipeR ρ (own.map (·.2))).set jx (some P)) (q :: ms n) (bs n) (q :: ms n))
    (hno : ∀ n, bs n = false → ms (n + 1) = ms n) (he : ∀ n P q, Ps[n]? = some P → bs n = true → BE X scope elt ((wipeR ρ (own.map (·.2))).set jx (some P)) (q :: ms n) (Rs n) (q :: ms (n + 1))) (hs : ∀ x, foldedSetIterable iter X.env x = pure x := by intro _; rfl) :
    AO X (.ListComp elt [⟨.Name x px, iter, [tst], 0⟩] scope pos) ρ m (.lst (picks bs Rs Ps.length)) (ms Ps.length) :=
  EvO.can (pe_lc ok.hc ok.hN (pi_tup pcE) ok.ok ok.pg (fun s H0 Cc cl fp => pts_one (pcBT s H0 Cc cl fp)) pcB hs) ⟨(hd _).trans hi.d, fun σ H Q s q => hi.go σ H _ s fun v H1 n1 o1 p1 => by
    obtain ⟨l, vs, rfl, hl, hall⟩ := p1
    have hlen := hall.length
    refine ⟨l, rfl, ⟨vs, ex_t mask_sub hl⟩, fun Dl hDl => ?_⟩
    have s1 := s.go hi.d n1 o1
    refine lc_tup (xs := vs) (fun n H' => LcSt (wipeR ρ (own.map (·.2))) (ms n) (wipe σ (own.map (·.2))) (mask H1 (dom m1)) Dl (picks (bs) Rs n) H') (by have := LcSt.start (bs := bs) (Rs := Rs) (own := own.map (·.2)) s1 hDl; rw [h0]; exact this) (fun n H' _ st => ex_t mask_sub (ex_t st.gr (by rw [hi.d]; exact hl))) ?_ ?_
    · intro n y H' hy st
      obtain ⟨P, hP, hpy⟩ := hall.getR hy
      have hn : n < Ps.length := (List.getElem?_eq_some_iff.mp hP).1
      refine ⟨ok.hw σ y, ?_⟩
      exact lc_turn (mn' := ms (n + 1)) st (by omega) (by rw [hi.d]; exact hpy) ((hd _).trans (hd _).symm) (fun q => BT.ev (ht n P q hP) rfl) (fun hb q => BE.ev (he n P q hP hb) (by have e1 := hd (n + 1); have e2 := hd n; simp only [dom, List.map_cons] at e1 e2 ⊢; rw [e1, e2])) (hno n)
    · intro H' st
      rw [← hlen] at st
      refine st.finO fun l' H'' o'' g'' => ?_
      have n1' : Ex (mask H (dom m)) (mask H1 (dom m1)) := by rw [hi.d]; exact n1
      exact q l' H'' o'' (n1'.trans g'')⟩
/-- [elt for x in range(n)]; the store may turn -/
theorem a_lcR {N : Int} {arg : Expr} (hg : Gl X "range") (hm : X.mg "range" = none) (ok : LcOk X scope own x jx) (hi : AE X arg ρ m (I N) m1) (ms : Nat → Sto) (Rs : Nat → MP) (h0 : ms 0 = m1) (hd : ∀ n, dom (ms n) = dom m1) (hz : N ≤ 40000) (hz0 : -40000 ≤ N)
    (he : ∀ (n : Nat) q, (n : Int) < N → BE X scope elt ((wipeR ρ (own.map (·.2))).set jx (some (I (n : Int)))) (q :: ms n) (Rs n) (q :: ms (n + 1))) (hse : starEach [arg] X.env = [(false, eval arg X.env)] := by rfl) (hs : ∀ x, foldedSetIterable (.Call (.Name "range" p2) [arg] [] p3) X.env x = pure x := by intro _; rfl) :
    AE X (.ListComp elt [⟨.Name x px, .Call (.Name "range" p2) [arg] [] p3, [], 0⟩] scope pos) ρ m (L X.K ((List.range N.toNat).map Rs)) (ms N.toNat) :=
  have ha : AA X [arg] ρ m [I N] m1 := EvA.can (pa_cons pcE pa_nil hse) (ea_cons hi ea_nil)
  Ev.can (pe_lc ok.hc ok.hN (pi_range1 hg hm pcA hse) ok.ok ok.pg (fun _ _ _ _ _ => pts_nil) pcB hs) ⟨(hd _).trans hi.d, fun σ H Q s q => ha.go σ H _ s fun ws H1 n1 o1 p1 => by
    match ws, p1 with
    | [v], .cons q1 .nil =>
    have q1 : v = .int N := q1
    subst q1
    refine ⟨N, rfl, by omega, by omega, fun Dl hDl => ?_⟩
    have s1 := s.go hi.d n1 o1
    refine lc_range (lo := 0) (n := N.toNat) (fun n H' => LcSt (wipeR ρ (own.map (·.2))) (ms n) (wipe σ (own.map (·.2))) (mask H1 (dom m1)) Dl (picks (fun _ => true) Rs n) H') (by have := LcSt.start (bs := fun _ => true) (Rs := Rs) (own := own.map (·.2)) s1 hDl; rw [h0]; exact this) ?_ ?_
    · intro n H' hn st
      have e0 : (0 : Int) + (n : Int) = (n : Int) := Int.zero_add _
      rw [e0]
      refine ⟨ok.hw σ _, ?_⟩
      exact lc_turn (mn' := ms (n + 1)) st (by omega) (P := I (n : Int)) rfl ((hd _).trans (hd _).symm) (fun q => et_yes) (fun _ q => BE.ev (he n q (by omega)) (by have e1 := hd (n + 1); have e2 := hd n; simp only [dom, List.map_cons] at e1 e2 ⊢; rw [e1, e2])) (fun z => nomatch z)
    · intro H' st
      refine st.fin (K := X.K) fun v H'' o'' g'' p'' => q v H'' ?_ o'' ?_
      · have g3 : Ex (mask H1 (dom m)) (mask H'' (dom m)) := by
          have g4 : Ex (mask H1 (dom m1)) (mask H'' (dom (ms N.toNat))) := g''
          rw [hd, hi.d] at g4; exact g4
        exact Ex.trans n1 g3
      · rw [← picks_all]
        have p3 : (L X.K (picks (fun _ => true) Rs N.toNat)).p (mask H'' (dom (ms N.toNat))) v := p''
        rw [hd, hi.d] at p3; exact p3⟩
/-- [elt for x in range(n)]; the store may turn -/
theorem o_lcR {N : Int} {arg : Expr} (hg : Gl X "range") (hm : X.mg "range" = none) (ok : LcOk X scope own x jx) (hi : AE X arg ρ m (I N) m1) (ms : Nat → Sto) (Rs : Nat → MP) (h0 : ms 0 = m1) (hd : ∀ n, dom (ms n) = dom m1) (hz : N ≤ 40000) (hz0 : -40000 ≤ N)
    (he : ∀ (n : Nat) q, (n : Int) < N → BE X scope elt ((wipeR ρ (own.map (·.2))).set jx (some (I (n : Int)))) (q :: ms n) (Rs n) (q :: ms (n + 1))) (hse : starEach [arg] X.env = [(false, eval arg X.env)] := by rfl) (hs : ∀ x, foldedSetIterable (.Call (.Name "range" p2) [arg] [] p3) X.env x = pure x := by intro _; rfl) :
    AO X (.ListComp elt [⟨.Name x px, .Call (.Name "range" p2) [arg] [] p3, [], 0⟩] scope pos) ρ m (.lst ((List.range N.toNat).map Rs)) (ms N.toNat) :=
  have ha : AA X [arg] ρ m [I N] m1 := EvA.can (pa_cons pcE pa_nil hse) (ea_cons hi ea_nil)
  EvO.can (pe_lc ok.hc ok.hN (pi_range1 hg hm pcA hse) ok.ok ok.pg (fun _ _ _ _ _ => pts_nil) pcB hs) ⟨(hd _).trans hi.d, fun σ H Q s q => ha.go σ H _ s fun ws H1 n1 o1 p1 => by
    match ws, p1 with
    | [v], .cons q1 .nil =>
    have q1 : v = .int N := q1
    subst q1
    refine ⟨N, rfl, by omega, by omega, fun Dl hDl => ?_⟩
    have s1 := s.go hi.d n1 o1
    refine lc_range (lo := 0) (n := N.toNat) (fun n H' => LcSt (wipeR ρ (own.map (·.2))) (ms n) (wipe σ (own.map (·.2))) (mask H1 (dom m1)) Dl (picks (fun _ => true) Rs n) H') (by have := LcSt.start (bs := fun _ => true) (Rs := Rs) (own := own.map (·.2)) s1 hDl; rw [h0]; exact this) ?_ ?_
    · intro n H' hn st
      have e0 : (0 : Int) + (n : Int) = (n : Int) := Int.zero_add _
      rw [e0]
      refine ⟨ok.hw σ _, ?_⟩
      exact lc_turn (mn' := ms (n + 1)) st (by omega) (P := I (n : Int)) rfl ((hd _).trans (hd _).symm) (fun q => et_yes) (fun _ q => BE.ev (he n q (by omega)) (by have e1 := hd (n + 1); have e2 := hd n; simp only [dom, List.map_cons] at e1 e2 ⊢; rw [e1, e2])) (fun z => nomatch z)
    · intro H' st
      refine st.finO fun l' H'' o'' g'' => ?_
      have n1' : Ex (mask H (dom m)) (mask H1 (dom m1)) := by rw [hi.d]; exact n1
      rw [picks_all] at o'' g''
      exact q l' H'' o'' (n1'.trans g'')⟩
/-- [elt if test for x in range(n)]; the store may turn -/
theorem a_lcRf {N : Int} {arg : Expr} (hg : Gl X "range") (hm : X.mg "range" = none) (ok : LcOk X scope own x jx) (hi : AE X arg ρ m (I N) m1) (bs : Nat → Bool) {tst : Expr} (ms : Nat → Sto) (Rs : Nat → MP) (h0 : ms 0 = m1) (hd : ∀ n, dom (ms n) = dom m1) (hz : N ≤ 40000) (hz0 : -40000 ≤ N)
    (ht : ∀ (n : Nat) q, (n : Int) < N → BT X scope tst ((wipeR ρ (own.map (·.2))).set jx (some (I (n : Int)))) (q :: ms n) (bs n) (q :: ms n))
    (hno : ∀ n, bs n = false → ms (n + 1) = ms n) (he : ∀ (n : Nat) q, (n : Int) < N → bs n = true → BE X scope elt ((wipeR ρ (own.map (·.2))).set jx (some (I (n : Int)))) (q :: ms n) (Rs n) (q :: ms (n + 1))) (hse : starEach [arg] X.env = [(false, eval arg X.env)] := by rfl) (hs : ∀ x, foldedSetIterable (.Call (.Name "range" p2) [arg] [] p3) X.env x = pure x := by intro _; rfl) :
    AE X (.ListComp elt [⟨.Name x px, .Call (.Name "range" p2) [arg] [] p3, [tst], 0⟩] scope pos) ρ m (L X.K (picks bs Rs N.toNat)) (ms N.toNat) :=
  have ha : AA X [arg] ρ m [I N] m1 := EvA.can (pa_cons pcE pa_nil hse) (ea_cons hi ea_nil)
  Ev.can (pe_lc ok.hc ok.hN (pi_range1 hg hm pcA hse) ok.ok ok.pg (fun s H0 Cc cl fp => pts_one (pcBT s H0 Cc cl fp)) pcB hs) ⟨(hd _).trans hi.d, fun σ H Q s q => ha.go σ H _ s fun ws H1 n1 o1 p1 => by
    match ws, p1 with
    | [v], .cons q1 .nil =>
    have q1 : v = .int N := q1
    subst q1
    refine ⟨N, rfl, by omega, by omega, fun Dl hDl => ?_⟩
    have s1 := s.go hi.d n1 o1
    refine lc_range (lo := 0) (n := N.toNat) (fun n H' => LcSt (wipeR ρ (own.map (·.2))) (ms n) (wipe σ (own.map (·.2))) (mask H1 (dom m1)) Dl (picks (bs) Rs n) H') (by have := LcSt.start (bs := bs) (Rs := Rs) (own := own.map (·.2)) s1 hDl; rw [h0]; exact this) ?_ ?_
    · intro n H' hn st
      have e0 : (0 : Int) + (n : Int) = (n : Int) := Int.zero_add _
      rw [e0]
      refine ⟨ok.hw σ _, ?_⟩
      exact lc_turn (mn' := ms (n + 1)) st (by omega) (P := I (n : Int)) rfl ((hd _).trans (hd _).symm) (fun q => BT.ev (ht n q (by omega)) rfl) (fun hb q => BE.ev (he n q (by omega) hb) (by have e1 := hd (n + 1); have e2 := hd n; simp only [dom, List.map_cons] at e1 e2 ⊢; rw [e1, e2])) (hno n)
    · intro H' st
      refine st.fin (K := X.K) fun v H'' o'' g'' p'' => q v H'' ?_ o'' ?_
      · have g3 : Ex (mask H1 (dom m)) (mask H'' (dom m)) := by
          have g4 : Ex (mask H1 (dom m1)) (mask H'' (dom (ms N.toNat))) := g''
          rw [hd, hi.d] at g4; exact g4
        exact Ex.trans n1 g3
      · have p3 : (L X.K (picks (bs) Rs N.toNat)).p (mask H'' (dom (ms N.toNat))) v := p''
        rw [hd, hi.d] at p3; exact p3⟩
/-- [elt if test for x in range(n)]; the store may turn -/
theorem o_lcRf {N : Int} {arg : Expr} (hg : Gl X "range") (hm : X.mg "range" = none) (ok : LcOk X scope own x jx) (hi : AE X arg ρ m (I N) m1) (bs : Nat → Bool) {tst : Expr} (ms : Nat → Sto) (Rs : Nat → MP) (h0 : ms 0 = m1) (hd : ∀ n, dom (ms n) = dom m1) (hz : N ≤ 40000) (hz0 : -40000 ≤ N)
    (ht : ∀ (n : Nat) q, (n : Int) < N → BT X scope tst ((wipeR ρ (own.map (·.2))).set jx (some (I (n : Int)))) (q :: ms n) (bs n) (q :: ms n))
    (hno : ∀ n, bs n = false → ms (n + 1) = ms n) (he : ∀ (n : Nat) q, (n : Int) < N → bs n = true → BE X scope elt ((wipeR ρ (own.map (·.2))).set jx (some (I (n : Int)))) (q :: ms n) (Rs n) (q :: ms (n + 1))) (hse : starEach [arg] X.env = [(false, eval arg X.env)] := by rfl) (hs : ∀ x, foldedSetIterable (.Call (.Name "range" p2) [arg] [] p3) X.env x = pure x := by intro _; rfl) :
    AO X (.ListComp elt [⟨.Name x px, .Call (.Name "range" p2) [arg] [] p3, [tst], 0⟩] scope pos) ρ m (.lst (picks bs Rs N.toNat)) (ms N.toNat) :=
  have ha : AA X [arg] ρ m [I N] m1 := EvA.can (pa_cons pcE pa_nil hse) (ea_cons hi ea_nil)
  EvO.can (pe_lc ok.hc ok.hN (pi_range1 hg hm pcA hse) ok.ok ok.pg (fun s H0 Cc cl fp => pts_one (pcBT s H0 Cc cl fp)) pcB hs) ⟨(hd _).trans hi.d, fun σ H Q s q => ha.go σ H _ s fun ws H1 n1 o1 p1 => by
    match ws, p1 with
    | [v], .cons q1 .nil =>
    have q1 : v = .int N := q1
    subst q1
    refine ⟨N, rfl, by omega, by omega, fun Dl hDl => ?_⟩
    have s1 := s.go hi.d n1 o1
    refine lc_range (lo := 0) (n := N.toNat) (fun n H' => LcSt (wipeR ρ (own.map (·.2))) (ms n) (wipe σ (own.map (·.2))) (mask H1 (dom m1)) Dl (picks (bs) Rs n) H') (by have := LcSt.start (bs := bs) (Rs := Rs) (own := own.map (·.2)) s1 hDl; rw [h0]; exact this) ?_ ?_
    · intro n H' hn st
      have e0 : (0 : Int) + (n : Int) = (n : Int) := Int.zero_add _
      rw [e0]
      refine ⟨ok.hw σ _, ?_⟩
      exact lc_turn (mn' := ms (n + 1)) st (by omega) (P := I (n : Int)) rfl ((hd _).trans (hd _).symm) (fun q => BT.ev (ht n q (by omega)) rfl) (fun hb q => BE.ev (he n q (by omega) hb) (by have e1 := hd (n + 1); have e2 := hd n; simp only [dom, List.map_cons] at e1 e2 ⊢; rw [e1, e2])) (hno n)
    · intro H' st
      refine st.finO fun l' H'' o'' g'' => ?_
      have n1' : Ex (mask H (dom m)) (mask H1 (dom m1)) := by rw [hi.d]; exact n1
      exact q l' H'' o'' (n1'.trans g'')⟩
end
end SV

/-! SVTxt: unpacking, texts, dicts, isinstance, lists joined. -/
namespace SV
open PySem L2 PyProof.Rows
open Evl (Ex ex_rd ex_l ex_t sz_of sz_lt)
section
variable {X : Cx} {ρ : Rho} {m m1 m2 m3 : Sto} {P P1 P2 P3 : MP} {mo mo' : MO} {e a b c f o elt iter : Expr} {es rest : List Expr} {pos p p2 p3 p4 apos cpos px py : Pos} {x y fl : Str} {i j k : Int} {te ta : TE} {A : TA} {D : Ends} {b0 : Hp} {sts : List Stmt} {scope : Scope}
theorem All.two {H : Hp} {P Q : MP} {vs : List V} (h : All H [P, Q] vs) : ∃ u w, vs = [u, w] ∧ P.p H u ∧ Q.p H w := by
  cases h with
  | cons h1 t => cases t with
    | cons h2 t => cases t; exact ⟨_, _, rfl, h1, h2⟩
theorem All.three {H : Hp} {P Q R : MP} {vs : List V} (h : All H [P, Q, R] vs) : ∃ u w z, vs = [u, w, z] ∧ P.p H u ∧ Q.p H w ∧ R.p H z := by
  cases h with
  | cons h1 t =>
    obtain ⟨u, w, e, h2, h3⟩ := All.two t
    subst e
    exact ⟨_, _, _, rfl, h1, h2, h3⟩
/-- x, y = e, e a tuple of two -/
theorem gs_unp {n1 n2 : Nat} {kt} {pt pos : Pos} (hc : X.calm = true) (hN : X.N.Nodup) (hi : X.N[n1]? = some x) (hj : X.N[n2]? = some y) (hx : Loc X.env.scope x) (hy : Loc X.env.scope y) (he : AE X e ρ m (T X.K [P1, P2]) m1)
    (k : GS X sts D ((ρ.set n1 (some P1)).set n2 (some P2)) m1 b0)
    (hf : X.fn x = true ∨ X.env.scope.names.lookup x = some .local := by first | exact .inl rfl | exact .inr rfl) (hf2 : X.fn y = true ∨ X.env.scope.names.lookup y = some .local := by first | exact .inl rfl | exact .inr rfl)
    (hs : swapsWithSole [.Tuple [.Name x px, .Name y py] kt pt] e pos.line X.env = pure false := by rfl) (hw : swappedStores [.Tuple [.Name x px, .Name y py] kt pt] e X.env = pure none := by rfl) :
    GS X (.Assign [.Tuple [.Name x px, .Name y py] kt pt] e pos :: sts) D ρ m b0 :=
  gs_cons fun σ H s ex => cS_of (ps_asg pcE (pg_tup (n := 2) hc (pgs_cons (pg_name hN hi hx hf) (pgs_cons (pg_name hN hj hy hf2) pgs_nil))) hs hw) (he.go σ H _ s fun v H1 q1 o1 p1 => by
    obtain ⟨l, vs, rfl, hl, hall⟩ := p1
    obtain ⟨u, w, e2, h1, h2⟩ := All.two hall
    subst e2
    · refine ⟨l, [u, w], rfl, ex_t mask_sub hl, rfl, u, [w], rfl, w, [], rfl, rfl, ?_⟩
      exact k _ H1 ⟨by rw [he.d]; exact ((s.env.mono q1).set h1 n1).set h2 n2, o1⟩ (by rw [he.d]; exact ex.trans q1))
theorem gs_unp3 {n1 n2 n3 : Nat} {kt} {pt pos pz : Pos} {z : Str} (he : AE X e ρ m (T X.K [P1, P2, P3]) m1)
    (k : GS X sts D (((ρ.set n1 (some P1)).set n2 (some P2)).set n3 (some P3)) m1 b0)
    (hps : PS X (.Assign [.Tuple [.Name x px, .Name y py, .Name z pz] kt pt] e pos) (tAsg (cE X e) (gTup X.K 3 (gCons (gName n1) (gCons (gName n2) (gCons (gName n3) gNil)))))) : GS X (.Assign [.Tuple [.Name x px, .Name y py, .Name z pz] kt pt] e pos :: sts) D ρ m b0 :=
  gs_cons fun σ H s ex => cS_of hps (he.go σ H _ s fun v H1 q1 o1 p1 => by
    obtain ⟨l, vs, rfl, hl, hall⟩ := p1
    obtain ⟨u, w, w2, e2, h1, h2, h3⟩ := All.three hall
    subst e2
    · refine ⟨l, [u, w, w2], rfl, ex_t mask_sub hl, rfl, u, [w, w2], rfl, w, [w2], rfl, w2, [], rfl, rfl, ?_⟩
      exact k _ H1 ⟨by rw [he.d]; exact (((s.env.mono q1).set h1 n1).set h2 n2).set h3 n3, o1⟩ (by rw [he.d]; exact ex.trans q1))
/-! ### f-strings -/
inductive JS (X : Cx) : List Expr → Rho → Sto → List Str → Sto → Prop where
  | nil {ρ : Rho} {m : Sto} : JS X [] ρ m [] m
  | cons {e : Expr} {es : List Expr} {ρ : Rho} {m m1 m2 : Sto} {s : Str} {ss : List Str} (h : AE X e ρ m (S s) m1) (r : JS X es ρ m1 ss m2) : JS X (e :: es) ρ m (s :: ss) m2
theorem JS.d {ss : List Str} (h : JS X es ρ m ss m1) : dom m1 = dom m := by
  induction h with
  | nil => rfl
  | cons h r ih => exact ih.trans h.d
def glue : Str → List Str → Str
  | acc, [] => acc
  | acc, s :: ss => glue (acc ++ s) ss
def glens : List Str → Nat
  | [] => 0
  | s :: ss => s.length + glens ss
theorem slen (a b : Str) : (a ++ b).length = a.length + b.length := by
  show (Str.mk (a.cps ++ b.cps)).cps.size = _
  simp [Str.length]
theorem JS.go {ss : List Str} (h : JS X es ρ m ss m1) : ∃ ts, PJ X es ts ∧ ∀ (acc : Str) (σ : L2.St) (H : Hp) (Q : Str → Hp → Prop), acc.length + glens ss ≤ 1000000 → Stt ρ m σ H → (∀ H', Nxt m H H' → Own m1 H' → Q (glue acc ss) H') → tJs ts acc σ H Q := by
  induction h with
  | nil => exact ⟨[], .nil, fun acc σ H Q _ s q => q H .refl s.own⟩
  | @cons e es ρ m m1 m2 s ss h r ih =>
    obtain ⟨ts, hp, hg⟩ := ih
    refine ⟨cE X e :: ts, .cons pcE hp, fun acc σ H Q hz st q => ?_⟩
    refine h.go σ H _ st fun v H1 n1 o1 p1 => ⟨s, p1, ?_, ?_⟩
    · rw [slen]
      simp only [glens] at hz
      exact Nat.le_trans (by omega : acc.length + s.length ≤ 1000000) (by decide)
    · refine hg (acc ++ s) σ H1 Q ?_ (st.go h.d n1 o1) fun H2 n2 o2 => q H2 (n1.trans h.d n2) o2
      rw [slen]
      simp only [glens] at hz
      omega
theorem a_fstr {e1 e2 : Expr} {ss : List Str} (h : JS X (e1 :: e2 :: es) ρ m ss m1) (hz : glens ss ≤ 1000000) : AE X (.JoinedStr (e1 :: e2 :: es) pos) ρ m (S (glue Str.empty ss)) m1 := by
  obtain ⟨ts, hp, hg⟩ := h.go
  refine Ev.can (pe_joined hp) ⟨h.d, fun σ H Q s q => hg Str.empty σ H _ (by show 0 + _ ≤ _; omega) s fun H1 n1 o1 => q _ H1 n1 o1 rfl⟩
theorem a_fstr1 (h : AE X e ρ m P m1) : AE X (.JoinedStr [e] pos) ρ m P m1 := Ev.can (pe_joined1 pcE) h
theorem a_fmtS {s : Str} (h : AE X e ρ m (S s) m1) (hz : s.length ≤ 1000000) : AE X (.FormattedValue e (-1) none pos) ρ m (S s) m1 :=
  Ev.can (pe_fmt pcE) ⟨h.d, fun σ H Q st q => h.go σ H _ st fun v H1 n1 o1 p1 => .inl ⟨s, p1, Nat.le_trans hz (by decide), q _ H1 n1 o1 rfl⟩⟩
theorem a_fmtI (h : AE X e ρ m (I i) m1) (hz : i.natAbs.log2 < 1920) : AE X (.FormattedValue e (-1) none pos) ρ m (S (toString i)) m1 :=
  Ev.can (pe_fmt pcE) ⟨h.d, fun σ H Q st q => h.go σ H _ st fun v H1 n1 o1 p1 => .inr ⟨i, p1, hz, q _ H1 n1 o1 rfl⟩⟩
theorem all_of {α : Type} {H : Hp} (f : α → V) : ∀ {xs : List α}, All H (xs.map fun x => C (f x)) (xs.map f)
  | [] => .nil
  | _ :: _ => .cons rfl (all_of f)
/-! ### methods of texts -/
theorem ev_m1 {r : V → List V → Hp → VK → Prop} {s : Str} {tb : TE} (ha : Ev ta ρ m (S s) m1) (hb : Ev tb ρ m1 P2 m2) (hr : RM r (S s) [P2] P) : Ev (tM1 r ta tb) ρ m P m2 := ⟨hb.d.trans ha.d, fun σ H Q st q => by
  refine ha.go σ H _ st fun v H1 n1 o1 p1 => ⟨⟨s, p1⟩, ?_⟩
  have s1 := st.go ha.d n1 o1
  refine hb.go σ H1 _ s1 fun u H2 n2 o2 p2 => ?_
  have hd := hb.d.trans ha.d
  refine hr (dom m2) H2 v [u] _ o2.frees p1 (.cons (by rw [hb.d]; exact p2) .nil) fun z H3 e3 pz => ?_
  refine q z H3 ((n1.trans ha.d n2).trans hd (Nxt.of e3)) (o2.ext e3) ?_
  rw [hd] at pz; exact pz⟩
theorem a_split {s t : Str} (ho : AE X o ρ m (S s) m1) (he : AE X e ρ m1 (S t) m2) (ht : (t.length == 0) = false) (hz : s.length ≤ 1000000) (hs : starEach [e] X.env = [(false, eval e X.env)] := by rfl) (hbase : attributeBase o "split" X.env (eval o X.env) = eval o X.env := by rfl) (hline : (apos.endLine == pos.line) = true := by rfl) :
    AE X (.Call (.Attribute o "split" apos) [e] [] pos) ρ m (L X.K ((Txt.split s t).map S)) m2 := Ev.can (pe_split pcE pcE hs hbase hline) (ev_m1 ho he fun d H v vs Q fr h1 h2 q => by
  match vs, h2 with
  | [_], .cons rfl .nil =>
    refine ⟨s, t, h1, rfl, ht, Nat.le_trans (Nat.add_le_add_right hz 2) (by decide), fun l hl => q _ _ (Ex.new hl) ⟨l, _, rfl, Or.inl (Or.inl (fr.at hl)), ?_⟩⟩
    exact all_of V.str)
abbrev joinLen (s : Str) (ys : List Str) : Nat := (ys.map (·.length)).sum + ys.length * s.length
theorem a_joinL {s : Str} {ys : List Str} (ho : AE X o ρ m (S s) m1) (he : AE X e ρ m1 (L X.K (ys.map S)) m2) (hz : joinLen s ys ≤ 16777216) (hs : starEach [e] X.env = [(false, eval e X.env)] := by rfl) (hbase : attributeBase o "join" X.env (eval o X.env) = eval o X.env := by rfl) (hline : (apos.endLine == pos.line) = true := by rfl) :
    AE X (.Call (.Attribute o "join" apos) [e] [] pos) ρ m (S (Txt.join s ys)) m2 := Ev.can (pe_join pcE pcE hs hbase hline) (ev_m1 ho he fun d H v vs Q fr h1 h2 q => by
  match vs, h2 with
  | [_], .cons ⟨l, ws, rfl, hl, hall⟩ .nil =>
    have e := all_map V.str hall
    subst e
    exact ⟨s, l, ys, h1, rfl, .inl (ex_l mask_sub hl), hz, q _ H (Ex.refl _) rfl⟩)
theorem a_startswith {s t : Str} (ho : AE X o ρ m (S s) m1) (he : AE X e ρ m1 (S t) m2) (hs : starEach [e] X.env = [(false, eval e X.env)] := by rfl) (hbase : attributeBase o "startswith" X.env (eval o X.env) = eval o X.env := by rfl) (hline : (apos.endLine == pos.line) = true := by rfl) :
    AE X (.Call (.Attribute o "startswith" apos) [e] [] pos) ρ m (B (Txt.startswith s t)) m2 := Ev.can (pe_m1 F.slot_str_startswith F.type_str_startswith mt_startswith pcE pcE hs hbase hline) (ev_m1 ho he fun d H v vs Q fr h1 h2 q => by
  match vs, h2 with
  | [_], .cons rfl .nil => exact ⟨s, t, h1, rfl, q _ H (Ex.refl _) rfl⟩)
/-! ### in -/
theorem rv_inL {K : PySem.W.Frag} {neg : Bool} {v : V} {ws : List V} (h1 : flatV v = true) (h2 : ws.all flatV = true) : RV (rIn K neg) (C v) (L K (ws.map C)) (B (if neg then !inV v ws else inV v ws)) := fun d H x u Q _ p1 p2 q => by
  cases p1
  obtain ⟨l, zs, rfl, hl, hall⟩ := p2
  have e := all_map (fun z : V => z) hall
  simp only [List.map_id'] at e
  subst e
  exact ⟨l, zs, rfl, .inl (ex_l mask_sub hl), h1, h2, q _ H (Ex.refl _) rfl⟩
theorem rv_inT {K : PySem.W.Frag} {neg : Bool} {v : V} {ws : List V} (h1 : flatV v = true) (h2 : ws.all flatV = true) : RV (rIn K neg) (C v) (T K (ws.map C)) (B (if neg then !inV v ws else inV v ws)) := fun d H x u Q _ p1 p2 q => by
  cases p1
  obtain ⟨l, zs, rfl, hl, hall⟩ := p2
  have e := all_map (fun z : V => z) hall
  simp only [List.map_id'] at e
  subst e
  exact ⟨l, zs, rfl, .inr (ex_t mask_sub hl), h1, h2, q _ H (Ex.refl _) rfl⟩
theorem inV_str {s : Str} {ws : List Str} : inV (.str s) (ws.map V.str) = decide (s ∈ ws) := by
  unfold inV
  induction ws with
  | nil => rfl
  | cons w ws ih =>
    rw [List.map_cons, List.any_cons, ih]
    show (w == s || decide (s ∈ ws)) = _
    by_cases h : w = s
    · subst h; simp
    · have : ¬ s = w := fun z => h z.symm
      simp [h, this]
theorem flat_strs {ws : List Str} : (ws.map V.str).all flatV = true := by
  rw [List.all_map]
  exact List.all_eq_true.mpr fun _ _ => rfl
theorem map_S {ws : List Str} : ws.map S = (ws.map V.str).map C := by rw [List.map_map]; rfl
theorem t_inT {s : Str} {ws : List Str} (ha : AE X a ρ m (S s) m1) (hb : AE X b ρ m1 (T X.K (ws.map S)) m2) (hm : behindInMarks .In b = false := by rfl) : AT X (.Compare a [.In] [b] pos) ρ m (decide (s ∈ ws)) m2 :=
  (t_cmp op_in_seq (rv_inT (neg := false) rfl flat_strs) ha (by rw [map_S] at hb; exact hb) hm).eq (by show inV _ _ = _; exact inV_str)
theorem t_ninT {s : Str} {ws : List Str} (ha : AE X a ρ m (S s) m1) (hb : AE X b ρ m1 (T X.K (ws.map S)) m2) (hm : behindInMarks .NotIn b = false := by rfl) : AT X (.Compare a [.NotIn] [b] pos) ρ m (!decide (s ∈ ws)) m2 :=
  (t_cmp op_notIn_seq (rv_inT (neg := true) rfl flat_strs) ha (by rw [map_S] at hb; exact hb) hm).eq (by show (!inV _ _) = _; rw [inV_str])
/-- one sign in a text -/
theorem a_inS {n : Nat} {s : Str} (ha : AE X a ρ m (S ⟨#[n]⟩) m1) (hb : AE X b ρ m1 (S s) m2) (hm : behindInMarks .In b = false := by rfl) : AE X (.Compare a [.In] [b] pos) ρ m (B (decide (n ∈ s.cps.toList))) m2 :=
  a_cmp op_in_sign (fun d H v u Q _ h1 h2 q => ⟨n, s, h1, h2, q _ H (Ex.refl _) rfl⟩) ha hb hm
/-! ### lists joined -/
theorem rv_cat {K : PySem.W.Frag} {Ps Qs : List MP} (hK : ∀ a xs, SqL K (fun _ => none) a xs → False) (hz : Ps.length + Qs.length ≤ 100000) (hf : ∀ H a xs, SqL K H a xs → H a = some (.lst xs)) : RV rCat (L K Ps) (L K Qs) (L K (Ps ++ Qs)) := fun d H v u Q fr h1 h2 q => by
  obtain ⟨l, xs, rfl, hl, hall⟩ := h1
  obtain ⟨l2, ys, rfl, hl2, hall2⟩ := h2
  refine ⟨l, l2, xs, ys, rfl, rfl, hf _ _ _ (ex_l mask_sub hl), hf _ _ _ (ex_l mask_sub hl2), sz_of (by rw [← hall.length, ← hall2.length]; exact hz), fun z hz => q _ _ (Ex.new hz) ⟨z, _, rfl, Or.inl (Or.inl (fr.at hz)), (hall.append hall2).mono (mask_ex (Ex.new hz))⟩⟩
/-! ### isinstance -/
theorem rc_isi {K : PySem.W.Frag} {t u : Value} {cv : V} {r : Bool} (hc : ClsV cv u) (ht : ∀ (d : List Addr) H v, P.p (mask H d) v → TyX K H v t) (hk : PySem.W.kitOne K t u = some r) : RC (rIsi K) [P, C cv] (B r) := fun d H vs Q _ h q => by
  match vs, h with
  | [z, _], .cons hz (.cons rfl .nil) => exact ⟨z, cv, t, u, r, rfl, hc, ht d H z hz, hk, q _ H (Ex.refl _) rfl⟩
theorem tyx_c {K : PySem.W.Frag} {v : V} {t : Value} (h : ∀ H, TyX K H v t) : ∀ (d : List Addr) H w, (C v).p (mask H d) w → TyX K H w t := fun _ H w e => by
  have e : w = v := e
  subst e
  exact h H
theorem tyx_i {K : PySem.W.Frag} : ∀ (d : List Addr) H w, (I i).p (mask H d) w → TyX K H w (.type "int") := tyx_c fun _ => .base (.int i)
theorem tyx_s {K : PySem.W.Frag} {s : Str} : ∀ (d : List Addr) H w, (S s).p (mask H d) w → TyX K H w (.type "str") := tyx_c fun _ => .base (.str s)
theorem tyx_b {K : PySem.W.Frag} {t : Bool} : ∀ (d : List Addr) H w, (B t).p (mask H d) w → TyX K H w (.type "bool") := tyx_c fun _ => .base (.bl t)
theorem tyx_n {K : PySem.W.Frag} : ∀ (d : List Addr) H w, N.p (mask H d) w → TyX K H w (.type "NoneType") := tyx_c fun _ => .base .non
theorem tyx_L {K : PySem.W.Frag} {Ps : List MP} : ∀ (d : List Addr) H w, (L K Ps).p (mask H d) w → TyX K H w (.type "list") := fun d H w ⟨l, xs, e, h, _⟩ => by
  subst e
  rcases ex_l mask_sub h with (h | ⟨o, h⟩) | ⟨o, its, n, h1, h2, _⟩
  · exact .base (.lst h)
  · exact .base (.frz h)
  · exact .kList h1 h2
theorem tyx_T {K : PySem.W.Frag} {Ps : List MP} : ∀ (d : List Addr) H w, (T K Ps).p (mask H d) w → TyX K H w (.type "tuple") := fun d H w ⟨l, xs, e, h, _⟩ => by
  subst e
  rcases ex_t mask_sub h with (h | ⟨o, h⟩) | ⟨o, its, n, h1, h2, _⟩
  · exact .base (.tup h)
  · exact .fTuple h
  · exact .kTuple h1 h2
structure ClsI (K : PySem.W.Frag) (Cc : Addr) : Prop where
  cl : Cls K Cc
  ha : PySem.W.findIn K (.ref Cc) "__class__" = some (some (.builtin "object.__class__"))
  hn : PySem.W.specialIn K (.builtin "object.__class__") "__get__" = some (some (.builtin "getset_descriptor.__get__"))
  tk : PySem.W.takesIn K (.builtin "object.__class__") = some true
  hm : PySem.W.mroIn K Cc (.type "object") = some true
theorem tyx_O {K : PySem.W.Frag} {Cc : Addr} {fs : List (Str × MP)} (c : ClsI K Cc) : ∀ (d : List Addr) H w, (O Cc fs).p (mask H d) w → TyX K H w (.ref Cc) := fun d H w ⟨l, dx, ws, e, h, _⟩ => by
  subst e
  exact .base (.ins (mask_sub _ _ h) c.cl c.ha c.hn c.tk c.hm)
/-! ### dicts with text keys, as values -/
/-- a dict that nobody changes any more -/
def Dk (kvs : List (Key × MP)) : MP := ⟨fun H v => ∃ a ws, v = .ref a ∧ H a = some (.dK ws) ∧ KVs H kvs ws, fun e ⟨a, ws, h1, h2, h3⟩ => ⟨a, ws, h1, e _ _ h2, h3.mono e⟩⟩
def valM (kvs : List (Key × MP)) (k : Key) : Option MP := (kvs.find? fun kv => decide (kv.1 = k)).map (·.2)
theorem KVs.val {H : Hp} {k : Key} : ∀ {Ps : List (Key × MP)} {vs : List (Key × V)}, KVs H Ps vs → (∀ P, valM Ps k = some P → ∃ v, valV vs k = some v ∧ P.p H v) ∧ (valM Ps k = none → valV vs k = none)
  | _, _, .nil => ⟨fun P e => (nomatch e), fun _ => rfl⟩
  | (g, P0) :: Ps, (g', v0) :: vs, .cons h t => by
    obtain ⟨h1, h2⟩ := h
    simp only at h1 h2
    subst h1
    have ih := KVs.val (k := k) t
    unfold valM valV at ih ⊢
    by_cases q : g = k
    · simp only [List.find?_cons, q, decide_true, Option.map_some]
      exact ⟨fun P e => by cases e; exact ⟨v0, rfl, h2⟩, fun e => (nomatch e)⟩
    · simp only [List.find?_cons, q, decide_false]
      exact ih
theorem a_dget {kvs : List (Key × MP)} {k : Key} (hu : X.A.units + 1 < cLine) (ho : AE X o ρ m (Dk kvs) m1) (hi : AE X a ρ m1 (C (kV k)) m2) (hv : valM kvs k = some P) (hs : NoSl a) : AE X (.Subscript o a pos) ρ m P m2 :=
  Ev.can (pe_dget hu pcE pcE hs) ⟨hi.d.trans ho.d, fun σ H Q s q => ho.go σ H _ s fun v H1 n1 o1 p1 => hi.go σ H1 _ (s.go ho.d n1 o1) fun u H2 n2 o2 p2 => by
    have p2 : u = kV k := p2
    subst p2
    obtain ⟨l, ws, rfl, hl, hall⟩ := (Dk kvs).mono (n2.to ho.d) p1
    obtain ⟨z, hz, pz⟩ := (hall.val (k := k)).1 P hv
    refine ⟨l, z, rfl, ?_, q z H2 (n1.trans ho.d n2) o2 pz⟩
    rw [← hz]
    exact DGet.k (mask_sub _ _ hl)⟩
end
end SV

/-! SVGen: what the laws share: drawing from the pool, the comparison of data. -/
namespace SV
open PySem L2 PyProof.Rows
open Evl (Ex ex_rd ex_l ex_t sz_of sz_lt)
section
variable {P : Program} {w : World} {K : PySem.W.Frag} {mg : Str → Option Value} {base : Heap}
theorem Fk_of {x qual : Str} {st : Stmt} {sp : Sp} {k : Nat} {ps : List Str} (d : ∃ f fd, Fun K x qual st f fd ∧ mg x = some (.ref f))
    (hb : ∀ (kV doc pm : Value) (an : Option Addr) (cdv ct : Value) (us : List Value), us.length = ps.length → bindArgs (PySem.W.fnOf x qual (defArgs st) (defBody st) (defScope st) .none kV doc pm an cdv ct) ⟨us, []⟩ = pure (ps.zip us))
    (ok : ∀ f fd, Fun K x qual st f fd → FnOk P w K mg base CX0 k f fd ps sp) : Fk P w K mg base k x sp [] := by
  obtain ⟨f, fd, F, h⟩ := d
  exact ⟨f, fd, ps, [], ok f fd F, h, F.kp, F.binds hb, .nil⟩
end
/-! ### data -/
inductive Dt where
  | int (i : Int) | bl (b : Bool) | str (s : Str) | non
  | tup (xs : List Dt) | lst (xs : List Dt)
mutual
def rp (K : PySem.W.Frag) : Dt → MP
  | .int i => I i
  | .bl b => B b
  | .str s => S s
  | .non => N
  | .tup xs => T K (rps K xs)
  | .lst xs => L K (rps K xs)
def rps (K : PySem.W.Frag) : List Dt → List MP
  | [] => []
  | x :: xs => rp K x :: rps K xs
end
mutual
def Dt.dp : Dt → Nat
  | .tup xs => dps xs + 1
  | .lst xs => dps xs + 1
  | _ => 0
def dps : List Dt → Nat
  | [] => 0
  | x :: xs => max x.dp (dps xs)
end
theorem rps_map (K : PySem.W.Frag) : ∀ xs, rps K xs = xs.map (rp K)
  | [] => by simp [rps]
  | x :: xs => by simp [rps, rps_map K xs]
theorem rps_len (K : PySem.W.Frag) (xs : List Dt) : (rps K xs).length = xs.length := by rw [rps_map, List.length_map]
theorem rps_get (K : PySem.W.Frag) {xs : List Dt} {i : Nat} {x : Dt} (h : xs[i]? = some x) : (rps K xs)[i]? = some (rp K x) := by
  rw [rps_map, List.getElem?_map, h] <;> rfl
theorem dps_get : ∀ {xs : List Dt} {i : Nat} {x : Dt}, xs[i]? = some x → x.dp ≤ dps xs
  | y :: ys, 0, x, h => by
    simp at h
    subst h
    simp only [dps]
    omega
  | y :: ys, i + 1, x, h => by
    have := dps_get (xs := ys) (i := i) (x := x) (by simpa using h)
    simp only [dps]
    omega
  | [], i, x, h => by simp at h
theorem atI_nat' {α : Type} {xs : List α} {i : Nat} {x : α} (h : xs[i]? = some x) : atI xs (i : Int) = some x := by
  have hi : i < xs.length := (List.getElem?_eq_some_iff.mp h).1
  unfold atI ixN
  rw [if_pos (by omega), if_pos (by omega)]
  exact h
mutual
def Dt.wd : Dt → Nat
  | .tup xs => max xs.length (wds xs)
  | .lst xs => max xs.length (wds xs)
  | _ => 0
def wds : List Dt → Nat
  | [] => 0
  | x :: xs => max x.wd (wds xs)
end
theorem wds_get : ∀ {xs : List Dt} {i : Nat} {x : Dt}, xs[i]? = some x → x.wd ≤ wds xs
  | y :: ys, 0, x, h => by
    simp at h
    subst h
    simp only [wds]
    omega
  | y :: ys, i + 1, x, h => by
    have := wds_get (xs := ys) (i := i) (x := x) (by simpa using h)
    simp only [wds]
    omega
  | [], i, x, h => by simp at h
/-- the comparison of data says that equal data are equal -/
def cSame (K : PySem.W.Frag) (n : Nat) : Ct := fun Ps m P m' => ∃ d : Dt, Ps = [rp K d, rp K d] ∧ d.dp ≤ n ∧ d.wd ≤ 10000 ∧ P = B true ∧ m' = m
section
variable {X : Cx} {ρ : Rho} {m m1 m2 m3 : Sto} {P P1 P2 P3 : MP} {e a b c : Expr} {pos p p2 : Pos} {x : Str}
theorem a_isi {n : String} {t : Value} {r : Bool} (ha : AE X e ρ m P m1) (ht : ∀ (d : List Addr) H v, P.p (mask H d) v → TyX X.K H v t) (hk : PySem.W.kitOne X.K t (.type n) = some r) (hm : X.mg "isinstance" = none) (hm2 : X.mg x = none) (hv2 : bootBuiltins x = some (.type n))
    (hg : Gl X "isinstance" := by rfl) (hg2 : Gl X x := by rfl) (hn : x ≠ "__name__" := by decide) (hd : (x == ("__debug__" : Str)) = false := by decide)
    (he : starEach [e, .Name x p2] X.env = (false, eval e X.env) :: starEach [.Name x p2] X.env := by rfl) (he2 : starEach [.Name x p2] X.env = (false, eval (.Name x p2) X.env) :: starEach [] X.env := by rfl) (hpl : (backTo pos (starEach [.Name x p2] X.env)).any (·.1) = false := by rfl) :
    AE X (.Call (.Name "isinstance" p) [e, .Name x p2] [] pos) ρ m (B r) m1 :=
  a_cb call_isi (rc_isi (.ty n) ht hk) hm (by decide +kernel) (aa_cons ha (aa_cons (a_bty hm2 hv2 hg2 hn hd) aa_nil he2) he) hg (by decide) (by decide) he hpl
/-- .. an own class -/
theorem a_isC {t : Value} {Cc : Addr} {r : Bool} (ha : AE X e ρ m P m1) (ht : ∀ (d : List Addr) H v, P.p (mask H d) v → TyX X.K H v t) (hk : PySem.W.kitOne X.K t (.ref Cc) = some r) (hm : X.mg "isinstance" = none) (hm2 : X.mg x = some (.ref Cc))
    (hg : Gl X "isinstance" := by rfl) (hg2 : Gl X x := by rfl) (hd : (x == ("__debug__" : Str)) = false := by decide)
    (he : starEach [e, .Name x p2] X.env = (false, eval e X.env) :: starEach [.Name x p2] X.env := by rfl) (he2 : starEach [.Name x p2] X.env = (false, eval (.Name x p2) X.env) :: starEach [] X.env := by rfl) (hpl : (backTo pos (starEach [.Name x p2] X.env)).any (·.1) = false := by rfl) :
    AE X (.Call (.Name "isinstance" p) [e, .Name x p2] [] pos) ρ m (B r) m1 :=
  a_cb call_isi (rc_isi (.own Cc) ht hk) hm (by decide +kernel) (aa_cons ha (aa_cons (a_gref hm2 hg2 hd) aa_nil he2) he) hg (by decide) (by decide) he hpl
end
/-! ### the pool -/
structure Pool where
  script : List Int
  pos : Int
  cur : Int
  seed : Int
  left : Int
  bud : Int
abbrev Pool.mo (K : PySem.W.Frag) (p : Pool) : MO := .lst [L K (p.script.map I), I p.pos, I p.cur, I p.seed, I p.left, I p.bud]
def Pool.next (p : Pool) : Pool :=
  if p.cur ≤ 0 ∧ p.left ≤ 0 ∧ p.pos < p.script.length then
    { p with pos := p.pos + 1, seed := (p.seed * 31 + p.script.getD p.pos.toNat 0) % 2147483647, left := 7, cur := if p.script.getD p.pos.toNat 0 ≥ 10 ^ 18 then p.script.getD p.pos.toNat 0 else p.cur }
  else p
def Pool.draw (p : Pool) (size : Int) : Int × Pool :=
  if p.next.cur > 0 then (p.next.cur % size, { p.next with cur := p.next.cur / size, left := 0 })
  else (((p.next.seed * 48271 + 12345) % 2147483647 * 69621 + 7919) % 2147483647 % size, { p.next with left := p.next.left - 1, seed := (p.next.seed * 48271 + 12345) % 2147483647 })
theorem Pool.draw_lt (p : Pool) {size : Int} (h : 0 < size) : 0 ≤ (p.draw size).1 ∧ (p.draw size).1 < size := by
  unfold Pool.draw
  split
  · exact ⟨Int.emod_nonneg _ (by omega), Int.emod_lt_of_pos _ h⟩
  · exact ⟨Int.emod_nonneg _ (by omega), Int.emod_lt_of_pos _ h⟩
theorem Pool.next_pos {p : Pool} (h : 0 ≤ p.pos) : 0 ≤ p.next.pos := by
  unfold Pool.next
  split
  · show 0 ≤ p.pos + 1
    omega
  · exact h
theorem Pool.draw_pos {p : Pool} {size : Int} (h : 0 ≤ p.pos) : 0 ≤ (p.draw size).2.pos := by
  unfold Pool.draw
  split <;> exact Pool.next_pos h
def cPool (K : PySem.W.Frag) : CtO := fun Ps m mo m' => ∃ (ns : List Int) (b : Int), Ps = [L K (ns.map I), I b] ∧ mo = Pool.mo K ⟨ns, 0, 0, 1, 0, b⟩ ∧ m' = m
def cDraw (K : PySem.W.Frag) : Ct := fun Ps m P m' => ∃ (i : Nat) (a : Addr) (p : Pool) (size : Int), Ps = [R a, I size] ∧ m[i]? = some (a, p.mo K) ∧ 0 < size ∧ size < 1073741824 ∧ 0 ≤ p.pos ∧ P = I (p.draw size).1 ∧ m' = m.set i (a, (p.draw size).2.mo K)
end SV
namespace SV
open PySem L2 PyProof.Rows
open Evl (Ex ex_rd ex_l ex_t sz_of sz_lt)
section
variable {P : Program} {w : World} {K : PySem.W.Frag} {mg : Str → Option Value} {base : Heap}
theorem FunD_ct {x qual : Str} {params : Arguments} {body : List Stmt} {scope : Scope} {dvs : List V} {kws : List (Str × V)} {f : Addr} {fd : FuncData} {N ps : List Str} {k : Nat} (F : FunD K x qual params body scope dvs kws f fd) (Sc : FnScope N ps scope) (S : Ct) (hl : ∀ Ps m P m', S Ps m P m' → Ps.length = ps.length)
    (hbody : ∀ (cdv : Value) (A : Around) (outer : List PySem.Env) (s : Shared) (H : Hp) (E : XK), Room k (A.deeper (envOfC qual scope s.heap.objs.size f cdv)) → ∀ (Ps : List MP) (m : Sto) (Pr : MP) (m' : Sto), S Ps m Pr m' → ∀ (b0 : Hp) (Q : VK), Ret Q Pr m' b0 →
      GS (bodyX CX0 P w K mg base N qual scope f cdv A outer s H E) body (ends Q) (start' N Ps) m b0) : FnOk P w K mg base CX0 (k + 1) f fd ps (spC S) := by
  refine F.ok Sc (fun vs H Q E ⟨Ps, m, Pr, m', h, _, a, _⟩ => by rw [← a.length]; exact hl Ps m Pr m' h) (fun cdv A outer s H vs Q E hr ⟨Ps, m, Pr, m', h, hd, a, o, q⟩ => ?_)
  refine ⟨cSs _ _, PSs.nox pcSs, hbody cdv A outer s H E hr Ps m Pr m' h (mask H (dom m)) Q (fun v H' o' ex pv => ?_) _ H ⟨env_start a, o⟩ (Ex.refl _)⟩
  exact q v H' (by rw [hd] at ex; exact ex) o' (by rw [hd] at pv; exact pv)
theorem FkD_of {x qual : Str} {st : Stmt} {sp : Sp} {k : Nat} {ps : List Str} {dvs : List V} (d : ∃ f fd, FunD K x qual (defArgs st) (defBody st) (defScope st) dvs [] f fd ∧ mg x = some (.ref f)) (n j : Nat) (hd : dvs ≠ []) (hn : n + (dvs.length - j) = ps.length)
    (h : ∀ (T : Addr) (kV doc pm : Value) (an : Option Addr) (cdv ct : Value) (us its : List Value), us.length = n → its.length = dvs.length →
      ∃ k, bindArgs (PySem.W.fnOf x qual (defArgs st) (defBody st) (defScope st) (.ref T) kV doc pm an cdv ct) ⟨us, []⟩ = seqItems? (.ref T) >>= k ∧ k (some its.toArray) = pure (ps.zip (us ++ its.drop j)))
    (ok : ∀ f fd, FunD K x qual (defArgs st) (defBody st) (defScope st) dvs [] f fd → FnOk P w K mg base CX0 k f fd ps sp) : Fk P w K mg base k x sp (dvs.drop j) := by
  obtain ⟨f, fd, F, hmg⟩ := d
  obtain ⟨ds, h1, h2⟩ := F.binds1 n j hd hn h
  exact ⟨f, fd, ps, ds, ok f fd F, hmg, F.kp, h2, h1⟩
end
end SV
namespace SV
open PySem L2 PyProof.Rows
open Evl (Ex ex_rd ex_l ex_t sz_of sz_lt)
section
variable {X : Cx} {ρ : Rho} {m : Sto} {e1 e2 : Expr} {pos p : Pos}
theorem dom_at {m : Sto} {i : Nat} {a : Addr} {mo x y : MO} (h : m[i]? = some (a, mo)) : dom (m.set i (a, x)) = dom (m.set i (a, y)) := by rw [dom_put h, dom_put h]
theorem a_draw {n l i : Nat} {a : Addr} {mo : MO} {q : Pool} {size : Int} (F : Fk X.prog X.w X.K X.mg X.base n "_law_draw" (spC (cDraw X.K)) []) (hr : Room l X.A) (hn : n ≤ l) (hm : m[i]? = some (a, mo)) (h0 : 0 < size) (hs : size < 1073741824) (hp : 0 ≤ q.pos)
    (ha : AE X e1 ρ (m.set i (a, q.mo X.K)) (R a) (m.set i (a, q.mo X.K))) (hb : AE X e2 ρ (m.set i (a, q.mo X.K)) (I size) (m.set i (a, q.mo X.K))) (hg : Gl X "_law_draw" := by rfl)
    (he1 : starEach [e1, e2] X.env = (false, eval e1 X.env) :: starEach [e2] X.env := by rfl) (he2 : starEach [e2] X.env = (false, eval e2 X.env) :: starEach [] X.env := by rfl) (hpl : (backTo pos (starEach [e2] X.env)).any (·.1) = false := by rfl) :
    AE X (.Call (.Name "_law_draw" p) [e1, e2] [] pos) ρ (m.set i (a, q.mo X.K)) (I (q.draw size).1) (m.set i (a, (q.draw size).2.mo X.K)) :=
  a_call F hr hn (aa_cons ha (aa_cons hb aa_nil he2) he1) ⟨i, a, q, size, rfl, set_at (List.getElem?_eq_some_iff.mp hm).1, h0, hs, hp, rfl, by rw [List.set_set]⟩ (dom_at hm) hg (by decide) he1 hpl
end
theorem atI_of {α β : Type} (f : α → β) {xs : List α} {d : α} {i : Int} (h0 : 0 ≤ i) (h1 : i < xs.length) : atI (xs.map f) i = some (f (xs.getD i.toNat d)) := by
  have e : i = (i.toNat : Int) := by omega
  rw [e]
  refine atI_nat' ?_
  rw [List.getElem?_map, List.getElem?_eq_getElem (by omega), List.getD_eq_getElem?_getD, Int.toNat_natCast, List.getElem?_eq_getElem (by omega)] <;> rfl
end SV

/-! SVTwo: new lists, texts walked, dicts written, data compared, own ==. -/
namespace SV
open PySem L2 PyProof.Rows
open Evl (Ex ex_rd ex_l ex_t sz_of sz_lt)
/-- a list that was made here (not one of the top's, not locked), that nobody changes any more -/
def Lf (Ps : List MP) : MP := ⟨fun H v => ∃ a vs, v = .ref a ∧ H a = some (.lst vs) ∧ All H Ps vs, fun e ⟨a, vs, h1, h2, h3⟩ => ⟨a, vs, h1, e _ _ h2, h3.mono e⟩⟩
theorem Lf.L {K : PySem.W.Frag} {Ps : List MP} : ∀ H v, (Lf Ps).p H v → (SV.L K Ps).p H v := fun H v ⟨a, vs, h1, h2, h3⟩ => ⟨a, vs, h1, Or.inl (Or.inl h2), h3⟩
theorem Ret.lstF {Q : VK} {Ps : List MP} {m : Sto} {a : Addr} {b0 : Hp} (h : Ret Q (Lf Ps) m b0) : Ret Q (R a) ((a, .lst Ps) :: m) b0 := fun v H o ex pv => by
  obtain ⟨u, hu, vs, rfl, q⟩ := o.ok 0 a _ rfl
  refine h v H o.drop (ex.trans mask_drop) ⟨a, vs, pv, ?_, q.mono mask_drop⟩
  rw [mask_out (List.nodup_cons.mp o.nd).1]
  exact hu
section
variable {X : Cx} {ρ : Rho} {m m1 m2 m3 : Sto} {P P1 P2 P3 : MP} {mo mo' : MO} {e a b c f o elt iter : Expr} {es rest : List Expr} {pos p p2 p3 p4 apos cpos px py : Pos} {x y fl : Str} {i j k : Int} {te ta : TE} {A : TA} {D : Ends} {b0 : Hp} {sts : List Stmt} {scope : Scope}
theorem EvO.lf {Ps : List MP} (E : EvO te ρ m (.lst Ps) m1) : Ev te ρ m (Lf Ps) m1 := ⟨E.d, fun σ H Q s q => E.go σ H Q s fun a H' o n => by
  obtain ⟨u, hu, vs, rfl, hall⟩ := o.ok 0 a _ rfl
  refine q _ H' (Ex.trans n (by rw [← E.d]; exact mask_drop)) o.drop ⟨a, vs, rfl, ?_, by rw [← E.d]; exact hall.mono mask_drop⟩
  rw [← E.d, mask_out (List.nodup_cons.mp o.nd).1]
  exact hu⟩
theorem EvO.l {K : PySem.W.Frag} {Ps : List MP} (E : EvO te ρ m (.lst Ps) m1) : Ev te ρ m (L K Ps) m1 := E.lf.to Lf.L
theorem a_lstF {Ps : List MP} (h : AA X es ρ m Ps m1) (hl : Ps.length ≤ 100000 := by first | decide | exact Nat.le_of_ble_eq_true rfl) : AE X (.List es pos) ρ m (Lf Ps) m1 := (o_lst h hl).lf
/-- xs + ys -/
theorem a_catL {Ps Qs : List MP} (ha : AE X a ρ m (Lf Ps) m1) (hb : AE X b ρ m1 (Lf Qs) m2) (hz : Ps.length + Qs.length ≤ 100000) : AE X (.BinOp a .Add b pos) ρ m (Lf (Ps ++ Qs)) m2 :=
  a_bin op_cat (fun d H v u Q fr h1 h2 q => by
    obtain ⟨l, xs, rfl, hl, hall⟩ := h1
    obtain ⟨l2, ys, rfl, hl2, hall2⟩ := h2
    exact ⟨l, l2, xs, ys, rfl, rfl, mask_sub _ _ hl, mask_sub _ _ hl2, sz_of (by rw [← hall.length, ← hall2.length]; exact hz), fun z hz => q _ _ (Ex.new hz) ⟨z, _, rfl, fr.at hz, (hall.append hall2).mono (mask_ex (Ex.new hz))⟩⟩) ha hb
/-! ### comprehensions over a text -/
theorem lc_it {J : It} {n : Nat} {val : Nat → V} (hgo : ∀ i H, i < n → J.go i H) (hst : ∀ i H, n ≤ i → J.stop i H) (hy : ∀ i H x H', i < n → J.yld i H x H' → H' = H ∧ x = val i) {g : TG} {tt : TT} {te : TE} {vs : List Nat} {σ : L2.St} {H1 : Hp} {D : Addr} {Qd : Hp → Prop} (Pv : Nat → Hp → Prop) (h0 : Pv 0 (upd H1 D (.lst [])))
    (hs : ∀ i H, i < n → Pv i H → g (val i) (wipe σ vs) H fun σ2 H2 => wipe σ2 vs = wipe σ vs ∧ tt σ2 H2 fun b H3 =>
      if b = true then te σ2 H3 fun y H4 => ∃ acc, H4 D = some (.lst acc) ∧ acc.length < sizeLine ∧ Pv (i + 1) (upd H4 D (.lst (acc ++ [y]))) else Pv (i + 1) H3) (hd : ∀ H, Pv n H → Qd H) :
    ∃ W : Nat → Nat → Hp → Prop, (∃ m, W 0 m (upd H1 D (.lst []))) ∧ ∀ i m H, W i m H →
      (J.stop i H ∧ Qd H) ∨ (J.go i H ∧ ∃ Nx : Hp → Prop, (∀ H', Nx H' → ∃ m', m' < m ∧ W (i + 1) m' H') ∧ ∀ x H', J.yld i H x H' → g x (wipe σ vs) H' fun σ2 H2 => wipe σ2 vs = wipe σ vs ∧ tt σ2 H2 fun b H3 =>
        if b = true then te σ2 H3 fun y H4 => ∃ acc, H4 D = some (.lst acc) ∧ acc.length < sizeLine ∧ Nx (upd H4 D (.lst (acc ++ [y]))) else Nx H3) := by
  refine ⟨fun i m H => m = n - i ∧ i ≤ n ∧ Pv i H, ⟨n, by simp, Nat.zero_le _, h0⟩, ?_⟩
  rintro i m H ⟨rfl, hi, p⟩
  by_cases hlt : i < n
  · refine .inr ⟨hgo i H hlt, Pv (i + 1), fun H' p' => ⟨n - (i + 1), by omega, rfl, hlt, p'⟩, fun x H' y => ?_⟩
    obtain ⟨e, e2⟩ := hy i H x H' hlt y
    subst e e2
    exact hs i _ hlt p
  · have e : i = n := by omega
    subst e
    exact .inl ⟨hst i H (Nat.le_refl _), hd H p⟩
abbrev sign (s : Str) (n : Nat) : Str := ⟨#[s.cps.toList.getD n 0]⟩
theorem a_lcS {own : List (Str × Nat)} {jx : Nat} {s : Str} (ok : LcOk X scope own x jx) (hi : AE X iter ρ m (S s) m1) (ms : Nat → Sto) (Rs : Nat → MP) (h0 : ms 0 = m1) (hd : ∀ n, dom (ms n) = dom m1) (hz : s.length ≤ 40000)
    (he : ∀ n q, n < s.length → BE X scope elt ((wipeR ρ (own.map (·.2))).set jx (some (S (sign s n)))) (q :: ms n) (Rs n) (q :: ms (n + 1))) (hs : ∀ x, foldedSetIterable iter X.env x = pure x := by intro _; rfl) :
    AE X (.ListComp elt [⟨.Name x px, iter, [], 0⟩] scope pos) ρ m (L X.K ((List.range s.length).map Rs)) (ms s.length) :=
  Ev.can (pe_lc ok.hc ok.hN (pi_str pcE) ok.ok ok.pg (fun _ _ _ _ _ => pts_nil) pcB hs) ⟨(hd _).trans hi.d, fun σ H Q st q => hi.go σ H _ st fun v H1 n1 o1 p1 => by
    have p1 : v = .str s := p1
    subst p1
    refine ⟨s, rfl, fun Dl hDl => ?_⟩
    have s1 := st.go hi.d n1 o1
    refine lc_it (n := s.length) (val := fun n => .str (sign s n)) (fun i H h => h) (fun i H h => h) ?_ (fun n H' => LcSt (wipeR ρ (own.map (·.2))) (ms n) (wipe σ (own.map (·.2))) (mask H1 (dom m1)) Dl (picks (fun _ => true) Rs n) H') (by have := LcSt.start (bs := fun _ => true) (Rs := Rs) (own := own.map (·.2)) s1 hDl; rw [h0]; exact this) ?_ ?_
    · intro n H2 x H3 hn hyl
      obtain ⟨e1, c, hc, e2⟩ := hyl
      refine ⟨e1, ?_⟩
      subst e2
      have : s.cps.toList.getD n 0 = c := by
        rw [List.getD_eq_getElem?_getD, Array.getElem?_toList, hc] <;> rfl
      show V.str ⟨#[c]⟩ = V.str (sign s n)
      unfold sign
      rw [this]
    · intro n H' hn st
      refine ⟨ok.hw σ _, ?_⟩
      exact lc_turn (P := S (sign s n)) (mn' := ms (n + 1)) st (by omega) rfl ((hd _).trans (hd _).symm) (fun q => et_yes) (fun _ q => BE.ev (he n q hn) (by have e1 := hd (n + 1); have e2 := hd n; simp only [dom, List.map_cons] at e1 e2 ⊢; rw [e1, e2])) (fun z => nomatch z)
    · intro H' st
      refine st.fin (K := X.K) fun v H'' o'' g'' p'' => q v H'' ?_ o'' ?_
      · have g3 : Ex (mask H1 (dom m)) (mask H'' (dom m)) := by
          have g4 : Ex (mask H1 (dom m1)) (mask H'' (dom (ms s.length))) := g''
          rw [hd, hi.d] at g4; exact g4
        exact Ex.trans n1 g3
      · rw [← picks_all]
        have p3 : (L X.K (picks (fun _ => true) Rs s.length)).p (mask H'' (dom (ms s.length))) v := p''
        rw [hd, hi.d] at p3; exact p3⟩
/-! ### {"k": v, ..} -/
inductive DS (X : Cx) : List (Option Expr) → List Expr → Rho → Sto → List (Key × MP) → Prop where
  | nil {ρ : Rho} {m : Sto} : DS X [] [] ρ m []
  | cons {k v : Expr} {ks : List (Option Expr)} {vs : List Expr} {ρ : Rho} {m : Sto} {key : Key} {P : MP} {kvs : List (Key × MP)} (hk : ∀ q, AE X k ρ (q :: m) (C (kV key)) (q :: m)) (hv : ∀ q, AE X v ρ (q :: m) P (q :: m)) (r : DS X ks vs ρ m kvs) : DS X (some k :: ks) (v :: vs) ρ m ((key, P) :: kvs)
theorem DS.go {keys : List (Option Expr)} {vals : List Expr} {kvs : List (Key × MP)} (h : DS X keys vals ρ m kvs) : ∃ trs, PPs X pos keys vals trs ∧ ∀ (q : Addr × MO) (σ : L2.St) (H : Hp) (Q : List (V × V) → Hp → Prop), Stt ρ (q :: m) σ H →
    (∀ (ws : List (Key × V)) H', Nxt (q :: m) H H' → Own (q :: m) H' → KVs (mask H' (dom (q :: m))) kvs ws → Q (ws.map fun kv => (kV kv.1, kv.2)) H') → tPairs trs σ H Q := by
  induction h with
  | nil => exact ⟨[], pps_nil, fun q σ H Q s k => k [] H .refl s.own .nil⟩
  | @cons k v ks vs ρ m key P kvs hk hv r ih =>
    obtain ⟨trs, hp, hg⟩ := ih
    refine ⟨(cE X k, cE X v) :: trs, pps_cons pcE pcE hp, fun q σ H Q s kk => ?_⟩
    refine (hk q).go σ H _ s fun u H1 n1 o1 p1 => ?_
    have p1 : u = kV key := p1
    subst p1
    refine (hv q).go σ H1 _ (s.go rfl n1 o1) fun z H2 n2 o2 p2 => ?_
    refine hg q σ H2 _ (s.go rfl (n1.trans rfl n2) o2) fun ws H3 n3 o3 hall => ?_
    exact kk ((key, z) :: ws) H3 ((n1.trans rfl n2).trans rfl n3) o3 (.cons ⟨rfl, P.mono n3 p2⟩ hall)
theorem merge_nil {ws : List (Key × V)} (hnd : (ws.map (·.1)).Nodup) : mergeK [] ws = ws := by
  have gen : ∀ (ws acc : List (Key × V)), ((acc ++ ws).map (·.1)).Nodup → mergeK acc ws = acc ++ ws := by
    intro ws
    induction ws with
    | nil => intro acc _; simp [mergeK]
    | cons p ws ih =>
      intro acc hn
      have e : putK acc p.1 p.2 = acc ++ [p] := by
        unfold putK
        rw [if_neg]
        intro z
        obtain ⟨y, hy, hz⟩ := List.any_eq_true.mp z
        have hz := of_decide_eq_true hz
        rw [List.map_append, List.nodup_append] at hn
        exact hn.2.2 y.1 (List.mem_map.mpr ⟨y, hy, rfl⟩) p.1 (by simp) hz
      show mergeK (putK acc p.1 p.2) ws = _
      rw [e, ih (acc ++ [p]) (by simpa using hn)]
      simp
  have := gen ws [] (by simpa using hnd)
  simpa using this
theorem KVs.keys {H : Hp} : ∀ {Ps : List (Key × MP)} {vs : List (Key × V)}, KVs H Ps vs → vs.map (·.1) = Ps.map (·.1)
  | _, _, .nil => rfl
  | _, _, .cons h t => by simp only [List.map_cons]; rw [h.1, KVs.keys t]
theorem a_disp {keys : List (Option Expr)} {vals : List Expr} {kvs : List (Key × MP)} (h : DS X keys vals ρ m kvs) (hnd : (kvs.map (·.1)).Nodup) (h15 : kvs.length ≤ 15) (hall : keys.all (·.isSome) = true := by rfl) (hl : keys.length = vals.length := by rfl) (h0 : keys ≠ [] := by exact List.cons_ne_nil _ _) (hk15 : keys.length ≤ 15 := by exact Nat.le_of_ble_eq_true rfl) :
    AE X (.Dict keys vals pos) ρ m (Dk kvs) m := by
  obtain ⟨trs, hp, hg⟩ := h.go (pos := pos)
  refine Ev.can (pe_disp hp hall hl h0 hk15) ⟨rfl, fun σ H Q s q => fun l hl => ?_⟩
  have n0 := new_sight (m := m) (mo := .dct []) (u := .dK []) hl
  refine hg (l, .dct []) σ _ _ ⟨s.env.mono n0, s.own.add hl ⟨[], rfl, .nil⟩⟩ fun ws H' n1 o1 hws => ?_
  obtain ⟨u, hu, ws0, rfl, h00⟩ := o1.ok 0 l _ rfl
  cases h00
  refine ⟨hu, ws, rfl, ?_, ?_⟩
  · have := congrArg List.length hws.keys
    simp only [List.length_map] at this
    omega
  · rw [merge_nil (by rw [hws.keys]; exact hnd)]
    have o2 : Own ((l, .dct kvs) :: m) (upd H' l (.dK ws)) := o1.put (i := 0) (mo' := .dct kvs) rfl ⟨ws, rfl, hws⟩
    have hm : mask (upd H' l (.dK ws)) (dom ((l, MO.dct kvs) :: m)) = mask H' (dom ((l, MO.dct []) :: m)) := mask_put (m := (l, MO.dct []) :: m) (i := 0) (mo := .dct []) rfl
    have n2 : Ex (mask H (dom m)) (mask (upd H' l (.dK ws)) (dom ((l, MO.dct kvs) :: m))) := by rw [hm]; exact n0.trans n1
    refine q _ _ (n2.trans mask_drop) o2.drop ⟨l, ws, rfl, ?_, ?_⟩
    · rw [mask_out (List.nodup_cons.mp o2.nd).1, upd_same]
    · have h3 : KVs (mask (upd H' l (.dK ws)) (dom ((l, MO.dct kvs) :: m))) kvs ws := by rw [hm]; exact hws
      exact h3.mono mask_drop
end
end SV

/-! SVEq: data compared at any depth; an own ==. -/
namespace SV
open PySem L2 PyProof.Rows
open Evl (Ex ex_rd ex_l ex_t sz_of sz_lt)
mutual
def Dt.py : Dt → PyData
  | .int i => .int i
  | .bl b => .bool b
  | .str s => .str s
  | .non => .none
  | .tup xs => .tuple (pys xs)
  | .lst xs => .list (pys xs)
def pys : List Dt → List PyData
  | [] => []
  | x :: xs => x.py :: pys xs
end
mutual
theorem dp_of {K : PySem.W.Frag} {H : Hp} : ∀ (d : Dt) (v : V), (rp K d).p H v → Dp K H v d.py
  | .int i, v, h => by
    simp only [rp] at h
    have h : v = .int i := h
    subst h
    simp only [Dt.py]
    exact .int i
  | .bl i, v, h => by
    simp only [rp] at h
    have h : v = .bl i := h
    subst h
    simp only [Dt.py]
    exact .bl i
  | .str i, v, h => by
    simp only [rp] at h
    have h : v = .str i := h
    subst h
    simp only [Dt.py]
    exact .str i
  | .non, v, h => by
    simp only [rp] at h
    have h : v = .non := h
    subst h
    simp only [Dt.py]
    exact .non
  | .tup xs, v, h => by
    simp only [rp] at h
    obtain ⟨a, vs, rfl, h1, h2⟩ := h
    simp only [Dt.py]
    exact .tup h1 (dps_of xs vs h2)
  | .lst xs, v, h => by
    simp only [rp] at h
    obtain ⟨a, vs, rfl, h1, h2⟩ := h
    simp only [Dt.py]
    exact .lst h1 (dps_of xs vs h2)
theorem dps_of {K : PySem.W.Frag} {H : Hp} : ∀ (xs : List Dt) (vs : List V), All H (rps K xs) vs → DpAll K H vs (pys xs)
  | [], vs, h => by
    simp only [rps] at h
    cases h
    simp only [pys]
    exact .nil
  | x :: xs, vs, h => by
    simp only [rps] at h
    cases h with
    | cons r t =>
      simp only [pys]
      exact .cons (dp_of x _ r) (dps_of xs _ t)
end
section
variable {X : Cx} {ρ : Rho} {m m1 m2 m3 : Sto} {P P1 P2 P3 : MP} {e a b c f o : Expr} {pos p p2 : Pos} {x : Str}
theorem rv_eqD {K : PySem.W.Frag} {d1 d2 : Dt} (s1 : SeqAt.shaped d1.py = true) (s2 : SeqAt.shaped d2.py = true) : RV (rEqD K) (rp K d1) (rp K d2) (B (PyData.eqv d1.py d2.py)) := fun d H v u Q _ h1 h2 q =>
  ⟨d1.py, d2.py, dp_of d1 v ((rp K d1).mono mask_sub h1), dp_of d2 u ((rp K d2).mono mask_sub h2), s1, s2, q _ H (Ex.refl _) rfl⟩
theorem a_eqD {d1 d2 : Dt} (hu : X.A.units + 64 < cLine) (s1 : SeqAt.shaped d1.py = true) (s2 : SeqAt.shaped d2.py = true) (ha : AE X a ρ m (rp X.K d1) m1) (hb : AE X b ρ m1 (rp X.K d2) m2) : AE X (.Compare a [.Eq] [b] pos) ρ m (B (PyData.eqv d1.py d2.py)) m2 := a_cmp (op_eqD hu) (rv_eqD s1 s2) ha hb
theorem t_neD {d1 d2 : Dt} (hu : X.A.units + 64 < cLine) (s1 : SeqAt.shaped d1.py = true) (s2 : SeqAt.shaped d2.py = true) (ha : AE X a ρ m (rp X.K d1) m1) (hb : AE X b ρ m1 (rp X.K d2) m2) : AT X (.Compare a [.NotEq] [b] pos) ρ m (!PyData.eqv d1.py d2.py) m2 :=
  t_cmp (op_neD hu) (fun d H v u Q _ h1 h2 q => ⟨d1.py, d2.py, dp_of d1 v ((rp X.K d1).mono mask_sub h1), dp_of d2 u ((rp X.K d2).mono mask_sub h2), s1, s2, q _ H (Ex.refl _) rfl⟩) ha hb
/-- a == b, both of the class at Cc, by its own __eq__ -/
def rOwn (Cc : Addr) (S : Ct) : R2 := fun x y H Q => (∃ a b dx dy fs gs, x = .ref a ∧ y = .ref b ∧ H a = some (.ins Cc dx fs) ∧ H b = some (.ins Cc dy gs)) ∧ spC S [x, y] H (fun z H' => (∃ r, z = .bl r) ∧ Q z H') E0
theorem op_ownEq {n l : Nat} {Cc g : Addr} {fd : FuncData} {ps : List Str} {S : Ct} (F : FnOk X.prog X.w X.K X.mg X.base CX0 n g fd ps (spC S)) (hr : Room l X.A) (hl : n ≤ l)
    (hs : PySem.W.findIn X.K (.ref Cc) "__eq__" = some (some (.ref g))) (hf : PySem.W.isFn X.K (.ref g) = true) (hb : Binds X.K fd ps []) : OpR X (compareOp .Eq) (rOwn Cc S) := by
  intro pins s σ H x y u v Q I rx ry h
  obtain ⟨⟨a, b, dx, dy, fs, gs, rfl, rfl, ha, hb'⟩, hsp⟩ := h
  cases rx
  cases ry
  obtain ⟨mA, J, _⟩ := ins_get I.hok ha
  obtain ⟨mB, J', _⟩ := ins_get I.hok hb'
  obtain ⟨od, J, _⟩ := J.look
  obtain ⟨od', J', _⟩ := J'.look
  obtain ⟨m, hF⟩ := I.fr
  show wpAny (model X.prog X.w) X.A (richCompare .Eq (.ref a) (.ref b)) (EP X pins σ Q) X.xe s
  refine PySem.W.cmp_K (op := .Eq) (tb := .ref Cc) hr.units0 hF I.ok.mod.kin J J'.type (by simp [PySem.W.notFirst]) hs hf ?_
  have e0 := I.env0
  have hl' := F.len _ _ _ _ hsp
  have r2 : Vals [V.ref a, V.ref b] [Value.ref a, Value.ref b] := .cons rfl (.cons rfl .nil)
  refine wpAny_call (codeAny_mono (F.run X.A X.stack s H ⟨[.ref a, .ref b], []⟩ [.ref a, .ref b] [.ref a, .ref b] _ E0 (hr.mono hl) e0 (by
    have := hb s [.ref a, .ref b] I.kIn (by simpa using hl')
    simpa using this) r2 hsp) fun r s' hq => ?_)
  cases r with
  | error e => exact False.elim hq
  | ok fl =>
    cases fl with
    | ret w =>
      obtain ⟨z, H', I', rz, ⟨r, ez⟩, q⟩ := I.after hq
      subst ez
      cases rz
      exact ⟨.bl r, H', I', rfl, q⟩
    | next => exact False.elim hq
    | brk => exact False.elim hq
    | cont => exact False.elim hq
theorem a_ownEq {n l : Nat} {Cc g : Addr} {fd : FuncData} {ps : List Str} {S : Ct} {fs gs : List (Str × MP)} {r : Bool} (F : FnOk X.prog X.w X.K X.mg X.base CX0 n g fd ps (spC S)) (hr : Room l X.A) (hl : n ≤ l)
    (hs : PySem.W.findIn X.K (.ref Cc) "__eq__" = some (some (.ref g))) (hf : PySem.W.isFn X.K (.ref g) = true) (hb : Binds X.K fd ps []) (ha : AE X a ρ m (O Cc fs) m1) (hb2 : AE X b ρ m1 (O Cc gs) m2) (h : S [O Cc fs, O Cc gs] m2 (B r) m2) :
    AE X (.Compare a [.Eq] [b] pos) ρ m (B r) m2 := Ev.can (pe_cmpR (op_ownEq F hr hl hs hf hb) pcE pcE (nobehind _ (by decide) (by decide))) ⟨hb2.d.trans ha.d, fun σ H Q s q => by
  refine ha.go σ H _ s fun v H1 n1 o1 p1 => ?_
  have s1 := s.go ha.d n1 o1
  refine hb2.go σ H1 _ s1 fun u H2 n2 o2 p2 => ?_
  have p1' := (O Cc fs).mono (n2.to ha.d) p1
  have p2' : (O Cc gs).p (mask H2 (dom m)) u := by rw [← ha.d]; exact p2
  obtain ⟨a1, dx, ws, rfl, h1, h2⟩ := id p1'
  obtain ⟨a2, dy, zs, rfl, h3, h4⟩ := id p2'
  have hd := hb2.d.trans ha.d
  refine ⟨⟨a1, a2, dx, dy, ws, zs, rfl, rfl, mask_sub _ _ h1, mask_sub _ _ h3⟩, _, m2, B r, m2, h, rfl, .cons (by rw [hd]; exact p1') (.cons (by rw [hd]; exact p2') .nil), o2, fun z H3 n3 o3 pz => ?_⟩
  exact ⟨⟨r, pz⟩, q z H3 ((n1.trans ha.d n2).trans hd n3) o3 (by rw [← hd]; exact pz)⟩⟩
end
end SV

/-! SVFm: expressions as data; their words, texts, values. -/
namespace SV
open PySem L2 PyProof.Rows
open Evl (Ex ex_rd ex_l ex_t sz_of sz_lt)
def OPS : List Str := ["+", "-", "*", "/", "mod", "<", "="]
inductive Fm where
  | num (n : Nat) | var (s : Str) | kw (s : Str) | op (o : Str) (l r : Fm)
def numS (n : Nat) : Str := toString (n : Int)
/-- its data -/
def Fm.dt : Fm → Dt
  | .num n => .tup [.str "number", .int (n : Int)]
  | .var s => .tup [.str "variable", .str s]
  | .kw s => .tup [.str s]
  | .op o l r => .tup [.str o, l.dt, r.dt]
def Fm.rep (K : PySem.W.Frag) : Fm → MP
  | .num n => T K [S "number", I (n : Int)]
  | .var s => T K [S "variable", S s]
  | .kw s => T K [S s]
  | .op o l r => T K [S o, l.rep K, r.rep K]
theorem rep_dt (K : PySem.W.Frag) : ∀ f : Fm, f.rep K = rp K f.dt
  | .num n => by simp [Fm.rep, Fm.dt, rp, rps]
  | .var s => by simp [Fm.rep, Fm.dt, rp, rps]
  | .kw s => by simp [Fm.rep, Fm.dt, rp, rps]
  | .op o l r => by simp [Fm.rep, Fm.dt, rp, rps, rep_dt K l, rep_dt K r]
def Fm.ht : Fm → Nat
  | .op _ l r => max l.ht r.ht + 1
  | _ => 1
theorem Fm.ht_pos : ∀ f : Fm, 1 ≤ f.ht
  | .num _ => Nat.le_refl _
  | .var _ => Nat.le_refl _
  | .kw _ => Nat.le_refl _
  | .op _ _ _ => Nat.succ_le_succ (Nat.zero_le _)
theorem dt_dp : ∀ f : Fm, f.dt.dp ≤ f.ht
  | .num n => by simp [Fm.dt, Dt.dp, dps, Fm.ht]
  | .var s => by simp [Fm.dt, Dt.dp, dps, Fm.ht]
  | .kw s => by simp [Fm.dt, Dt.dp, dps, Fm.ht]
  | .op o l r => by
    have h1 := dt_dp l
    have h2 := dt_dp r
    simp only [Fm.dt, Dt.dp, dps, Fm.ht]
    omega
theorem dt_wd : ∀ f : Fm, f.dt.wd ≤ 3
  | .num n => by simp [Fm.dt, Dt.wd, wds]
  | .var s => by simp [Fm.dt, Dt.wd, wds]
  | .kw s => by simp [Fm.dt, Dt.wd, wds]
  | .op o l r => by
    have h1 := dt_wd l
    have h2 := dt_wd r
    simp only [Fm.dt, Dt.wd, wds, List.length_cons, List.length_nil]
    omega
def Fm.words : Fm → List Str
  | .num n => [numS n]
  | .var s => [s]
  | .kw s => [s]
  | .op o l r => o :: (l.words ++ r.words)
def Fm.txt : Fm → Str
  | .num n => numS n
  | .var s => s
  | .kw s => s
  | .op o l r => glue Str.empty [o, " ", l.txt, " ", r.txt]
/-- what an operator makes of two values -/
def reck (o : Str) (a b : Int) : Int :=
  if o = "+" then (a + b) % 65536
  else if o = "-" then (if 0 > a - b then 0 else a - b)
  else if o = "*" then a * b % 65536
  else if o = "<" then (if a < b then 1 else 0)
  else if o = "=" then (if a = b then 1 else 0)
  else if b = 0 then 0
  else if o = "/" then a / b
  else a % b
def Fm.val (env : Str → Int) : Fm → Int
  | .num n => n
  | .var s => env s
  | .kw s => env s
  | .op o l r => reck o (l.val env) (r.val env)
/-- numbers in range, written operators, names out of ns -/
def Fm.ok (ns : List Str) : Fm → Prop
  | .num n => n ≤ 65535
  | .var s => s ∈ ns
  | .kw s => s ∈ ns
  | .op o l r => o ∈ OPS ∧ l.ok ns ∧ r.ok ns
theorem reck_lt (o : Str) {a b : Int} (ha : 0 ≤ a ∧ a ≤ 65535) (hb : 0 ≤ b ∧ b ≤ 65535) : 0 ≤ reck o a b ∧ reck o a b ≤ 65535 := by
  unfold reck
  repeat' split
  all_goals first
    | omega
    | skip
  · have h1 := Int.ediv_nonneg ha.1 hb.1
    have h2 := Int.ediv_le_self b ha.1
    omega
  · have h1 := Int.emod_nonneg a (b := b) (by omega)
    have h2 := Int.emod_lt_of_pos a (b := b) (by omega)
    omega
theorem val_lt {ns : List Str} {env : Str → Int} (he : ∀ s, s ∈ ns → 0 ≤ env s ∧ env s ≤ 65535) : ∀ f : Fm, f.ok ns → 0 ≤ f.val env ∧ f.val env ≤ 65535
  | .num n, h => by
    have h : n ≤ 65535 := h
    show 0 ≤ (n : Int) ∧ (n : Int) ≤ 65535
    omega
  | .var s, h => he s h
  | .kw s, h => he s h
  | .op o l r, h => reck_lt o (val_lt he l h.2.1) (val_lt he r h.2.2)
end SV

/-! SVNum: texts that are numbers; words and texts. -/
namespace SV
open PySem L2 PyProof.Rows
open Evl (Ex ex_rd ex_l ex_t sz_of sz_lt)
abbrev tl (s : Str) : List Nat := s.cps.toList
def isDig (c : Nat) : Bool := decide (c ∈ tl "0123456789")
theorem isDig_iff {c : Nat} : isDig c = true ↔ 48 ≤ c ∧ c ≤ 57 := by
  have e : tl "0123456789" = [48, 49, 50, 51, 52, 53, 54, 55, 56, 57] := by decide +kernel
  unfold isDig
  rw [e]
  simp only [decide_eq_true_eq, List.mem_cons, List.not_mem_nil, or_false]
  omega
def numV (s : Str) : Int := (NumText.digitsVal (tl s) : Nat)
def isNum (s : Str) : Bool := (decide (1 ≤ s.length) && decide (s.length ≤ 5)) && ((tl s).all isDig && (if Txt.startswith s "0" then decide (s = "0") else decide (numV s ≤ 65535)))
theorem len_tl (s : Str) : s.length = (tl s).length := by show s.cps.size = _; simp
theorem all_range (p : Nat → Bool) : ∀ l : List Nat, (List.range l.length).all (fun n => p (l.getD n 0)) = l.all p
  | [] => rfl
  | x :: l => by
    rw [List.length_cons, List.range_succ_eq_map, List.all_cons, List.all_map, List.all_cons]
    have := all_range p l
    rw [← this]
    rfl
theorem mk_tl (s : Str) : (⟨(tl s).toArray⟩ : Str) = s := by
  cases s with
  | mk a => simp [tl]
theorem intText_dig {s : Str} (h : (tl s).all isDig = true) (hne : tl s ≠ []) (hl : s.length ≤ 4300) : PySem.intText? s = some (numV s) := by
  have h2 : (tl s).all (fun c => decide (48 ≤ c) && decide (c ≤ 57)) = true := by
    rw [List.all_eq_true] at h ⊢
    intro c hc
    have := isDig_iff.mp (h c hc)
    simp [this]
  have e := SX.int_S h2 hne (by rw [← len_tl]; exact hl)
  rw [show SX.S (tl s) = s from mk_tl s] at e
  exact e
theorem numS_tl (n : Nat) : tl (numS n) = TL.numL n := TL.tl_num n
theorem numL_head : ∀ (n : Nat), 1 ≤ n → ∀ c, (TL.numL n)[0]? = some c → 49 ≤ c := by
  intro n
  induction n using Nat.strongRecOn with
  | _ n ih =>
    intro hn c hc
    by_cases h : n < 10
    · rw [TL.numL_lt h] at hc
      simp at hc
      omega
    · rw [TL.numL_step (by omega)] at hc
      have hne := TL.numL_ne (n / 10)
      rw [List.getElem?_append_left (by cases e : TL.numL (n / 10) with | nil => exact absurd e hne | cons _ _ => simp)] at hc
      exact ih (n / 10) (by omega) (by omega) c hc
theorem starts0 {s : Str} (h : Txt.startswith s "0" = true) : (tl s)[0]? = some 48 := by
  unfold Txt.startswith at h
  simp only [Bool.and_eq_true, decide_eq_true_eq] at h
  have e : ("0" : Str) = ⟨#[48]⟩ := by decide +kernel
  rw [e] at h
  exact (PySem.StrLaws.subAt_one s 48 0).mp h
theorem numS_isNum {n : Nat} (h : n ≤ 65535) : isNum (numS n) = true ∧ numV (numS n) = n := by
  have hv : numV (numS n) = n := by
    unfold numV
    rw [numS_tl, TL.numL_val]
  have hl : (numS n).length ≤ 5 := by
    rw [len_tl, numS_tl]
    exact TL.numL_len (by omega) (by omega)
  have hne : 1 ≤ (numS n).length := by
    rw [len_tl, numS_tl]
    have := TL.numL_ne n
    cases e : TL.numL n with
    | nil => exact absurd e this
    | cons _ _ => simp
  have hd : (tl (numS n)).all isDig = true := by
    rw [numS_tl, List.all_eq_true]
    intro c hc
    have := TL.numL_digits n c hc
    exact isDig_iff.mpr (by first | exact this | omega)
  refine ⟨?_, hv⟩
  unfold isNum
  rw [hd, hv]
  simp only [hl, hne, decide_true, Bool.and_true, Bool.true_and]
  split
  · rename_i hs
    have h0 := starts0 hs
    rw [numS_tl] at h0
    have : n = 0 := by
      by_cases hz : n = 0
      · exact hz
      · have := numL_head n (by omega) 48 h0
        omega
    subst this
    decide +kernel
  · simp; omega
theorem ops_notNum {o : Str} (h : o ∈ OPS) : isNum o = false := by
  have : ∀ o ∈ OPS, isNum o = false := by decide +kernel
  exact this o h
/-! ### joined and split -/
theorem joinS (ws : List Str) : Txt.join " " ws = SX.S (TL.joinL [32] (ws.map tl)) := by
  have e : (" " : Str) = SX.S [32] := by decide +kernel
  have e2 : ws = (ws.map tl).map SX.S := by
    rw [List.map_map]
    conv => lhs; rw [← List.map_id ws]
    exact List.map_congr_left fun w _ => (mk_tl w).symm
  rw [e]
  conv => lhs; rw [e2]
  exact SX.join_S _ _
theorem split_join {ws : List Str} (hne : ws ≠ []) (h : ∀ w ∈ ws, 32 ∉ tl w) : Txt.split (Txt.join " " ws) " " = ws := by
  have e : (" " : Str) = SX.S [32] := by decide +kernel
  have e2 : (ws.map tl).map SX.S = ws := by
    rw [List.map_map]
    conv => rhs; rw [← List.map_id ws]
    exact List.map_congr_left fun w _ => mk_tl w
  rw [joinS]
  conv => lhs; rw [show (" " : Str) = SX.S [32] from e]
  rw [SX.split_S (by decide) (by decide)]
  rw [SX.spl_join (by intro z; exact hne (List.map_eq_nil_iff.mp z)) (by
    intro p hp
    obtain ⟨w, hw, rfl⟩ := List.mem_map.mp hp
    exact h w hw)]
  exact e2
end SV

/-! SVRd: an expression's words read. -/
namespace SV
open PySem L2 PyProof.Rows
open Evl (Ex ex_rd ex_l ex_t sz_of sz_lt)
def named (w : Str) : Fm := if w = "own" ∨ w = "lot" then .kw w else .var w
def rd (ws ns : List Str) : Nat → Nat → Except Nat (Fm × Nat)
  | 0, at_ => .error at_
  | d + 1, at_ => match ws[at_]? with
    | none => .error ws.length
    | some w =>
      if w ∈ ns then .ok (named w, at_ + 1)
      else if isNum w = true then .ok (.num (numV w).toNat, at_ + 1)
      else if w ∉ OPS ∨ d = 0 then .error at_
      else match rd ws ns d (at_ + 1) with
        | .error e => .error e
        | .ok (l, b) => match rd ws ns d b with
          | .error e => .error e
          | .ok (r, b2) => .ok (.op w l r, b2)
/-- what may be read back -/
def Fm.good (ns : List Str) : Fm → Prop
  | .num n => n ≤ 65535
  | .var s => s ∈ ns ∧ named s = .var s
  | .kw s => s ∈ ns ∧ named s = .kw s
  | .op o l r => o ∈ OPS ∧ l.good ns ∧ r.good ns
theorem good_ok {ns : List Str} : ∀ f : Fm, f.good ns → f.ok ns
  | .num n, h => h
  | .var s, h => h.1
  | .kw s, h => h.1
  | .op o l r, h => ⟨h.1, good_ok l h.2.1, good_ok r h.2.2⟩
theorem words_ne : ∀ f : Fm, f.words ≠ []
  | .num n => by simp [Fm.words]
  | .var n => by simp [Fm.words]
  | .kw n => by simp [Fm.words]
  | .op o l r => by simp [Fm.words]
theorem rd_words {ns : List Str} (hn : ∀ n : Nat, numS n ∉ ns) (ho : ∀ o, o ∈ OPS → o ∉ ns) : ∀ (f : Fm) (d : Nat) (pre rest : List Str), f.good ns → f.ht ≤ d → rd (pre ++ (f.words ++ rest)) ns d pre.length = .ok (f, pre.length + f.words.length) := by
  intro f
  induction f with
  | num n =>
    intro d pre rest hg hd
    obtain ⟨d', rfl⟩ : ∃ d', d = d' + 1 := ⟨d - 1, by simp only [Fm.ht] at hd; omega⟩
    have e : (pre ++ ((Fm.num n).words ++ rest))[pre.length]? = some (numS n) := by simp [Fm.words]
    unfold rd
    rw [e]
    have h2 := numS_isNum (n := n) hg
    simp only [hn n, if_false, h2.1, if_true, h2.2]
    simp [Fm.words]
  | var s =>
    intro d pre rest hg hd
    obtain ⟨d', rfl⟩ : ∃ d', d = d' + 1 := ⟨d - 1, by simp only [Fm.ht] at hd; omega⟩
    have e : (pre ++ ((Fm.var s).words ++ rest))[pre.length]? = some s := by simp [Fm.words]
    unfold rd
    rw [e]
    simp only [hg.1, if_true, hg.2]
    simp [Fm.words]
  | kw s =>
    intro d pre rest hg hd
    obtain ⟨d', rfl⟩ : ∃ d', d = d' + 1 := ⟨d - 1, by simp only [Fm.ht] at hd; omega⟩
    have e : (pre ++ ((Fm.kw s).words ++ rest))[pre.length]? = some s := by simp [Fm.words]
    unfold rd
    rw [e]
    simp only [hg.1, if_true, hg.2]
    simp [Fm.words]
  | op o l r ihl ihr =>
    intro d pre rest hg hd
    simp only [Fm.ht] at hd
    obtain ⟨d', rfl⟩ : ∃ d', d = d' + 1 := ⟨d - 1, by omega⟩
    have hp := Fm.ht_pos l
    have e : (pre ++ ((Fm.op o l r).words ++ rest))[pre.length]? = some o := by simp [Fm.words]
    unfold rd
    rw [e]
    have h1 := ho o hg.1
    have h2 := ops_notNum hg.1
    have h3 : ¬ (o ∉ OPS ∨ d' = 0) := by
      rintro (z | z)
      · exact z hg.1
      · omega
    simp only [h1, if_false, h2, Bool.false_eq_true, h3]
    have a1 : pre ++ ((Fm.op o l r).words ++ rest) = (pre ++ [o]) ++ (l.words ++ (r.words ++ rest)) := by simp [Fm.words]
    have a2 : pre ++ ((Fm.op o l r).words ++ rest) = (pre ++ [o] ++ l.words) ++ (r.words ++ rest) := by simp [Fm.words]
    have b1 := ihl d' (pre ++ [o]) (r.words ++ rest) hg.2.1 (by omega)
    have b2 := ihr d' (pre ++ [o] ++ l.words) rest hg.2.2 (by omega)
    rw [← a1] at b1
    rw [← a2] at b2
    have e1 : (pre ++ [o]).length = pre.length + 1 := by simp
    have e2 : (pre ++ [o] ++ l.words).length = pre.length + 1 + l.words.length := by simp; omega
    rw [e1] at b1
    rw [e2] at b2
    rw [b1]
    simp only []
    rw [b2]
    simp [Fm.words]
    omega
/-- the text is the words, joined -/
theorem joinL_app (s : List Nat) : ∀ (a b : List (List Nat)), a ≠ [] → b ≠ [] → TL.joinL s (a ++ b) = TL.joinL s a ++ (s ++ TL.joinL s b)
  | [], _, h, _ => absurd rfl h
  | [x], y :: b, _, _ => rfl
  | x :: z :: a, b, _, hb => by
    have ih := joinL_app s (z :: a) b (by simp) hb
    show x ++ (s ++ TL.joinL s ((z :: a) ++ b)) = (x ++ (s ++ TL.joinL s (z :: a))) ++ (s ++ TL.joinL s b)
    rw [ih]
    simp
theorem tl_app (a b : Str) : tl (a ++ b) = tl a ++ tl b := by
  show (Str.mk (a.cps ++ b.cps)).cps.toList = _
  simp [tl]
theorem tl_inj {a b : Str} (h : tl a = tl b) : a = b := by rw [← mk_tl a, ← mk_tl b, h]
theorem txt_words : ∀ f : Fm, tl f.txt = TL.joinL [32] (f.words.map tl)
  | .num n => rfl
  | .var s => rfl
  | .kw s => rfl
  | .op o l r => by
    have h1 := txt_words l
    have h2 := txt_words r
    have e : tl " " = [32] := by decide +kernel
    have e0 : tl Str.empty = [] := rfl
    simp only [Fm.txt, glue, Fm.words, List.map_cons, List.map_append, tl_app, h1, h2, e, e0]
    have a1 : TL.joinL [32] (tl o :: (l.words.map tl ++ r.words.map tl)) = tl o ++ ([32] ++ TL.joinL [32] (l.words.map tl ++ r.words.map tl)) := by
      cases hc : l.words.map tl ++ r.words.map tl with
      | nil =>
        have := words_ne l
        simp [List.map_eq_nil_iff] at hc
        exact absurd hc.1 this
      | cons _ _ => rfl
    rw [a1, joinL_app _ _ _ (by simpa [List.map_eq_nil_iff] using words_ne l) (by simpa [List.map_eq_nil_iff] using words_ne r)]
    simp
theorem txt_join (f : Fm) : f.txt = Txt.join " " f.words := by
  refine tl_inj ?_
  rw [txt_words, joinS]
/-- how long -/
def Fm.small (k : Nat) : Fm → Prop
  | .num n => n ≤ 65535
  | .var s => s.length ≤ k
  | .kw s => s.length ≤ k
  | .op o l r => o ∈ OPS ∧ l.small k ∧ r.small k
theorem ops_len {o : Str} (h : o ∈ OPS) : o.length ≤ 3 := by
  have : ∀ o ∈ OPS, o.length ≤ 3 := by decide +kernel
  exact this o h
theorem numS_len {n : Nat} (h : n ≤ 65535) : (numS n).length ≤ 5 := by
  rw [len_tl, numS_tl]
  exact TL.numL_len (by omega) (by omega)
theorem txt_len {k : Nat} (hk : 5 ≤ k) : ∀ (f : Fm), f.small k → f.txt.length + 5 ≤ (k + 5) * 2 ^ (f.ht - 1)
  | .num n, h => by
    have := numS_len (n := n) h
    show (numS n).length + 5 ≤ (k + 5) * 1
    omega
  | .var s, h => by
    have h : s.length ≤ k := h
    show s.length + 5 ≤ (k + 5) * 1
    omega
  | .kw s, h => by
    have h : s.length ≤ k := h
    show s.length + 5 ≤ (k + 5) * 1
    omega
  | .op o l r, h => by
    have h1 := txt_len hk l h.2.1
    have h2 := txt_len hk r h.2.2
    have h3 := ops_len h.1
    have e : (Fm.op o l r).txt.length = o.length + 1 + l.txt.length + 1 + r.txt.length := by
      have e1 : (" " : Str).length = 1 := by decide +kernel
      have e0 : Str.empty.length = 0 := rfl
      simp only [Fm.txt, glue, slen, e1, e0]
      omega
    have p1 : (k + 5) * 2 ^ (l.ht - 1) ≤ (k + 5) * 2 ^ (max l.ht r.ht - 1) := Nat.mul_le_mul_left _ (Nat.pow_le_pow_right (by decide) (by omega))
    have p2 : (k + 5) * 2 ^ (r.ht - 1) ≤ (k + 5) * 2 ^ (max l.ht r.ht - 1) := Nat.mul_le_mul_left _ (Nat.pow_le_pow_right (by decide) (by omega))
    have hp := Fm.ht_pos l
    have e2 : (Fm.op o l r).ht - 1 = (max l.ht r.ht - 1) + 1 := by simp only [Fm.ht]; omega
    rw [e, e2, Nat.pow_succ]
    have : (k + 5) * (2 ^ (max l.ht r.ht - 1) * 2) = (k + 5) * 2 ^ (max l.ht r.ht - 1) + (k + 5) * 2 ^ (max l.ht r.ht - 1) := by rw [← Nat.mul_assoc]; omega
    rw [this]
    omega
theorem no_space {ns : List Str} (h : ∀ s ∈ ns, 32 ∉ tl s) : ∀ f : Fm, f.ok ns → ∀ w ∈ f.words, 32 ∉ tl w
  | .num n, _, w, hw => by
    simp only [Fm.words, List.mem_singleton] at hw
    subst hw
    rw [numS_tl]
    exact TL.numL_free (by omega)
  | .var s, ho, w, hw => by
    simp only [Fm.words, List.mem_singleton] at hw
    subst hw
    exact h w ho
  | .kw s, ho, w, hw => by
    simp only [Fm.words, List.mem_singleton] at hw
    subst hw
    exact h w ho
  | .op o l r, ho, w, hw => by
    simp only [Fm.words, List.mem_cons, List.mem_append] at hw
    rcases hw with rfl | hw | hw
    · have : ∀ o ∈ OPS, 32 ∉ tl o := by decide +kernel
      exact this w ho.1
    · exact no_space h l ho.2.1 w hw
    · exact no_space h r ho.2.2 w hw
/-- what may be written -/
def Fm.tx : Fm → Prop
  | .num n => n ≤ 65535
  | .var s => s.length ≤ 10
  | .kw s => s = "own" ∨ s = "lot"
  | .op o l r => o ∈ OPS ∧ l.tx ∧ r.tx
theorem tx_small : ∀ f : Fm, f.tx → f.small 10
  | .num n, h => h
  | .var s, h => h
  | .kw s, h => by
    rcases h with rfl | rfl
    · show _ ≤ _; decide +kernel
    · show _ ≤ _; decide +kernel
  | .op o l r, h => ⟨h.1, tx_small l h.2.1, tx_small r h.2.2⟩
theorem tx_len (f : Fm) (h : f.tx) {n : Nat} (hn : f.ht ≤ n) (h6 : n ≤ 6) : f.txt.length ≤ 1000 := by
  have h1 := txt_len (k := 10) (by decide) f (tx_small f h)
  have h2 : 2 ^ (f.ht - 1) ≤ 2 ^ 5 := Nat.pow_le_pow_right (by decide) (by omega)
  have h3 : (10 + 5) * 2 ^ (f.ht - 1) ≤ (10 + 5) * 2 ^ 5 := Nat.mul_le_mul_left _ h2
  omega
theorem num_log {n : Nat} (h : n ≤ 65535) : ((n : Int)).natAbs.log2 < 1920 := by
  have e : ((n : Int)).natAbs = n := by omega
  rw [e]
  by_cases hz : n = 0
  · subst hz; decide
  · have := (Nat.log2_lt hz (k := 1920)).mpr (Nat.lt_of_le_of_lt h (by decide +kernel))
    exact this
theorem words_len : ∀ (f : Fm), f.tx → ∀ w ∈ f.words, w.length ≤ 10
  | .num n, h, w, hw => by
    simp only [Fm.words, List.mem_singleton] at hw
    subst hw
    have := numS_len (n := n) h
    omega
  | .var s, h, w, hw => by
    simp only [Fm.words, List.mem_singleton] at hw
    subst hw
    exact h
  | .kw s, h, w, hw => by
    simp only [Fm.words, List.mem_singleton] at hw
    subst hw
    rcases h with rfl | rfl
    · decide +kernel
    · decide +kernel
  | .op o l r, h, w, hw => by
    simp only [Fm.words, List.mem_cons, List.mem_append] at hw
    rcases hw with rfl | hw | hw
    · have := ops_len h.1
      omega
    · exact words_len l h.2.1 w hw
    · exact words_len r h.2.2 w hw
theorem txt_ne {ns : List Str} (hns : ("" : Str) ∉ ns) : ∀ (f : Fm), f.ok ns → f.txt ≠ ""
  | .num n, h => by
    intro e
    have h1 := TL.numL_ne n
    rw [← numS_tl] at h1
    have : numS n = "" := e
    rw [this] at h1
    exact h1 (by decide +kernel)
  | .var s, h => by
    intro e
    have : s = "" := e
    exact hns (this ▸ h)
  | .kw s, h => by
    intro e
    have : s = "" := e
    exact hns (this ▸ h)
  | .op o l r, h => by
    intro e
    have h1 := txt_words (.op o l r)
    rw [e] at h1
    have h2 : TL.joinL [32] ((Fm.op o l r).words.map tl) = tl o ++ ([32] ++ TL.joinL [32] (l.words.map tl ++ r.words.map tl)) := by
      simp only [Fm.words, List.map_cons, List.map_append]
      cases hc : l.words.map tl ++ r.words.map tl with
      | nil =>
        have := words_ne l
        simp [List.map_eq_nil_iff] at hc
        exact absurd hc.1 this
      | cons _ _ => rfl
    rw [h2] at h1
    have h3 : tl "" = [] := by decide +kernel
    rw [h3] at h1
    simp at h1
end SV

/-! SVTab: comprehensions with two fors; rows of a table. -/
namespace SV
open PySem L2 PyProof.Rows
open Evl (Ex ex_rd ex_l ex_t sz_of sz_lt)
theorem it_walk {J : It} {n : Nat} {val : Nat → V} {H0 : Hp} (Pv : Nat → Hp → Prop) (Qd : Hp → Prop) (body : (Hp → Prop) → V → Hp → Prop) (hgo : ∀ i H, Pv i H → i < n → J.go i H) (hst : ∀ H, Pv n H → J.stop n H)
    (hy : ∀ i H x H', Pv i H → i < n → J.yld i H x H' → H' = H ∧ x = val i) (h0 : Pv 0 H0) (hs : ∀ i H, i < n → Pv i H → body (Pv (i + 1)) (val i) H) (hd : ∀ H, Pv n H → Qd H) :
    ∃ W : Nat → Nat → Hp → Prop, (∃ m, W 0 m H0) ∧ ∀ i m H, W i m H → (J.stop i H ∧ Qd H) ∨ (J.go i H ∧ ∃ Nx : Hp → Prop, (∀ H', Nx H' → ∃ m', m' < m ∧ W (i + 1) m' H') ∧ ∀ x H', J.yld i H x H' → body Nx x H') := by
  refine ⟨fun i m H => m = n - i ∧ i ≤ n ∧ Pv i H, ⟨n, by simp, Nat.zero_le _, h0⟩, ?_⟩
  rintro i m H ⟨rfl, hi, p⟩
  by_cases hlt : i < n
  · refine .inr ⟨hgo i H p hlt, Pv (i + 1), fun H' p' => ⟨n - (i + 1), by omega, rfl, hlt, p'⟩, fun x H' y => ?_⟩
    obtain ⟨e1, e2⟩ := hy i H x H' p hlt y
    subst e1 e2
    exact hs i _ hlt p
  · have e : i = n := by omega
    subst e
    exact .inl ⟨hst H p, hd H p⟩
section
variable {X : Cx} {ρ : Rho} {m m1 m2 m3 : Sto} {P P1 P2 P3 : MP} {e a b c f o elt iter iter1 : Expr} {es rest : List Expr} {pos p p2 p3 p4 apos cpos px py : Pos} {x y fl : Str} {i j k : Int} {te ta : TE} {A : TA} {D : Ends} {b0 : Hp} {sts : List Stmt} {scope : Scope} {own : List (Str × Nat)} {jx jy : Nat}
/-- what the inner for walks, whatever the block -/
def cBI (X : Cx) (scope : Scope) (tg it : Expr) : TI := fun σ H R => ∀ (s : Shared) (H0 : Hp) (Cc : Addr) (cl : List (Str × Addr)) (fp : List Addr) (pins : List (Addr × Obj)) (sh : Shared), Inv (X.blk s H0 scope (compEnvC scope cl Cc X.env) fp) pins σ H sh →
  wpAny (model X.prog X.w) X.A (eval it (compEnvC scope cl Cc X.env)) (fun v s1 => wpAny (model X.prog X.w) X.A (pyIter v) (PIE (X.blk s H0 scope (compEnvC scope cl Cc X.env) fp) pins σ tg R) (X.blk s H0 scope (compEnvC scope cl Cc X.env) fp).xe s1) (X.blk s H0 scope (compEnvC scope cl Cc X.env) fp).xe sh
theorem pcBI {tg it : Expr} : ∀ (s : Shared) (H0 : Hp) (Cc : Addr) (cl : List (Str × Addr)) (fp : List Addr), PI (X.blk s H0 scope (compEnvC scope cl Cc X.env) fp) tg it (cBI X scope tg it) := fun s H0 Cc cl fp => ⟨fun pins sh σ H R I h => h s H0 Cc cl fp pins sh I⟩
/-- a row: a tuple or a list of ints -/
def Rw (K : PySem.W.Frag) (t : Bool) (xs : List Int) : MP := if t then T K (xs.map I) else L K (xs.map I)
/-- the results behind i rows -/
def accR (cnt : Nat → Nat) (Rs : Nat → Nat → MP) (i : Nat) : List MP := ((List.range i).map fun i => (List.range (cnt i)).map (Rs i)).flatten
theorem accR_succ {cnt : Nat → Nat} {Rs : Nat → Nat → MP} {i : Nat} : accR cnt Rs (i + 1) = accR cnt Rs i ++ (List.range (cnt i)).map (Rs i) := by
  unfold accR
  rw [List.range_succ, List.map_append, List.flatten_append]
  simp
theorem accR_len {cnt : Nat → Nat} {Rs : Nat → Nat → MP} {c : Nat} (hc : ∀ i, cnt i ≤ c) : ∀ i, (accR cnt Rs i).length ≤ i * c
  | 0 => by simp [accR]
  | i + 1 => by
    rw [accR_succ, List.length_append, List.length_map, List.length_range]
    have := accR_len (Rs := Rs) hc i
    have := hc i
    rw [Nat.add_mul]
    omega
theorem lc_turn1 {te : TE} {σ σe : L2.St} {b1 : Hp} {Dl : Addr} {Qs : List MP} {R : MP} {H : Hp} {ρw ρe : Rho} {mn mn' : Sto} {Q : VK} (st : LcSt ρw mn σ b1 Dl Qs H) (hn : Qs.length < 50000) (hsl : Slots (mask H (dom ((Dl, .lst Qs) :: mn))) ρe σe) (hdm : dom mn' = dom mn) (he : ∀ q, Ev te ρe (q :: mn) R (q :: mn'))
    (hQ : ∀ y H4 acc, H4 Dl = some (.lst acc) → acc.length < sizeLine → LcSt ρw mn' σ b1 Dl (Qs ++ [R]) (upd H4 Dl (.lst (acc ++ [y]))) → Ex (mask H (dom ((Dl, .lst Qs) :: mn))) (mask (upd H4 Dl (.lst (acc ++ [y]))) (dom ((Dl, .lst Qs) :: mn))) → Q y H4) : te σe H Q := by
  refine (he (Dl, .lst Qs)).go _ H _ ⟨hsl, st.own⟩ fun y H4 n4 o4 p4 => ?_
  obtain ⟨u, hu, acc, rfl, hall⟩ := o4.ok 0 Dl _ rfl
  have hdq : dom ((Dl, MO.lst Qs) :: mn') = dom ((Dl, MO.lst Qs) :: mn) := by simp only [dom, List.map_cons]; rw [show mn'.map (·.1) = mn.map (·.1) from hdm]
  have p4' : R.p (mask H4 (dom ((Dl, MO.lst Qs) :: mn'))) y := by rw [hdq]; exact p4
  have o5 : Own ((Dl, MO.lst (Qs ++ [R])) :: mn') (upd H4 Dl (.lst (acc ++ [y]))) := o4.put (i := 0) (mo' := .lst (Qs ++ [R])) rfl ⟨_, rfl, hall.append (.cons p4' .nil)⟩
  have hm : mask (upd H4 Dl (.lst (acc ++ [y]))) (dom ((Dl, MO.lst (Qs ++ [R])) :: mn')) = mask H4 (dom ((Dl, MO.lst Qs) :: mn)) := by
    rw [← hdq]
    exact mask_put (m := (Dl, MO.lst Qs) :: mn') (i := 0) (mo := .lst Qs) rfl
  refine hQ y H4 acc hu (sz_lt (by rw [← hall.length]; omega)) ⟨o5, by rw [hm]; exact st.sl.mono n4, by rw [hm]; exact st.gr.trans n4⟩ ?_
  have hm2 : mask (upd H4 Dl (.lst (acc ++ [y]))) (dom ((Dl, MO.lst Qs) :: mn)) = mask H4 (dom ((Dl, MO.lst Qs) :: mn)) := by
    have e : dom ((Dl, MO.lst Qs) :: mn) = dom ((Dl, MO.lst (Qs ++ [R])) :: mn') := by rw [← hdq]; rfl
    rw [← hm, e]
  rw [hm2]
  exact n4
theorem wipe1 (a : Nat) (σ : L2.St) (v : V) : wipe ((wipe σ [a]).set a (some v)) [a] = wipe σ [a] := by simp [wipe, List.set_set]
theorem wipe2 (a b : Nat) (σ : L2.St) (v : V) : wipe ((wipe σ [a, b]).set a (some v)) [a, b] = wipe σ [a, b] := by
  simp only [wipe]
  refine List.ext_getElem? fun i => ?_
  by_cases ha : a = i
  · subst ha
    simp [List.getElem?_set]
  · by_cases hb : b = i
    · subst hb
      simp [List.getElem?_set, ha]
    · simp [List.getElem?_set, ha, hb]
theorem ints_of {H : Hp} {zs : List Int} {ws : List V} (h : All H (zs.map I) ws) : ws = zs.map V.int := all_map V.int h
/-- [elt for x in xs for y in x-row], xs a list of rows; elt makes nothing of the store -/
theorem a_lc2 {rows : List (Bool × List Int)} (ok : LcOk X scope own x jx) (hj1 : X.N[jy]? = some y) (hx1 : Loc (relabel scope X.env) y) (hf1 : ((scope.names.lookup y == some .cell) = true) ∨ (relabel scope X.env).names.lookup y = some .local)
    (hv : jy ∈ own.map (·.2)) 
    (hi : AE X iter ρ m (L X.K (rows.map fun r => Rw X.K r.1 r.2)) m1) (Rs : Nat → Nat → MP) (hz : rows.length ≤ 100) (hz2 : ∀ r ∈ rows, r.2.length ≤ 100)
    (h1 : ∀ (i : Nat) (r : Bool × List Int) (q : Addr × MO), rows[i]? = some r → BE X scope iter1 ((wipeR ρ (own.map (·.2))).set jx (some (Rw X.K r.1 r.2))) (q :: m1) (Rw X.K r.1 r.2) (q :: m1))
    (he : ∀ (i : Nat) (r : Bool × List Int) (j : Nat) (z : Int) (q : Addr × MO), rows[i]? = some r → r.2[j]? = some z → BE X scope elt ((((wipeR ρ (own.map (·.2))).set jx (some (Rw X.K r.1 r.2))).set jy none).set jy (some (I z))) (q :: m1) (Rs i j) (q :: m1))
    (hs : ∀ x, foldedSetIterable iter X.env x = pure x := by intro _; rfl) (hs1 : ∀ env x, foldedSetIterable iter1 env x = pure x := by intro _ _; rfl) :
    AE X (.ListComp elt [⟨.Name x px, iter, [], 0⟩, ⟨.Name y py, iter1, [], 0⟩] scope pos) ρ m (L X.K (accR (fun i => ((rows.getD i (true, [])).2.length)) Rs rows.length)) m1 := by
  have hcnt : ∀ i, (rows.getD i (true, [])).2.length ≤ 100 := fun i => by
    rw [List.getD_eq_getElem?_getD]
    cases e : rows[i]? with
    | none => simp
    | some r => exact hz2 r (List.mem_of_getElem? e)
  refine Ev.can (pe_lc2 (vs1 := [jy]) ok.hc ok.hN (pi_list pcE) ok.ok (fun z hz => by rw [List.mem_singleton] at hz; subst hz; exact hv) ok.pg (fun _ _ _ _ _ => pts_nil) pcBI (fun s H C cl fp => pg_name ok.hN hj1 hx1 hf1) (fun _ _ _ _ _ => pts_nil) pcB hs hs1) ⟨hi.d, fun σ H Q s q => hi.go σ H _ s fun v H1 n1 o1 p1 => ?_⟩
  obtain ⟨l, vs, rfl, hl, hall⟩ := p1
  have hlen : rows.length = vs.length := by have := hall.length; simpa using this
  refine ⟨l, rfl, ⟨vs, ex_l mask_sub hl⟩, fun Dl hDl => ?_⟩
  have s1 := s.go hi.d n1 o1
  let cnt : Nat → Nat := fun i => (rows.getD i (true, [])).2.length
  let W : Nat → Hp → Prop := fun i H' => LcSt (wipeR ρ (own.map (·.2))) m1 (wipe σ (own.map (·.2))) (mask H1 (dom m1)) Dl (accR cnt Rs i) H'
  have hsq : ∀ i H', W i H' → SqL X.K H' l vs := fun i H' st => ex_l mask_sub (ex_l st.gr (by rw [hi.d]; exact hl))
  refine it_walk (J := Itl X.K l) (n := rows.length) (val := fun i => vs.getD i .non) W _ _ (fun i H' st hlt => ⟨vs, vs[i], hsq i H' st, by simp [hlen ▸ hlt]⟩) (fun H' st => ⟨vs, hsq _ H' st, by omega⟩) ?_ ?_ ?_ ?_
  · rintro i H2 xv H3 st hlt ⟨e1, e2⟩
    refine ⟨e1, ?_⟩
    have := e2 vs (hsq i H2 st)
    rw [List.getD_eq_getElem?_getD, this] <;> rfl
  · have := LcSt.start (bs := fun _ => true) (Rs := fun _ => N) (own := own.map (·.2)) s1 hDl
    exact this
  · intro i H2 hlt st
    have hr : rows[i]? = some rows[i] := List.getElem?_eq_getElem hlt
    have hvi : vs.getD i .non = vs[i]'(by omega) := by rw [List.getD_eq_getElem?_getD, List.getElem?_eq_getElem (by omega)] <;> rfl
    obtain ⟨P0, hP0, hpv⟩ := hall.getR (i := i) (v := vs[i]'(by omega)) (List.getElem?_eq_getElem (by omega))
    rw [List.getElem?_map, hr] at hP0
    simp only [Option.map_some, Option.some.injEq] at hP0
    subst hP0
    refine ⟨ok.hw σ _, ?_⟩
    rw [hvi]
    generalize hvv : vs[i]'(by omega) = vi at hpv ⊢
    have hpv2 := (Rw X.K rows[i].1 rows[i].2).mono (H' := mask H2 (dom ((Dl, MO.lst (accR cnt Rs i)) :: m1))) (Ex.trans (by rw [hi.d]; exact Ex.refl _) st.gr) hpv
    show cBI X scope (.Name y py) iter1 ((wipe σ (own.map (·.2))).set jx (some vi)) H2 _
    intro sh H0 Cc cl fp pins sh2 II
    have hb := h1 i rows[i] (Dl, .lst (accR cnt Rs i)) hr sh H0 Cc cl fp
    have hcl := hz2 rows[i] (List.getElem_mem hlt)
    have hci : cnt i = rows[i].2.length := by show (rows.getD i (true, [])).2.length = _; rw [List.getD_eq_getElem?_getD, hr] <;> rfl
    have hal : (accR cnt Rs i).length ≤ i * 100 := accR_len (Rs := Rs) hcnt i
    have hal2 : i * 100 ≤ 100 * 100 := Nat.mul_le_mul_right _ (by omega)
    -- the inner loop, over whatever bears the row's ints
    have inner : ∀ (J : It) (H4 : Hp) (R : It → Hp → Prop), Slots (mask H4 (dom ((Dl, MO.lst (accR cnt Rs i)) :: m1))) ((wipeR ρ (own.map (·.2))).set jx (some (Rw X.K rows[i].1 rows[i].2))) ((wipe σ (own.map (·.2))).set jx (some vi)) → LcSt (wipeR ρ (own.map (·.2))) m1 (wipe σ (own.map (·.2))) (mask H1 (dom m1)) Dl (accR cnt Rs i) H4 →
        (∀ (j : Nat) H', Ex (mask H4 (dom ((Dl, MO.lst (accR cnt Rs i)) :: m1))) (mask H' (dom ((Dl, MO.lst (accR cnt Rs i)) :: m1))) → (j < rows[i].2.length → J.go j H') ∧ (rows[i].2.length ≤ j → J.stop j H') ∧ ∀ x H3, j < rows[i].2.length → J.yld j H' x H3 → H3 = H' ∧ x = V.int (rows[i].2.getD j 0)) →
        ∃ W1 : Nat → Nat → Hp → Prop, (∃ m, W1 0 m H4) ∧ ∀ j k H, W1 j k H → (J.stop j H ∧ W (i + 1) H) ∨ (J.go j H ∧ ∃ Nx1 : Hp → Prop, (∀ H', Nx1 H' → ∃ k', k' < k ∧ W1 (j + 1) k' H') ∧ ∀ x H', J.yld j H x H' →
          gName jy x (wipe ((wipe σ (own.map (·.2))).set jx (some vi)) [jy]) H' fun σ3 H5 => wipe σ3 [jy] = wipe ((wipe σ (own.map (·.2))).set jx (some vi)) [jy] ∧ tYes σ3 H5 fun b H6 => if b = true then cB X scope elt σ3 H6 fun y H7 => ∃ acc, H7 Dl = some (.lst acc) ∧ acc.length < sizeLine ∧ Nx1 (upd H7 Dl (.lst (acc ++ [y]))) else Nx1 H6) := by
      intro J H4 R hsl st4 hJ
      have hd0 : ∀ Qs Qs' : List MP, dom ((Dl, MO.lst Qs) :: m1) = dom ((Dl, MO.lst Qs') :: m1) := fun _ _ => rfl
      refine it_walk (n := rows[i].2.length) (val := fun j => V.int (rows[i].2.getD j 0)) (fun j H' => LcSt (wipeR ρ (own.map (·.2))) m1 (wipe σ (own.map (·.2))) (mask H1 (dom m1)) Dl (accR cnt Rs i ++ (List.range j).map (Rs i)) H' ∧ Ex (mask H4 (dom ((Dl, MO.lst (accR cnt Rs i)) :: m1))) (mask H' (dom ((Dl, MO.lst (accR cnt Rs i)) :: m1)))) _ _
        (fun j H' p hj => (hJ j H' p.2).1 hj) (fun H' p => (hJ _ H' p.2).2.1 (Nat.le_refl _)) (fun j H' x H3 p hj hy => (hJ j H' p.2).2.2 x H3 hj hy) ⟨by simpa using st4, Ex.refl _⟩ ?_ ?_
      · rintro j H5 hj ⟨st5, g5⟩
        refine ⟨by simp [wipe, List.set_set], ?_⟩
        show cB X scope elt ((wipe ((wipe σ (own.map (·.2))).set jx (some vi)) [jy]).set jy (some (.int (rows[i].2.getD j 0)))) H5 _
        have hz : rows[i].2[j]? = some (rows[i].2.getD j 0) := by rw [List.getD_eq_getElem?_getD, List.getElem?_eq_getElem hj] <;> rfl
        have hsl5 : Slots (mask H5 (dom ((Dl, MO.lst (accR cnt Rs i ++ (List.range j).map (Rs i))) :: m1))) ((((wipeR ρ (own.map (·.2))).set jx (some (Rw X.K rows[i].1 rows[i].2))).set jy none).set jy (some (I (rows[i].2.getD j 0)))) ((wipe ((wipe σ (own.map (·.2))).set jx (some vi)) [jy]).set jy (some (.int (rows[i].2.getD j 0)))) :=
          (slots_none jy (hsl.mono g5)).set (P := I (rows[i].2.getD j 0)) rfl jy
        refine lc_turn1 (te := cB X scope elt) (R := Rs i j) st5 (by rw [List.length_append, List.length_map, List.length_range]; omega) hsl5 rfl (fun q => BE.ev (he i rows[i] j _ q hr hz) rfl) fun y H7 acc h7 hz7 st7 g7 => ⟨acc, h7, hz7, ?_, Ex.trans g5 g7⟩
        rw [List.range_succ, List.map_append, ← List.append_assoc]
        exact st7
      · rintro H5 ⟨st5, _⟩
        show LcSt _ _ _ _ _ (accR cnt Rs (i + 1)) _
        rw [accR_succ, hci]
        exact st5
    have hsl0 : Slots (mask H2 (dom ((Dl, MO.lst (accR cnt Rs i)) :: m1))) ((wipeR ρ (own.map (·.2))).set jx (some (Rw X.K rows[i].1 rows[i].2))) ((wipe σ (own.map (·.2))).set jx (some vi)) := st.sl.set hpv2 jx
    cases ht : rows[i].1 with
    | true =>
      rw [ht] at hb
      have hb : AE (X.blk sh H0 scope (compEnvC scope cl Cc X.env) fp) iter1 ((wipeR ρ (own.map (·.2))).set jx (some (Rw X.K rows[i].1 rows[i].2))) ((Dl, .lst (accR cnt Rs i)) :: m1) (T X.K (rows[i].2.map I)) ((Dl, .lst (accR cnt Rs i)) :: m1) := by rw [ht]; exact hb
      refine (pi_tup (tg := .Name y py) (pcE (X := X.blk sh H0 scope (compEnvC scope cl Cc X.env) fp))).run pins sh2 _ H2 _ II (hb.go _ H2 _ ⟨hsl0, st.own⟩ fun v H3 n3 o3 p3 => ?_)
      obtain ⟨a3, w3, rfl, h3, hall3⟩ := p3
      have e3 := ints_of hall3
      subst e3
      refine ⟨a3, rfl, ⟨_, ex_t mask_sub h3⟩, inner _ H3 (fun _ _ => True) (hsl0.mono n3) ⟨o3, st.sl.mono n3, st.gr.trans n3⟩ fun j H' g' => ?_⟩
      have h4 : SqT X.K H' a3 (rows[i].2.map V.int) := ex_t mask_sub (ex_t g' h3)
      refine ⟨fun hj => ⟨_, V.int rows[i].2[j], h4, by simp [hj]⟩, fun hj => ⟨_, h4, by simpa using hj⟩, fun x H3 hj ⟨e1, e2⟩ => ⟨e1, ?_⟩⟩
      have := e2 _ h4
      rw [List.getElem?_map, List.getElem?_eq_getElem hj] at this
      rw [List.getD_eq_getElem?_getD, List.getElem?_eq_getElem hj]
      simpa using this.symm
    | false =>
      rw [ht] at hb
      have hb : AE (X.blk sh H0 scope (compEnvC scope cl Cc X.env) fp) iter1 ((wipeR ρ (own.map (·.2))).set jx (some (Rw X.K rows[i].1 rows[i].2))) ((Dl, .lst (accR cnt Rs i)) :: m1) (L X.K (rows[i].2.map I)) ((Dl, .lst (accR cnt Rs i)) :: m1) := by rw [ht]; exact hb
      refine (pi_list (tg := .Name y py) (pcE (X := X.blk sh H0 scope (compEnvC scope cl Cc X.env) fp))).run pins sh2 _ H2 _ II (hb.go _ H2 _ ⟨hsl0, st.own⟩ fun v H3 n3 o3 p3 => ?_)
      obtain ⟨a3, w3, rfl, h3, hall3⟩ := p3
      have e3 := ints_of hall3
      subst e3
      refine ⟨a3, rfl, ⟨_, ex_l mask_sub h3⟩, inner _ H3 (fun _ _ => True) (hsl0.mono n3) ⟨o3, st.sl.mono n3, st.gr.trans n3⟩ fun j H' g' => ?_⟩
      have h4 : SqL X.K H' a3 (rows[i].2.map V.int) := ex_l mask_sub (ex_l g' h3)
      refine ⟨fun hj => ⟨_, V.int rows[i].2[j], h4, by simp [hj]⟩, fun hj => ⟨_, h4, by simpa using hj⟩, fun x H3 hj ⟨e1, e2⟩ => ⟨e1, ?_⟩⟩
      have := e2 _ h4
      rw [List.getElem?_map, List.getElem?_eq_getElem hj] at this
      rw [List.getD_eq_getElem?_getD, List.getElem?_eq_getElem hj]
      simpa using this.symm
  · intro H2 st
    refine LcSt.fin (K := X.K) st fun v H'' o'' g'' p'' => q v H'' ?_ o'' ?_
    · rw [hi.d] at g''
      exact Ex.trans n1 g''
    · rw [hi.d] at p''
      exact p''
theorem ev_chain {r r' : R2} {ta tb tc : TE} {t u : Bool} (ha : Ev ta ρ m P1 m1) (hb : Ev tb ρ m1 P2 m2) (hr : RV r P1 P2 (B t)) (hc : Ev tc ρ m2 P3 m2) (hr' : RV r' P2 P3 (B u)) : Ev (tChain r r' ta tb tc) ρ m (B (t && u)) m2 := ⟨hb.d.trans ha.d, fun σ H Q s q => by
  refine ha.go σ H _ s fun v H1 n1 o1 p1 => ?_
  have s1 := s.go ha.d n1 o1
  refine hb.go σ H1 _ s1 fun w H2 n2 o2 p2 => ?_
  have hd := hb.d.trans ha.d
  have s2 := s1.go hb.d n2 o2
  have n12 := n1.trans ha.d n2
  refine hr (dom m2) H2 v w _ o2.frees (by rw [hd]; exact P1.mono (n2.to ha.d) p1) (by rw [hb.d]; exact p2) fun z H3 e3 pz => ⟨t, pz, ?_⟩
  have n3 : Nxt m2 H2 H3 := Nxt.of e3
  have o3 := o2.ext e3
  cases t with
  | false =>
    rw [if_neg Bool.false_ne_true]
    exact q _ H3 (n12.trans hd n3) o3 rfl
  | true =>
    rw [if_pos rfl]
    refine hc.go σ H3 _ (s2.go rfl n3 o3) fun w' H4 n4 o4 p4 => ?_
    refine hr' (dom m2) H4 w w' _ o4.frees (P2.mono n4 (P2.mono n3 (by rw [hb.d]; exact p2))) p4 fun z H5 e5 pz => ?_
    exact q _ H5 (((n12.trans hd n3).trans hd n4).trans hd (Nxt.of e5)) (o4.ext e5) (by rw [← hd]; exact pz)⟩
theorem a_leLe (ha : AE X a ρ m (I i) m1) (hb : AE X b ρ m1 (I j) m2) (hc : AE X c ρ m2 (I k) m2) (hm : lastMarks [.LtE, .LtE] [b, c] = false := by with_unfolding_all rfl) : AE X (.Compare a [.LtE, .LtE] [b, c] pos) ρ m (B (decide (i ≤ j) && decide (j ≤ k))) m2 :=
  Ev.can (pe_chain op_le op_le pcE pcE pcE hm) (ev_chain ha hb rv_I0 hc rv_I0)
theorem rc_lenRw {K : PySem.W.Frag} {t : Bool} {xs : List Int} : RC (fun xs H Q => ∃ p ys, xs = [.ref p] ∧ (SqL K H p ys ∨ SqT K H p ys) ∧ Q (.int ys.length) H) [Rw K t xs] (I (xs.length : Int)) := by
  have e : ((xs.map I).length : Int) = (xs.length : Int) := by rw [List.length_map]
  rw [← e]
  cases t with
  | true => exact rc_lenT
  | false => exact rc_lenL
theorem rc_tupRw {K : PySem.W.Frag} {t : Bool} {xs : List Int} : RC (fun xs H Q => ∃ p ys, xs = [.ref p] ∧ ((SqL K H p ys ∧ ∀ l, H l = none → Q (.ref l) (upd H l (.tup ys))) ∨ (SqT K H p ys ∧ Q (.ref p) H))) [Rw K t xs] (T K (xs.map I)) := by
  cases t with
  | true => exact rc_tupT
  | false => exact rc_tupL
theorem gs_fin {Q : VK} (h : Ret Q N m b0) : GS X [] (ends Q) ρ m b0 := gs_nil fun σ H s ex => h _ H s.own ex rfl
/-- rows as data -/
def tabD (rows : List (List Int)) : Dt := .tup (rows.map fun xs => .tup (xs.map .int))
def Tb (K : PySem.W.Frag) (rows : List (List Int)) : MP := T K (rows.map fun xs => T K (xs.map I))
theorem Tb_rp (K : PySem.W.Frag) (rows : List (List Int)) : Tb K rows = rp K (tabD rows) := by
  unfold Tb tabD
  simp only [rp, rps_map, List.map_map]
  congr 1
  refine List.map_congr_left fun xs _ => ?_
  simp only [Function.comp, rp, rps_map, List.map_map]
  congr 1
theorem lay_ints : ∀ xs : List Int, PyData.canLayAll0 (pys (xs.map .int)) = true
  | [] => by simp [pys, PyData.canLayAll0]
  | x :: xs => by simp [pys, Dt.py, PyData.canLayAll0, PyData.canLay0, lay_ints xs]
theorem dep_ints : ∀ xs : List Int, PyData.depthAll (pys (xs.map .int)) = 0
  | [] => by simp [pys, PyData.depthAll]
  | x :: xs => by simp [pys, Dt.py, PyData.depthAll, PyData.depth, dep_ints xs]
theorem tab_lay : ∀ rows : List (List Int), PyData.canLayAll0 (pys (rows.map fun xs => .tup (xs.map .int))) = true
  | [] => by simp [pys, PyData.canLayAll0]
  | x :: xs => by simp [pys, Dt.py, PyData.canLayAll0, PyData.canLay0, lay_ints x, tab_lay xs]
theorem tab_dep : ∀ rows : List (List Int), PyData.depthAll (pys (rows.map fun xs => .tup (xs.map .int))) ≤ 1
  | [] => by simp [pys, PyData.depthAll]
  | x :: xs => by
    have := tab_dep xs
    simp [pys, Dt.py, PyData.depthAll, PyData.depth, dep_ints x]
    omega
theorem tab_shaped (rows : List (List Int)) : SeqAt.shaped (tabD rows).py = true := by
  have h1 := tab_lay rows
  have h2 := tab_dep rows
  unfold SeqAt.shaped tabD
  simp only [Dt.py, PyData.canLay0, PyData.depth, h1, Bool.true_and, decide_eq_true_eq]
  omega
theorem eqv_ints : ∀ xs : List Int, PyData.eqvAll (pys (xs.map .int)) (pys (xs.map .int)) = true
  | [] => by simp [pys, PyData.eqvAll]
  | x :: xs => by simp [pys, Dt.py, PyData.eqvAll, PyData.eqv, eqv_ints xs]
theorem tab_eqv (rows : List (List Int)) : PyData.eqv (tabD rows).py (tabD rows).py = true := by
  have : ∀ rows : List (List Int), PyData.eqvAll (pys (rows.map fun xs => .tup (xs.map .int))) (pys (rows.map fun xs => .tup (xs.map .int))) = true := by
    intro rows
    induction rows with
    | nil => simp [pys, PyData.eqvAll]
    | cons x xs ih => simp [pys, Dt.py, PyData.eqvAll, PyData.eqv, eqv_ints x, ih]
  unfold tabD
  simp only [Dt.py, PyData.eqv]
  exact this rows
/-- rows that make a table -/
def wf (rows : List (Bool × List Int)) : Prop := 1 ≤ rows.length ∧ rows.length ≤ 8 ∧ ∃ w, 1 ≤ w ∧ w ≤ 8 ∧ ∀ r ∈ rows, r.2.length = w ∧ ∀ x ∈ r.2, 0 ≤ x ∧ x ≤ 65535
end
end SV

/-! SVPool: what is drawn. -/
namespace SV
open PySem L2 PyProof.Rows
open Evl (Ex ex_rd ex_l ex_t sz_of sz_lt)
def genLeaf (ns : List Str) (k : Int × Pool) : Fm × Pool :=
  if k.1 < 8 ∧ 0 < ns.length then (named (ns.getD (k.2.draw ns.length).1.toNat ""), (k.2.draw ns.length).2)
  else
    (.num ([(k.2.draw 4).1, ((k.2.draw 4).2.draw 9).1, (((k.2.draw 4).2.draw 9).2.draw 65536).1].getD ((((k.2.draw 4).2.draw 9).2.draw 65536).2.draw 3).1.toNat 0).toNat, ((((k.2.draw 4).2.draw 9).2.draw 65536).2.draw 3).2)
def gen (ns : List Str) : Nat → Pool → Fm × Pool
  | 0, p => genLeaf ns (p.draw 10)
  | d + 1, p =>
    if (p.draw 10).1 < 5 then
      (.op (OPS.getD ((p.draw 10).2.draw 7).1.toNat "") (gen ns d ((p.draw 10).2.draw 7).2).1 (gen ns d (gen ns d ((p.draw 10).2.draw 7).2).2).1, (gen ns d (gen ns d ((p.draw 10).2.draw 7).2).2).2)
    else genLeaf ns (p.draw 10)
theorem leaf_pos {ns : List Str} {k : Int × Pool} (h : 0 ≤ k.2.pos) : 0 ≤ (genLeaf ns k).2.pos := by
  unfold genLeaf
  split
  · exact Pool.draw_pos h
  · exact Pool.draw_pos (Pool.draw_pos (Pool.draw_pos (Pool.draw_pos h)))
theorem gen_pos {ns : List Str} : ∀ (d : Nat) {p : Pool}, 0 ≤ p.pos → 0 ≤ (gen ns d p).2.pos
  | 0, p, h => leaf_pos (Pool.draw_pos h)
  | d + 1, p, h => by
    unfold gen
    split
    · exact gen_pos d (gen_pos d (Pool.draw_pos (Pool.draw_pos h)))
    · exact leaf_pos (Pool.draw_pos h)
theorem getD_mem {α : Type} {xs : List α} {n : Nat} {d : α} (h : n < xs.length) : xs.getD n d ∈ xs := by
  rw [List.getD_eq_getElem?_getD, List.getElem?_eq_getElem h]
  exact List.getElem_mem h
theorem leaf_ht {ns : List Str} {k : Int × Pool} : (genLeaf ns k).1.ht = 1 := by
  unfold genLeaf
  split
  · show (named _).ht = 1
    unfold named
    split <;> rfl
  · rfl
theorem gen_ht {ns : List Str} : ∀ (d : Nat) (p : Pool), (gen ns d p).1.ht ≤ d + 1
  | 0, p => by unfold gen; rw [leaf_ht]; exact Nat.le_refl _
  | d + 1, p => by
    unfold gen
    split
    · simp only [Fm.ht]
      have h1 := gen_ht (ns := ns) d ((p.draw 10).2.draw 7).2
      have h2 := gen_ht (ns := ns) d (gen ns d ((p.draw 10).2.draw 7).2).2
      omega
    · rw [leaf_ht]; omega
theorem leaf_num {q : Pool} : ([(q.draw 4).1, ((q.draw 4).2.draw 9).1, (((q.draw 4).2.draw 9).2.draw 65536).1].getD ((((q.draw 4).2.draw 9).2.draw 65536).2.draw 3).1.toNat 0) ≤ 65535 ∧ 0 ≤ ([(q.draw 4).1, ((q.draw 4).2.draw 9).1, (((q.draw 4).2.draw 9).2.draw 65536).1].getD ((((q.draw 4).2.draw 9).2.draw 65536).2.draw 3).1.toNat 0) := by
  have h1 := Pool.draw_lt q (size := 4) (by decide)
  have h2 := Pool.draw_lt (q.draw 4).2 (size := 9) (by decide)
  have h3 := Pool.draw_lt ((q.draw 4).2.draw 9).2 (size := 65536) (by decide)
  generalize ((((q.draw 4).2.draw 9).2.draw 65536).2.draw 3).1.toNat = n
  match n with
  | 0 => simp; omega
  | 1 => simp; omega
  | 2 => simp; omega
  | n + 3 => simp
theorem leaf_good {ns : List Str} {k : Int × Pool} (hn : ∀ s ∈ ns, s ≠ "own" ∧ s ≠ "lot" ∧ s.length ≤ 10) : (genLeaf ns k).1.good ns ∧ (genLeaf ns k).1.tx := by
  unfold genLeaf
  split
  · rename_i h
    have hd := Pool.draw_lt k.2 (size := ns.length) (by omega)
    have hm : ns.getD (k.2.draw ns.length).1.toNat "" ∈ ns := getD_mem (by omega)
    have hz := hn _ hm
    have e : named (ns.getD (k.2.draw ns.length).1.toNat "") = .var (ns.getD (k.2.draw ns.length).1.toNat "") := by
      unfold named
      rw [if_neg (by rintro (z | z); exact hz.1 z; exact hz.2.1 z)]
    show (named _).good ns ∧ (named _).tx
    rw [e]
    exact ⟨⟨hm, e⟩, hz.2.2⟩
  · have h := leaf_num (q := k.2)
    refine ⟨?_, ?_⟩
    · show Int.toNat _ ≤ 65535
      omega
    · show Int.toNat _ ≤ 65535
      omega
theorem gen_good {ns : List Str} (hn : ∀ s ∈ ns, s ≠ "own" ∧ s ≠ "lot" ∧ s.length ≤ 10) : ∀ (d : Nat) (p : Pool), (gen ns d p).1.good ns ∧ (gen ns d p).1.tx
  | 0, p => by unfold gen; exact leaf_good hn
  | d + 1, p => by
    unfold gen
    split
    · have h1 := gen_good hn d ((p.draw 10).2.draw 7).2
      have h2 := gen_good hn d (gen ns d ((p.draw 10).2.draw 7).2).2
      have hd := Pool.draw_lt (p.draw 10).2 (size := 7) (by decide)
      have ho : OPS.getD ((p.draw 10).2.draw 7).1.toNat "" ∈ OPS := getD_mem (by show _ < 7; omega)
      exact ⟨⟨ho, h1.1, h2.1⟩, ⟨ho, h1.2, h2.2⟩⟩
    · exact leaf_good hn
def envAB (i j : Nat) (s : Str) : Int := if s = "a" then i else j
def fmTable (f : Fm) (r c : Nat) : List (List Int) := (List.range r).map fun i => (List.range c).map fun j => f.val (envAB i j)
theorem envAB_lt {i j : Nat} (hi : i < 8) (hj : j < 8) (s : Str) : 0 ≤ envAB i j s ∧ envAB i j s ≤ 65535 := by
  unfold envAB
  split <;> omega
theorem fmTable_wf {f : Fm} {ns : List Str} (hf : f.ok ns) {r c : Nat} (hr : 1 ≤ r ∧ r ≤ 8) (hc : 1 ≤ c ∧ c ≤ 8) (t : Bool) : wf ((fmTable f r c).map fun xs => (t, xs)) := by
  refine ⟨by simp [fmTable]; omega, by simp [fmTable]; omega, c, hc.1, hc.2, fun q hq => ?_⟩
  obtain ⟨xs, hx, rfl⟩ := List.mem_map.mp hq
  obtain ⟨i, hi, rfl⟩ := List.mem_map.mp hx
  refine ⟨by simp, fun x hx => ?_⟩
  obtain ⟨j, hj, rfl⟩ := List.mem_map.mp hx
  have hi := List.mem_range.mp hi
  have hj := List.mem_range.mp hj
  exact val_lt (ns := ns) (fun s _ => envAB_lt (by omega) (by omega) s) f hf
/-- the law's own reckoning is the same -/
def reck2 (o : Str) (a b : Int) : Int :=
  if o = "+" then a + b - 65536 * (if a + b > 65535 then 1 else 0)
  else if o = "-" then (if a - b > 0 then a - b else 0)
  else if o = "*" then a * b - a * b / 65536 * 65536
  else if o = "<" then (if a < b then 1 else 0)
  else if o = "=" then (if a = b then 1 else 0)
  else if b = 0 then 0
  else if o = "/" then a / b
  else a - a / b * b
theorem reck2_eq (o : Str) {a b : Int} (ha : 0 ≤ a ∧ a ≤ 65535) (hb : 0 ≤ b ∧ b ≤ 65535) : reck2 o a b = reck o a b := by
  unfold reck2 reck
  split
  · split <;> omega
  split
  · split <;> split <;> omega
  split
  · generalize a * b = c
    omega
  split
  · rfl
  split
  · rfl
  split
  · rfl
  split
  · rfl
  · have := Int.emod_add_mul_ediv a b
    have h2 : a / b * b = b * (a / b) := Int.mul_comm _ _
    rw [h2]
    omega
theorem gen_leaf {ns : List Str} {d : Nat} {p : Pool} (h : ¬ ((p.draw 10).1 < 5 ∧ 0 < d)) : gen ns d p = genLeaf ns (p.draw 10) := by
  cases d with
  | zero => rfl
  | succ d =>
    unfold gen
    rw [if_neg fun z => h ⟨z, Nat.succ_pos _⟩]
theorem gen_op {ns : List Str} {d : Nat} {p : Pool} (h : (p.draw 10).1 < 5) : gen ns (d + 1) p = (.op (OPS.getD ((p.draw 10).2.draw 7).1.toNat "") (gen ns d ((p.draw 10).2.draw 7).2).1 (gen ns d (gen ns d ((p.draw 10).2.draw 7).2).2).1, (gen ns d (gen ns d ((p.draw 10).2.draw 7).2).2).2) := by
  conv => lhs; unfold gen
  rw [if_pos h]
theorem good_mono {ns ns' : List Str} (hs : ∀ s ∈ ns, s ∈ ns') : ∀ f : Fm, f.good ns → f.good ns'
  | .num n, h => h
  | .var s, h => ⟨hs s h.1, h.2⟩
  | .kw s, h => ⟨hs s h.1, h.2⟩
  | .op o l r, h => ⟨h.1, good_mono hs l h.2.1, good_mono hs r h.2.2⟩
theorem words_cnt : ∀ f : Fm, f.words.length + 1 ≤ 2 ^ f.ht
  | .num n => by simp [Fm.words, Fm.ht]
  | .var s => by simp [Fm.words, Fm.ht]
  | .kw s => by simp [Fm.words, Fm.ht]
  | .op o l r => by
    have h1 := words_cnt l
    have h2 := words_cnt r
    have p1 : 2 ^ l.ht ≤ 2 ^ (max l.ht r.ht) := Nat.pow_le_pow_right (by decide) (by omega)
    have p2 : 2 ^ r.ht ≤ 2 ^ (max l.ht r.ht) := Nat.pow_le_pow_right (by decide) (by omega)
    simp only [Fm.words, Fm.ht, List.length_cons, List.length_append, Nat.pow_succ]
    omega
theorem words_few (f : Fm) {n : Nat} (h : f.ht ≤ n) (h6 : n ≤ 6) : f.words.length ≤ 64 := by
  have h1 := words_cnt f
  have h2 : 2 ^ f.ht ≤ 2 ^ 6 := Nat.pow_le_pow_right (by decide) (by omega)
  omega
theorem rc_strS {s : Str} : RC (fun xs H Q => ∃ a, xs = [V.str a] ∧ Q (.str a) H) [S s] (S s) := fun d H vs Q _ h q => by
  match vs, h with
  | [_], .cons rfl .nil => exact ⟨s, rfl, q _ H (Ex.refl _) rfl⟩
theorem wlen_sum : ∀ (l : List Str), (∀ w ∈ l, w.length ≤ 10) → (l.map (·.length)).sum ≤ l.length * 10
  | [], _ => by simp
  | x :: l, h => by
    have h1 := wlen_sum l fun w hw => h w (List.mem_cons_of_mem _ hw)
    have h2 := h x List.mem_cons_self
    simp only [List.map_cons, List.sum_cons, List.length_cons, Nat.add_mul]
    omega
theorem numS_eq (n : Nat) : (toString ((n : Nat) : Int) : Str) = numS n := rfl
theorem row_eq {f : Fm} {r c : Nat} : (List.range r).map (fun i => (List.range c).map fun j => f.val (envAB i j)) = fmTable f r c := rfl
theorem ints_dp : ∀ xs : List Int, dps (xs.map .int) = 0
  | [] => by simp [dps]
  | x :: xs => by simp [dps, Dt.dp, ints_dp xs]
theorem ints_wd : ∀ xs : List Int, wds (xs.map .int) = 0
  | [] => by simp [wds]
  | x :: xs => by simp [wds, Dt.wd, ints_wd xs]
theorem tab_dp (rows : List (List Int)) : (tabD rows).dp ≤ 2 := by
  have : ∀ rows : List (List Int), dps (rows.map fun xs => .tup (xs.map .int)) ≤ 1 := by
    intro rows
    induction rows with
    | nil => simp [dps]
    | cons x xs ih => simp [dps, Dt.dp, ints_dp x]; omega
  unfold tabD
  simp only [Dt.dp]
  have := this rows
  omega
theorem tab_wd {rows : List (List Int)} {k : Nat} (h1 : rows.length ≤ k) (h2 : ∀ xs ∈ rows, xs.length ≤ k) : (tabD rows).wd ≤ k := by
  have : ∀ rows : List (List Int), (∀ xs ∈ rows, xs.length ≤ k) → wds (rows.map fun xs => .tup (xs.map .int)) ≤ k := by
    intro rows h
    induction rows with
    | nil => simp [wds]
    | cons x xs ih =>
      have h1 := h x List.mem_cons_self
      have h2 := ih fun y hy => h y (List.mem_cons_of_mem _ hy)
      simp [wds, Dt.wd, ints_wd x]
      omega
  unfold tabD
  simp only [Dt.wd, List.length_map]
  have := this rows h2
  omega
theorem fmTable_len {f : Fm} {r c : Nat} : (fmTable f r c).length = r ∧ ∀ xs ∈ fmTable f r c, xs.length = c := by
  refine ⟨by simp [fmTable], fun xs h => ?_⟩
  obtain ⟨i, _, rfl⟩ := List.mem_map.mp h
  simp
end SV

/-! SVExc: what raises: contracts with an outcome, raise, calls that raise, try. -/
namespace SV
open PySem L2 PyProof.Rows
open Evl (Ex ex_rd ex_l ex_t sz_of sz_lt)

/-- what is known of an exception: its class, its dict -/
structure XP where
  p : Hp → Value → Option Addr → Prop
  mono : ∀ {H H' : Hp} {c : Value} {d : Option Addr}, Ex H H' → p H c d → p H' c d
/-- of the class at C, without fields -/
def XC (C : Addr) : XP := ⟨fun _ c d => c = .ref C ∧ d = none, fun _ h => h⟩
inductive Oc | ret (P : MP) | exc (x : XP)
/-- what a def does: the arguments, the store, the outcome, the store behind -/
abbrev CtX := List MP → Sto → Oc → Sto → Prop
def spX (S : CtX) : Sp := fun vs H Q E => ∃ Ps m oc m', S Ps m oc m' ∧ dom m' = dom m ∧ All (mask H (dom m)) Ps vs ∧ Own m H ∧
  (∀ P, oc = .ret P → ∀ v H', Nxt m H H' → Own m' H' → P.p (mask H' (dom m)) v → Q v H') ∧
  ∀ x, oc = .exc x → ∀ c d H', Nxt m H H' → Own m' H' → x.p (mask H' (dom m)) c d → E c d H'
/-- te raises: an exception of which x is known is in the air, the store turned into m' -/
structure Rz (X : Cx) (te : TE) (ρ : Rho) (m : Sto) (x : XP) (m' : Sto) : Prop where
  d : dom m' = dom m
  go : ∀ (W : WX), Takes X W → ∀ (σ : L2.St) (H : Hp) (Q : VK), Stt ρ m σ H → (∀ c d σ' H', Stt ρ m' σ' H' → Nxt m H H' → x.p (mask H' (dom m)) c d → W c d σ' H') → te σ H Q
abbrev AR (X : Cx) (e : Expr) (ρ : Rho) (m : Sto) (x : XP) (m' : Sto) : Prop := Rz X (cE X e) ρ m x m'
/-- an argument raises -/
structure RzA (X : Cx) (ta : TA) (ρ : Rho) (m : Sto) (x : XP) (m' : Sto) : Prop where
  d : dom m' = dom m
  go : ∀ (W : WX), Takes X W → ∀ (σ : L2.St) (H : Hp) (Q : List V → Hp → Prop), Stt ρ m σ H → (∀ c d σ' H', Stt ρ m' σ' H' → Nxt m H H' → x.p (mask H' (dom m)) c d → W c d σ' H') → ta σ H Q
abbrev ARA (X : Cx) (es : List Expr) (ρ : Rho) (m : Sto) (x : XP) (m' : Sto) : Prop := RzA X (cA X es) ρ m x m'
/-- what the block lets out is wanted -/
def Acc (X : Cx) (x : XP) (ρ : Rho) (m : Sto) (b0 : Hp) : Prop := ∃ W, Takes X W ∧ ∀ c d σ H, Stt ρ m σ H → Ex b0 (mask H (dom m)) → x.p (mask H (dom m)) c d → W c d σ H
section
variable {X : Cx} {ρ : Rho} {m m1 m2 m3 : Sto} {P P1 P2 P3 : MP} {e a b c f : Expr} {es rest body : List Expr} {sts : List Stmt} {pos p p2 p3 apos : Pos} {x : Str} {i j k : Nat} {D : Ends} {b0 : Hp} {z : XP}
theorem Rz.can {te : TE} (h : PE X e te) (E : Rz X te ρ m z m1) : AR X e ρ m z m1 := ⟨E.d, fun W tk σ H Q s q => cE_of h (E.go W tk σ H Q s q)⟩
theorem RzA.can {ta : TA} (h : PA X es ta) (E : RzA X ta ρ m z m1) : ARA X es ρ m z m1 := ⟨E.d, fun W tk σ H Q s q => cA_of h (E.go W tk σ H Q s q)⟩
/-- an argument: this one raises, a later one raises -/
theorem ra_here (h : AR X e ρ m z m1) (hs : starEach (e :: es) X.env = (false, eval e X.env) :: starEach es X.env := by rfl) : ARA X (e :: es) ρ m z m1 :=
  RzA.can (pa_cons pcE pcA hs) ⟨h.d, fun W tk σ H Q s q => h.go W tk σ H _ s q⟩
theorem ra_next (h1 : AE X e ρ m P m1) (h : ARA X es ρ m1 z m2) (hs : starEach (e :: es) X.env = (false, eval e X.env) :: starEach es X.env := by rfl) : ARA X (e :: es) ρ m z m2 :=
  RzA.can (pa_cons pcE pcA hs) ⟨h.d.trans h1.d, fun W tk σ H Q s q => h1.go σ H _ s fun v H1 n1 o1 p1 => h.go W tk σ H1 _ (s.go h1.d n1 o1) fun c d σ' H' s' n' x' => q c d σ' H' s' (n1.trans h1.d n') (by rw [← h1.d]; exact x')⟩
end
/-! ### defs that may raise, called -/
/-- the module's name x is a def that keeps the outcome S -/
structure FkX (P : Program) (w : World) (K : PySem.W.Frag) (mg : Str → Option Value) (base : Heap) (k : Nat) (x : Str) (sp : Sp) (D : List V) : Prop where
  ex : ∃ (f : Addr) (fd : FuncData) (ps : List Str) (ds : List Value), FnOk P w K mg base (L2.CX P w) k f fd ps sp ∧ mg x = some (.ref f) ∧ PySem.W.keepIn K (.ref f) = true ∧ Binds K fd ps ds ∧ Vals D ds
theorem FkX.mono {P : Program} {w : World} {K : PySem.W.Frag} {mg : Str → Option Value} {base : Heap} {k j : Nat} {x : Str} {sp : Sp} {D : List V} (h : FkX P w K mg base k x sp D) (hk : k ≤ j) : FkX P w K mg base j x sp D := by
  obtain ⟨f, fd, ps, ds, F, r⟩ := h.ex
  exact ⟨f, fd, ps, ds, F.mono hk, r⟩
section
variable {X : Cx} {ρ : Rho} {m m1 m2 m3 : Sto} {P P1 P2 P3 : MP} {e a b c : Expr} {es : List Expr} {pos p p2 p3 apos : Pos} {x : Str} {i j : Nat} {z : XP}
/-- the callee runs; what it lets out is taken at these slots -/
theorem run_at {W : WX} {k : Nat} {f : Addr} {fd : FuncData} {ps : List Str} {sp : Sp} {dvs : List V} {ds : List Value} {pins : List (Addr × Obj)} {σ : L2.St} {H : Hp} {s : Shared} {Q : VK} {us : List Value} {vs : List V}
    (F : FnOk X.prog X.w X.K X.mg X.base (L2.CX X.prog X.w) k f fd ps sp) (hr : Room k X.A) (hb : Binds X.K fd ps ds) (hd : Vals dvs ds) (tk : Takes X W) (I : Inv X pins σ H s) (r : Vals vs us) (h : sp (vs ++ dvs) H Q (WE W σ)) :
    wpAny (model X.prog X.w) X.A (call (.ref f) us) (EP X pins σ Q) X.xe s :=
  wpAny_call <| codeAny_mono (F.run X.A X.stack s H ⟨us, []⟩ _ _ Q (WE W σ) hr I.env0 (hb s us I.kIn ((r.append hd).length.symm.trans (F.len _ _ _ _ h))) (r.append hd) h) fun
    | .ok (.ret _), _, q => I.after q
    | .ok .next, _, q => q.elim
    | .ok .brk, _, q => q.elim
    | .ok .cont, _, q => q.elim
    | .error u, s', q => passAt tk σ pins H s u s' I q
theorem pe_at {W : WX} {k : Nat} {f : Addr} {fd : FuncData} {ps : List Str} {sp : Sp} {dvs : List V} {ds : List Value} {t : TA}
    (F : FnOk X.prog X.w X.K X.mg X.base (L2.CX X.prog X.w) k f fd ps sp) (hr : Room k X.A) (hg : Gl X x) (hm : X.mg x = some (.ref f)) (hk : PySem.W.keepIn X.K (.ref f) = true) (hb : Binds X.K fd ps ds) (hd : Vals dvs ds) (tk : Takes X W) (ha : PA X (e :: es) t)
    (hdb : (x == ("__debug__" : Str)) = false) (he : starEach (e :: es) X.env = (false, eval e X.env) :: starEach es X.env) (hpl : (backTo pos (starEach es X.env)).any (·.1) = false) :
    PE X (.Call (.Name x p) (e :: es) [] pos) (fun σ H Q => t σ H fun vs H1 => sp (vs ++ dvs) H1 Q (WE W σ)) :=
  ⟨fun pins s σ H Q I h => wpAny_Call_Name_kw (ld_glob I hg hm (PySem.W.callWith_K (h₀ := X.base) I.ok.mod.kin hk (thn (ha.run pos pins s σ H _ I h) fun us s1 ⟨vs, H1, I1, r, q⟩ => ⟨I1.kIn, run_at F hr hb hd tk I1 r q⟩) he hpl) hdb)⟩
/-- a call that hands back -/
theorem a_callX {n l : Nat} {S : CtX} {D : List V} {Ps : List MP} (F : FkX X.prog X.w X.K X.mg X.base n x (spX S) D) (hr : Room l X.A) (hn : n ≤ l) (ha : AA X (e :: es) ρ m Ps m1) (h : S (Ps ++ D.map C) m1 (.ret P) m2) (hd : dom m2 = dom m1 := by rfl) (hg : Gl X x := by rfl)
    (hdb : (x == ("__debug__" : Str)) = false := by decide) (he : starEach (e :: es) X.env = (false, eval e X.env) :: starEach es X.env := by rfl) (hpl : (backTo pos (starEach es X.env)).any (·.1) = false := by rfl) : AE X (.Call (.Name x p) (e :: es) [] pos) ρ m P m2 := by
  obtain ⟨f, fd, ps, ds, h1, h2, h3, h4, h5⟩ := F.ex
  refine Ev.can (pe_call h1 (hr.mono hn) hg h2 h3 h4 h5 (passL (X := X)) pcA hdb he hpl) ⟨hd.trans ha.d, fun σ H Q s q => ha.go σ H _ s fun vs H1 n1 o1 p1 => ?_⟩
  refine ⟨_, m1, _, m2, h, hd, All.append (by rw [ha.d]; exact p1) all_c, o1, ?_, fun _ hx => nomatch hx⟩
  rintro P' ⟨rfl⟩ v H' n2 o2 pv
  exact q v H' (n1.trans ha.d n2) o2 (by rw [← ha.d]; exact pv)
/-- a call that raises -/
theorem ar_call {n l : Nat} {S : CtX} {D : List V} {Ps : List MP} (F : FkX X.prog X.w X.K X.mg X.base n x (spX S) D) (hr : Room l X.A) (hn : n ≤ l) (ha : AA X (e :: es) ρ m Ps m1) (h : S (Ps ++ D.map C) m1 (.exc z) m2) (hd : dom m2 = dom m1 := by rfl) (hg : Gl X x := by rfl)
    (hdb : (x == ("__debug__" : Str)) = false := by decide) (he : starEach (e :: es) X.env = (false, eval e X.env) :: starEach es X.env := by rfl) (hpl : (backTo pos (starEach es X.env)).any (·.1) = false := by rfl) : AR X (.Call (.Name x p) (e :: es) [] pos) ρ m z m2 := by
  obtain ⟨f, fd, ps, ds, h1, h2, h3, h4, h5⟩ := F.ex
  refine ⟨hd.trans ha.d, fun W tk σ H Q s q => cE_of (pe_at h1 (hr.mono hn) hg h2 h3 h4 h5 tk pcA hdb he hpl) (ha.go σ H _ s fun vs H1 n1 o1 p1 => ?_)⟩
  refine ⟨_, m1, _, m2, h, hd, All.append (by rw [ha.d]; exact p1) all_c, o1, (fun _ hx => nomatch hx), ?_⟩
  rintro z' ⟨rfl⟩ c d H' n2 o2 x2
  exact q c d σ H' (s.go (hd.trans ha.d) (n1.trans ha.d n2) o2) (n1.trans ha.d n2) (by rw [← ha.d]; exact x2)
/-- an argument of a call raises -/
theorem ar_arg {n l : Nat} {S : CtX} {D : List V} (F : FkX X.prog X.w X.K X.mg X.base n x (spX S) D) (hr : Room l X.A) (hn : n ≤ l) (ha : ARA X (e :: es) ρ m z m1) (hg : Gl X x := by rfl)
    (hdb : (x == ("__debug__" : Str)) = false := by decide) (he : starEach (e :: es) X.env = (false, eval e X.env) :: starEach es X.env := by rfl) (hpl : (backTo pos (starEach es X.env)).any (·.1) = false := by rfl) : AR X (.Call (.Name x p) (e :: es) [] pos) ρ m z m1 := by
  obtain ⟨f, fd, ps, ds, h1, h2, h3, h4, h5⟩ := F.ex
  exact ⟨ha.d, fun W tk σ H Q s q => cE_of (pe_at h1 (hr.mono hn) hg h2 h3 h4 h5 tk pcA hdb he hpl) (ha.go W tk σ H _ s q)⟩
end
/-! ### statements -/
section
variable {X : Cx} {ρ : Rho} {m m1 m2 m3 : Sto} {P P1 P2 P3 : MP} {e a b c : Expr} {es : List Expr} {rest body : List Stmt} {pos p p2 p3 apos : Pos} {x : Str} {i j : Nat} {z : XP} {D : Ends} {b0 : Hp}
theorem Acc.at (k : Acc X z ρ m1 b0) (he : dom m1 = dom m) : ∃ W, Takes X W ∧ ∀ σ H, Stt ρ m σ H → Ex b0 (mask H (dom m)) → ∀ c d σ' H', Stt ρ m1 σ' H' → Nxt m H H' → z.p (mask H' (dom m)) c d → W c d σ' H' := by
  obtain ⟨W, tk, acc⟩ := k
  exact ⟨W, tk, fun σ H s ex c d σ' H' s' n' x' => acc c d σ' H' s' (by rw [he]; exact ex.trans n') (by rw [he]; exact x')⟩
theorem gs_exprR (he : AR X e ρ m z m1) (k : Acc X z ρ m1 b0) (hs : swapsWith e none p.line X.env = pure false := by rfl) : GS X (.Expr e p :: rest) D ρ m b0 := by
  obtain ⟨W, tk, acc⟩ := k.at he.d
  exact gs_cons fun σ H s ex => cS_of (ps_expr pcE hs) (he.go W tk σ H _ s (acc σ H s ex))
theorem gs_retR (he : AR X e ρ m z m1) (k : Acc X z ρ m1 b0) : GS X (.Return (some e) p :: rest) D ρ m b0 := by
  obtain ⟨W, tk, acc⟩ := k.at he.d
  exact gs_cons fun σ H s ex => cS_of (ps_ret pcE) (he.go W tk σ H _ s (acc σ H s ex))
theorem gs_asgR {i : Nat} (hN : X.N.Nodup) (hi : X.N[i]? = some x) (hx : Loc X.env.scope x) (he : AR X e ρ m z m1) (k : Acc X z ρ m1 b0)
    (hs : swapsWith e (some (.Name x p)) p2.line X.env = pure false := by rfl) (hf : X.fn x = true ∨ X.env.scope.names.lookup x = some .local := by first | exact .inl rfl | exact .inr rfl) : GS X (.Assign [.Name x p] e p2 :: rest) D ρ m b0 := by
  obtain ⟨W, tk, acc⟩ := k.at he.d
  exact gs_cons fun σ H s ex => cS_of (ps_set hN hi hx pcE hs hf) (he.go W tk σ H _ s (acc σ H s ex))
/-- raise X(e): a class without a def of its own -/
theorem gs_raise1 {C : Addr} {bmB : List Value} {B newId initId : String} (hc : X.calm = true) (F : ExcBaseFacts B newId initId bmB) (q : PySem.W.excIn X.K C bmB newId = true) (gC : X.mg x = some (.ref C)) (kC : PySem.W.keepIn X.K (.ref C) = true) (r : Raises X (.ref C))
    (he : AE X e ρ m P m1) (k : Acc X (XC C) ρ m1 b0) (hg : Gl X x := by rfl) (hs : starEach [e] X.env = (false, eval e X.env) :: starEach [] X.env := by rfl) (hdb : (x == ("__debug__" : Str)) = false := by decide) : GS X (.Raise (some (.Call (.Name x p) [e] [] p2)) none pos :: rest) D ρ m b0 := by
  obtain ⟨W, tk, acc⟩ := k
  exact gs_cons fun σ H s ex => cS_of (ps_raise hc tk (SkE.pmk_own1 F q gC kC r hg pcE hs hdb)) (he.go σ H _ s fun v H1 n1 o1 _ => acc _ _ σ H1 (s.go he.d n1 o1) (by rw [he.d]; exact ex.trans n1) ⟨rfl, rfl⟩)
/-- an argument of the exception raises itself -/
theorem gs_raiseR {C : Addr} {bmB : List Value} {B newId initId : String} (hc : X.calm = true) (F : ExcBaseFacts B newId initId bmB) (q : PySem.W.excIn X.K C bmB newId = true) (gC : X.mg x = some (.ref C)) (kC : PySem.W.keepIn X.K (.ref C) = true) (r : Raises X (.ref C))
    (he : AR X e ρ m z m1) (k : Acc X z ρ m1 b0) (hg : Gl X x := by rfl) (hs : starEach [e] X.env = (false, eval e X.env) :: starEach [] X.env := by rfl) (hdb : (x == ("__debug__" : Str)) = false := by decide) : GS X (.Raise (some (.Call (.Name x p) [e] [] p2)) none pos :: rest) D ρ m b0 := by
  obtain ⟨W, tk, acc⟩ := k.at he.d
  exact gs_cons fun σ H s ex => cS_of (ps_raise hc tk (SkE.pmk_own1 F q gC kC r hg pcE hs hdb)) (he.go W tk σ H _ s (acc σ H s ex))
end
/-! ### a def that may raise -/
section
variable {P : Program} {w : World} {K : PySem.W.Frag} {mg : Str → Option Value} {base : Heap}
abbrev bodyR (P : Program) (w : World) (K : PySem.W.Frag) (mg : Str → Option Value) (base : Heap) (N : List Str) (qual : Str) (sc : Scope) (f : Addr) (cdv : Value) (A : Around) (outer : List PySem.Env) (s : Shared) (H : Hp) (E : XK) : Cx := cxOf (L2.CX P w) P w K mg base N qual sc f cdv A outer s H E
/-- what the body is to reach: the answer, or the exception -/
def OutW (X : Cx) (Q : VK) (oc : Oc) (m' : Sto) (b0 : Hp) : Prop := (∀ Pr, oc = .ret Pr → Ret Q Pr m' b0) ∧ ∀ x, oc = .exc x → ∀ ρ, Acc X x ρ m' b0
theorem OutW.ret {X : Cx} {Q : VK} {Pr : MP} {m' : Sto} {b0 : Hp} (h : OutW X Q (.ret Pr) m' b0) : Ret Q Pr m' b0 := h.1 Pr rfl
theorem OutW.exc {X : Cx} {Q : VK} {x : XP} {m' : Sto} {b0 : Hp} (h : OutW X Q (.exc x) m' b0) {ρ : Rho} : Acc X x ρ m' b0 := h.2 x rfl ρ
theorem Fun_ctX {x qual : Str} {st : Stmt} {f : Addr} {fd : FuncData} {N ps : List Str} {k : Nat} (F : Fun K x qual st f fd) (Sc : FnScope N ps (defScope st)) (S : CtX) (hl : ∀ Ps m oc m', S Ps m oc m' → Ps.length = ps.length)
    (hbody : ∀ (cdv : Value) (A : Around) (outer : List PySem.Env) (s : Shared) (H : Hp) (E : XK), Room k (A.deeper (envOfC qual (defScope st) s.heap.objs.size f cdv)) → ∀ (Ps : List MP) (m : Sto) (oc : Oc) (m' : Sto), S Ps m oc m' → ∀ (b0 : Hp) (Q : VK), OutW (bodyR P w K mg base N qual (defScope st) f cdv A outer s H E) Q oc m' b0 →
      GS (bodyR P w K mg base N qual (defScope st) f cdv A outer s H E) (defBody st) (ends Q) (start' N Ps) m b0) : FnOk P w K mg base (L2.CX P w) (k + 1) f fd ps (spX S) := by
  refine F.okX Sc (fun vs H Q E ⟨Ps, m, oc, m', h, _, a, _⟩ => by rw [← a.length]; exact hl Ps m oc m' h) (fun cdv A outer s H vs Q E hr ⟨Ps, m, oc, m', h, hd, a, o, q, qx⟩ => ?_)
  refine ⟨cSs _ _, pcSs, hbody cdv A outer s H E hr Ps m oc m' h (mask H (dom m)) Q ⟨fun Pr ho v H' o' ex pv => ?_, fun x ho ρ => ?_⟩ _ H ⟨env_start a, o⟩ (Ex.refl _)⟩
  · exact q Pr ho v H' (by rw [hd] at ex; exact ex) o' (by rw [hd] at pv; exact pv)
  · refine ⟨_, takes_of (X := bodyR P w K mg base N qual (defScope st) f cdv A outer s H E) rfl rfl rfl rfl, fun c d σ H' s' ex px => ?_⟩
    exact qx x ho c d H' (by rw [hd] at ex; exact ex) s'.own (by rw [hd] at px; exact px)
end
end SV

/-! SVExi: exceptions with a field: a class whose __init__ calls its base's and writes one attribute. -/
namespace SV
open PySem L2 PyProof.Rows
open Evl (Ex ex_rd ex_l ex_t sz_of sz_lt)

/-- of the class at C, its one field known -/
def XF (C : Addr) (fl : Str) (P : MP) : XP := ⟨fun H c d => c = .ref C ∧ ∃ (dd : Addr) (y : V), d = some dd ∧ H dd = some (.xd [(fl, y)]) ∧ P.p H y, fun e ⟨h, dd, y, h1, h2, h3⟩ => ⟨h, dd, y, h1, e _ _ h2, P.mono e h3⟩⟩
/-- what such an __init__ does: the fresh exception and the value that it keeps -/
def spE (K : PySem.W.Frag) (fl : Str) (ok : V → Prop) : Sp := fun vs H Q _ => ∃ (a C : Addr) (y : V), vs = [.ref a, y] ∧ OexC K C ∧ PySem.W.findIn K (.ref C) fl = some none ∧ ok y ∧ H a = some (exo a C none) ∧
  ∀ (H2 : Hp) (dx : Addr), Ex H H2 → H2 dx = none → dx ≠ a → Q .non (upd (upd H2 dx (exd dx [(fl, y)])) a (exo a C (some dx)))
section
variable {X : Cx} {e : Expr} {es : List Expr} {ta : TA} {p p1 p2 pos : Pos} {x : Str}
/-- T.__init__(self, ..) where T is a class of the program that takes ValueError's -/
theorem pe_tinit {pl : Sem Bool} {T : Addr} {mc : Value} (hg : Gl X x) (hm : X.mg x = some (.ref T)) (hdb : (x == ("__debug__" : Str)) = false) (rd : PySem.W.readsIn X.K T mc = true) (ga : PySem.W.specialIn X.K (.ref T) "__getattribute__" = some (some (.builtin "type.__getattribute__")))
    (vV : PySem.W.findCls X.K (.ref T) mc "__init__" = some (.val (.builtin "ValueError.__init__"))) (ha : PA X (e :: es) ta)
    (hc : eval (.Call (.Attribute (.Name x p1) "__init__" p2) (e :: es) [] pos) X.env = (do
      let ov ← eval (.Name x p1) X.env
      standAt p2.atName
      let (f, first) ← holding [ov] (getMethod ov "__init__" pl)
      callWith pos f first (backTo pos (starEach (e :: es) X.env)) (backToKw pos (keywordEach [] X.env))) := by rfl)
    (he : starEach (e :: es) X.env = (false, eval e X.env) :: starEach es X.env := by rfl) (hpl : (backTo pos (starEach es X.env)).any (·.1) = false := by rfl) :
    PE X (.Call (.Attribute (.Name x p1) "__init__" p2) (e :: es) [] pos) (tVeI X.K ta) := by
  constructor
  intro pins s σ H Q I h
  refine PySem.W.methodCall_KW (ld_glob I hg hm (PySem.W.method_cls I.kIn ga (PySem.W.cls_value I.kIn rd vV (by decide +kernel) ?_)) hdb) hc
  refine PyProof.Rows.callWith_method1 (thn (ha.run pos pins _ σ H _ (I.tok _) h) ?_) he hpl
  rintro us s1 ⟨vs, H1, I1, r1, a, C, ws, rfl, hl, T, ea, q⟩
  match us, r1 with
  | _ :: ur, .cons (rfl : _ = Value.ref a) rw' => exact oinit_ok T I1 ea (by rw [← rw'.length, sizeLine_eq]; omega) fun s' J => ⟨.non, H1, J, rfl, q⟩
end
section
variable {X : Cx} {ρ : Rho} {m m1 m2 : Sto} {P : MP} {e o : Expr} {es : List Expr} {Ps : List MP} {rest : List Stmt} {p p' p1 p2 p3 p5 pos : Pos} {x f : Str} {D : Ends} {b0 : Hp} {a Cc : Addr} {z : XP}
theorem under {H : Hp} {d : List Addr} {u : HO} (hb : b0 a = some u) (ex : Ex b0 (mask H d)) : H a = some u := mask_sub _ _ (ex _ _ hb)
theorem gs_tinit {pl : Sem Bool} {T : Addr} {mc : Value} (hm : X.mg x = some (.ref T)) (rd : PySem.W.readsIn X.K T mc = true) (ga : PySem.W.specialIn X.K (.ref T) "__getattribute__" = some (some (.builtin "type.__getattribute__")))
    (vV : PySem.W.findCls X.K (.ref T) mc "__init__" = some (.val (.builtin "ValueError.__init__"))) (hb0 : b0 a = some (exo a Cc none)) (O : OexC X.K Cc) (ha : AA X (e :: es) ρ m (R a :: Ps) m1) (k : GS X rest D ρ m1 b0) (hl : Ps.length ≤ 1000 := by decide) (hg : Gl X x := by rfl) (hdb : (x == ("__debug__" : Str)) = false := by decide)
    (hc : eval (.Call (.Attribute (.Name x p1) "__init__" p2) (e :: es) [] pos) X.env = (do
      let ov ← eval (.Name x p1) X.env
      standAt p2.atName
      let (f, first) ← holding [ov] (getMethod ov "__init__" pl)
      callWith pos f first (backTo pos (starEach (e :: es) X.env)) (backToKw pos (keywordEach [] X.env))) := by rfl)
    (he : starEach (e :: es) X.env = (false, eval e X.env) :: starEach es X.env := by rfl) (hpl : (backTo pos (starEach es X.env)).any (·.1) = false := by rfl)
    (hs : swapsWith (.Call (.Attribute (.Name x p1) "__init__" p2) (e :: es) [] pos) none p5.line X.env = pure false := by rfl) :
    GS X (.Expr (.Call (.Attribute (.Name x p1) "__init__" p2) (e :: es) [] pos) p5 :: rest) D ρ m b0 :=
  gs_cons fun σ H s ex => cS_of (ps_expr (pe_tinit hg hm hdb rd ga vV pcA hc he hpl) hs) (ha.go σ H _ s fun vs H1 n1 o1 h1 => by
    have ex1 : Ex b0 (mask H1 (dom m1)) := by rw [ha.d]; exact ex.trans n1
    match vs, h1 with
    | _ :: ws, .cons (rfl : _ = V.ref a) tl => exact ⟨a, Cc, ws, rfl, by rw [← tl.length]; exact hl, O, under hb0 ex1, k σ H1 (s.go ha.d n1 o1) ex1⟩)
theorem gs_ost (hb0 : b0 a = some (exo a Cc none)) (O : OexC X.K Cc) (hno : PySem.W.findIn X.K (.ref Cc) f = some none) (he : AE X e ρ m P m1) (ho : AE X o ρ m1 (R a) m2)
    (k : ∀ (σ : L2.St) (H2 : Hp) (y : V) (dx : Addr), Stt ρ m2 σ H2 → Ex b0 (mask H2 (dom m2)) → P.p (mask H2 (dom m2)) y → H2 dx = none → dx ≠ a → D.nx σ (upd (upd H2 dx (exd dx [(f, y)])) a (exo a Cc (some dx))))
    (hs : swapsWith e (some (.Attribute o f p')) pos.line X.env = pure false := by rfl) : GS X [.Assign [.Attribute o f p'] e pos] D ρ m b0 :=
  gs_cons fun σ H s ex => cS_of (ps_ost pcE pcE hs) (he.go σ H _ s fun y H1 n1 o1 h1 => ho.go σ H1 _ (s.go he.d n1 o1) fun v H2 n2 o2 h2 => by
    obtain rfl : v = V.ref a := h2
    have hd := ho.d.trans he.d
    have n3 := n1.trans he.d n2
    have ex2 : Ex b0 (mask H2 (dom m2)) := by rw [hd]; exact ex.trans n3
    refine ⟨a, Cc, rfl, O, hno, .inl ⟨under hb0 ex2, fun dx q1 q2 => cSs_of pss_nil ?_⟩⟩
    exact k σ H2 y dx (s.go hd n3 o2) ex2 (by rw [hd]; exact P.mono (n2.to he.d) h1) q1 q2)
end
section
variable {P : Program} {w : World} {K : PySem.W.Frag} {mg : Str → Option Value} {base : Heap}
/-- the __init__ of an exception -/
theorem Fun_ctE {x qual fl : Str} {st : Stmt} {f : Addr} {fd : FuncData} {N ps : List Str} {k : Nat} {ok : V → Prop} (F : Fun K x qual st f fd) (Sc : FnScope N ps (defScope st)) (hp : ps.length = 2)
    (hbody : ∀ (cdv : Value) (A : Around) (outer : List PySem.Env) (s : Shared) (H : Hp) (E : XK), Room k (A.deeper (envOfC qual (defScope st) s.heap.objs.size f cdv)) → ∀ (a Cc : Addr) (y : V), OexC K Cc → PySem.W.findIn K (.ref Cc) fl = some none → ok y → ∀ (b0 : Hp) (Q : VK), b0 a = some (exo a Cc none) →
      (∀ (H2 : Hp) (dx : Addr), Ex b0 H2 → H2 dx = none → dx ≠ a → Q .non (upd (upd H2 dx (exd dx [(fl, y)])) a (exo a Cc (some dx)))) →
      GS (bodyX CX0 P w K mg base N qual (defScope st) f cdv A outer s H E) (defBody st) (ends Q) (start' N [R a, C y]) [] b0) : FnOk P w K mg base CX0 (k + 1) f fd ps (spE K fl ok) := by
  refine F.ok Sc (fun vs H Q E ⟨a, Cc, y, hv, _⟩ => by rw [hv, hp]; rfl) (fun cdv A outer s H vs Q E hr ⟨a, Cc, y, hv, O, hno, hok, ea, q⟩ => ?_)
  subst hv
  exact ⟨cSs _ _, pcSs, hbody cdv A outer s H E hr a Cc y O hno hok H Q ea q _ H ⟨env_start (Ps := [R a, C y]) (by rw [show dom [] = [] from rfl, mask_nil]; exact .cons rfl (.cons rfl .nil)), Own.nil⟩ (by rw [show dom [] = [] from rfl, mask_nil]; exact Ex.refl _)⟩
/-- the module's name x is such a class -/
structure Fx (P : Program) (w : World) (K : PySem.W.Frag) (mg : Str → Option Value) (base : Heap) (k : Nat) (x : Str) (Cc : Addr) (fl : Str) (ok : V → Prop) : Prop where
  cls : OexC K Cc
  gm : mg x = some (.ref Cc)
  no : PySem.W.findIn K (.ref Cc) fl = some none
  ini : ∃ (fI : Addr) (fd : FuncData) (ps : List Str), FnOk P w K mg base CX0 k fI fd ps (spE K fl ok) ∧ PySem.W.findIn K (.ref Cc) "__init__" = some (some (.ref fI)) ∧ PySem.W.typeIn K (.ref fI) = some (.type "function") ∧ Binds K fd ps []
end
section
variable {X : Cx} {ρ : Rho} {m m1 m2 : Sto} {P : MP} {e : Expr} {rest : List Stmt} {p p2 pos : Pos} {x fl : Str} {D : Ends} {b0 : Hp} {Cc : Addr} {z : XP} {ok : V → Prop}
/-- raise X(e): the field holds what e is -/
theorem gs_raiseF {n l : Nat} (hc : X.calm = true) (F : Fx X.prog X.w X.K X.mg X.base n x Cc fl ok) (hr : Room l X.A) (hn : n + 1 ≤ l) (he : AE X e ρ m P m1) (hok : ∀ H v, P.p H v → ok v) (k : Acc X (XF Cc fl P) ρ m1 b0) (hg : Gl X x := by rfl)
    (hs : starEach [e] X.env = (false, eval e X.env) :: starEach [] X.env := by rfl) (hdb : (x == ("__debug__" : Str)) = false := by decide) : GS X (.Raise (some (.Call (.Name x p) [e] [] p2)) none pos :: rest) D ρ m b0 := by
  obtain ⟨W, tk, acc⟩ := k
  obtain ⟨fI, fd, ps, h1, h2, h3, h4⟩ := F.ini
  have ha : AA X [e] ρ m [P] m1 := EvA.can (pa_cons pcE pa_nil hs) (ea_cons he ea_nil)
  refine gs_cons fun σ H s ex => cS_of (ps_raise hc tk (pmk_oex F.cls h2 h3 h1 (hr.mono hn) h4 .nil (pass0 (X := X)) hg F.gm pcA hdb hs (by rfl))) ?_
  refine ha.go σ H _ s fun vs H1 n1 o1 p1 => ?_
  match vs, p1 with
  | [y], .cons py .nil =>
    refine ⟨by show 1 ≤ 1000; decide, fun a hna => ⟨a, Cc, y, rfl, F.cls, F.no, hok _ _ py, upd_same, fun H2 dx e2 q1 q2 => ⟨rfl, dx, [(fl, y)], upd_same, ?_, ?_, ?_⟩⟩⟩
    · rw [upd_ne q2, upd_same]
    · cases hx : H1 dx with
      | none => rfl
      | some u =>
        have := e2 dx u (by rw [upd_ne q2]; exact hx)
        rw [q1] at this; cases this
    · have e3 : Ex H1 (upd (del (upd (upd H2 dx (exd dx [(fl, y)])) a (exo a Cc (some dx))) a) dx (.xd [(fl, y)])) := fun b u hb => by
        have ba : b ≠ a := fun z => by rw [z, hna] at hb; cases hb
        have h5 := e2 b u (by rw [upd_ne ba]; exact hb)
        have bd : b ≠ dx := fun z => by rw [z, q1] at h5; cases h5
        rw [upd_ne bd, del_ne ba, upd_ne ba, upd_ne bd]; exact h5
      have n4 := n1.trans rfl (Nxt.of e3)
      have o4 := o1.ext e3
      refine acc _ _ σ _ (s.go he.d n4 o4) (by rw [he.d]; exact ex.trans n4) ⟨rfl, dx, y, rfl, ?_, ?_⟩
      · rw [mask_out ?_, upd_same]
        intro hd
        have f1 := o1.there hd
        cases hx : H1 dx with
        | none => exact f1 hx
        | some u =>
          have := e2 dx u (by rw [upd_ne q2]; exact hx)
          rw [q1] at this; cases this
      · rw [he.d]; exact P.mono (mask_ex e3) py
end
end SV

/-! SVTry: try: .. except T as n: .. -/
namespace SV
open PySem L2 PyProof.Rows
open Evl (Ex ex_rd ex_l ex_t sz_of sz_lt)
section
variable {X : Cx} {ρ ρ' : Rho} {m m1 m2 : Sto} {P : MP} {e : Expr} {b₀ : Stmt} {rest body suite : List Stmt} {np pos pos' : Pos} {x n : Str} {i : Nat} {c : Value} {D : Ends} {b0 : Hp} {z : XP}
/-- the caught exception, as a value -/
def XV (z : XP) (a : Addr) (cls : Value) (d : Option Addr) : MP := ⟨fun H v => v = .ref a ∧ z.p H cls d, fun e ⟨h1, h2⟩ => ⟨h1, z.mono e h2⟩⟩
/-- behind the suite the name is gone -/
abbrev gone (i : Nat) (D : Ends) : Ends := { nx := fun σ' H' => D.nx (σ'.set i none) H', rt := D.rt, bk := fun σ' H' => D.bk (σ'.set i none) H', ct := fun σ' H' => D.ct (σ'.set i none) H' }
/-- the clause catches z, and its suite does what is wanted -/
def Caught (X : Cx) (c : Value) (i : Nat) (suite : List Stmt) (D : Ends) (z : XP) (ρ : Rho) (m : Sto) (b0 : Hp) : Prop := ∀ (cls : Value) (d : Option Addr) (H : Hp), z.p (mask H (dom m)) cls d → Ex b0 (mask H (dom m)) →
  PySem.W.exmOne X.K cls c = some true ∧ ∀ (a : Addr) (oe : Obj) (pn : List (Addr × Obj)), Zc cls d oe → (∃ vs, oe.data = .fields vs) → GS (X.suite a ((a, oe) :: pn)) suite (gone i D) (ρ.set i (some (XV z a cls d))) m (mask H (dom m))
theorem gs_tryAs (hs : X.stack = X.env :: X.outer) (hf : X.env.frame = some X.env.locals) (hN : X.N.Nodup) (hi : X.N[i]? = some n) (hln : X.env.kindOf n = some .local) (hc : Names X x c)
    (hbody : ∀ (pn : List (Addr × Obj)) (xe : Value → Shared → Prop), (∀ z ρ' m', Caught X c i (b₀ :: suite) { D with nx := cSs X rest D } z ρ' m' b0 → Acc (X.tr pn xe) z ρ' m' b0) → GS (X.tr pn xe) body { D with nx := cSs X rest D } ρ m b0) :
    GS X (.Try body [.ExceptHandler (some (.Name x np)) (some n) (b₀ :: suite) pos'] [] [] pos :: rest) D ρ m b0 :=
  gs_cons fun σ H s ex => cS_of (ps_try_as
      (tb := fun W D σ H => ∀ (pn : List (Addr × Obj)) (xe : Value → Shared → Prop), Takes (X.tr pn xe) W → PassesOwn (model X.prog X.w) X.A X.env xe → cSs (X.tr pn xe) body D σ H)
      (ts := fun a cls d D σ H => ∀ (oe : Obj) (pn : List (Addr × Obj)), Zc cls d oe → (∃ vs, oe.data = .fields vs) → cSs (X.suite a ((a, oe) :: pn)) (b₀ :: suite) D σ H)
      hs hf hN hi hln hc takes0 (fun W pn xe tk po => ⟨fun pins s σ H D I h => h pn xe tk po pins s I⟩) (fun a oe cls d pn hz hv => ⟨fun pins s σ H D I h => h oe pn hz hv pins s I⟩))
    fun pn xe tk po => hbody pn xe (fun z ρ' m' hh => ⟨_, tk, fun cls d σ' H' s' ex' hz => ⟨true, (hh cls d H' hz ex').1, fun _ a hna oe pn' hzc hv => (hh cls d H' hz ex').2 a oe pn' hzc hv (σ'.set i (some (.ref a))) H' ⟨Slots.set (P := XV z a cls d) (v := .ref a) ⟨rfl, hz⟩ i s'.env, s'.own⟩ (Ex.refl _), fun h => nomatch h⟩⟩) σ H s ex
end
/-! ### isinstance(e, ..), e the caught exception -/
def XDict (H : Hp) (d : Option Addr) : Prop := d = none ∨ ∃ (dd : Addr) (fs : List (Str × V)), d = some dd ∧ H dd = some (.xd fs)
def rIsX (K : PySem.W.Frag) (E a : Addr) (d : Option Addr) : List V → Hp → VK → Prop := fun xs H Q => XDict H d ∧ ∃ b, Q (.bl b) H ∧
  ((∃ c cv, xs = [.ref a, c] ∧ ClsV c cv ∧ PySem.W.kitOne K (.ref E) cv = some b) ∨ ∃ tp cs us, xs = [.ref a, .ref tp] ∧ H tp = some (.tup cs) ∧ Paired ClsV cs us ∧ PySem.W.kitAny K (.ref E) us = some b)
theorem inst_x {X : Cx} {pins : List (Addr × Obj)} {σ : L2.St} {H : Hp} {s : Shared} {a E : Addr} {oe : Obj} {d : Option Addr} (I : Inv X pins σ H s) (hget : s.heap.get? a = some oe) (hz : Zc (.ref E) d oe) (hf : ∃ vs, oe.data = .fields vs) (hd : XDict H d) : ∃ od, PySem.W.InstAt s.heap a oe E od := by
  obtain ⟨vs, hv⟩ := hf
  have hn : PySem.W.notCls oe = true := by unfold PySem.W.notCls; rw [hv] <;> rfl
  rcases hd with rfl | ⟨dd, fs, rfl, hdd⟩
  · exact ⟨none, hget, hz.1, hn, by rw [hz.2]; trivial⟩
  · obtain ⟨mA, hns, _⟩ := (show ObjOk X.prog X.w H s.heap dd (.xd fs) from I.hok dd _ hdd)
    obtain ⟨od, ho, _⟩ := lookIn_ns hns
    exact ⟨some od, hget, hz.1, hn, by rw [hz.2]; exact ho⟩
theorem call_isX {X : Cx} {a E : Addr} {oe : Obj} {d : Option Addr} {pn : List (Addr × Obj)} (T : ExcC X.K E) (hz : Zc (.ref E) d oe) (hf : ∃ vs, oe.data = .fields vs) : CallR (X.suite a ((a, oe) :: pn)) (.builtin "isinstance") (rIsX X.K E a d) := by
  intro pins s σ H xs us Q I r h
  obtain ⟨hd, b, q, h⟩ := h
  obtain ⟨hget, _⟩ := I.pin (a, oe) (List.mem_append_left _ List.mem_cons_self)
  obtain ⟨od, J⟩ := inst_x I hget hz hf hd
  have hcl : (PySem.W.clsIn X.K E).isSome = true := by
    have z := T.hd
    unfold PySem.W.hasDictIn at z
    cases hc : PySem.W.clsIn X.K E with
    | none => rw [hc] at z; cases z
    | some _ => rfl
  have Z := PySem.W.kitx_exc (x := a) (ox := oe) (od := od) hcl T.hg T.hk T.hs T.ha T.hn T.ht T.hm
  rcases h with ⟨c, cv, rfl, k, e⟩ | ⟨tp, cs, ws, rfl, ht, k, e⟩
  · obtain ⟨u1, u2, rfl, r1, r2⟩ := vals2 r
    cases (show u1 = Value.ref a from r1)
    have e2 := k.eq r2
    subst e2
    exact PySem.W.kia_one Z I.kIn J e (fun z => nomatch z) fun tk => ⟨.bl b, H, I.tok tk, rfl, q⟩
  · obtain ⟨u1, u2, rfl, r1, r2⟩ := vals2 r
    cases (show u1 = Value.ref a from r1)
    cases (show u2 = Value.ref tp from r2)
    obtain ⟨_, its, rv, o, h1, h2, n, h3⟩ := (show ObjOk X.prog X.w H s.heap tp (.tup cs) from I.hok tp _ ht)
    have e3 := ClsV.all k rv
    subst e3
    obtain ⟨oc, od', dt, sl⟩ := o
    simp only at h2 h3
    subst h2 h3
    exact PySem.W.kia_tup Z I.kIn J h1 e (fun z => nomatch z) fun tk => ⟨.bl b, H, I.tok tk, rfl, q⟩
theorem XDict.mono {H H' : Hp} {d : Option Addr} (e : Ex H H') (h : XDict H d) : XDict H' d := by
  rcases h with h | ⟨dd, fs, h1, h2⟩
  · exact .inl h
  · exact .inr ⟨dd, fs, h1, e _ _ h2⟩
theorem xd_C {Cc : Addr} {H : Hp} {c : Value} {d : Option Addr} (h : (XC Cc).p H c d) : XDict H d := .inl h.2
theorem xd_F {Cc : Addr} {fl : Str} {P : MP} {H : Hp} {c : Value} {d : Option Addr} (h : (XF Cc fl P).p H c d) : XDict H d := by
  obtain ⟨_, dd, y, h1, h2, _⟩ := h
  exact .inr ⟨dd, _, h1, h2⟩
/-- a tuple that was made here -/
def Tf (Ps : List MP) : MP := ⟨fun H v => ∃ l vs, v = .ref l ∧ H l = some (.tup vs) ∧ All H Ps vs, fun e ⟨l, vs, h1, h2, h3⟩ => ⟨l, vs, h1, e _ _ h2, h3.mono e⟩⟩
section
variable {X : Cx} {ρ : Rho} {m m1 m2 : Sto} {P : MP} {e : Expr} {es : List Expr} {p p2 pos : Pos} {x : Str} {k : _} {z : XP} {a E : Addr} {d : Option Addr} {cv : V} {u : Value} {r : Bool}
theorem ev_tupF {Ps : List MP} {A : TA} (ha : EvA A ρ m Ps m1) (hl : Ps.length ≤ 100000) : Ev (tTup A) ρ m (Tf Ps) m1 := ⟨ha.d, fun σ H Q s q => by
  refine ha.go σ H _ s fun vs H1 n1 o1 p1 => ⟨sz_of (by rw [← p1.length]; exact hl), fun l h => ?_⟩
  have e : Ex H1 (upd H1 l (.tup vs)) := Ex.new h
  exact q (.ref l) _ (n1.trans rfl (Nxt.of e)) (o1.ext e) ⟨l, vs, rfl, Free.at (by rw [← ha.d]; exact o1.frees) h, p1.mono (mask_ex e)⟩⟩
theorem rc_isX1 {K : PySem.W.Frag} (hd : ∀ H, z.p H (.ref E) d → XDict H d) (hc : ClsV cv u) (hk : PySem.W.kitOne K (.ref E) u = some r) : RC (rIsX K E a d) [XV z a (.ref E) d, C cv] (B r) := fun ds H vs Q _ h q => by
  match vs, h with
  | [_, _], .cons ⟨rfl, hz⟩ (.cons rfl .nil) => exact ⟨(hd _ hz).mono mask_sub, r, q _ H (Ex.refl _) rfl, .inl ⟨cv, u, rfl, hc, hk⟩⟩
theorem rc_isXT {K : PySem.W.Frag} {cs : List V} {us : List Value} (hd : ∀ H, z.p H (.ref E) d → XDict H d) (hc : Paired ClsV cs us) (hk : PySem.W.kitAny K (.ref E) us = some r) : RC (rIsX K E a d) [XV z a (.ref E) d, Tf (cs.map C)] (B r) := fun ds H vs Q _ h q => by
  match vs, h with
  | [_, _], .cons ⟨rfl, hz⟩ (.cons ⟨l, ws, rfl, h2, h3⟩ .nil) =>
    have e2 : ws = cs := by
      have := all_map (fun v => v) h3
      simpa using this
    subst e2
    exact ⟨(hd _ hz).mono mask_sub, r, q _ H (Ex.refl _) rfl, .inr ⟨l, _, us, rfl, mask_sub _ _ h2, hc, hk⟩⟩
theorem a_tupF {Ps : List MP} {x1} (h : AA X es ρ m Ps m1) (hl : Ps.length ≤ 100000 := by first | decide | exact Nat.le_of_ble_eq_true rfl) : AE X (.Tuple es x1 pos) ρ m (Tf Ps) m1 := Ev.can (pe_tup pcA) (ev_tupF h hl)
/-- e.f, e the caught exception, f its field -/
theorem a_xf {fl : Str} {oe : Obj} {pn : List (Addr × Obj)} (T : XfC X.K E) (hno : PySem.W.findIn X.K (.ref E) fl = some none) (hz : Zc (.ref E) d oe) (hf : ∃ vs, oe.data = .fields vs) (he : AE (X.suite a ((a, oe) :: pn)) e ρ m (XV (XF E fl P) a (.ref E) d) m1)
    (hb : attributeBase e fl X.env (eval e X.env) = eval e X.env := by rfl) : AE (X.suite a ((a, oe) :: pn)) (.Attribute e fl pos) ρ m P m1 :=
  Ev.can (pe_xf T hno hz hf pcE hb) ⟨he.d, fun σ H Q s q => he.go σ H _ s fun v H1 n1 o1 h1 => by
    obtain ⟨rfl, _, dd, y, rfl, h2, h3⟩ := h1
    exact ⟨rfl, rfl, dd, _, y, rfl, mask_sub _ _ h2, by simp [List.lookup], q y H1 n1 o1 h3⟩⟩
end
end SV

/-! SVMkx: objects whose __init__ may raise. -/
namespace SV
open PySem L2 PyProof.Rows
open Evl (Ex ex_rd ex_l ex_t sz_of sz_lt)
/-- a class of the text, made by an __init__ that may raise -/
structure FcX (P : Program) (w : World) (K : PySem.W.Frag) (mg : Str → Option Value) (base : Heap) (k : Nat) (x : Str) (Cc : Addr) (sp : Sp) (D : List V) : Prop where
  ex : ∃ (f : Addr) (fd : FuncData) (ps : List Str) (ds : List Value), L2.Mk K Cc f ∧ FnOk P w K mg base (L2.CX P w) k f fd ps sp ∧ mg x = some (.ref Cc) ∧ Binds K fd ps ds ∧ Vals D ds
section
variable {X : Cx} {ρ : Rho} {m m1 m2 : Sto} {P : MP} {e : Expr} {es : List Expr} {p pos : Pos} {x : Str} {z : XP} {Cc : Addr}
theorem make_at {W : WX} {k : Nat} {f : Addr} {fd : FuncData} {ps : List Str} {sp : Sp} {dvs : List V} {ds : List Value} {pins : List (Addr × Obj)} {σ : L2.St} {H : Hp} {s : Shared} {Q : VK} {us : List Value} {vs : List V}
    (M : L2.Mk X.K Cc f) (F : FnOk X.prog X.w X.K X.mg X.base (L2.CX X.prog X.w) k f fd ps sp) (hr : Room (k + 1) X.A) (hb : Binds X.K fd ps ds) (hd : Vals dvs ds) (tk : Takes X W) (I : Inv X pins σ H s) (r : Vals vs us)
    (h : ∀ y dx, H y = none → H dx = none → dx ≠ y → sp (.ref y :: (vs ++ dvs)) (upd (upd H dx (.own y)) y (.ins Cc dx [])) (fun v H2 => v = .non ∧ Q (.ref y) H2) (WE W σ)) :
    wpAny (model X.prog X.w) X.A (call (.ref Cc) us) (EP X pins σ Q) X.xe s := by
  have J := Inv.made (C := Cc) I
  have hs := h _ _ (I.hok.fresh (Nat.le_succ _)) (I.hok.fresh (Nat.le_refl _)) (Nat.ne_of_lt (Nat.lt_succ_self _))
  have rr : Vals (V.ref (s.heap.objs.size + 1) :: (vs ++ dvs)) (Value.ref (s.heap.objs.size + 1) :: us ++ ds) := .cons rfl (r.append hd)
  exact wpAny_call <| make_map (f := f) I.kIn M.makes M.init (beq_iff_eq.mp M.fn) <| codeAny_mono
    (F.run _ X.stack _ _ ⟨Value.ref (s.heap.objs.size + 1) :: us, []⟩ _ _ _ (WE W σ) (hr.make Cc us []) (J.env0.make Cc us []) (hb _ (Value.ref (s.heap.objs.size + 1) :: us) J.kIn (rr.length.symm.trans (F.len _ _ _ _ hs))) rr hs) fun
    | .ok (.ret u), s', q => by
      obtain ⟨v, H', J', rv, ev, q'⟩ := J.after q
      subst ev
      exact ⟨rv, V.ref _, H', J', rfl, q'⟩
    | .ok .next, _, q => q.elim
    | .ok .brk, _, q => q.elim
    | .ok .cont, _, q => q.elim
    | .error u, s', q => passAt tk σ pins _ _ u s' J q
theorem pe_mkat {W : WX} {k : Nat} {f : Addr} {fd : FuncData} {ps : List Str} {sp : Sp} {dvs : List V} {ds : List Value} {t : TA} (M : L2.Mk X.K Cc f) (F : FnOk X.prog X.w X.K X.mg X.base (L2.CX X.prog X.w) k f fd ps sp) (hr : Room (k + 1) X.A) (hg : Gl X x) (hm : X.mg x = some (.ref Cc)) (hb : Binds X.K fd ps ds) (hd : Vals dvs ds)
    (tk : Takes X W) (ha : PA X (e :: es) t) (hdb : (x == ("__debug__" : Str)) = false) (he : starEach (e :: es) X.env = (false, eval e X.env) :: starEach es X.env) (hpl : (backTo pos (starEach es X.env)).any (·.1) = false) :
    PE X (.Call (.Name x p) (e :: es) [] pos) (fun σ H Q => t σ H fun vs H1 => ∀ y dx, H1 y = none → H1 dx = none → dx ≠ y → sp (.ref y :: (vs ++ dvs)) (upd (upd H1 dx (.own y)) y (.ins Cc dx [])) (fun v H2 => v = .non ∧ Q (.ref y) H2) (WE W σ)) :=
  ⟨fun pins s σ H Q I h => wpAny_Call_Name_kw (ld_glob I hg hm (PySem.W.callWith_K (h₀ := X.base) I.ok.mod.kin M.kp (thn (ha.run pos pins s σ H _ I h) fun us s1 ⟨vs, H1, I1, r, q⟩ => ⟨I1.kIn, make_at M F hr hb hd tk I1 r q⟩) he hpl) hdb)⟩
/-- the object in the making: what __init__ finds -/
theorem new_self {ds : List Addr} {m1 : Sto} {H1 : Hp} {y dx : Addr} {vs : List V} {Ps : List MP} {Dv : List V} (hds : ds = dom m1) (o1 : Own m1 H1) (p1 : All (mask H1 ds) Ps vs) (hy : H1 y = none) (hdx : H1 dx = none) (hne : dx ≠ y) :
    Own ((y, .ins Cc []) :: m1) (upd (upd H1 dx (.own y)) y (.ins Cc dx [])) ∧ Ex (mask H1 (dom m1)) (mask (upd (upd H1 dx (.own y)) y (.ins Cc dx [])) (dom ((y, MO.ins Cc []) :: m1))) ∧
      All (mask (upd (upd H1 dx (.own y)) y (.ins Cc dx [])) (dom ((y, MO.ins Cc []) :: m1))) (R y :: (Ps ++ Dv.map C)) (.ref y :: (vs ++ Dv)) := by
  have hy2 : upd H1 dx (.own y) y = none := by rw [upd_ne (Ne.symm hne)]; exact hy
  have o2 : Own m1 (upd H1 dx (.own y)) := o1.ext (Ex.new hdx)
  have sight : Ex (mask H1 (dom m1)) (mask (upd (upd H1 dx (.own y)) y (.ins Cc dx [])) (dom ((y, MO.ins Cc []) :: m1))) := (mask_ex (Ex.new hdx)).trans (new_sight hy2)
  subst hds
  exact ⟨o2.add hy2 ⟨dx, [], rfl, .nil⟩, sight, .cons rfl (All.append (p1.mono sight) all_c)⟩
/-- C(..) that raises -/
theorem ar_make {n lv : Nat} {S : CtX} {Dv : List V} {Ps : List MP} (F : FcX X.prog X.w X.K X.mg X.base n x Cc (spX S) Dv) (hr : Room lv X.A) (hn : n + 1 ≤ lv) (ha : AA X (e :: es) ρ m Ps m1)
    (h : ∀ s, ∃ mo, S (R s :: (Ps ++ Dv.map C)) ((s, .ins Cc []) :: m1) (.exc z) ((s, mo) :: m2)) (hd : dom m2 = dom m1 := by rfl) (hg : Gl X x := by rfl)
    (hdb : (x == ("__debug__" : Str)) = false := by decide) (he : starEach (e :: es) X.env = (false, eval e X.env) :: starEach es X.env := by rfl) (hpl : (backTo pos (starEach es X.env)).any (·.1) = false := by rfl) : AR X (.Call (.Name x p) (e :: es) [] pos) ρ m z m2 := by
  obtain ⟨g, fd, ps, ds, h0, h1, h2, h4, h5⟩ := F.ex
  refine ⟨hd.trans ha.d, fun W tk σ H Q s q => cE_of (pe_mkat h0 h1 (hr.mono hn) hg h2 h4 h5 tk pcA hdb he hpl) (ha.go σ H _ s fun vs H1 n1 o1 p1 => ?_)⟩
  intro y dx hy hdx hne
  obtain ⟨o3, sight, all3⟩ := new_self (Cc := Cc) (Dv := Dv) ha.d.symm o1 p1 hy hdx hne
  obtain ⟨mo, hS⟩ := h y
  refine ⟨_, _, _, _, hS, by simp only [dom, List.map_cons]; rw [show m2.map (·.1) = m1.map (·.1) from hd], all3, o3, (fun _ hx => nomatch hx), ?_⟩
  rintro z' ⟨rfl⟩ c d H' n3 o4 x3
  have n4 : Ex (mask H1 (dom m1)) (mask H' (dom m1)) := sight.trans (Ex.trans n3 mask_drop)
  have n5 := n1.trans ha.d n4
  exact q c d σ H' (s.go (hd.trans ha.d) n5 o4.drop) n5 (by rw [← ha.d]; exact z.mono mask_drop x3)
/-- C(..) that does not -/
theorem a_makeX {n lv : Nat} {S : CtX} {Dv : List V} {Ps : List MP} {fs : List (Str × MP)} (F : FcX X.prog X.w X.K X.mg X.base n x Cc (spX S) Dv) (hr : Room lv X.A) (hn : n + 1 ≤ lv) (ha : AA X (e :: es) ρ m Ps m1)
    (h : ∀ s, S (R s :: (Ps ++ Dv.map C)) ((s, .ins Cc []) :: m1) (.ret N) ((s, .ins Cc fs) :: m2)) (hd : dom m2 = dom m1 := by rfl) (hg : Gl X x := by rfl)
    (hdb : (x == ("__debug__" : Str)) = false := by decide) (he : starEach (e :: es) X.env = (false, eval e X.env) :: starEach es X.env := by rfl) (hpl : (backTo pos (starEach es X.env)).any (·.1) = false := by rfl) : AE X (.Call (.Name x p) (e :: es) [] pos) ρ m (O Cc fs) m2 := by
  obtain ⟨g, fd, ps, ds, h0, h1, h2, h4, h5⟩ := F.ex
  refine Ev.can (pe_make h0 h1 (hr.mono hn) hg h2 h4 h5 (passL (X := X)) pcA hdb he hpl) ⟨hd.trans ha.d, fun σ H Q s q => ha.go σ H _ s fun vs H1 n1 o1 p1 => ?_⟩
  intro y dx hy hdx hne
  obtain ⟨o3, sight, all3⟩ := new_self (Cc := Cc) (Dv := Dv) ha.d.symm o1 p1 hy hdx hne
  refine ⟨_, _, _, _, h y, by simp only [dom, List.map_cons]; rw [show m2.map (·.1) = m1.map (·.1) from hd], all3, o3, ?_, fun _ hx => nomatch hx⟩
  rintro P' ⟨rfl⟩ v H' n3 o4 pv
  refine ⟨pv, q (.ref y) H' (n1.trans ha.d (sight.trans (Ex.trans n3 mask_drop))) o4.drop ?_⟩
  obtain ⟨u, hu, dx', ws, rfl, hall⟩ := o4.ok 0 y _ rfl
  refine ⟨y, dx', ws, rfl, by rw [mask_out (by rw [← ha.d, ← hd]; exact (List.nodup_cons.mp o4.nd).1)]; exact hu, ?_⟩
  have := hall.mono (mask_drop (p := (y, MO.ins Cc fs)) (m := m2) (H := H'))
  rw [hd, ha.d] at this
  exact this
end
/-! ### more -/
section
variable {P : Program} {w : World} {K : PySem.W.Frag} {mg : Str → Option Value} {base : Heap}
/-- a def with defaults that may raise -/
theorem FunD_ctX {x qual : Str} {params : Arguments} {body : List Stmt} {scope : Scope} {dvs : List V} {kws : List (Str × V)} {f : Addr} {fd : FuncData} {N ps : List Str} {k : Nat} (F : FunD K x qual params body scope dvs kws f fd) (Sc : FnScope N ps scope) (S : CtX) (hl : ∀ Ps m oc m', S Ps m oc m' → Ps.length = ps.length)
    (hbody : ∀ (cdv : Value) (A : Around) (outer : List PySem.Env) (s : Shared) (H : Hp) (E : XK), Room k (A.deeper (envOfC qual scope s.heap.objs.size f cdv)) → ∀ (Ps : List MP) (m : Sto) (oc : Oc) (m' : Sto), S Ps m oc m' → ∀ (b0 : Hp) (Q : VK), OutW (bodyR P w K mg base N qual scope f cdv A outer s H E) Q oc m' b0 →
      GS (bodyR P w K mg base N qual scope f cdv A outer s H E) body (ends Q) (start' N Ps) m b0) : FnOk P w K mg base (L2.CX P w) (k + 1) f fd ps (spX S) := by
  refine F.ok Sc (fun vs H Q E ⟨Ps, m, oc, m', h, _, a, _⟩ => by rw [← a.length]; exact hl Ps m oc m' h) (fun cdv A outer s H vs Q E hr ⟨Ps, m, oc, m', h, hd, a, o, q, qx⟩ => ?_)
  refine ⟨cSs _ _, pcSs, hbody cdv A outer s H E hr Ps m oc m' h (mask H (dom m)) Q ⟨fun Pr ho v H' o' ex pv => ?_, fun x ho ρ => ?_⟩ _ H ⟨env_start a, o⟩ (Ex.refl _)⟩
  · exact q Pr ho v H' (by rw [hd] at ex; exact ex) o' (by rw [hd] at pv; exact pv)
  · refine ⟨_, takes_of (X := bodyR P w K mg base N qual scope f cdv A outer s H E) rfl rfl rfl rfl, fun c d σ H' s' ex px => ?_⟩
    exact qx x ho c d H' (by rw [hd] at ex; exact ex) s'.own (by rw [hd] at px; exact px)
end
section
variable {X : Cx} {ρ : Rho} {m m1 : Sto} {e : Expr} {es : List Expr} {p pos : Pos} {x : Str} {P : MP} {id : String}
/-- f(e, ..), f a module's name for a built-in function -/
theorem a_bfun {r : List V → Hp → VK → Prop} {Ps : List MP} (hc : CallR X (.builtin id) r) (hr : RC r Ps P) (hm : X.mg x = some (.builtin id)) (ha : AA X (e :: es) ρ m Ps m1) (hg : Gl X x := by rfl) (hdb : (x == ("__debug__" : Str)) = false := by decide)
    (he : starEach (e :: es) X.env = (false, eval e X.env) :: starEach es X.env := by rfl) (hpl : (backTo pos (starEach es X.env)).any (·.1) = false := by rfl) : AE X (.Call (.Name x p) (e :: es) [] pos) ρ m P m1 := Ev.can (pe_callBfun hc hg hm pcA hdb he hpl) (ev_cb ha hr)
theorem rc_gcd {i j : Int} : RC rGcd [I i, I j] (I ((Nat.gcd i.natAbs j.natAbs : Nat) : Int)) := fun d H vs Q _ h q => by
  match vs, h with
  | [_, _], .cons rfl (.cons rfl .nil) => exact ⟨i, j, rfl, q _ H (Ex.refl _) rfl⟩
end
end SV

/-! SVHot: defs that neither raise nor walk, called where an exception is handled. -/
namespace SV
open PySem L2 PyProof.Rows
open Evl (Ex ex_rd ex_l ex_t sz_of sz_lt)
/-- what such a def promises there -/
structure FnQ (P : Program) (w : World) (K : PySem.W.Frag) (mg : Str → Option Value) (base : Heap) (k : Nat) (f : Addr) (fd : FuncData) (ps : List Str) (sp : Sp) : Prop where
  size : ∀ vs H Q E, sp vs H Q E → vs.length = ps.length
  goes : ∀ (A : Around) (out : List PySem.Env) (s : Shared) (H : Hp) (ar : Args) (us : List Value) (vs : List V) (Q : VK) (z : Addr × Obj), L2H.RoomH k A → L2H.PinOk out H s z → Env0 P w K mg base A out s H → BindsTo s fd ar (ps.zip us) → Vals vs us → sp vs H Q E0 →
    codeAny (model P w) A (.call (.ref f) ar) (CR CX0 out P w H s Q E0) s
theorem fnq_of {P : Program} {w : World} {K : PySem.W.Frag} {mg : Str → Option Value} {base : Heap} {k : Nat} {f : Addr} {name qual : Str} {params : Arguments} {body : List Stmt} {scope : Scope} {dV kV doc pm cdv ct oc : Value} {an od : Option Addr} {osl : Array (Option Value)} {N ps : List Str} {sp : Sp}
    (there : K.lookup f = some ⟨oc, od, .func (PySem.W.fnOf name qual params body scope dV kV doc pm an cdv ct), osl⟩) (code : PySem.W.codeIn K cdv qual = true) (Sc : FnScope N ps scope) (size : ∀ vs H Q E, sp vs H Q E → vs.length = ps.length)
    (does : ∀ (A : Around) (out : List PySem.Env) (s : Shared) (H : Hp) (vs : List V) (Q : VK) (z : Addr × Obj), L2H.RoomH k (A.deeper (envOfC qual scope s.heap.objs.size f cdv)) → sp vs H Q E0 → ∃ t, PSs (L2H.cxH CX0 P w K mg base N qual scope f cdv A out s H E0 z) body t ∧ t (ends Q) (L2.start N vs) H) :
    FnQ P w K mg base (k + 1) f (PySem.W.fnOf name qual params body scope dV kV doc pm an cdv ct) ps sp := by
  refine ⟨size, fun A out s H ar us vs Q z room pinned e0 bound rel want => ?_⟩
  have many := size _ _ _ _ want
  have inK : K.In s.heap := e0.mod.kin.keeps fun b o h => (e0.bs b o h).1
  have free : s.heap.NoLimit := e0.mod.nolimit.keeps fun b o h => (e0.bs b o h).1
  have kinds : ∀ q ∈ ps.zip us, scope.names.lookup q.1 = some .local ∨ (scope.names.lookup q.1 = some .cell ∧ ((cellsFrom (s.heap.objs.size + 1) scope.names []).lookup q.1).isSome = true) := by
    rintro ⟨n, v⟩ hq
    cases Sc.par n (List.of_mem_zip hq).1 with
    | inl h => exact .inl h
    | inr h => exact .inr ⟨h, PySem.W.cellsFrom_some _ _ _ (.inl h)⟩
  refine codeAny_call_function room.depth (inK _ _ there) rfl Sc.co Sc.gen rfl (PySem.W.codeRec_of inK code) (bound _ _ _ _ ?_)
  refine wpAny_newFunctionEnv_cells Sc.kind kinds fun env he s1 made => ?_
  subst he
  refine ⟨free.keeps made.toInCall.keep, codeAny_func ?_⟩
  obtain ⟨t, ht, go⟩ := does A out s H vs Q z (room.deeper _) want
  have J : Inv (L2H.cxH CX0 P w K mg base N qual scope f cdv A out s H E0 z) [] (L2.start N vs) H s1 := L2H.inv_startH Sc pinned e0 many rel made
  have hand : ∀ {σ : L2.St} {G : Hp} {v : V} {u : Value} {s2 : Shared}, Inv (L2H.cxH CX0 P w K mg base N qual scope f cdv A out s H E0 z) [] σ G s2 → RelV v u → Q v G → CE out P w H s Q u s2 := by
    intro σ G v u s2 I r q
    exact ⟨v, G, I.os, I.bare, I.base, I.hok, r, q⟩
  refine wpAny_mono (ht.run [] s1 (L2.start N vs) H _ J go) (fun fl s2 h => ?_) fun _ _ h => h
  match fl, h with
  | .ret u, ⟨v, σ, G, I, r, q⟩ => exact hand I r q
  | .next, ⟨σ, G, I, q⟩ => exact hand (v := V.non) (u := Value.none) I rfl q
  | .brk, ⟨_, _, _, q⟩ => exact q.elim
  | .cont, ⟨_, _, _, q⟩ => exact q.elim
section
variable {P : Program} {w : World} {K : PySem.W.Frag} {mg : Str → Option Value} {base : Heap}
abbrev bodyQ (P : Program) (w : World) (K : PySem.W.Frag) (mg : Str → Option Value) (base : Heap) (N : List Str) (qual : Str) (sc : Scope) (f : Addr) (cdv : Value) (A : Around) (out : List PySem.Env) (s : Shared) (H : Hp) (z : Addr × Obj) : Cx := L2H.cxH CX0 P w K mg base N qual sc f cdv A out s H E0 z
theorem Fun_ctQ {x qual : Str} {st : Stmt} {f : Addr} {fd : FuncData} {N ps : List Str} {k : Nat} (F : Fun K x qual st f fd) (Sc : FnScope N ps (defScope st)) (S : Ct) (hl : ∀ Ps m P m', S Ps m P m' → Ps.length = ps.length)
    (hbody : ∀ (cdv : Value) (A : Around) (out : List PySem.Env) (s : Shared) (H : Hp) (z : Addr × Obj) (Ps : List MP) (m : Sto) (Pr : MP) (m' : Sto), S Ps m Pr m' → ∀ (b0 : Hp) (Q : VK), Ret Q Pr m' b0 → GS (bodyQ P w K mg base N qual (defScope st) f cdv A out s H z) (defBody st) (ends Q) (start' N Ps) m b0) :
    FnQ P w K mg base (k + 1) f fd ps (spC S) := by
  obtain ⟨oc, od, kV, doc, pm, an, cdv, ct, osl, rfl, lk, hcd⟩ := F.ex
  refine fnq_of lk hcd Sc (fun vs H Q E ⟨Ps, m, Pr, m', h, _, a, _⟩ => by rw [← a.length]; exact hl Ps m Pr m' h) fun A out s H vs Q z _ ⟨Ps, m, Pr, m', h, hd, a, o, q⟩ => ?_
  refine ⟨cSs _ _, pcSs, hbody cdv A out s H z Ps m Pr m' h (mask H (dom m)) Q (fun v H' o' ex pv => ?_) _ H ⟨env_start a, o⟩ (Ex.refl _)⟩
  exact q v H' (by rw [hd] at ex; exact ex) o' (by rw [hd] at pv; exact pv)
/-- the module's name x is such a def -/
structure FkQ (P : Program) (w : World) (K : PySem.W.Frag) (mg : Str → Option Value) (base : Heap) (k : Nat) (x : Str) (sp : Sp) : Prop where
  ex : ∃ (f : Addr) (fd : FuncData) (ps : List Str), FnQ P w K mg base k f fd ps sp ∧ mg x = some (.ref f) ∧ PySem.W.keepIn K (.ref f) = true ∧ Binds K fd ps []
theorem FkQ_of {x qual : Str} {st : Stmt} {sp : Sp} {k : Nat} {ps : List Str} (d : ∃ f fd, Fun K x qual st f fd ∧ mg x = some (.ref f))
    (hb : ∀ (kV doc pm : Value) (an : Option Addr) (cdv ct : Value) (us : List Value), us.length = ps.length → bindArgs (PySem.W.fnOf x qual (defArgs st) (defBody st) (defScope st) .none kV doc pm an cdv ct) ⟨us, []⟩ = pure (ps.zip us))
    (ok : ∀ f fd, Fun K x qual st f fd → FnQ P w K mg base k f fd ps sp) : FkQ P w K mg base k x sp := by
  obtain ⟨f, fd, F, h⟩ := d
  exact ⟨f, fd, ps, ok f fd F, h, F.kp, F.binds hb⟩
end
section
variable {X : Cx} {ρ : Rho} {m m1 m2 : Sto} {P : MP} {e : Expr} {es : List Expr} {p pos : Pos} {x : Str} {a : Addr} {oe : Obj} {pn : List (Addr × Obj)}
theorem pe_callQ {k : Nat} {f : Addr} {fd : FuncData} {ps : List Str} {sp : Sp} {t : TA} {z : Addr × Obj} (F : FnQ X.prog X.w X.K X.mg X.base k f fd ps sp) (hr : L2H.RoomH k X.A) (hz : z ∈ X.pn) (hg : Gl X x) (hm : X.mg x = some (.ref f)) (hk : PySem.W.keepIn X.K (.ref f) = true) (hb : Binds X.K fd ps [])
    (ha : PA X (e :: es) t) (hdb : (x == ("__debug__" : Str)) = false) (he : starEach (e :: es) X.env = (false, eval e X.env) :: starEach es X.env) (hpl : (backTo pos (starEach es X.env)).any (·.1) = false) :
    PE X (.Call (.Name x p) (e :: es) [] pos) (fun σ H Q => t σ H fun vs H1 => sp vs H1 Q E0) := by
  constructor
  intro pins s σ H Q I want
  refine wpAny_Call_Name_kw (ld_glob I hg hm ?_ hdb)
  refine PySem.W.callWith_K (h₀ := X.base) I.ok.mod.kin hk (thn (ha.run pos pins s σ H _ I want) ?_) he hpl
  rintro us s1 ⟨vs, H1, J, r, go⟩
  refine ⟨J.kIn, ?_⟩
  have many : us.length = ps.length := by rw [← r.length]; exact F.size _ _ _ _ go
  have bound := hb s1 us J.kIn (by simpa using many)
  rw [List.append_nil] at bound
  obtain ⟨z1, z2, z3, z4, z5⟩ := J.pin z (List.mem_append_left _ hz)
  have pinned : L2H.PinOk X.stack H1 s1 z := ⟨z1, z2, fun h => by rcases List.mem_cons.mp (J.stkSub z.1 h) with h | h; exact z3 h; exact z4 h, z5⟩
  refine wpAny_call (codeAny_mono (F.goes X.A X.stack s1 H1 ⟨us, []⟩ us vs Q z hr pinned J.env0 bound r go) fun res s2 h => ?_)
  match res, h with
  | .ok (.ret u), h => exact J.after h
  | .ok .next, h => exact h.elim
  | .ok .brk, h => exact h.elim
  | .ok .cont, h => exact h.elim
  | .error _, h => exact h.elim
/-- f(e, ..) in the suite -/
theorem a_callQ {n l : Nat} {S : Ct} {Ps : List MP} (F : FkQ X.prog X.w X.K X.mg X.base n x (spC S)) (hr : Room l X.A) (hn : n ≤ l) (ha : AA (X.suite a ((a, oe) :: pn)) (e :: es) ρ m Ps m1) (h : S Ps m1 P m2) (hd : dom m2 = dom m1 := by rfl) (hg : Gl X x := by rfl)
    (hdb : (x == ("__debug__" : Str)) = false := by decide) (he : starEach (e :: es) X.env = (false, eval e X.env) :: starEach es X.env := by rfl) (hpl : (backTo pos (starEach es X.env)).any (·.1) = false := by rfl) : AE (X.suite a ((a, oe) :: pn)) (.Call (.Name x p) (e :: es) [] pos) ρ m P m2 := by
  obtain ⟨f, fd, ps, h1, h2, h3, h4⟩ := F.ex
  have hr2 : L2H.RoomH n (X.suite a ((a, oe) :: pn)).A := ⟨(hr.mono hn).dp, (hr.mono hn).un⟩
  refine Ev.can (pe_callQ (X := X.suite a ((a, oe) :: pn)) (z := (a, oe)) h1 hr2 List.mem_cons_self hg h2 h3 h4 pcA hdb he hpl) ⟨hd.trans ha.d, fun σ H Q s q => ?_⟩
  refine ha.go σ H _ s fun vs H1 n1 o1 p1 => ?_
  refine ⟨Ps, m1, P, m2, h, hd, by rw [ha.d]; exact p1, o1, fun v H' n2 o2 pv => ?_⟩
  exact q v H' (n1.trans ha.d n2) o2 (by rw [← ha.d]; exact pv)
end
/-- x, y = e, e raises -/
theorem gs_unpR {X : Cx} {ρ : Rho} {m m1 : Sto} {e : Expr} {sts : List Stmt} {px py : Pos} {x y : Str} {D : Ends} {b0 : Hp} {z : XP} {n1 n2 : Nat} {kt} {pt pos : Pos} (hc : X.calm = true) (hN : X.N.Nodup) (hi : X.N[n1]? = some x) (hj : X.N[n2]? = some y) (hx : Loc X.env.scope x) (hy : Loc X.env.scope y) (he : AR X e ρ m z m1) (k : Acc X z ρ m1 b0)
    (hf : X.fn x = true ∨ X.env.scope.names.lookup x = some .local := by first | exact .inl rfl | exact .inr rfl) (hf2 : X.fn y = true ∨ X.env.scope.names.lookup y = some .local := by first | exact .inl rfl | exact .inr rfl)
    (hs : swapsWithSole [.Tuple [.Name x px, .Name y py] kt pt] e pos.line X.env = pure false := by rfl) (hw : swappedStores [.Tuple [.Name x px, .Name y py] kt pt] e X.env = pure none := by rfl) :
    GS X (.Assign [.Tuple [.Name x px, .Name y py] kt pt] e pos :: sts) D ρ m b0 := by
  obtain ⟨W, tk, acc⟩ := k.at he.d
  exact gs_cons fun σ H s ex => cS_of (ps_asg pcE (pg_tup (n := 2) hc (pgs_cons (pg_name hN hi hx hf) (pgs_cons (pg_name hN hj hy hf2) pgs_nil))) hs hw) (he.go W tk σ H _ s (acc σ H s ex))
/-- an argument of a call of a def raises -/
theorem ar_arg0 {X : Cx} {ρ : Rho} {m m1 : Sto} {e : Expr} {es : List Expr} {pos p : Pos} {x : Str} {z : XP} {n l : Nat} {S : Ct} {Dv : List V} (F : Fk X.prog X.w X.K X.mg X.base n x (spC S) Dv) (hr : Room l X.A) (hn : n ≤ l) (ha : ARA X (e :: es) ρ m z m1) (hg : Gl X x := by rfl)
    (hdb : (x == ("__debug__" : Str)) = false := by decide) (he : starEach (e :: es) X.env = (false, eval e X.env) :: starEach es X.env := by rfl) (hpl : (backTo pos (starEach es X.env)).any (·.1) = false := by rfl) : AR X (.Call (.Name x p) (e :: es) [] pos) ρ m z m1 := by
  obtain ⟨f, fd, ps, ds, h1, h2, h3, h4, h5⟩ := F.ex
  exact ⟨ha.d, fun W tk σ H Q s q => cE_of (pe_call h1 (hr.mono hn) hg h2 h3 h4 h5 (pass0 (X := X)) pcA hdb he hpl) (ha.go W tk σ H _ s q)⟩
end SV

/-! SVWr: the first word with which words are no longer the beginning of an expression: by a stack, and by reading. -/
namespace SV
open PySem L2 PyProof.Rows
def wrGo (ns : List Str) : List Str → Nat → List Nat → Option Nat
  | [], _, [] => none
  | [], at_, _ :: _ => some at_
  | _ :: _, at_, [] => some at_
  | w :: ws, at_, r :: st => if w ∈ OPS ∧ 1 < r then wrGo ns ws (at_ + 1) ((r - 1) :: (r - 1) :: st) else if w ∈ ns ∨ isNum w = true then wrGo ns ws (at_ + 1) st else some at_
theorem wr_rd {ws ns : List Str} (hns : ∀ o ∈ OPS, o ∉ ns) : ∀ (d at_ : Nat) (st : List Nat), at_ ≤ ws.length → wrGo ns (ws.drop at_) at_ ((d + 1) :: st) = (match rd ws ns (d + 1) at_ with | .error e => some e | .ok (_, b) => wrGo ns (ws.drop b) b st)
  | d, at_, st, hl => by
    unfold rd
    cases hat : ws[at_]? with
    | none =>
      have e : at_ = ws.length := by have := List.getElem?_eq_none_iff.mp hat; omega
      subst e
      rw [List.drop_length]
      rfl
    | some w =>
      have hlt : at_ < ws.length := (List.getElem?_eq_some_iff.mp hat).1
      have hw : ws[at_] = w := (List.getElem?_eq_some_iff.mp hat).2
      rw [List.drop_eq_getElem_cons hlt, hw]
      show (if w ∈ OPS ∧ 1 < d + 1 then wrGo ns (ws.drop (at_ + 1)) (at_ + 1) ((d + 1 - 1) :: (d + 1 - 1) :: st) else if w ∈ ns ∨ isNum w = true then wrGo ns (ws.drop (at_ + 1)) (at_ + 1) st else some at_) = _
      simp only [Nat.add_sub_cancel]
      by_cases h1 : w ∈ ns
      · have hno : ¬ (w ∈ OPS ∧ 1 < d + 1) := fun z => hns w z.1 h1
        rw [if_neg hno, if_pos (Or.inl h1), if_pos h1]
      rw [if_neg h1]
      by_cases h2 : isNum w = true
      · have hno : ¬ (w ∈ OPS ∧ 1 < d + 1) := fun z => by rw [ops_notNum z.1] at h2; cases h2
        rw [if_neg hno, if_pos (Or.inr h2), if_pos h2]
      rw [if_neg h2]
      by_cases h3 : w ∉ OPS ∨ d = 0
      · have hno : ¬ (w ∈ OPS ∧ 1 < d + 1) := fun z => by rcases h3 with h | h; exact h z.1; omega
        rw [if_neg hno, if_neg (by rintro (z | z); exact h1 z; exact h2 z), if_pos h3]
      rw [if_neg h3]
      have h4 : w ∈ OPS ∧ d ≠ 0 := ⟨Classical.byContradiction fun z => h3 (Or.inl z), fun z => h3 (Or.inr z)⟩
      rw [if_pos ⟨h4.1, by omega⟩]
      obtain ⟨d', rfl⟩ : ∃ d', d = d' + 1 := ⟨d - 1, by omega⟩
      rw [wr_rd hns d' (at_ + 1) _ hlt]
      cases e1 : rd ws ns (d' + 1) (at_ + 1) with
      | error e => rfl
      | ok lb =>
        obtain ⟨l, b⟩ := lb
        simp only
        have hb : b ≤ ws.length := by
          have key : ∀ (d at_ : Nat) {f : Fm} {b : Nat}, rd ws ns d at_ = .ok (f, b) → b ≤ ws.length := by
            intro d
            induction d with
            | zero => intro at_ f b h; unfold rd at h; cases h
            | succ d ih =>
              intro at_ f b h
              unfold rd at h
              cases hat : ws[at_]? with
              | none => rw [hat] at h; cases h
              | some wd =>
              rw [hat] at h
              have hlt : at_ < ws.length := (List.getElem?_eq_some_iff.mp hat).1
              simp only at h
              split at h
              · cases h; exact hlt
              split at h
              · cases h; exact hlt
              split at h
              · cases h
              split at h
              · cases h
              split at h
              · cases h
              rename_i h2
              cases h
              exact ih _ h2
          exact key _ _ e1
        rw [wr_rd hns d' b st hb]
        cases e2 : rd ws ns (d' + 1) b with
        | error e => rfl
        | ok rb => rfl
termination_by d => d
/-- digits without a leading zero are the number's own -/
theorem numL_back : ∀ (n : Nat) (l : List Nat), l.length = n → l.all isDig = true → l ≠ [] → (l.length = 1 ∨ ∀ c, l[0]? = some c → c ≠ 48) → TL.numL (NumText.digitsVal l) = l := by
  intro n
  induction n with
  | zero => intro l hl _ hne _; exact absurd (List.length_eq_zero_iff.mp hl) hne
  | succ n ih =>
    intro l hl hd hne h0
    have e : l = l.dropLast ++ [l.getLast hne] := (List.dropLast_concat_getLast hne).symm
    generalize l.dropLast = m at e
    generalize l.getLast hne = c at e
    subst e
    rw [List.all_append, Bool.and_eq_true] at hd
    have hc : isDig c = true := by simpa using hd.2
    have hc2 := isDig_iff.mp hc
    have e2 : NumText.digitsVal (m ++ [c]) = NumText.digitsVal m * 10 + (c - 48) := PySem.NumText.digitsVal_snoc m c
    rw [e2]
    by_cases hm : m = []
    · subst hm
      show TL.numL (0 * 10 + (c - 48)) = [c]
      rw [TL.numL_lt (by omega)]
      congr 1
      omega
    · have hlm : m.length = n := by simpa using hl
      have hm1 : 1 ≤ m.length := by cases m with | nil => exact absurd rfl hm | cons _ _ => simp
      have h02 : ∀ c', m[0]? = some c' → c' ≠ 48 := by
        intro c' h
        rcases h0 with h0 | h0
        · rw [List.length_append] at h0; simp only [List.length_cons, List.length_nil] at h0; omega
        · exact h0 c' (by rw [List.getElem?_append_left (by omega)]; exact h)
      have hpos : 0 < NumText.digitsVal m := by
        cases m with
        | nil => exact absurd rfl hm
        | cons a r =>
          have ha := h02 a rfl
          have hda : isDig a = true := by
            have := hd.1
            rw [List.all_cons, Bool.and_eq_true] at this
            exact this.1
          have := isDig_iff.mp hda
          exact PySem.NumText.digitsVal_pos (by omega)
      have hih := ih m hlm hd.1 hm (Or.inr h02)
      have h10 : 10 ≤ NumText.digitsVal m * 10 + (c - 48) := by omega
      rw [TL.numL_step h10]
      rw [show (NumText.digitsVal m * 10 + (c - 48)) / 10 = NumText.digitsVal m by omega, show (NumText.digitsVal m * 10 + (c - 48)) % 10 = c - 48 by omega, hih]
      congr 2
      omega
theorem numS_back {w : Str} (hd : (tl w).all isDig = true) (hne : tl w ≠ []) (h0 : Txt.startswith w "0" = false ∨ w = "0") : numS (numV w).toNat = w := by
  refine tl_inj ?_
  rw [numS_tl]
  have e : (numV w).toNat = NumText.digitsVal (tl w) := by unfold numV; omega
  rw [e]
  refine numL_back _ _ rfl hd hne ?_
  rcases h0 with h0 | h0
  · refine Or.inr fun c hc z => ?_
    subst z
    have : Txt.startswith w "0" = true := by
      unfold Txt.startswith
      simp only [Bool.and_eq_true, decide_eq_true_eq]
      have e0 : ("0" : Str) = ⟨#[48]⟩ := by decide +kernel
      rw [e0]
      first
        | exact (PySem.StrLaws.subAt_one w 48 0).mpr hc
        | (refine ⟨?_, (PySem.StrLaws.subAt_one w 48 0).mpr hc⟩
           show 1 ≤ w.length
           rw [len_tl]
           exact (List.getElem?_eq_some_iff.mp hc).1)
    rw [this] at h0
    cases h0
  · left
    rw [h0]
    decide +kernel
theorem isNum_parts {w : Str} (h : isNum w = true) : (tl w).all isDig = true ∧ tl w ≠ [] ∧ (Txt.startswith w "0" = false ∨ w = "0") ∧ 0 ≤ numV w ∧ numV w ≤ 65535 := by
  unfold isNum at h
  simp only [Bool.and_eq_true, decide_eq_true_eq] at h
  obtain ⟨⟨h1, h2⟩, h3, h4⟩ := h
  have hz : tl w ≠ [] := by
    intro e
    rw [len_tl, e] at h1
    simp at h1
  have h0 : 0 ≤ numV w := by unfold numV; omega
  split at h4
  · rename_i hs
    have e := of_decide_eq_true h4
    refine ⟨h3, hz, Or.inr e, h0, ?_⟩
    rw [e]
    decide +kernel
  · rename_i hs
    exact ⟨h3, hz, Or.inl (by simpa using hs), h0, of_decide_eq_true h4⟩
/-- the law's own look at a number -/
theorem isNum_law {w : Str} (h1 : 1 ≤ w.length) (h2 : w.length ≤ 5) (hd : (tl w).all isDig = true) : (decide (numS (numV w).toNat = w) && (decide (0 ≤ numV w) && decide (numV w ≤ 65535))) = isNum w := by
  have hz : tl w ≠ [] := by
    intro e
    rw [len_tl, e] at h1
    simp at h1
  have h0 : 0 ≤ numV w := by unfold numV; omega
  unfold isNum
  rw [decide_eq_true h1, decide_eq_true h2, hd, decide_eq_true h0]
  simp only [Bool.true_and]
  by_cases hs : Txt.startswith w "0" = true
  · rw [if_pos hs]
    by_cases he : w = "0"
    · rw [he]
      decide +kernel
    · rw [decide_eq_false he]
      have : numS (numV w).toNat ≠ w := by
        intro z
        have hh := starts0 hs
        rw [← z, numS_tl] at hh
        rcases Nat.eq_zero_or_pos (numV w).toNat with hn | hn
        · rw [hn] at z
          exact he (z.symm.trans (by decide +kernel))
        · have := numL_head _ hn _ hh
          omega
      rw [decide_eq_false this]
      rfl
  · rw [if_neg hs, decide_eq_true (numS_back hd hz (Or.inl (by simpa using hs))), Bool.true_and]
/-- what is read has the words that were read -/
theorem rd_back {ws ns : List Str} (hn : ∀ s ∈ ns, s ≠ "own" ∧ s ≠ "lot" ∧ s.length ≤ 10) : ∀ (d at_ : Nat) {f : Fm} {b : Nat}, rd ws ns d at_ = .ok (f, b) → ws.drop at_ = f.words ++ ws.drop b ∧ f.ht ≤ d ∧ f.tx
  | 0, at_, f, b, h => by unfold rd at h; cases h
  | d + 1, at_, f, b, h => by
    unfold rd at h
    cases hat : ws[at_]? with
    | none => rw [hat] at h; cases h
    | some wd =>
    rw [hat] at h
    have hlt : at_ < ws.length := (List.getElem?_eq_some_iff.mp hat).1
    have hwd : ws[at_] = wd := (List.getElem?_eq_some_iff.mp hat).2
    have hdr : ws.drop at_ = wd :: ws.drop (at_ + 1) := by rw [List.drop_eq_getElem_cons hlt, hwd]
    simp only at h
    split at h
    · rename_i hm
      cases h
      have hz := hn _ hm
      have e : named wd = .var wd := by
        unfold named
        rw [if_neg (by rintro (z | z); exact hz.1 z; exact hz.2.1 z)]
      rw [e]
      exact ⟨hdr, by show 1 ≤ d + 1; omega, hz.2.2⟩
    split at h
    · rename_i hm
      cases h
      obtain ⟨p1, p2, p3, p4, p5⟩ := isNum_parts hm
      refine ⟨?_, by show 1 ≤ d + 1; omega, ?_⟩
      · rw [hdr]
        show _ = [numS (numV wd).toNat] ++ _
        rw [numS_back p1 p2 p3]
        rfl
      · show (numV wd).toNat ≤ 65535
        omega
    split at h
    · cases h
    rename_i hop
    split at h
    · cases h
    rename_i l b1 h1
    split at h
    · cases h
    rename_i r b2 h2
    cases h
    obtain ⟨i1, i2, i3⟩ := rd_back hn d _ h1
    obtain ⟨j1, j2, j3⟩ := rd_back hn d _ h2
    refine ⟨?_, ?_, Classical.byContradiction fun z => hop (Or.inl z), i3, j3⟩
    · rw [hdr, i1, j1]
      simp only [Fm.words, List.cons_append, List.append_assoc]
    · simp only [Fm.ht]
      omega
theorem spl_ne (s : Nat) : ∀ (l acc : List Nat), TL.spl [s] 0 acc l ≠ []
  | [], acc => by rw [TL.spl_nil]; exact List.cons_ne_nil _ _
  | c :: r, acc => by
    cases h : TL.pre [s] (c :: r) with
    | true => rw [TL.spl_hit h]; exact List.cons_ne_nil _ _
    | false => rw [TL.spl_miss h]; exact spl_ne s r _
theorem join_spl (s : Nat) : ∀ (l acc : List Nat), TL.joinL [s] (TL.spl [s] 0 acc l) = acc ++ l
  | [], acc => by
    rw [TL.spl_nil, List.append_nil]
    rfl
  | c :: r, acc => by
    cases h : TL.pre [s] (c :: r) with
    | true =>
      have hc : c = s := by simpa [TL.pre] using h
      rw [TL.spl_hit h]
      have hx := join_spl s r []
      have hne := spl_ne s r []
      show TL.joinL [s] (acc :: TL.spl [s] 0 [] r) = _
      cases e : TL.spl [s] 0 [] r with
      | nil => exact absurd e hne
      | cons q r' =>
        rw [e] at hx
        show acc ++ ([s] ++ TL.joinL [s] (q :: r')) = _
        rw [hx, hc]
        rfl
    | false =>
      rw [TL.spl_miss h, join_spl s r _, List.append_assoc]
      rfl
theorem join_split (z : Str) : Txt.join " " (Txt.split z " ") = z := by
  have e : (" " : Str) = SX.S [32] := by decide +kernel
  have ez : z = SX.S (tl z) := (mk_tl z).symm
  have e2 : Txt.split z " " = (TL.spl [32] 0 [] (tl z)).map SX.S := by
    conv => lhs; rw [ez, e]
    exact SX.split_S (by decide) (by decide)
  refine tl_inj ?_
  rw [joinS, e2, List.map_map]
  have e3 : (TL.spl [32] 0 [] (tl z)).map (tl ∘ SX.S) = TL.spl [32] 0 [] (tl z) := by
    conv => rhs; rw [← List.map_id (TL.spl [32] 0 [] (tl z))]
    exact List.map_congr_left fun w _ => rfl
  rw [e3]
  show TL.joinL [32] _ = _
  rw [join_spl]
  rfl
theorem sign_dig (c : Nat) : ((!decide ([c] < [48])) && (!decide ([57] < [c]))) = isDig c := by
  have e1 : ([c] < [48]) ↔ c < 48 := by rw [List.cons_lt_cons_iff]; simp
  have e2 : ([57] < [c]) ↔ 57 < c := by rw [List.cons_lt_cons_iff]; simp
  have d1 : decide ([c] < [48]) = decide (c < 48) := decide_eq_decide.mpr e1
  have d2 : decide ([57] < [c]) = decide (57 < c) := decide_eq_decide.mpr e2
  rw [d1, d2]
  cases h : isDig c with
  | true => have := isDig_iff.mp h; simp; omega
  | false =>
    have : ¬ (48 ≤ c ∧ c ≤ 57) := fun z => by rw [isDig_iff.mpr z] at h; cases h
    simp
    omega
end SV

/-! SVEx: values of which only a property is known; tests with either answer; slices; owned lists popped, extended. -/
namespace SV
open PySem L2 PyProof.Rows
open Evl (Ex ex_rd ex_l ex_t sz_of sz_lt)
theorem atI_at {β : Type} {ws : List β} {i : Int} (h0 : 0 ≤ i) (h1 : i.toNat < ws.length) : atI ws i = some ws[i.toNat] := by
  obtain ⟨n, rfl⟩ : ∃ n : Nat, i = n := ⟨i.toNat, by omega⟩
  simp only [Int.toNat_natCast] at h1 ⊢
  exact atI_nat' (List.getElem?_eq_getElem h1)
def EX {α : Type} (g : α → Prop) (F : α → MP) : MP := ⟨fun H v => ∃ d, g d ∧ (F d).p H v, fun e ⟨d, h, k⟩ => ⟨d, h, (F d).mono e k⟩⟩
theorem EX.mk {α : Type} {g : α → Prop} {F : α → MP} {d : α} (h : g d) {H : Hp} {v : V} (p : (F d).p H v) : (EX g F).p H v := ⟨d, h, p⟩
theorem ex_in {α : Type} {g : α → Prop} {F : α → MP} {d : α} (h : g d) : ∀ H v, (F d).p H v → (EX g F).p H v := fun _ _ p => ⟨d, h, p⟩
abbrev In (lo hi : Int) : MP := EX (fun i : Int => lo ≤ i ∧ i < hi) I
theorem set_same {α : Type} {l : List α} {i : Nat} {x : α} (h : l[i]? = some x) : l.set i x = l := by
  refine List.ext_getElem? fun j => ?_
  rw [List.getElem?_set]
  split
  · rename_i e
    subst e
    rw [h]
    simp [(List.getElem?_eq_some_iff.mp h).1]
  · rfl
section
variable {α : Type} {g : α → Prop} {F : α → MP} {X : Cx} {ρ : Rho} {m m1 m2 m3 : Sto} {P P1 P2 P3 : MP} {e a b c f o : Expr} {es rest : List Expr} {sts : List Stmt} {pos p p2 p3 apos cpos : Pos} {x y fl : Str} {i j k : Int} {te ta tb tc : TE} {tt tu : TT} {D : Ends} {b0 : Hp}
theorem Slots.exq {H : Hp} {σ : L2.St} {n : Nat} (h : Slots H ρ σ) (hn : ρ[n]? = some (some (EX g F))) : ∃ d, g d ∧ Slots H (ρ.set n (some (F d))) σ := by
  obtain ⟨v, hv, d, hg, hp⟩ := h.get hn
  refine ⟨d, hg, ?_⟩
  have := h.set hp n
  rwa [set_same hv] at this
/-- what is known of a slot is opened -/
theorem Go.openE {t : TS} (n : Nat) (hn : ρ[n]? = some (some (EX g F))) (k : ∀ d, g d → Go t D (ρ.set n (some (F d))) m b0) : Go t D ρ m b0 := fun σ H s ex => by
  obtain ⟨d, hg, hs⟩ := s.env.exq hn
  exact k d hg σ H ⟨hs, s.own⟩ ex
/-- .. said in weaker words -/
theorem Go.weak {t : TS} (n : Nat) {P Q : MP} (hn : ρ[n]? = some (some P)) (hw : ∀ H v, P.p H v → Q.p H v) (k : Go t D (ρ.set n (some Q)) m b0) : Go t D ρ m b0 := fun σ H s ex => k σ H ⟨s.env.weak (fun v => hw _ v) hn, s.own⟩ ex
/-- operations on such values -/
theorem rv_exR {r : R2} (h : ∀ d, g d → RV r P1 (F d) P) : RV r P1 (EX g F) P := fun dd H v u Q fr h1 ⟨d, hg, h2⟩ q => h d hg dd H v u Q fr h1 h2 q
theorem rv_exL {r : R2} (h : ∀ d, g d → RV r (F d) P2 P) : RV r (EX g F) P2 P := fun dd H v u Q fr ⟨d, hg, h1⟩ h2 q => h d hg dd H v u Q fr h1 h2 q
theorem RV.to {r : R2} (h : RV r P1 P2 P) (hw : ∀ H v, P.p H v → P3.p H v) : RV r P1 P2 P3 := fun dd H v u Q fr h1 h2 q => h dd H v u Q fr h1 h2 fun z H' e pz => q z H' e (hw _ _ pz)
theorem rc_ex1 {r : List V → Hp → VK → Prop} (h : ∀ d, g d → RC r [F d] P) : RC r [EX g F] P := fun dd H vs Q fr h1 q => by
  match vs, h1 with
  | [_], .cons ⟨d, hg, h2⟩ .nil => exact h d hg dd H _ Q fr (.cons h2 .nil) q
theorem RC.to {r : List V → Hp → VK → Prop} {Ps : List MP} (h : RC r Ps P) (hw : ∀ H v, P.p H v → P1.p H v) : RC r Ps P1 := fun dd H vs Q fr h1 q => h dd H vs Q fr h1 fun z H' e pz => q z H' e (hw _ _ pz)
/-- a call whose arguments are known in other words -/
theorem ev_callN {S : Ct} {Dv : List V} {Ps : List MP} {T : List MP → Prop} {A : TA} {E : XK} (ha : EvA A ρ m Ps m1) (hT : ∀ H vs, All H Ps vs → ∃ Qs, T Qs ∧ All H Qs vs) (h : ∀ Qs, T Qs → S (Qs ++ Dv.map C) m1 P m2) (hd : dom m2 = dom m1) : Ev (tCall (spC S) Dv E A) ρ m P m2 := ⟨hd.trans ha.d, fun σ H Q s q => by
  refine ha.go σ H _ s fun vs H1 n1 o1 p1 => ?_
  obtain ⟨Qs, hq, p2⟩ := hT _ _ p1
  refine ⟨_, m1, P, m2, h Qs hq, hd, All.append (by rw [ha.d]; exact p2) all_c, o1, fun v H' n2 o2 pv => ?_⟩
  exact q v H' (n1.trans ha.d n2) o2 (by rw [← ha.d]; exact pv)⟩
theorem a_callN {n l : Nat} {S : Ct} {Dv : List V} {Ps : List MP} {T : List MP → Prop} (F : Fk X.prog X.w X.K X.mg X.base n x (spC S) Dv) (hr : Room l X.A) (hn : n ≤ l) (ha : AA X (e :: es) ρ m Ps m1) (hT : ∀ H vs, All H Ps vs → ∃ Qs, T Qs ∧ All H Qs vs) (h : ∀ Qs, T Qs → S (Qs ++ Dv.map C) m1 P m2) (hd : dom m2 = dom m1 := by rfl) (hg : Gl X x := by rfl)
    (hdb : (x == ("__debug__" : Str)) = false := by decide) (he : starEach (e :: es) X.env = (false, eval e X.env) :: starEach es X.env := by rfl) (hpl : (backTo pos (starEach es X.env)).any (·.1) = false := by rfl) : AE X (.Call (.Name x p) (e :: es) [] pos) ρ m P m2 := by
  obtain ⟨f, fd, ps, ds, h1, h2, h3, h4, h5⟩ := F.ex
  exact Ev.can (pe_call h1 (hr.mono hn) hg h2 h3 h4 h5 (pass0 (X := X)) pcA hdb he hpl) (ev_callN ha hT h hd)
/-! ### tests with either answer -/
structure EvN (te : TT) (ρ : Rho) (m m' : Sto) : Prop where
  d : dom m' = dom m
  go : ∀ (σ : L2.St) (H : Hp) (Q : Bool → Hp → Prop), Stt ρ m σ H → (∀ b H', Nxt m H H' → Own m' H' → Q b H') → te σ H Q
abbrev ATN (X : Cx) (e : Expr) (ρ : Rho) (m m' : Sto) : Prop := EvN (cT X e) ρ m m'
abbrev AWN (X : Cx) (e : Expr) (ρ : Rho) (m m' : Sto) : Prop := EvN (cW X e) ρ m m'
theorem EvT.n {t : Bool} (h : EvT tt ρ m t m1) : EvN tt ρ m m1 := ⟨h.d, fun σ H Q s q => h.go σ H Q s fun H' n o => q t H' n o⟩
theorem EvN.can (h : PT X e tt) (E : EvN tt ρ m m1) : EvN (cT X e) ρ m m1 := ⟨E.d, fun σ H Q s q => cT_of h (E.go σ H Q s q)⟩
theorem EvN.canW (h : PW X e tt) (E : EvN tt ρ m m1) : EvN (cW X e) ρ m m1 := ⟨E.d, fun σ H Q s q => cW_of h (E.go σ H Q s q)⟩
theorem en_and (h1 : EvN tt ρ m m1) (h2 : EvN tu ρ m1 m1) : EvN (tAnd tt tu) ρ m m1 := ⟨h1.d, fun σ H Q s q => h1.go σ H _ s fun b H1 n1 o1 => by
  cases b with
  | true =>
    show tu σ H1 Q
    exact h2.go σ H1 Q (s.go h1.d n1 o1) fun b2 H2 n2 o2 => q b2 H2 (n1.trans h1.d n2) o2
  | false =>
    show Q false H1
    exact q _ H1 n1 o1⟩
theorem en_or (h1 : EvN tt ρ m m1) (h2 : EvN tu ρ m1 m1) : EvN (tOr tt tu) ρ m m1 := ⟨h1.d, fun σ H Q s q => h1.go σ H _ s fun b H1 n1 o1 => by
  cases b with
  | true =>
    show Q true H1
    exact q _ H1 n1 o1
  | false =>
    show tu σ H1 Q
    exact h2.go σ H1 Q (s.go h1.d n1 o1) fun b2 H2 n2 o2 => q b2 H2 (n1.trans h1.d n2) o2⟩
theorem wn_t (h : AWN X a ρ m m1) : ATN X a ρ m m1 := EvN.can (PW.pt pcW) h
theorem wn_and1 (h : ATN X a ρ m m1) : AWN X (.BoolOp .And [a] pos) ρ m m1 := EvN.canW (pw_and1 pcT) h
theorem wn_or1 (h : ATN X a ρ m m1) : AWN X (.BoolOp .Or [a] pos) ρ m m1 := EvN.canW (pw_or1 pcT) h
theorem wn_and (ha : ATN X a ρ m m1) (hb : AWN X (.BoolOp .And (b :: rest) pos) ρ m1 m1) : AWN X (.BoolOp .And (a :: b :: rest) pos) ρ m m1 := EvN.canW (pw_and pcT pcW) (en_and ha hb)
theorem wn_or (ha : ATN X a ρ m m1) (hb : AWN X (.BoolOp .Or (b :: rest) pos) ρ m1 m1) : AWN X (.BoolOp .Or (a :: b :: rest) pos) ρ m m1 := EvN.canW (pw_or pcT pcW) (en_or ha hb)
/-- the first part's answer is known where the second is asked -/
theorem et_andN {t : Bool} (h1 : EvT tt ρ m t m1) (h2 : t = true → EvN tu ρ m1 m1) : EvN (tAnd tt tu) ρ m m1 := ⟨h1.d, fun σ H Q s q => h1.go σ H _ s fun H1 n1 o1 => by
  cases t with
  | true =>
    show tu σ H1 Q
    exact (h2 rfl).go σ H1 Q (s.go h1.d n1 o1) fun b2 H2 n2 o2 => q b2 H2 (n1.trans h1.d n2) o2
  | false =>
    show Q false H1
    exact q _ H1 n1 o1⟩
theorem wt_and {t : Bool} (ha : AT X a ρ m t m1) (hb : t = true → AWN X (.BoolOp .And (b :: rest) pos) ρ m1 m1) : AWN X (.BoolOp .And (a :: b :: rest) pos) ρ m m1 := EvN.canW (pw_and pcT pcW) (et_andN ha hb)
theorem en_tst {h : α → Bool} (ha : Ev te ρ m (EX g fun d => B (h d)) m1) : EvN (tTest te) ρ m m1 := ⟨ha.d, fun σ H Q s q => ha.go σ H _ s fun v H1 n1 o1 ⟨d, _, e⟩ => ⟨h d, e, q _ H1 n1 o1⟩⟩
theorem tn_cmp {op : CmpOp} {r : R2} {h : α → Bool} (ho : OpR X (compareOp op) r) (hr : RV r P1 P2 (EX g fun d => B (h d))) (ha : AE X a ρ m P1 m1) (hb : AE X b ρ m1 P2 m2) (hm : behindInMarks op b = false := by first | exact nobehind _ (by decide) (by decide) | rfl) : ATN X (.Compare a [op] [b] pos) ρ m m2 :=
  EvN.can (pt_cmpR ho pcE pcE hm) (en_tst (ev_op ha hb hr))
/-- a draw compared with a number -/
theorem tn_eqI {g : Int → Prop} (ha : AE X a ρ m (EX g I) m1) (hb : AE X b ρ m1 (I j) m2) : ATN X (.Compare a [.Eq] [b] pos) ρ m m2 :=
  tn_cmp (g := g) (h := fun d => decide (V.int d = V.int j)) op_eq (rv_exL fun d hg => RV.to (rv_eq rfl) (ex_in (F := fun d => B (decide (V.int d = V.int j))) hg)) ha hb
theorem gs_ifN {body orelse : List Stmt} (W : Rho → Sto → Prop) (hc : ATN X c ρ m m1) (h1 : GS X body { D with nx := Sts W b0 } ρ m1 b0) (h2 : GS X orelse { D with nx := Sts W b0 } ρ m1 b0) (k : ∀ ρ' m', W ρ' m' → GS X sts D ρ' m' b0) : GS X (.If c body orelse p :: sts) D ρ m b0 :=
  gs_meet (Sts W b0) (fun σ H s ex => cS_of (ps_if pcT pcSs pcSs) (hc.go σ H _ s fun t H1 n1 o1 => by
    have ex1 : Ex b0 (mask H1 (dom m1)) := by rw [hc.d]; exact ex.trans n1
    cases t with
    | true =>
      show cSs X body _ σ H1
      exact h1 σ H1 (s.go hc.d n1 o1) ex1
    | false =>
      show cSs X orelse _ σ H1
      exact h2 σ H1 (s.go hc.d n1 o1) ex1)) fun σ H ⟨ρ2, m2, w, s2, e2⟩ => k ρ2 m2 w σ H s2 e2
theorem gs_whenN {body : List Stmt} (hc : ATN X c ρ m m1) (h1 : GS X body { D with nx := cSs X sts D } ρ m1 b0) (h2 : GS X sts D ρ m1 b0) : GS X (.If c body [] p :: sts) D ρ m b0 :=
  gs_cons fun σ H s ex => cS_of (ps_if pcT pcSs pcSs) (hc.go σ H _ s fun t H1 n1 o1 => by
    have ex1 : Ex b0 (mask H1 (dom m1)) := by rw [hc.d]; exact ex.trans n1
    cases t with
    | true =>
      show cSs X body _ σ H1
      exact h1 σ H1 (s.go hc.d n1 o1) ex1
    | false =>
      show cSs X [] _ σ H1
      exact gs_nil (D := { D with nx := cSs X sts D }) h2 σ H1 (s.go hc.d n1 o1) ex1)
/-! ### items of lists and texts at a drawn place -/
theorem a_ixLE {β : Type} {G : β → MP} {ws : List β} (ha : AE X a ρ m (L X.K (ws.map G)) m1) (hb : AE X b ρ m1 (EX (fun i : Int => 0 ≤ i ∧ i < ws.length) I) m2) (hs : PlainIx b := by exact fun _ _ => rfl) : AE X (.Subscript a b pos) ρ m (EX (fun w => w ∈ ws) G) m2 :=
  a_ix ix_list (rv_exR fun i hi => by
    have e : i = ((i.toNat : Nat) : Int) := by omega
    have hl : i.toNat < ws.length := by omega
    exact RV.to (rv_ixL (P := G ws[i.toNat]) (by rw [atI_at (ws := ws.map G) hi.1 (by rw [List.length_map]; exact hl), List.getElem_map])) (ex_in (List.getElem_mem hl))) ha hb hs
theorem a_ixTE {β : Type} {G : β → MP} {ws : List β} (ha : AE X a ρ m (T X.K (ws.map G)) m1) (hb : AE X b ρ m1 (EX (fun i : Int => 0 ≤ i ∧ i < ws.length) I) m2) (hs : PlainIx b := by exact fun _ _ => rfl) : AE X (.Subscript a b pos) ρ m (EX (fun w => w ∈ ws) G) m2 :=
  a_ix ix_tup (rv_exR fun i hi => by
    have e : i = ((i.toNat : Nat) : Int) := by omega
    have hl : i.toNat < ws.length := by omega
    exact RV.to (rv_ixT (P := G ws[i.toNat]) (by rw [atI_at (ws := ws.map G) hi.1 (by rw [List.length_map]; exact hl), List.getElem_map])) (ex_in (List.getElem_mem hl))) ha hb hs
theorem a_ixSE {z : Str} (hz : z.length ≤ 1000000) (ha : AE X a ρ m (S z) m1) (hb : AE X b ρ m1 (EX (fun i : Int => 0 ≤ i ∧ i < z.length) I) m2) (hs : PlainIx b := by exact fun _ _ => rfl) : AE X (.Subscript a b pos) ρ m (EX (fun w : Str => w.length = 1) S) m2 :=
  a_ix ix_str (rv_exR fun i hi => fun d H v u Q _ h1 h2 q => by
    have e : i = ((i.toNat : Nat) : Int) := by omega
    have hl : i.toNat < z.cps.toList.length := by have := hi.2; rw [len_tl] at this; show _ < (tl z).length; omega
    refine ⟨z, i, z.cps.toList[i.toNat], h1, h2, Nat.le_trans hz (by decide), ?_, q _ H (Ex.refl _) ⟨⟨#[z.cps.toList[i.toNat]]⟩, rfl, rfl⟩⟩
    exact atI_at hi.1 hl) ha hb hs
/-! ### slices -/
inductive OE (X : Cx) (ρ : Rho) : Option Expr → Sto → Option Int → Sto → Prop where
  | none {m : Sto} : OE X ρ none m none m
  | some {e : Expr} {i : Int} {m m1 : Sto} (h : AE X e ρ m (I i) m1) : OE X ρ (some e) m (some i) m1
theorem OE.d {l : Option Expr} {q : Option Int} (h : OE X ρ l m q m1) : dom m1 = dom m := by
  cases h with
  | none => rfl
  | some h => exact h.d
theorem OE.go {l : Option Expr} {q : Option Int} (h : OE X ρ l m q m1) : ∃ t, PO X l t ∧ ∀ (σ : L2.St) (H : Hp) (Q : Option Int → Hp → Prop), Stt ρ m σ H → (∀ H', Nxt m H H' → Own m1 H' → Q q H') → t σ H Q := by
  cases h with
  | none => exact ⟨tNoPart, po_none, fun σ H Q s k => k H .refl s.own⟩
  | some h => exact ⟨tPart (cE X _), po_some pcE, fun σ H Q s k => h.go σ H _ s fun v H1 n1 o1 p1 => ⟨_, p1, k H1 n1 o1⟩⟩
def cut {β : Type} (xs : List β) (lo hi : Option Int) : List β := (xs.drop (HT.sIx xs.length 0 lo)).take (HT.sIx xs.length xs.length hi - HT.sIx xs.length 0 lo)
theorem cut_map {β γ : Type} (h : β → γ) (xs : List β) (lo hi : Option Int) : cut (xs.map h) lo hi = (cut xs lo hi).map h := by
  unfold cut
  rw [List.length_map, List.map_take, List.map_drop]
theorem cut_len {β : Type} (xs : List β) (lo hi : Option Int) : (cut xs lo hi).length ≤ xs.length := by
  unfold cut
  rw [List.length_take, List.length_drop]
  omega
theorem cut_mem {β : Type} {xs : List β} {lo hi : Option Int} {x : β} (h : x ∈ cut xs lo hi) : x ∈ xs := List.mem_of_mem_drop (List.mem_of_mem_take h)
theorem ev_slice {r : V → Option Int → Option Int → Hp → VK → Prop} {lo hi : Option Expr} {q1 q2 : Option Int} (hr : SlR X r) (ha : AE X a ρ m P1 m1) (hl : OE X ρ lo m1 q1 m2) (hh : OE X ρ hi m2 q2 m3)
    (hv : ∀ (d : List Addr) (H : Hp) (v : V) (Q : VK), Free d H → P1.p (mask H d) v → (∀ z H', Ex H H' → P.p (mask H' d) z → Q z H') → r v q1 q2 H Q) : AE X (.Subscript a (.Slice lo hi none p2) pos) ρ m P m3 := by
  obtain ⟨t1, h1, g1⟩ := hl.go
  obtain ⟨t2, h2, g2⟩ := hh.go
  refine Ev.can (pe_slice hr pcE h1 h2) ⟨(hh.d.trans hl.d).trans ha.d, fun σ H Q s q => ?_⟩
  refine ha.go σ H _ s fun v H1 n1 o1 p1 => ?_
  have s1 := s.go ha.d n1 o1
  refine g1 σ H1 _ s1 fun H2 n2 o2 => ?_
  have s2 := s1.go hl.d n2 o2
  refine g2 σ H2 _ s2 fun H3 n3 o3 => ?_
  have d2 := hl.d.trans ha.d
  have d3 := hh.d.trans d2
  have n12 := n1.trans ha.d n2
  refine hv (dom m3) H3 v _ o3.frees ?_ fun z H4 e4 pz => ?_
  · rw [d3]; exact P1.mono (n3.to d2) (P1.mono (n2.to ha.d) p1)
  · refine q z H4 ((n12.trans d2 n3).trans d3 (Nxt.of e4)) (o3.ext e4) ?_
    rw [d3] at pz; exact pz
theorem a_sliceL {lo hi : Option Expr} {q1 q2 : Option Int} {Ps : List MP} (ha : AE X a ρ m (L X.K Ps) m1) (hl : OE X ρ lo m1 q1 m2) (hh : OE X ρ hi m2 q2 m3) : AE X (.Subscript a (.Slice lo hi none p2) pos) ρ m (Lf (cut Ps q1 q2)) m3 :=
  ev_slice sl_list ha hl hh fun d H v Q fr h1 q => by
    obtain ⟨l, vs, rfl, h2, h3⟩ := h1
    refine ⟨l, vs, rfl, ex_l mask_sub h2, fun z hz => q _ _ (Ex.new hz) ⟨z, _, rfl, fr.at hz, ?_⟩⟩
    have e : cutV vs q1 q2 = cut vs q1 q2 := rfl
    rw [e]
    unfold cut
    rw [h3.length]
    exact ((h3.drop _).take _).mono (mask_ex (Ex.new hz))
theorem a_sliceS {lo hi : Option Expr} {q1 q2 : Option Int} {z : Str} (hz : z.length ≤ 1000000) (ha : AE X a ρ m (S z) m1) (hl : OE X ρ lo m1 q1 m2) (hh : OE X ρ hi m2 q2 m3) : AE X (.Subscript a (.Slice lo hi none p2) pos) ρ m (S (Txt.slice z q1 q2)) m3 :=
  ev_slice C8.sl_txt ha hl hh fun d H v Q _ h1 q => ⟨z, h1, Nat.le_trans hz (by decide), q _ H (Ex.refl _) rfl⟩
theorem a_upper {z : Str} (hz : z.length ≤ 1000000) (ho : AE X o ρ m (S z) m1) (hbase : attributeBase o "upper" X.env (eval o X.env) = eval o X.env := by rfl) (hline : (apos.endLine == cpos.line) = true := by rfl) : AE X (.Call (.Attribute o "upper" apos) [] [] cpos) ρ m (S (Txt.upper z)) m1 :=
  Ev.can (pe_upper pcE hbase hline) ⟨ho.d, fun σ H Q s q => ho.go σ H _ s fun v H1 n1 o1 p1 => ⟨⟨z, p1⟩, z, p1, rfl, Nat.le_trans hz (by decide), q _ H1 n1 o1 rfl⟩⟩
/-! ### a list that is owned: popped, extended, joined to another -/
theorem a_popO {Ps : List MP} {l : Addr} (n : Nat) (ho : AE X o ρ m (R l) m1) (hn : m1[n]? = some (l, .lst (Ps ++ [P]))) (hbase : attributeBase o "pop" X.env (eval o X.env) = eval o X.env := by rfl) (hline : (apos.endLine == cpos.line) = true := by rfl) :
    AE X (.Call (.Attribute o "pop" apos) [] [] cpos) ρ m P (m1.set n (l, .lst Ps)) :=
  Ev.can (pe_bm0 PySem.F.plainAttrs_list PySem.F.slot_list_pop PySem.F.type_list_pop mt_pop pcE hbase hline) ⟨(dom_put hn).trans ho.d, fun σ H Q s q => ho.go σ H _ s fun v H1 n1 o1 p1 => by
    obtain rfl : v = V.ref l := p1
    obtain ⟨u, hu, vs, rfl, hall⟩ := o1.ok n l _ hn
    have hlen := hall.length
    rw [List.length_append] at hlen
    simp only [List.length_cons, List.length_nil] at hlen
    obtain ⟨y, hy, py⟩ := hall.get (i := vs.length - 1) (P := P) (by rw [List.getElem?_append_right (by omega), show vs.length - 1 - Ps.length = 0 by omega]; rfl)
    have hall2 : All (mask H1 (dom m1)) Ps vs.dropLast := by
      have h := hall.take Ps.length
      rw [List.take_left] at h
      rw [List.dropLast_eq_take, show vs.length - 1 = Ps.length by omega]
      exact h
    refine ⟨Or.inl ⟨rfl, vs, Or.inl (Or.inl hu)⟩, l, vs, y, rfl, rfl, hu, hy, ?_⟩
    have o3 : Own (m1.set n (l, .lst Ps)) (upd H1 l (.lst vs.dropLast)) := o1.put hn ⟨_, rfl, hall2⟩
    have hm : mask (upd H1 l (.lst vs.dropLast)) (dom m) = mask H1 (dom m) := by rw [← ho.d]; exact mask_put hn
    refine q y _ ?_ o3 ?_
    · show Ex (mask H (dom m)) (mask _ (dom m))
      rw [hm]; exact n1
    · rw [hm]; rw [← ho.d]; exact py⟩
theorem a_catO {Ps Qs : List MP} {l : Addr} (n : Nat) (ha : AE X a ρ m (R l) m) (hb : AE X b ρ m (Lf Qs) m) (hn : m[n]? = some (l, .lst Ps)) (hz : Ps.length + Qs.length ≤ 100000) : AE X (.BinOp a .Add b pos) ρ m (Lf (Ps ++ Qs)) m :=
  Ev.can (pe_op op_cat pcE pcE) ⟨rfl, fun σ H Q s q => ha.go σ H _ s fun v H1 n1 o1 p1 => hb.go σ H1 _ (s.go rfl n1 o1) fun u H2 n2 o2 p2 => by
    obtain rfl : v = V.ref l := p1
    obtain ⟨l2, ys, rfl, hl2, hall2⟩ := p2
    obtain ⟨u0, hu0, xs, rfl, hall⟩ := o2.ok n l _ hn
    refine ⟨l, l2, xs, ys, rfl, rfl, hu0, mask_sub _ _ hl2, sz_of (by rw [← hall.length, ← hall2.length]; exact hz), fun z hz2 => ?_⟩
    exact q _ _ ((n1.trans rfl n2).trans rfl (Nxt.of (Ex.new hz2))) (o2.ext (Ex.new hz2)) ⟨z, _, rfl, Free.at o2.frees hz2, (hall.append hall2).mono (mask_ex (Ex.new hz2))⟩⟩
/-- len of a list that is owned -/
theorem a_lenO {Ps : List MP} {l : Addr} (n : Nat) (hb : X.mg "len" = none) (ha : AE X a ρ m (R l) m) (hn : m[n]? = some (l, .lst Ps)) (hg : Gl X "len" := by rfl) (he : starEach [a] X.env = (false, eval a X.env) :: starEach [] X.env := by rfl) (hpl : (backTo pos (starEach [] X.env)).any (·.1) = false := by rfl) :
    AE X (.Call (.Name "len" p) [a] [] pos) ρ m (I (Ps.length : Int)) m :=
  Ev.can (pe_callB call_len_seq hg hb PySem.boot_len (pa_cons pcE pa_nil he) (by decide) (by decide) he hpl) ⟨rfl, fun σ H Q s q => ha.go σ H _ s fun v H1 n1 o1 p1 => by
    obtain rfl : v = V.ref l := p1
    obtain ⟨u, hu, vs, rfl, hall⟩ := o1.ok n l _ hn
    exact ⟨l, vs, rfl, Or.inl (Or.inl (Or.inl hu)), q _ H1 n1 o1 (by rw [hall.length]; exact rfl)⟩⟩
/-- xs.extend(e), e made here -/
theorem gs_ext {Ps Qs : List MP} {l : Addr} (n : Nat) (ho : AE X o ρ m (R l) m) (he : AE X e ρ m (Lf Qs) m) (hn : m[n]? = some (l, .lst Ps)) (hl : Ps.length + Qs.length ≤ 100000) (k : GS X sts D ρ (m.set n (l, .lst (Ps ++ Qs))) b0)
    (hpe : PE X (.Call (.Attribute o "extend" apos) [e] [] cpos) (tBM X.K "list" rExtend (cE X o) (cA X [e]))) (hs1 : starEach [e] X.env = [(false, eval e X.env)] := by rfl)
    (hs : swapsWith (.Call (.Attribute o "extend" apos) [e] [] cpos) none p.line X.env = pure false := by rfl) : GS X (.Expr (.Call (.Attribute o "extend" apos) [e] [] cpos) p :: sts) D ρ m b0 :=
  gs_cons fun σ H s ex => cS_of (ps_expr hpe hs) (ho.go σ H _ s fun v H1 n1 o1 p1 => by
    obtain rfl : v = V.ref l := p1
    obtain ⟨u0, hu0, vs0, rfl, _⟩ := o1.ok n l _ hn
    refine ⟨Or.inl ⟨rfl, vs0, Or.inl (Or.inl hu0)⟩, ?_⟩
    have ha : AA X [e] ρ m [Lf Qs] m := aa_cons he aa_nil hs1
    refine ha.go σ H1 _ (s.go rfl n1 o1) fun ws H2 n2 o2 p2 => ?_
    match ws, p2 with
    | [_], .cons ⟨l2, ys, rfl, hl2, hall2⟩ .nil =>
      obtain ⟨u, hu, vs, rfl, hall⟩ := o2.ok n l _ hn
      refine ⟨l, l2, vs, ys, rfl, rfl, hu, mask_sub _ _ hl2, sz_of (by rw [← hall.length, ← hall2.length]; exact hl), ?_⟩
      have o3 : Own (m.set n (l, .lst (Ps ++ Qs))) (upd H2 l (.lst (vs ++ ys))) := o2.put hn ⟨_, rfl, hall.append hall2⟩
      have hm : mask (upd H2 l (.lst (vs ++ ys))) (dom (m.set n (l, .lst (Ps ++ Qs)))) = mask H2 (dom m) := by rw [dom_put hn, mask_put hn]
      refine k σ _ ⟨?_, o3⟩ ?_
      · rw [hm]; exact (s.env.mono n1).mono n2
      · rw [hm]; exact (ex.trans n1).trans n2)
/-- for x in a text -/
theorem gs_forS {jn : Nat} {z : Str} {iter : Expr} {body : List Stmt} (hp : PassesOwn (model X.prog X.w) X.A X.env X.xe) (hc : X.calm = true) (hN : X.N.Nodup) (hj : X.N[jn]? = some x) (hx : Loc X.env.scope x) (he : AE X iter ρ m (S z) m1)
    (W : Nat → Rho → Sto → Prop) (h0 : W 0 ρ m1)
    (hs : ∀ b1, Ex b0 b1 → ∀ (i : Nat) ρ' m', i < z.length → W i ρ' m' → GS X body { D with nx := Sts (W (i + 1)) b1, ct := Sts (W (i + 1)) b1, bk := cSs X sts D } (ρ'.set jn (some (S (sign z i)))) m' b1)
    (hd : ∀ ρ' m', W z.length ρ' m' → GS X sts D ρ' m' b0)
    (hs2 : ∀ x, foldedSetIterable iter X.env x = pure x := by intro _; rfl) (hf : X.fn x = true ∨ X.env.scope.names.lookup x = some .local := by first | exact .inl rfl | exact .inr rfl) : GS X (.For (.Name x p) iter body [] pos :: sts) D ρ m b0 :=
  gs_cons fun σ H s ex => cS_of (ps_for hp hc (pi_str pcE) (pg_name hN hj hx hf) pcSs hs2) (he.go σ H _ s fun v H1 n1 o1 p1 => by
    refine ⟨z, p1, ?_⟩
    have eb : Ex b0 (mask H1 (dom m)) := ex.trans n1
    have hz : z.cps.size = z.length := rfl
    refine ⟨fun i k σ' H' => k = z.length - i ∧ i ≤ z.length ∧ Sts (W i) (mask H1 (dom m)) σ' H', ⟨z.length, by simp, Nat.zero_le _, ρ, m1, h0, s.go he.d n1 o1, by rw [he.d]; exact Ex.refl _⟩, ?_⟩
    rintro i k σ' H' ⟨rfl, hi, ρ2, m2, w, s2, e2⟩
    by_cases hlt : i < z.length
    · refine .inr ⟨hlt, Sts (W (i + 1)) (mask H1 (dom m)), fun σ4 H4 w4 => ⟨z.length - (i + 1), by omega, rfl, hlt, w4⟩, ?_⟩
      rintro xv H3 ⟨rfl, c, hc1, rfl⟩
      have e5 : c = z.cps.toList.getD i 0 := by
        rw [List.getD_eq_getElem?_getD, show z.cps.toList[i]? = some c from by simpa using hc1] <;> rfl
      subst e5
      exact hs _ eb i ρ2 m2 hlt w (σ'.set jn (some (V.str (sign z i)))) _ ⟨s2.env.set (P := S (sign z i)) rfl jn, s2.own⟩ e2
    · have e : i = z.length := by omega
      subst e
      exact .inl ⟨Nat.le_refl _, hd ρ2 m2 w σ' H' s2 (eb.trans e2)⟩)
end
/-! ### the pool, as far as its owner need know it -/
abbrev pm (K : PySem.W.Frag) : MO := .lst [EX (fun _ : List Int => True) fun ns => L K (ns.map I), EX (fun i : Int => 0 ≤ i) I, EX (fun _ : Int => True) I, EX (fun _ : Int => True) I, EX (fun _ : Int => True) I, EX (fun _ : Int => True) I]
theorem pm_open {K : PySem.W.Frag} {F : Hp} {o : HO} (h : (pm K).ok F o) : ∃ p : Pool, 0 ≤ p.pos ∧ (p.mo K).ok F o := by
  obtain ⟨vs, rfl, h⟩ := h
  match vs, h with
  | [_, _, _, _, _, _], .cons ⟨s, _, h1⟩ (.cons ⟨a, ha, h2⟩ (.cons ⟨b, _, h3⟩ (.cons ⟨c, _, h4⟩ (.cons ⟨d, _, h5⟩ (.cons ⟨e, _, h6⟩ .nil))))) => exact ⟨⟨s, a, b, c, d, e⟩, ha, _, rfl, .cons h1 (.cons h2 (.cons h3 (.cons h4 (.cons h5 (.cons h6 .nil)))))⟩
theorem pm_close {K : PySem.W.Frag} {F : Hp} {o : HO} {p : Pool} (hp : 0 ≤ p.pos) (h : (p.mo K).ok F o) : (pm K).ok F o := by
  obtain ⟨vs, rfl, h⟩ := h
  match vs, h with
  | [_, _, _, _, _, _], .cons h1 (.cons h2 (.cons h3 (.cons h4 (.cons h5 (.cons h6 .nil))))) => exact ⟨_, rfl, .cons ⟨_, trivial, h1⟩ (.cons ⟨_, hp, h2⟩ (.cons ⟨_, trivial, h3⟩ (.cons ⟨_, trivial, h4⟩ (.cons ⟨_, trivial, h5⟩ (.cons ⟨_, trivial, h6⟩ .nil)))))⟩
theorem Own.conv {m : Sto} {H : Hp} {i : Nat} {a : Addr} {mo mo' : MO} (o : Own m H) (h : m[i]? = some (a, mo)) (hc : ∀ u, H a = some u → mo.ok (mask H (dom m)) u → mo'.ok (mask H (dom m)) u) : Own (m.set i (a, mo')) H := by
  obtain ⟨u, hu, q⟩ := o.ok i a mo h
  have := o.put h (hc u hu q)
  have e : upd H a u = H := by
    funext b
    by_cases hb : b = a
    · rw [hb, upd_same, hu]
    · rw [upd_ne hb]
  rwa [e] at this
section
variable {K : PySem.W.Frag} {t : TS} {D : Ends} {ρ : Rho} {m : Sto} {b0 : Hp} {a : Addr}
theorem Own.pmO {H : Hp} {i : Nat} (o : Own m H) (hm : m[i]? = some (a, pm K)) : ∃ p : Pool, 0 ≤ p.pos ∧ Own (m.set i (a, p.mo K)) H := by
  obtain ⟨u, hu, q⟩ := o.ok i a _ hm
  obtain ⟨p, hp, hq⟩ := pm_open q
  refine ⟨p, hp, o.conv hm fun u' hu' _ => ?_⟩
  rw [hu] at hu'
  cases hu'
  exact hq
theorem Own.pmC {H : Hp} {i : Nat} {p : Pool} (o : Own (m.set i (a, p.mo K)) H) (hm : m[i]? = some (a, pm K)) (hp : 0 ≤ p.pos) : Own m H := by
  have hl : i < m.length := (List.getElem?_eq_some_iff.mp hm).1
  have := o.conv (mo' := pm K) (set_at hl) fun u _ h => pm_close hp h
  rwa [List.set_set, set_id hm] at this
/-- at a statement the pool is opened, and closed -/
theorem Go.openP (i : Nat) (hm : m[i]? = some (a, pm K)) (k : ∀ p : Pool, 0 ≤ p.pos → Go t D ρ (m.set i (a, p.mo K)) b0) : Go t D ρ m b0 := fun σ H s ex => by
  obtain ⟨p, hp, o⟩ := s.own.pmO hm
  exact k p hp σ H ⟨by rw [dom_put hm]; exact s.env, o⟩ (by rw [dom_put hm]; exact ex)
theorem Go.closeP {p : Pool} (i : Nat) (hm : m[i]? = some (a, pm K)) (hp : 0 ≤ p.pos) (k : Go t D ρ m b0) : Go t D ρ (m.set i (a, p.mo K)) b0 := fun σ H s ex => by
  have hd : dom (m.set i (a, p.mo K)) = dom m := dom_put hm
  exact k σ H ⟨by rw [← hd]; exact s.env, s.own.pmC hm hp⟩ (by rw [← hd]; exact ex)
end
/-- a draw from it -/
def cDrawA (K : PySem.W.Frag) : Ct := fun Ps m P m' => ∃ (i : Nat) (a : Addr) (size : Int), Ps = [R a, I size] ∧ m[i]? = some (a, pm K) ∧ 0 < size ∧ size < 1073741824 ∧ P = In 0 size ∧ m' = m
theorem Fk.imp {P : Program} {w : World} {K : PySem.W.Frag} {mg : Str → Option Value} {base : Heap} {k : Nat} {x : Str} {sp sp' : Sp} {D : List V} (h : Fk P w K mg base k x sp D) (hi : ∀ vs H Q E, sp' vs H Q E → sp vs H Q E) : Fk P w K mg base k x sp' D := by
  obtain ⟨f, fd, ps, ds, h1, h2⟩ := h.ex
  exact ⟨f, fd, ps, ds, h1.imp hi, h2⟩
theorem drawA_of {P : Program} {w : World} {K : PySem.W.Frag} {mg : Str → Option Value} {base : Heap} {k : Nat} (h : Fk P w K mg base k "_law_draw" (spC (cDraw K)) []) : Fk P w K mg base k "_law_draw" (spC (cDrawA K)) [] := h.imp (by
  rintro vs H Q E ⟨Ps, m, P, m', ⟨i, a, size, rfl, hm, h0, h1, rfl, rfl⟩, hd, all, own, q⟩
  obtain ⟨p, hp, own2⟩ := own.pmO hm
  have hl : i < m'.length := (List.getElem?_eq_some_iff.mp hm).1
  have ed : dom (m'.set i (a, p.mo K)) = dom m' := dom_put hm
  refine ⟨[R a, I size], m'.set i (a, p.mo K), I (p.draw size).1, m'.set i (a, (p.draw size).2.mo K), ⟨i, a, p, size, rfl, set_at hl, h0, h1, hp, rfl, by rw [List.set_set]⟩, dom_at hm, by rw [ed]; exact all, own2, fun v H' n o pv => ?_⟩
  rw [ed] at pv
  exact q v H' (by have n2 := n; unfold Nxt at n2 ⊢; rw [ed] at n2; exact n2) (o.pmC hm (Pool.draw_pos hp)) ⟨_, Pool.draw_lt p h0, pv⟩)
section
variable {X : Cx} {ρ : Rho} {m m1 m2 : Sto} {e1 e2 : Expr} {p pos : Pos}
theorem a_drawA {n l i : Nat} {a : Addr} {size : Int} (F : Fk X.prog X.w X.K X.mg X.base n "_law_draw" (spC (cDrawA X.K)) []) (hr : Room l X.A) (hn : n ≤ l) (h0 : 0 < size) (hs : size < 1073741824) (ha : AE X e1 ρ m (R a) m) (hb : AE X e2 ρ m (I size) m) (hm : m[i]? = some (a, pm X.K)) (hg : Gl X "_law_draw" := by rfl)
    (he1 : starEach [e1, e2] X.env = (false, eval e1 X.env) :: starEach [e2] X.env := by rfl) (he2 : starEach [e2] X.env = (false, eval e2 X.env) :: starEach [] X.env := by rfl) (hpl : (backTo pos (starEach [e2] X.env)).any (·.1) = false := by rfl) :
    AE X (.Call (.Name "_law_draw" p) [e1, e2] [] pos) ρ m (In 0 size) m :=
  a_call F hr hn (aa_cons ha (aa_cons hb aa_nil he2) he1) ⟨i, a, size, rfl, hm, h0, hs, rfl, rfl⟩ rfl hg (by decide) he1 hpl
/-- 1 + a draw -/
theorem a_addE {i : Int} {g : Int → Prop} (ha : AE X e1 ρ m (I i) m1) (hb : AE X e2 ρ m1 (EX g I) m2) : AE X (.BinOp e1 .Add e2 pos) ρ m (EX g fun d => I (i + d)) m2 := a_bin op_add (rv_exR fun d hg => RV.to rv_I0 (ex_in (F := fun d => I (i + d)) hg)) ha hb
end
/-! ### the first part's answer is known: the second may turn the store -/
section
variable {X : Cx} {ρ : Rho} {m m1 m2 : Sto} {a b : Expr} {rest : List Expr} {pos : Pos} {tt tu : TT}
theorem et_orF {u : Bool} (h1 : EvT tt ρ m false m1) (h2 : EvT tu ρ m1 u m2) : EvT (tOr tt tu) ρ m u m2 := ⟨h2.d.trans h1.d, fun σ H Q s q => h1.go σ H _ s fun H1 n1 o1 => by
  show tu σ H1 Q
  exact h2.go σ H1 Q (s.go h1.d n1 o1) fun H2 n2 o2 => q H2 (n1.trans h1.d n2) o2⟩
theorem et_andT {u : Bool} (h1 : EvT tt ρ m true m1) (h2 : EvT tu ρ m1 u m2) : EvT (tAnd tt tu) ρ m u m2 := ⟨h2.d.trans h1.d, fun σ H Q s q => h1.go σ H _ s fun H1 n1 o1 => by
  show tu σ H1 Q
  exact h2.go σ H1 Q (s.go h1.d n1 o1) fun H2 n2 o2 => q H2 (n1.trans h1.d n2) o2⟩
theorem w_orF {u : Bool} (ha : AT X a ρ m false m1) (hb : AW X (.BoolOp .Or (b :: rest) pos) ρ m1 u m2) : AW X (.BoolOp .Or (a :: b :: rest) pos) ρ m u m2 := EvT.canW (pw_or pcT pcW) (et_orF ha hb)
theorem w_andT {u : Bool} (ha : AT X a ρ m true m1) (hb : AW X (.BoolOp .And (b :: rest) pos) ρ m1 u m2) : AW X (.BoolOp .And (a :: b :: rest) pos) ρ m u m2 := EvT.canW (pw_and pcT pcW) (et_andT ha hb)
/-- the order of texts -/
theorem rv_leS {s t : Str} : RV (fun x y H Q => ∃ i j : Str, x = .str i ∧ y = .str j ∧ Q (.bl (!decide (j.cps.toList < i.cps.toList))) H) (S s) (S t) (B (!decide (t.cps.toList < s.cps.toList))) := fun d H v u Q _ h1 h2 q => ⟨s, t, h1, h2, q _ H (Ex.refl _) rfl⟩
/-- x in a tuple of texts, as a value -/
theorem a_inT {s : Str} {ws : List Str} (ha : AE X a ρ m (S s) m1) (hb : AE X b ρ m1 (T X.K (ws.map S)) m2) (hm : behindInMarks .In b = false := by rfl) : AE X (.Compare a [.In] [b] pos) ρ m (B (decide (s ∈ ws))) m2 :=
  (a_cmp op_in_seq (rv_inT (neg := false) rfl flat_strs) ha (by rw [map_S] at hb; exact hb) hm).eq (by show B (inV _ _) = _; rw [inV_str])
end
/-- words of which only their number and lengths are known -/
abbrev WD (K : PySem.W.Frag) (n k : Nat) : MP := EX (fun ws : List Str => ws.length ≤ n ∧ ∀ w ∈ ws, w.length ≤ k) (fun ws => L K (ws.map S))
theorem all_join {H : Hp} {A B : List Str} {g : Str → Prop} {vs : List V} (h : All H (A.map S ++ [EX g S] ++ B.map S) vs) : ∃ w, g w ∧ All H ((A ++ [w] ++ B).map S) vs := by
  have h0 : ∀ {A : List Str} {vs : List V}, All H (A.map S ++ ([EX g S] ++ B.map S)) vs → ∃ w, g w ∧ All H (A.map S ++ ([S w] ++ B.map S)) vs := by
    intro A
    induction A with
    | nil =>
      intro vs h
      cases h with
      | cons p t =>
        obtain ⟨w, hw, pw⟩ := p
        exact ⟨w, hw, .cons pw t⟩
    | cons a A ih =>
      intro vs h
      cases h with
      | cons p t =>
        obtain ⟨w, hw, q⟩ := ih t
        exact ⟨w, hw, .cons p q⟩
  rw [List.append_assoc] at h
  obtain ⟨w, hw, q⟩ := h0 h
  refine ⟨w, hw, ?_⟩
  rw [List.append_assoc, List.map_append, List.map_append]
  exact q
theorem joinL_len : ∀ (ws : List (List Nat)) (k : Nat), (∀ w ∈ ws, w.length ≤ k) → (TL.joinL [32] ws).length ≤ ws.length * (k + 1)
  | [], k, _ => by simp [TL.joinL]
  | [w], k, h => by
    have := h w List.mem_cons_self
    show w.length ≤ _
    simp only [List.length_cons, List.length_nil]
    omega
  | w :: v :: r, k, h => by
    have h1 := h w List.mem_cons_self
    have h2 := joinL_len (v :: r) k fun x hx => h x (List.mem_cons_of_mem _ hx)
    show (w ++ ([32] ++ TL.joinL [32] (v :: r))).length ≤ _
    simp only [List.length_append, List.length_cons, List.length_nil, Nat.add_mul] at h2 ⊢
    omega
theorem join_len {ws : List Str} {k : Nat} (h : ∀ w ∈ ws, w.length ≤ k) : (Txt.join " " ws).length ≤ ws.length * (k + 1) := by
  rw [len_tl, joinS]
  have := joinL_len (ws.map tl) k fun x hx => by
    obtain ⟨w, hw, rfl⟩ := List.mem_map.mp hx
    have := h w hw
    rw [len_tl] at this
    exact this
  rw [List.length_map] at this
  exact this
theorem spl_len (s : Nat) : ∀ (l acc : List Nat), (TL.spl [s] 0 acc l).length ≤ l.length + 1 ∧ ∀ w ∈ TL.spl [s] 0 acc l, w.length ≤ acc.length + l.length
  | [], acc => by
    rw [TL.spl_nil]
    exact ⟨by simp, fun w hw => by simp at hw; subst hw; simp⟩
  | c :: r, acc => by
    cases h : TL.pre [s] (c :: r) with
    | true =>
      rw [TL.spl_hit h]
      obtain ⟨h1, h2⟩ := spl_len s r []
      refine ⟨by show (TL.spl [s] 0 [] r).length + 1 ≤ r.length + 1 + 1; omega, fun w hw => ?_⟩
      rcases List.mem_cons.mp hw with e | hw
      · rw [e]; omega
      · have := h2 w hw
        simp only [List.length_nil, List.length_cons] at this ⊢
        omega
    | false =>
      rw [TL.spl_miss h]
      obtain ⟨h1, h2⟩ := spl_len s r (acc ++ [c])
      refine ⟨by simp only [List.length_cons]; omega, fun w hw => ?_⟩
      have := h2 w hw
      simp only [List.length_append, List.length_cons, List.length_nil] at this ⊢
      omega
theorem split_len (z : Str) : (Txt.split z " ").length ≤ z.length + 1 ∧ ∀ w ∈ Txt.split z " ", w.length ≤ z.length := by
  have e : (" " : Str) = SX.S [32] := by decide +kernel
  have ez : z = SX.S (tl z) := (mk_tl z).symm
  have e2 : Txt.split z " " = (TL.spl [32] 0 [] (tl z)).map SX.S := by
    conv => lhs; rw [ez, e]
    exact SX.split_S (by decide) (by decide)
  obtain ⟨h1, h2⟩ := spl_len 32 (tl z) []
  rw [e2, len_tl]
  refine ⟨by rw [List.length_map]; exact h1, fun w hw => ?_⟩
  obtain ⟨l, hl, rfl⟩ := List.mem_map.mp hw
  have := h2 l hl
  rw [len_tl]
  show l.length ≤ _
  simpa using this
/-- a row of written texts -/
def strsOf : List Expr → Option (List Str)
  | [] => some []
  | .Constant (.str s) _ _ :: r => match strsOf r with
    | some ws => some (s :: ws)
    | none => none
  | _ => none
theorem aa_strs {X : Cx} {ρ : Rho} {m : Sto} : ∀ {es : List Expr} {ws : List Str}, strsOf es = some ws → AA X es ρ m (ws.map S) m
  | [], ws, h => by cases h; exact aa_nil
  | .Constant (.str s) j pos :: r, ws, h => by
    unfold strsOf at h
    cases e : strsOf r with
    | none => rw [e] at h; cases h
    | some vs =>
      rw [e] at h
      cases h
      exact aa_cons a_str (aa_strs e)
/-- x = e, the statement behind a name (a long list of written texts must not be looked into) -/
theorem gs_asgV {X : Cx} {ρ : Rho} {m m1 : Sto} {P : MP} {rest : List Stmt} {D : Ends} {b0 : Hp} {x : Str} {st : Stmt} {i : Nat} (h : ∃ p e p2, st = .Assign [.Name x p] e p2 ∧ AE X e ρ m P m1 ∧ swapsWith e (some (.Name x p)) p2.line X.env = pure false) (hN : X.N.Nodup) (hi : X.N[i]? = some x) (hx : Loc X.env.scope x)
    (hf : X.fn x = true ∨ X.env.scope.names.lookup x = some .local) (k : GS X rest D (ρ.set i (some P)) m1 b0) : GS X (st :: rest) D ρ m b0 := by
  obtain ⟨p, e, p2, rfl, he, hs⟩ := h
  exact gs_asgG hN hi hx he k hs hf
end SV

namespace K03
open PySem L2 PyProof.Rows SV
open Evl (Ex ex_rd ex_l ex_t sz_of sz_lt)
/-! ### the text by places -/
def top (i : Nat) : Stmt := PySem.Challenge.pw_splittalk_k03_whole_formulas_are_read_ex.main.body.getD i (.Pass ⟨0, 0, 0, 0⟩)
abbrev sBadText_init : Stmt := (inClass (top 2) 0)
abbrev n_BadText_init : List Str := ["self", "at"]
theorem sc_BadText_init : FnScope n_BadText_init ["self", "at"] (defScope sBadText_init) := ⟨rfl, rfl, rfl, by decide +kernel, rfl, by decide +kernel, by decide +kernel⟩
abbrev sBadPaper_init : Stmt := (inClass (top 3) 0)
abbrev n_BadPaper_init : List Str := ["self", "at"]
theorem sc_BadPaper_init : FnScope n_BadPaper_init ["self", "at"] (defScope sBadPaper_init) := ⟨rfl, rfl, rfl, by decide +kernel, rfl, by decide +kernel, by decide +kernel⟩
abbrev sBadTable_init : Stmt := (inClass (top 4) 0)
abbrev n_BadTable_init : List Str := ["self", "what"]
theorem sc_BadTable_init : FnScope n_BadTable_init ["self", "what"] (defScope sBadTable_init) := ⟨rfl, rfl, rfl, by decide +kernel, rfl, by decide +kernel, by decide +kernel⟩
abbrev sBadTalk_init : Stmt := (inClass (top 5) 0)
abbrev n_BadTalk_init : List Str := ["self", "what"]
theorem sc_BadTalk_init : FnScope n_BadTalk_init ["self", "what"] (defScope sBadTalk_init) := ⟨rfl, rfl, rfl, by decide +kernel, rfl, by decide +kernel, by decide +kernel⟩
abbrev sTooLarge_init : Stmt := (inClass (top 6) 0)
abbrev n_TooLarge_init : List Str := ["self", "what"]
theorem sc_TooLarge_init : FnScope n_TooLarge_init ["self", "what"] (defScope sTooLarge_init) := ⟨rfl, rfl, rfl, by decide +kernel, rfl, by decide +kernel, by decide +kernel⟩
abbrev sWords_of : Stmt := (top 11)
abbrev n_words_of : List Str := ["text"]
theorem sc_words_of : FnScope n_words_of ["text"] (defScope sWords_of) := ⟨rfl, rfl, rfl, by decide +kernel, rfl, by decide +kernel, by decide +kernel⟩
abbrev sIs_number : Stmt := (top 12)
abbrev n_is_number : List Str := ["word"]
theorem sc_is_number : FnScope n_is_number ["word"] (defScope sIs_number) := ⟨rfl, rfl, rfl, by decide +kernel, rfl, by decide +kernel, by decide +kernel⟩
abbrev sAre_digits : Stmt := (top 13)
abbrev n_are_digits : List Str := ["word", "digit"]
theorem sc_are_digits : FnScope n_are_digits ["word"] (defScope sAre_digits) := ⟨rfl, rfl, rfl, by decide +kernel, rfl, by decide +kernel, by decide +kernel⟩
abbrev sRead_expression : Stmt := (top 17)
abbrev n_read_expression : List Str := ["words", "at", "names", "deepest", "word", "one", "behind", "other"]
theorem sc_read_expression : FnScope n_read_expression ["words", "at", "names", "deepest"] (defScope sRead_expression) := ⟨rfl, rfl, rfl, by decide +kernel, rfl, by decide +kernel, by decide +kernel⟩
abbrev sNamed : Stmt := (top 18)
abbrev n_named : List Str := ["word"]
theorem sc_named : FnScope n_named ["word"] (defScope sNamed) := ⟨rfl, rfl, rfl, by decide +kernel, rfl, by decide +kernel, by decide +kernel⟩
abbrev sExpression_text : Stmt := (top 19)
abbrev n_expression_text : List Str := ["expression", "kind"]
theorem sc_expression_text : FnScope n_expression_text ["expression"] (defScope sExpression_text) := ⟨rfl, rfl, rfl, by decide +kernel, rfl, by decide +kernel, by decide +kernel⟩
abbrev sRead_formula : Stmt := (top 21)
abbrev n_read_formula : List Str := ["text", "words", "formula", "behind"]
theorem sc_read_formula : FnScope n_read_formula ["text"] (defScope sRead_formula) := ⟨rfl, rfl, rfl, by decide +kernel, rfl, by decide +kernel, by decide +kernel⟩
abbrev sFormula_text : Stmt := (top 22)
abbrev n_formula_text : List Str := ["formula"]
theorem sc_formula_text : FnScope n_formula_text ["formula"] (defScope sFormula_text) := ⟨rfl, rfl, rfl, by decide +kernel, rfl, by decide +kernel, by decide +kernel⟩
abbrev sLaw_pool : Stmt := (top 24)
abbrev n_law_pool : List Str := ["script", "budget"]
theorem sc_law_pool : FnScope n_law_pool ["script", "budget"] (defScope sLaw_pool) := ⟨rfl, rfl, rfl, by decide +kernel, rfl, by decide +kernel, by decide +kernel⟩
abbrev sLaw_draw : Stmt := (top 25)
abbrev n_law_draw : List Str := ["pool", "size", "cell", "value"]
theorem sc_law_draw : FnScope n_law_draw ["pool", "size"] (defScope sLaw_draw) := ⟨rfl, rfl, rfl, by decide +kernel, rfl, by decide +kernel, by decide +kernel⟩
abbrev sLaw_same : Stmt := (top 26)
abbrev n_law_same : List Str := ["actual", "due", "k"]
theorem sc_law_same : FnScope n_law_same ["actual", "due"] (defScope sLaw_same) := ⟨rfl, rfl, rfl, by decide +kernel, rfl, by decide +kernel, by decide +kernel⟩
abbrev sLaw_value : Stmt := (top 27)
abbrev n_law_value : List Str := ["pool", "names", "deep", "kind", "sign", "left", "name"]
theorem sc_law_value : FnScope n_law_value ["pool", "names", "deep"] (defScope sLaw_value) := ⟨rfl, rfl, rfl, by decide +kernel, rfl, by decide +kernel, by decide +kernel⟩
abbrev sLaw_value_words : Stmt := (top 28)
abbrev n_law_value_words : List Str := ["due"]
theorem sc_law_value_words : FnScope n_law_value_words ["due"] (defScope sLaw_value_words) := ⟨rfl, rfl, rfl, by decide +kernel, rfl, by decide +kernel, by decide +kernel⟩
abbrev sLaw_is_number : Stmt := (top 29)
abbrev n_law_is_number : List Str := ["word", "least", "upper", "char"]
theorem sc_law_is_number : FnScope n_law_is_number ["word", "least", "upper"] (defScope sLaw_is_number) := ⟨rfl, rfl, rfl, by decide +kernel, rfl, by decide +kernel, by decide +kernel⟩
abbrev sLaw_values : Stmt := (top 30)
abbrev n_law_values : List Str := ["stack", "names", "word", "room"]
theorem sc_law_values : FnScope n_law_values ["stack", "names", "word", "room"] (defScope sLaw_values) := ⟨rfl, rfl, rfl, by decide +kernel, rfl, by decide +kernel, by decide +kernel⟩
abbrev sLaw_spoilt : Stmt := (top 31)
abbrev n_law_spoilt : List Str := ["pool", "words", "place", "word", "at", "way", "signs", "sign"]
theorem sc_law_spoilt : FnScope n_law_spoilt ["pool", "words"] (defScope sLaw_spoilt) := ⟨rfl, rfl, rfl, by decide +kernel, rfl, by decide +kernel, by decide +kernel⟩
abbrev sLaw_changed : Stmt := (top 32)
abbrev n_law_changed : List Str := ["pool", "words", "k", "way", "place", "other"]
theorem sc_law_changed : FnScope n_law_changed ["pool", "words"] (defScope sLaw_changed) := ⟨rfl, rfl, rfl, by decide +kernel, rfl, by decide +kernel, by decide +kernel⟩
abbrev sLaw_joined : Stmt := (top 33)
abbrev n_law_joined : List Str := ["pool", "words", "place"]
theorem sc_law_joined : FnScope n_law_joined ["pool", "words"] (defScope sLaw_joined) := ⟨rfl, rfl, rfl, by decide +kernel, rfl, by decide +kernel, by decide +kernel⟩
abbrev sLaw_menu : Stmt := (top 34)
abbrev n_law_menu : List Str := ["pool", "words"]
theorem sc_law_menu : FnScope n_law_menu ["pool"] (defScope sLaw_menu) := ⟨rfl, rfl, rfl, by decide +kernel, rfl, by decide +kernel, by decide +kernel⟩
abbrev sLaw_wrong : Stmt := (top 35)
abbrev n_law_wrong : List Str := ["words", "stack", "at"]
theorem sc_law_wrong : FnScope n_law_wrong ["words"] (defScope sLaw_wrong) := ⟨rfl, rfl, rfl, by decide +kernel, rfl, by decide +kernel, by decide +kernel⟩
abbrev sLaw : Stmt := (top 36)
abbrev n_law : List Str := ["script", "pool", "words", "k", "word", "turn", "text", "wrong", "actual", "e"]
theorem sc_law : FnScope n_law ["script"] (defScope sLaw) := ⟨rfl, rfl, rfl, by decide +kernel, rfl, by decide +kernel, by decide +kernel⟩

/-! ### what the top leaves -/
structure Txt (K : PySem.W.Frag) (mg : Str → Option Value) (cTalkError cBadText cBadPaper cBadTable cBadTalk cTooLarge cBadRatio : Addr) : Prop where
  g_TalkError : mg "TalkError" = some (.ref cTalkError)
  g_BadText : mg "BadText" = some (.ref cBadText)
  g_BadPaper : mg "BadPaper" = some (.ref cBadPaper)
  g_BadTable : mg "BadTable" = some (.ref cBadTable)
  g_BadTalk : mg "BadTalk" = some (.ref cBadTalk)
  g_TooLarge : mg "TooLarge" = some (.ref cTooLarge)
  g_BadRatio : mg "BadRatio" = some (.ref cBadRatio)
  d_BadText_init : ∃ f fd, Fun K "__init__" "BadText.__init__" sBadText_init f fd ∧ PySem.W.findIn K (.ref cBadText) "__init__" = some (some (.ref f)) ∧ PySem.W.typeIn K (.ref f) = some (.type "function") ∧ PySem.W.keepIn K (.ref f) = true
  d_words_of : ∃ f fd, Fun K "words_of" "words_of" sWords_of f fd ∧ mg "words_of" = some (.ref f)
  d_is_number : ∃ f fd, Fun K "is_number" "is_number" sIs_number f fd ∧ mg "is_number" = some (.ref f)
  d_are_digits : ∃ f fd, Fun K "are_digits" "are_digits" sAre_digits f fd ∧ mg "are_digits" = some (.ref f)
  d_read_expression : ∃ f fd, FunD K "read_expression" "read_expression" (defArgs sRead_expression) (defBody sRead_expression) (defScope sRead_expression) [.int (5)] [] f fd ∧ mg "read_expression" = some (.ref f)
  d_named : ∃ f fd, Fun K "_named" "_named" sNamed f fd ∧ mg "_named" = some (.ref f)
  d_expression_text : ∃ f fd, Fun K "expression_text" "expression_text" sExpression_text f fd ∧ mg "expression_text" = some (.ref f)
  d_read_formula : ∃ f fd, Fun K "read_formula" "read_formula" sRead_formula f fd ∧ mg "read_formula" = some (.ref f)
  d_formula_text : ∃ f fd, Fun K "formula_text" "formula_text" sFormula_text f fd ∧ mg "formula_text" = some (.ref f)
  d_law_pool : ∃ f fd, Fun K "_law_pool" "_law_pool" sLaw_pool f fd ∧ mg "_law_pool" = some (.ref f)
  d_law_draw : ∃ f fd, Fun K "_law_draw" "_law_draw" sLaw_draw f fd ∧ mg "_law_draw" = some (.ref f)
  d_law_same : ∃ f fd, Fun K "_law_same" "_law_same" sLaw_same f fd ∧ mg "_law_same" = some (.ref f)
  d_law_value : ∃ f fd, Fun K "_law_value" "_law_value" sLaw_value f fd ∧ mg "_law_value" = some (.ref f)
  d_law_value_words : ∃ f fd, Fun K "_law_value_words" "_law_value_words" sLaw_value_words f fd ∧ mg "_law_value_words" = some (.ref f)
  d_law_is_number : ∃ f fd, Fun K "_law_is_number" "_law_is_number" sLaw_is_number f fd ∧ mg "_law_is_number" = some (.ref f)
  d_law_values : ∃ f fd, Fun K "_law_values" "_law_values" sLaw_values f fd ∧ mg "_law_values" = some (.ref f)
  d_law_spoilt : ∃ f fd, Fun K "_law_spoilt" "_law_spoilt" sLaw_spoilt f fd ∧ mg "_law_spoilt" = some (.ref f)
  d_law_changed : ∃ f fd, Fun K "_law_changed" "_law_changed" sLaw_changed f fd ∧ mg "_law_changed" = some (.ref f)
  d_law_joined : ∃ f fd, Fun K "_law_joined" "_law_joined" sLaw_joined f fd ∧ mg "_law_joined" = some (.ref f)
  d_law_menu : ∃ f fd, Fun K "_law_menu" "_law_menu" sLaw_menu f fd ∧ mg "_law_menu" = some (.ref f)
  d_law_wrong : ∃ f fd, Fun K "_law_wrong" "_law_wrong" sLaw_wrong f fd ∧ mg "_law_wrong" = some (.ref f)
  d_law : ∃ f fd, Fun K "law" "law" sLaw f fd ∧ mg "law" = some (.ref f)
  xc_TalkError : ExcC K cTalkError
  xk_TalkError : PySem.W.keepIn K (.ref cTalkError) = true
  xs_TalkError : PySem.W.subIn K (.ref cTalkError) (.type "BaseException") = some true
  xt_TalkError : PySem.W.typeIn K (.ref cTalkError) = some (.type "type")
  xc_BadText : ExcC K cBadText
  xk_BadText : PySem.W.keepIn K (.ref cBadText) = true
  xs_BadText : PySem.W.subIn K (.ref cBadText) (.type "BaseException") = some true
  xt_BadText : PySem.W.typeIn K (.ref cBadText) = some (.type "type")
  xe_BadText : PySem.W.exmOne K (.ref cBadText) (.ref cTalkError) = some true
  xO_BadText : OexC K cBadText
  na_BadText_at : PySem.W.findIn K (.ref cBadText) "at" = some none
  xR_TalkError : PySem.W.readsIn K cTalkError (.type "type") = true
  xG_TalkError : PySem.W.specialIn K (.ref cTalkError) "__getattribute__" = some (some (.builtin "type.__getattribute__"))
  xF_TalkError : PySem.W.findCls K (.ref cTalkError) (.type "type") "__init__" = some (.val (.builtin "ValueError.__init__"))
  ke_t : PySem.W.kitAny K (.ref cBadText) [.ref cBadPaper, .ref cBadRatio, .ref cBadTable, .ref cBadTalk, .ref cTooLarge] = some false
  b_ValueError : mg "ValueError" = none
  b_all : mg "all" = none
  b_bool : mg "bool" = none
  b_int : mg "int" = none
  b_isinstance : mg "isinstance" = none
  b_len : mg "len" = none
  b_list : mg "list" = none
  b_range : mg "range" = none
  b_str : mg "str" = none
  b_tuple : mg "tuple" = none
  g_LARGEST : ∃ t, mg "LARGEST" = some (.int (65535) t)
  g__DIGITS : ∃ t, mg "_DIGITS" = some (.str "0123456789" t)
  g__OPERATORS : ∃ a, mg "_OPERATORS" = some (.ref a) ∧ ∀ H, SqT K H a [.str "+", .str "-", .str "*", .str "/", .str "mod", .str "<", .str "="]
  g__DEEPEST : ∃ t, mg "_DEEPEST" = some (.int (5) t)
section
variable {P : Program} {w : World} {K : PySem.W.Frag} {mg : Str → Option Value} {base : Heap} {cTalkError cBadText cBadPaper cBadTable cBadTalk cTooLarge cBadRatio : Addr}
theorem txt_mk {h : Heap} {f1 f2 f3 f4 f5 f6 f7 f8 f9 f10 f11 f12 f13 f14 f15 f16 f17 f18 f19 f20 f21 f22 : Addr} (X : K.In h) (G : h.Ns mainGlobals mg)
    {od1 an1 : Option Addr} {sl1 : Array (Option Value)} {oc1 kV1 dc1 pm1 cd1 ct1 : Value} {od2 an2 : Option Addr} {sl2 : Array (Option Value)} {oc2 kV2 dc2 pm2 cd2 ct2 : Value} {od3 an3 : Option Addr} {sl3 : Array (Option Value)}
    {oc3 kV3 dc3 pm3 cd3 ct3 : Value} {od4 an4 : Option Addr} {sl4 : Array (Option Value)} {oc4 kV4 dc4 pm4 cd4 ct4 : Value} {od5 an5 : Option Addr} {sl5 : Array (Option Value)} {oc5 kV5 dc5 pm5 cd5 ct5 : Value} {T5 : Addr}
    {ocT5 : Value} {odT5 : Option Addr} {nT5 : Nat} {slT5 : Array (Option Value)} {tk5_0 : Tok} {od6 an6 : Option Addr} {sl6 : Array (Option Value)} {oc6 kV6 dc6 pm6 cd6 ct6 : Value}
    {od7 an7 : Option Addr} {sl7 : Array (Option Value)} {oc7 kV7 dc7 pm7 cd7 ct7 : Value} {od8 an8 : Option Addr} {sl8 : Array (Option Value)} {oc8 kV8 dc8 pm8 cd8 ct8 : Value} {od9 an9 : Option Addr} {sl9 : Array (Option Value)}
    {oc9 kV9 dc9 pm9 cd9 ct9 : Value} {od10 an10 : Option Addr} {sl10 : Array (Option Value)} {oc10 kV10 dc10 pm10 cd10 ct10 : Value} {od11 an11 : Option Addr} {sl11 : Array (Option Value)} {oc11 kV11 dc11 pm11 cd11 ct11 : Value} {od12 an12 : Option Addr}
    {sl12 : Array (Option Value)} {oc12 kV12 dc12 pm12 cd12 ct12 : Value} {od13 an13 : Option Addr} {sl13 : Array (Option Value)} {oc13 kV13 dc13 pm13 cd13 ct13 : Value} {od14 an14 : Option Addr} {sl14 : Array (Option Value)} {oc14 kV14 dc14 pm14 cd14 ct14 : Value}
    {od15 an15 : Option Addr} {sl15 : Array (Option Value)} {oc15 kV15 dc15 pm15 cd15 ct15 : Value} {od16 an16 : Option Addr} {sl16 : Array (Option Value)} {oc16 kV16 dc16 pm16 cd16 ct16 : Value} {od17 an17 : Option Addr} {sl17 : Array (Option Value)}
    {oc17 kV17 dc17 pm17 cd17 ct17 : Value} {od18 an18 : Option Addr} {sl18 : Array (Option Value)} {oc18 kV18 dc18 pm18 cd18 ct18 : Value} {od19 an19 : Option Addr} {sl19 : Array (Option Value)} {oc19 kV19 dc19 pm19 cd19 ct19 : Value} {od20 an20 : Option Addr}
    {sl20 : Array (Option Value)} {oc20 kV20 dc20 pm20 cd20 ct20 : Value} {od21 an21 : Option Addr} {sl21 : Array (Option Value)} {oc21 kV21 dc21 pm21 cd21 ct21 : Value} {od22 an22 : Option Addr} {sl22 : Array (Option Value)} {oc22 kV22 dc22 pm22 cd22 ct22 : Value}
    {eq1_BadText eq2_BadText : Str} {eN_BadText : Addr} {ebs_BadText esub_BadText : List Value} {esn_BadText : List Str} {eab_BadText : Bool} {ecol_BadText : Option Bool} {edd_BadText : Option Addr} {ek0_BadText ek1_BadText ek2_BadText ek3_BadText ek5_BadText : Option Value}
    {tg_LARGEST : Tok} {tg__DIGITS : Tok} {A__OPERATORS : Addr} {oD__OPERATORS : Option Addr} {nN__OPERATORS : Nat} {sS__OPERATORS : Array (Option Value)} {tq_OPERATORS_0 : Tok} {tq_OPERATORS_1 : Tok}
    {tq_OPERATORS_2 : Tok} {tq_OPERATORS_3 : Tok} {tq_OPERATORS_4 : Tok} {tq_OPERATORS_5 : Tok} {tq_OPERATORS_6 : Tok} {tg__DEEPEST : Tok}
    (aC_TalkError : PySem.W.nsIn K mainGlobals "TalkError" = some (some (.ref cTalkError)))
    (aC_BadText : PySem.W.nsIn K mainGlobals "BadText" = some (some (.ref cBadText)))
    (aC_BadPaper : PySem.W.nsIn K mainGlobals "BadPaper" = some (some (.ref cBadPaper)))
    (aC_BadTable : PySem.W.nsIn K mainGlobals "BadTable" = some (some (.ref cBadTable)))
    (aC_BadTalk : PySem.W.nsIn K mainGlobals "BadTalk" = some (some (.ref cBadTalk)))
    (aC_TooLarge : PySem.W.nsIn K mainGlobals "TooLarge" = some (some (.ref cTooLarge)))
    (aC_BadRatio : PySem.W.nsIn K mainGlobals "BadRatio" = some (some (.ref cBadRatio)))
    (a1 : PySem.W.findIn K (.ref cBadText) "__init__" = some (some (.ref f1)))
    (i1 : PySem.W.isFn K (.ref f1) = true)
    (l1 : K.lookup f1 = some ⟨oc1, od1, .func (PySem.W.fnOf "__init__" "BadText.__init__" (defArgs sBadText_init) (defBody sBadText_init) (defScope sBadText_init) .none kV1 dc1 pm1 an1 cd1 ct1), sl1⟩)
    (c1 : PySem.W.codeIn K cd1 "BadText.__init__" = true)
    (k1 : PySem.W.keepIn K (.ref f1) = true)
    (ty1 : PySem.W.typeIn K (.ref f1) = some (.type "function"))
    (a2 : PySem.W.nsIn K mainGlobals "words_of" = some (some (.ref f2)))
    (l2 : K.lookup f2 = some ⟨oc2, od2, .func (PySem.W.fnOf "words_of" "words_of" (defArgs sWords_of) (defBody sWords_of) (defScope sWords_of) .none kV2 dc2 pm2 an2 cd2 ct2), sl2⟩)
    (c2 : PySem.W.codeIn K cd2 "words_of" = true)
    (k2 : PySem.W.keepIn K (.ref f2) = true)
    (a3 : PySem.W.nsIn K mainGlobals "is_number" = some (some (.ref f3)))
    (l3 : K.lookup f3 = some ⟨oc3, od3, .func (PySem.W.fnOf "is_number" "is_number" (defArgs sIs_number) (defBody sIs_number) (defScope sIs_number) .none kV3 dc3 pm3 an3 cd3 ct3), sl3⟩)
    (c3 : PySem.W.codeIn K cd3 "is_number" = true)
    (k3 : PySem.W.keepIn K (.ref f3) = true)
    (a4 : PySem.W.nsIn K mainGlobals "are_digits" = some (some (.ref f4)))
    (l4 : K.lookup f4 = some ⟨oc4, od4, .func (PySem.W.fnOf "are_digits" "are_digits" (defArgs sAre_digits) (defBody sAre_digits) (defScope sAre_digits) .none kV4 dc4 pm4 an4 cd4 ct4), sl4⟩)
    (c4 : PySem.W.codeIn K cd4 "are_digits" = true)
    (k4 : PySem.W.keepIn K (.ref f4) = true)
    (a5 : PySem.W.nsIn K mainGlobals "read_expression" = some (some (.ref f5)))
    (l5 : K.lookup f5 = some ⟨oc5, od5, .func (PySem.W.fnOf "read_expression" "read_expression" (defArgs sRead_expression) (defBody sRead_expression) (defScope sRead_expression) (.ref T5) kV5 dc5 pm5 an5 cd5 ct5), sl5⟩)
    (c5 : PySem.W.codeIn K cd5 "read_expression" = true)
    (k5 : PySem.W.keepIn K (.ref f5) = true)
    (lT5 : K.lookup T5 = some ⟨ocT5, odT5, .seq (([.int (5) tk5_0] : List Value).toArray) nT5, slT5⟩)
    (a6 : PySem.W.nsIn K mainGlobals "_named" = some (some (.ref f6)))
    (l6 : K.lookup f6 = some ⟨oc6, od6, .func (PySem.W.fnOf "_named" "_named" (defArgs sNamed) (defBody sNamed) (defScope sNamed) .none kV6 dc6 pm6 an6 cd6 ct6), sl6⟩)
    (c6 : PySem.W.codeIn K cd6 "_named" = true)
    (k6 : PySem.W.keepIn K (.ref f6) = true)
    (a7 : PySem.W.nsIn K mainGlobals "expression_text" = some (some (.ref f7)))
    (l7 : K.lookup f7 = some ⟨oc7, od7, .func (PySem.W.fnOf "expression_text" "expression_text" (defArgs sExpression_text) (defBody sExpression_text) (defScope sExpression_text) .none kV7 dc7 pm7 an7 cd7 ct7), sl7⟩)
    (c7 : PySem.W.codeIn K cd7 "expression_text" = true)
    (k7 : PySem.W.keepIn K (.ref f7) = true)
    (a8 : PySem.W.nsIn K mainGlobals "read_formula" = some (some (.ref f8)))
    (l8 : K.lookup f8 = some ⟨oc8, od8, .func (PySem.W.fnOf "read_formula" "read_formula" (defArgs sRead_formula) (defBody sRead_formula) (defScope sRead_formula) .none kV8 dc8 pm8 an8 cd8 ct8), sl8⟩)
    (c8 : PySem.W.codeIn K cd8 "read_formula" = true)
    (k8 : PySem.W.keepIn K (.ref f8) = true)
    (a9 : PySem.W.nsIn K mainGlobals "formula_text" = some (some (.ref f9)))
    (l9 : K.lookup f9 = some ⟨oc9, od9, .func (PySem.W.fnOf "formula_text" "formula_text" (defArgs sFormula_text) (defBody sFormula_text) (defScope sFormula_text) .none kV9 dc9 pm9 an9 cd9 ct9), sl9⟩)
    (c9 : PySem.W.codeIn K cd9 "formula_text" = true)
    (k9 : PySem.W.keepIn K (.ref f9) = true)
    (a10 : PySem.W.nsIn K mainGlobals "_law_pool" = some (some (.ref f10)))
    (l10 : K.lookup f10 = some ⟨oc10, od10, .func (PySem.W.fnOf "_law_pool" "_law_pool" (defArgs sLaw_pool) (defBody sLaw_pool) (defScope sLaw_pool) .none kV10 dc10 pm10 an10 cd10 ct10), sl10⟩)
    (c10 : PySem.W.codeIn K cd10 "_law_pool" = true)
    (k10 : PySem.W.keepIn K (.ref f10) = true)
    (a11 : PySem.W.nsIn K mainGlobals "_law_draw" = some (some (.ref f11)))
    (l11 : K.lookup f11 = some ⟨oc11, od11, .func (PySem.W.fnOf "_law_draw" "_law_draw" (defArgs sLaw_draw) (defBody sLaw_draw) (defScope sLaw_draw) .none kV11 dc11 pm11 an11 cd11 ct11), sl11⟩)
    (c11 : PySem.W.codeIn K cd11 "_law_draw" = true)
    (k11 : PySem.W.keepIn K (.ref f11) = true)
    (a12 : PySem.W.nsIn K mainGlobals "_law_same" = some (some (.ref f12)))
    (l12 : K.lookup f12 = some ⟨oc12, od12, .func (PySem.W.fnOf "_law_same" "_law_same" (defArgs sLaw_same) (defBody sLaw_same) (defScope sLaw_same) .none kV12 dc12 pm12 an12 cd12 ct12), sl12⟩)
    (c12 : PySem.W.codeIn K cd12 "_law_same" = true)
    (k12 : PySem.W.keepIn K (.ref f12) = true)
    (a13 : PySem.W.nsIn K mainGlobals "_law_value" = some (some (.ref f13)))
    (l13 : K.lookup f13 = some ⟨oc13, od13, .func (PySem.W.fnOf "_law_value" "_law_value" (defArgs sLaw_value) (defBody sLaw_value) (defScope sLaw_value) .none kV13 dc13 pm13 an13 cd13 ct13), sl13⟩)
    (c13 : PySem.W.codeIn K cd13 "_law_value" = true)
    (k13 : PySem.W.keepIn K (.ref f13) = true)
    (a14 : PySem.W.nsIn K mainGlobals "_law_value_words" = some (some (.ref f14)))
    (l14 : K.lookup f14 = some ⟨oc14, od14, .func (PySem.W.fnOf "_law_value_words" "_law_value_words" (defArgs sLaw_value_words) (defBody sLaw_value_words) (defScope sLaw_value_words) .none kV14 dc14 pm14 an14 cd14 ct14), sl14⟩)
    (c14 : PySem.W.codeIn K cd14 "_law_value_words" = true)
    (k14 : PySem.W.keepIn K (.ref f14) = true)
    (a15 : PySem.W.nsIn K mainGlobals "_law_is_number" = some (some (.ref f15)))
    (l15 : K.lookup f15 = some ⟨oc15, od15, .func (PySem.W.fnOf "_law_is_number" "_law_is_number" (defArgs sLaw_is_number) (defBody sLaw_is_number) (defScope sLaw_is_number) .none kV15 dc15 pm15 an15 cd15 ct15), sl15⟩)
    (c15 : PySem.W.codeIn K cd15 "_law_is_number" = true)
    (k15 : PySem.W.keepIn K (.ref f15) = true)
    (a16 : PySem.W.nsIn K mainGlobals "_law_values" = some (some (.ref f16)))
    (l16 : K.lookup f16 = some ⟨oc16, od16, .func (PySem.W.fnOf "_law_values" "_law_values" (defArgs sLaw_values) (defBody sLaw_values) (defScope sLaw_values) .none kV16 dc16 pm16 an16 cd16 ct16), sl16⟩)
    (c16 : PySem.W.codeIn K cd16 "_law_values" = true)
    (k16 : PySem.W.keepIn K (.ref f16) = true)
    (a17 : PySem.W.nsIn K mainGlobals "_law_spoilt" = some (some (.ref f17)))
    (l17 : K.lookup f17 = some ⟨oc17, od17, .func (PySem.W.fnOf "_law_spoilt" "_law_spoilt" (defArgs sLaw_spoilt) (defBody sLaw_spoilt) (defScope sLaw_spoilt) .none kV17 dc17 pm17 an17 cd17 ct17), sl17⟩)
    (c17 : PySem.W.codeIn K cd17 "_law_spoilt" = true)
    (k17 : PySem.W.keepIn K (.ref f17) = true)
    (a18 : PySem.W.nsIn K mainGlobals "_law_changed" = some (some (.ref f18)))
    (l18 : K.lookup f18 = some ⟨oc18, od18, .func (PySem.W.fnOf "_law_changed" "_law_changed" (defArgs sLaw_changed) (defBody sLaw_changed) (defScope sLaw_changed) .none kV18 dc18 pm18 an18 cd18 ct18), sl18⟩)
    (c18 : PySem.W.codeIn K cd18 "_law_changed" = true)
    (k18 : PySem.W.keepIn K (.ref f18) = true)
    (a19 : PySem.W.nsIn K mainGlobals "_law_joined" = some (some (.ref f19)))
    (l19 : K.lookup f19 = some ⟨oc19, od19, .func (PySem.W.fnOf "_law_joined" "_law_joined" (defArgs sLaw_joined) (defBody sLaw_joined) (defScope sLaw_joined) .none kV19 dc19 pm19 an19 cd19 ct19), sl19⟩)
    (c19 : PySem.W.codeIn K cd19 "_law_joined" = true)
    (k19 : PySem.W.keepIn K (.ref f19) = true)
    (a20 : PySem.W.nsIn K mainGlobals "_law_menu" = some (some (.ref f20)))
    (l20 : K.lookup f20 = some ⟨oc20, od20, .func (PySem.W.fnOf "_law_menu" "_law_menu" (defArgs sLaw_menu) (defBody sLaw_menu) (defScope sLaw_menu) .none kV20 dc20 pm20 an20 cd20 ct20), sl20⟩)
    (c20 : PySem.W.codeIn K cd20 "_law_menu" = true)
    (k20 : PySem.W.keepIn K (.ref f20) = true)
    (a21 : PySem.W.nsIn K mainGlobals "_law_wrong" = some (some (.ref f21)))
    (l21 : K.lookup f21 = some ⟨oc21, od21, .func (PySem.W.fnOf "_law_wrong" "_law_wrong" (defArgs sLaw_wrong) (defBody sLaw_wrong) (defScope sLaw_wrong) .none kV21 dc21 pm21 an21 cd21 ct21), sl21⟩)
    (c21 : PySem.W.codeIn K cd21 "_law_wrong" = true)
    (k21 : PySem.W.keepIn K (.ref f21) = true)
    (a22 : PySem.W.nsIn K mainGlobals "law" = some (some (.ref f22)))
    (l22 : K.lookup f22 = some ⟨oc22, od22, .func (PySem.W.fnOf "law" "law" (defArgs sLaw) (defBody sLaw) (defScope sLaw) .none kV22 dc22 pm22 an22 cd22 ct22), sl22⟩)
    (c22 : PySem.W.codeIn K cd22 "law" = true)
    (k22 : PySem.W.keepIn K (.ref f22) = true)
    (hn_x : PySem.W.specialIn K (.builtin "object.__class__") "__get__" = some (some (.builtin "getset_descriptor.__get__")))
    (tk_x : PySem.W.takesIn K (.builtin "object.__class__") = some true)
    (xg_TalkError : PySem.W.findIn K (.ref cTalkError) "__getattribute__" = some (some (.builtin "BaseException.__getattribute__")))
    (xn_TalkError : PySem.W.findIn K (.ref cTalkError) "__getattr__" = some none)
    (xs_TalkError : PySem.W.subIn K (.ref cTalkError) (.type "BaseException") = some true)
    (xh_TalkError : PySem.W.hasDictIn K cTalkError = true)
    (xa_TalkError : PySem.W.findIn K (.ref cTalkError) "__class__" = some (some (.builtin "object.__class__")))
    (xm_TalkError : PySem.W.mroIn K cTalkError (.type "object") = some true)
    (xt_TalkError : PySem.W.typeIn K (.ref cTalkError) = some (.type "type"))
    (xk_TalkError : PySem.W.keepIn K (.ref cTalkError) = true)
    (xg_BadText : PySem.W.findIn K (.ref cBadText) "__getattribute__" = some (some (.builtin "BaseException.__getattribute__")))
    (xn_BadText : PySem.W.findIn K (.ref cBadText) "__getattr__" = some none)
    (xs_BadText : PySem.W.subIn K (.ref cBadText) (.type "BaseException") = some true)
    (xh_BadText : PySem.W.hasDictIn K cBadText = true)
    (xa_BadText : PySem.W.findIn K (.ref cBadText) "__class__" = some (some (.builtin "object.__class__")))
    (xm_BadText : PySem.W.mroIn K cBadText (.type "object") = some true)
    (xt_BadText : PySem.W.typeIn K (.ref cBadText) = some (.type "type"))
    (xk_BadText : PySem.W.keepIn K (.ref cBadText) = true)
    (xe_BadText : PySem.W.subIn K (.ref cBadText) (.ref cTalkError) = some true)
    (xl_BadText : K.lookup cBadText = some (PySem.excClassObj eq1_BadText eq2_BadText cBadText eN_BadText ebs_BadText [.ref cTalkError, .type "ValueError", .type "Exception", .type "BaseException", .type "object"] true esn_BadText esub_BadText eab_BadText ecol_BadText edd_BadText ek0_BadText ek1_BadText ek2_BadText ek3_BadText ek5_BadText "ValueError.__new__"))
    (xv_BadText : PySem.W.findIn K (.ref cBadText) "__setattr__" = some (some (.builtin "object.__setattr__")))
    (na_BadText_at : PySem.W.findIn K (.ref cBadText) "at" = some none)
    (xR_TalkError : PySem.W.readsIn K cTalkError (.type "type") = true)
    (xG_TalkError : PySem.W.specialIn K (.ref cTalkError) "__getattribute__" = some (some (.builtin "type.__getattribute__")))
    (xF_TalkError : PySem.W.findCls K (.ref cTalkError) (.type "type") "__init__" = some (.val (.builtin "ValueError.__init__")))
    (ke_t : PySem.W.kitAny K (.ref cBadText) [.ref cBadPaper, .ref cBadRatio, .ref cBadTable, .ref cBadTalk, .ref cTooLarge] = some false)
    (z_ValueError : PySem.W.nsIn K mainGlobals "ValueError" = some none)
    (z_all : PySem.W.nsIn K mainGlobals "all" = some none)
    (z_bool : PySem.W.nsIn K mainGlobals "bool" = some none)
    (z_int : PySem.W.nsIn K mainGlobals "int" = some none)
    (z_isinstance : PySem.W.nsIn K mainGlobals "isinstance" = some none)
    (z_len : PySem.W.nsIn K mainGlobals "len" = some none)
    (z_list : PySem.W.nsIn K mainGlobals "list" = some none)
    (z_range : PySem.W.nsIn K mainGlobals "range" = some none)
    (z_str : PySem.W.nsIn K mainGlobals "str" = some none)
    (z_tuple : PySem.W.nsIn K mainGlobals "tuple" = some none)
    (g_LARGEST : PySem.W.nsIn K mainGlobals "LARGEST" = some (some (.int (65535) tg_LARGEST)))
    (g__DIGITS : PySem.W.nsIn K mainGlobals "_DIGITS" = some (some (.str "0123456789" tg__DIGITS)))
    (g__OPERATORS : PySem.W.nsIn K mainGlobals "_OPERATORS" = some (some (.ref A__OPERATORS)))
    (t__OPERATORS : K.lookup A__OPERATORS = some ⟨.type "tuple", oD__OPERATORS, .seq (([.str "+" tq_OPERATORS_0, .str "-" tq_OPERATORS_1, .str "*" tq_OPERATORS_2, .str "/" tq_OPERATORS_3, .str "mod" tq_OPERATORS_4, .str "<" tq_OPERATORS_5, .str "=" tq_OPERATORS_6] : List Value).toArray) nN__OPERATORS, sS__OPERATORS⟩)
    (g__DEEPEST : PySem.W.nsIn K mainGlobals "_DEEPEST" = some (some (.int (5) tg__DEEPEST)))
    : Txt K mg cTalkError cBadText cBadPaper cBadTable cBadTalk cTooLarge cBadRatio where
  g_TalkError := PySem.W.mg_of X G aC_TalkError
  g_BadText := PySem.W.mg_of X G aC_BadText
  g_BadPaper := PySem.W.mg_of X G aC_BadPaper
  g_BadTable := PySem.W.mg_of X G aC_BadTable
  g_BadTalk := PySem.W.mg_of X G aC_BadTalk
  g_TooLarge := PySem.W.mg_of X G aC_TooLarge
  g_BadRatio := PySem.W.mg_of X G aC_BadRatio
  d_BadText_init := ⟨f1, _, fun_mk (st := sBadText_init) l1 c1 k1, a1, ty1, k1⟩
  d_words_of := ⟨f2, _, fun_mk (st := sWords_of) l2 c2 k2, PySem.W.mg_of X G a2⟩
  d_is_number := ⟨f3, _, fun_mk (st := sIs_number) l3 c3 k3, PySem.W.mg_of X G a3⟩
  d_are_digits := ⟨f4, _, fun_mk (st := sAre_digits) l4 c4 k4, PySem.W.mg_of X G a4⟩
  d_read_expression := ⟨f5, _, (⟨⟨oc5, od5, _, kV5, dc5, pm5, an5, cd5, ct5, sl5, rfl, l5, c5, .inr ⟨by simp, T5, _, _, nT5, rfl, lT5, rfl, .cons ⟨_, rfl⟩ .nil⟩, .inl rfl⟩, k5⟩ : FunD K "read_expression" "read_expression" (defArgs sRead_expression) (defBody sRead_expression) (defScope sRead_expression) [.int (5)] [] f5 _), PySem.W.mg_of X G a5⟩
  d_named := ⟨f6, _, fun_mk (st := sNamed) l6 c6 k6, PySem.W.mg_of X G a6⟩
  d_expression_text := ⟨f7, _, fun_mk (st := sExpression_text) l7 c7 k7, PySem.W.mg_of X G a7⟩
  d_read_formula := ⟨f8, _, fun_mk (st := sRead_formula) l8 c8 k8, PySem.W.mg_of X G a8⟩
  d_formula_text := ⟨f9, _, fun_mk (st := sFormula_text) l9 c9 k9, PySem.W.mg_of X G a9⟩
  d_law_pool := ⟨f10, _, fun_mk (st := sLaw_pool) l10 c10 k10, PySem.W.mg_of X G a10⟩
  d_law_draw := ⟨f11, _, fun_mk (st := sLaw_draw) l11 c11 k11, PySem.W.mg_of X G a11⟩
  d_law_same := ⟨f12, _, fun_mk (st := sLaw_same) l12 c12 k12, PySem.W.mg_of X G a12⟩
  d_law_value := ⟨f13, _, fun_mk (st := sLaw_value) l13 c13 k13, PySem.W.mg_of X G a13⟩
  d_law_value_words := ⟨f14, _, fun_mk (st := sLaw_value_words) l14 c14 k14, PySem.W.mg_of X G a14⟩
  d_law_is_number := ⟨f15, _, fun_mk (st := sLaw_is_number) l15 c15 k15, PySem.W.mg_of X G a15⟩
  d_law_values := ⟨f16, _, fun_mk (st := sLaw_values) l16 c16 k16, PySem.W.mg_of X G a16⟩
  d_law_spoilt := ⟨f17, _, fun_mk (st := sLaw_spoilt) l17 c17 k17, PySem.W.mg_of X G a17⟩
  d_law_changed := ⟨f18, _, fun_mk (st := sLaw_changed) l18 c18 k18, PySem.W.mg_of X G a18⟩
  d_law_joined := ⟨f19, _, fun_mk (st := sLaw_joined) l19 c19 k19, PySem.W.mg_of X G a19⟩
  d_law_menu := ⟨f20, _, fun_mk (st := sLaw_menu) l20 c20 k20, PySem.W.mg_of X G a20⟩
  d_law_wrong := ⟨f21, _, fun_mk (st := sLaw_wrong) l21 c21 k21, PySem.W.mg_of X G a21⟩
  d_law := ⟨f22, _, fun_mk (st := sLaw) l22 c22 k22, PySem.W.mg_of X G a22⟩
  xc_TalkError := ⟨xg_TalkError, xn_TalkError, xs_TalkError, xh_TalkError, xa_TalkError, hn_x, tk_x, xm_TalkError⟩
  xk_TalkError := xk_TalkError
  xs_TalkError := xs_TalkError
  xt_TalkError := xt_TalkError
  xc_BadText := ⟨xg_BadText, xn_BadText, xs_BadText, xh_BadText, xa_BadText, hn_x, tk_x, xm_BadText⟩
  xk_BadText := xk_BadText
  xs_BadText := xs_BadText
  xt_BadText := xt_BadText
  xe_BadText := PySem.W.exm_ref xs_TalkError xh_TalkError xt_TalkError xe_BadText
  xO_BadText := ⟨⟨_, _, _, _, _, _, _, _, _, _, _, _, _, _, _, xl_BadText, by show PySem.HandSPX.refsVE [.type "ValueError", .type "Exception", .type "BaseException", .type "object"] = true; decide +kernel⟩, xv_BadText, xs_BadText, xt_BadText, xk_BadText⟩
  na_BadText_at := na_BadText_at
  xR_TalkError := xR_TalkError
  xG_TalkError := xG_TalkError
  xF_TalkError := xF_TalkError
  ke_t := ke_t
  b_ValueError := PySem.W.mg_none_of X G z_ValueError
  b_all := PySem.W.mg_none_of X G z_all
  b_bool := PySem.W.mg_none_of X G z_bool
  b_int := PySem.W.mg_none_of X G z_int
  b_isinstance := PySem.W.mg_none_of X G z_isinstance
  b_len := PySem.W.mg_none_of X G z_len
  b_list := PySem.W.mg_none_of X G z_list
  b_range := PySem.W.mg_none_of X G z_range
  b_str := PySem.W.mg_none_of X G z_str
  b_tuple := PySem.W.mg_none_of X G z_tuple
  g_LARGEST := ⟨_, PySem.W.mg_of X G g_LARGEST⟩
  g__DIGITS := ⟨_, PySem.W.mg_of X G g__DIGITS⟩
  g__OPERATORS := ⟨_, PySem.W.mg_of X G g__OPERATORS, fun H => .inr ⟨_, _, _, t__OPERATORS, rfl, rfl, (by show 7 ≤ sizeLine; decide), .cons ⟨_, rfl⟩ (.cons ⟨_, rfl⟩ (.cons ⟨_, rfl⟩ (.cons ⟨_, rfl⟩ (.cons ⟨_, rfl⟩ (.cons ⟨_, rfl⟩ (.cons ⟨_, rfl⟩ .nil))))))⟩⟩
  g__DEEPEST := ⟨_, PySem.W.mg_of X G g__DEEPEST⟩
end

section
variable {P : Program} {w : World} {K : PySem.W.Frag} {mg : Str → Option Value} {base : Heap} {cTalkError cBadText cBadPaper cBadTable cBadTalk cTooLarge cBadRatio : Addr}

/-! ### the pool -/
theorem ok_law_pool (T : Txt K mg cTalkError cBadText cBadPaper cBadTable cBadTalk cTooLarge cBadRatio) : Fk P w K mg base 1 "_law_pool" (spO (cPool K)) [] := by
  refine Fk_of T.d_law_pool (fun _ _ _ _ _ _ us hl => match us, hl with | [_, _], _ => rfl) fun f fd F => Fun_ctO F sc_law_pool _ (fun Ps m mo m' h => by obtain ⟨ns, b, rfl, _⟩ := h; rfl) ?_
  intro cdv A outer s H E hr Ps m mo m' hS b0 Q hQ
  obtain ⟨ns, b, rfl, rfl, rfl⟩ := hS
  refine gs_retO (o_lst (aa_cons (a_ct call_list_of rc_listL T.b_list (by decide +kernel) (aa_cons (a_var 0) aa_nil)) (aa_cons a_int (aa_cons a_int (aa_cons a_int (aa_cons a_int (aa_cons (a_var 1) aa_nil))))))) ?_
  exact hQ
theorem ok_law_draw (T : Txt K mg cTalkError cBadText cBadPaper cBadTable cBadTalk cTooLarge cBadRatio) : Fk P w K mg base 1 "_law_draw" (spC (cDraw K)) [] := by
  refine Fk_of T.d_law_draw (fun _ _ _ _ _ _ us hl => match us, hl with | [_, _], _ => rfl) fun f fd F => Fun_ct F sc_law_draw _ (fun Ps m Pr m' h => by obtain ⟨i, a, p, size, rfl, _⟩ := h; rfl) ?_
  intro cdv A outer s H E hr Ps m Pr m' hS b0 Q hQ
  obtain ⟨i, a, p, size, rfl, hm, h0, hs, hp, rfl, rfl⟩ := hS
  have hl : i < m.length := (List.getElem?_eq_some_iff.mp hm).1
  show GS _ _ _ [some (R a), some (I size), none, none] _ _
  rw [← set_id hm]
  rw [← set_id hm, List.set_set] at hQ
  refine gs_ifM (fun ρ' m' => ∃ c, ρ' = [some (R a), some (I size), c, none] ∧ m' = m.set i (a, p.next.mo K)) (w_t (w_and (t_le (a_ixS hl (a_var 0) a_int) a_int) fun _ => w_and (t_le (a_ixS hl (a_var 0) a_int) a_int) fun _ => w_and1 (t_lt (a_ixS hl (a_var 0) a_int) (a_cb call_len_seq rc_lenL T.b_len PySem.boot_len (aa_cons (a_ixS hl (a_var 0) a_int) aa_nil))))) (fun h => ?_) (fun h => ?_) ?_
  · simp only [Bool.and_eq_true, decide_eq_true_eq, List.length_map] at h
    have hc : atI (p.script.map I) p.pos = some (I (p.script.getD p.pos.toNat 0)) := by
      have e : p.pos = (p.pos.toNat : Int) := by omega
      rw [e]
      refine atI_nat' ?_
      rw [List.getElem?_map, List.getElem?_eq_getElem (by omega), Option.map_some, List.getD_eq_getElem?_getD, List.getElem?_eq_getElem (by omega)] <;> rfl
    refine gs_asgG (i := 2) sc_law_draw.nd rfl (Or.inl rfl) (a_ixL (a_ixS hl (a_var 0) a_int) (a_ixS hl (a_var 0) a_int) hc) ?_
    refine gs_setS hl (a_add (a_ixS hl (a_var 0) a_int) a_int) (a_var 0) a_int rfl ?_
    refine gs_setS hl (a_mod (a_ct call_int1 rc_int T.b_int (by decide +kernel) (aa_cons (a_add (a_mul (a_ixS hl (a_var 0) a_int) a_int (Or.inr (by decide))) (a_var 2)) aa_nil)) a_int (by decide)) (a_var 0) a_int rfl ?_
    refine gs_setS hl a_int (a_var 0) a_int rfl ?_
    refine gs_when (t_ge (a_var 2) (a_pow a_int a_int ⟨by decide, by decide, by decide⟩)) (fun h2 => ?_) (fun h2 => ?_)
    · refine gs_setS hl (a_var 2) (a_var 0) a_int rfl (gs_nil (gs_nil (nx_sts ⟨_, rfl, ?_⟩)))
      simp only [decide_eq_true_eq] at h2
      have h2 : p.script.getD p.pos.toNat 0 ≥ 10 ^ 18 := h2
      unfold Pool.next
      rw [if_pos h, if_pos h2]
      rfl
    · refine gs_nil (nx_sts ⟨_, rfl, ?_⟩)
      simp only [decide_eq_false_iff_not] at h2
      have h2 : ¬ p.script.getD p.pos.toNat 0 ≥ 10 ^ 18 := h2
      unfold Pool.next
      rw [if_pos h, if_neg h2]
      rfl
  · refine gs_nil (nx_sts ⟨_, rfl, ?_⟩)
    simp only [List.length_map] at h
    have h' : ¬ (p.cur ≤ 0 ∧ p.left ≤ 0 ∧ p.pos < p.script.length) := by
      intro z
      simp [z] at h
    unfold Pool.next
    rw [if_neg h']
  · rintro ρ' m' ⟨c, rfl, rfl⟩
    generalize hq : p.next = q
    refine gs_when (t_gt (a_ixS hl (a_var 0) a_int) a_int) (fun h => ?_) (fun h => ?_)
    · simp only [decide_eq_true_eq] at h
      refine gs_asgG (i := 3) sc_law_draw.nd rfl (Or.inl rfl) (a_mod (a_ct call_int1 rc_int T.b_int (by decide +kernel) (aa_cons (a_ixS hl (a_var 0) a_int) aa_nil)) (a_var 1) h0) ?_
      refine gs_setS hl (a_fdiv (a_ixS hl (a_var 0) a_int) (a_var 1) ⟨h0, hs⟩) (a_var 0) a_int rfl ?_
      refine gs_setS hl a_int (a_var 0) a_int rfl ?_
      refine gs_ret (a_var 3) (hQ.eq ?_ ?_)
      · unfold Pool.draw
        rw [hq, if_pos h]
      · unfold Pool.draw
        rw [hq, if_pos h]
        rfl
    · simp only [decide_eq_false_iff_not] at h
      refine gs_setS hl (a_sub (a_ixS hl (a_var 0) a_int) a_int) (a_var 0) a_int rfl ?_
      refine gs_setS hl (a_mod (a_ct call_int1 rc_int T.b_int (by decide +kernel) (aa_cons (a_add (a_mul (a_ixS hl (a_var 0) a_int) a_int (Or.inr (by decide))) a_int) aa_nil)) a_int (by decide)) (a_var 0) a_int rfl ?_
      refine gs_ret (a_mod (a_mod (a_ct call_int1 rc_int T.b_int (by decide +kernel) (aa_cons (a_add (a_mul (a_ixS hl (a_var 0) a_int) a_int (Or.inr (by decide))) a_int) aa_nil)) a_int (by decide)) (a_var 1) h0) (hQ.eq ?_ ?_)
      · unfold Pool.draw
        rw [hq, if_neg h]
      · unfold Pool.draw
        rw [hq, if_neg h]
        rfl
/-! ### the comparison of data -/
theorem same_step (T : Txt K mg cTalkError cBadText cBadPaper cBadTable cBadTalk cTooLarge cBadRatio) (n : Nat) (ih : ∀ n', n = n' + 1 → Fk P w K mg base n "_law_same" (spC (cSame K n')) []) : Fk P w K mg base (n + 1) "_law_same" (spC (cSame K n)) [] := by
  refine Fk_of T.d_law_same (fun _ _ _ _ _ _ us hl => match us, hl with | [_, _], _ => rfl) fun f fd F => Fun_ct F sc_law_same _ (fun Ps m Pr m' h => by obtain ⟨d, rfl, _⟩ := h; rfl) ?_
  intro cdv A outer s H E hr Ps m Pr m' hS b0 Q hQ
  obtain ⟨d, rfl, hdp, hwd, rfl, rfl⟩ := hS
  show GS _ _ _ [some (rp K d), some (rp K d), none] _ _
  have bi : bootBuiltins "int" = some (.type "int") := by decide +kernel
  have bt : bootBuiltins "tuple" = some (.type "tuple") := by decide +kernel
  have bl : bootBuiltins "list" = some (.type "list") := by decide +kernel
  have bb : bootBuiltins "bool" = some (.type "bool") := by decide +kernel
  have bs : bootBuiltins "str" = some (.type "str") := by decide +kernel
  cases d with
  | tup xs =>
    simp only [Dt.dp] at hdp
    simp only [Dt.wd] at hwd
    obtain ⟨n', rfl⟩ : ∃ n', n = n' + 1 := ⟨n - 1, by omega⟩
    have SF := ih n' rfl
    show GS _ _ _ [some (SV.T K (rps K xs)), some (SV.T K (rps K xs)), none] _ _
    refine gs_when (w_t (w_or (u := false) (t_val (a_isi (a_var 1) tyx_T (kit_ty (by decide +kernel) : _ = some true) T.b_isinstance T.b_tuple bt)) fun h => nomatch h)) (fun _ => ?_) (fun h => nomatch h)
    refine gs_when (w_t (w_or (t_neB (a_isi (a_var 1) tyx_T (kit_ty (by decide +kernel) : _ = some true) T.b_isinstance T.b_tuple bt) (a_isi (a_var 0) tyx_T (kit_ty (by decide +kernel) : _ = some true) T.b_isinstance T.b_tuple bt)) fun _ => w_or1 (t_neB (a_isi (a_var 1) tyx_T (kit_ty (by decide +kernel) : _ = some false) T.b_isinstance T.b_list bl) (a_isi (a_var 0) tyx_T (kit_ty (by decide +kernel) : _ = some false) T.b_isinstance T.b_list bl)))) (fun h => nomatch h) (fun _ => ?_)
    refine gs_when (t_neI (a_cb call_len_seq rc_lenT T.b_len PySem.boot_len (aa_cons (a_var 0) aa_nil)) (a_cb call_len_seq rc_lenT T.b_len PySem.boot_len (aa_cons (a_var 1) aa_nil))) (fun h => by simp at h) (fun _ => ?_)
    refine gs_forR (j := 2) rfl T.b_range PassesOwn.never rfl sc_law_same.nd rfl (Or.inl rfl) (a_cb call_len_seq rc_lenT T.b_len PySem.boot_len (aa_cons (a_var 1) aa_nil)) (by rw [rps_len]; omega) (by omega)
      (fun i ρ' m2 => ∃ c, ρ' = [some (SV.T K (rps K xs)), some (SV.T K (rps K xs)), c] ∧ m2 = m') ⟨none, rfl, rfl⟩ ?_ ?_
    · rintro b1 e1 i ρ' m2 hi ⟨c, rfl, rfl⟩
      have hQ := hQ.base e1
      rw [rps_len] at hi
      have hx : xs[i]? = some xs[i] := List.getElem?_eq_getElem (by omega)
      have hp : atI (rps K xs) (i : Int) = some (rp K xs[i]) := atI_nat' (rps_get K hx)
      refine gs_when (t_not (t_val (a_call (P := B true) SF hr (by omega) (aa_cons (a_ixT (a_var 0) (a_var 2) hp) (aa_cons (a_ixT (a_var 1) (a_var 2) hp) aa_nil)) ⟨xs[i], rfl, by have := dps_get hx; omega, by have := wds_get hx; omega, rfl, rfl⟩))) (fun h => nomatch h) (fun _ => ?_)
      exact gs_nil (nx_sts ⟨_, rfl, rfl⟩)
    · rintro ρ' m2 ⟨c, rfl, rfl⟩
      exact gs_ret a_bl hQ
  | lst xs =>
    simp only [Dt.dp] at hdp
    simp only [Dt.wd] at hwd
    obtain ⟨n', rfl⟩ : ∃ n', n = n' + 1 := ⟨n - 1, by omega⟩
    have SF := ih n' rfl
    show GS _ _ _ [some (SV.L K (rps K xs)), some (SV.L K (rps K xs)), none] _ _
    refine gs_when (w_t (w_or (t_val (a_isi (a_var 1) tyx_L (kit_ty (by decide +kernel) : _ = some false) T.b_isinstance T.b_tuple bt)) fun _ => w_or1 (t_val (a_isi (a_var 1) tyx_L (kit_ty (by decide +kernel) : _ = some true) T.b_isinstance T.b_list bl)))) (fun _ => ?_) (fun h => nomatch h)
    refine gs_when (w_t (w_or (t_neB (a_isi (a_var 1) tyx_L (kit_ty (by decide +kernel) : _ = some false) T.b_isinstance T.b_tuple bt) (a_isi (a_var 0) tyx_L (kit_ty (by decide +kernel) : _ = some false) T.b_isinstance T.b_tuple bt)) fun _ => w_or1 (t_neB (a_isi (a_var 1) tyx_L (kit_ty (by decide +kernel) : _ = some true) T.b_isinstance T.b_list bl) (a_isi (a_var 0) tyx_L (kit_ty (by decide +kernel) : _ = some true) T.b_isinstance T.b_list bl)))) (fun h => nomatch h) (fun _ => ?_)
    refine gs_when (t_neI (a_cb call_len_seq rc_lenL T.b_len PySem.boot_len (aa_cons (a_var 0) aa_nil)) (a_cb call_len_seq rc_lenL T.b_len PySem.boot_len (aa_cons (a_var 1) aa_nil))) (fun h => by simp at h) (fun _ => ?_)
    refine gs_forR (j := 2) rfl T.b_range PassesOwn.never rfl sc_law_same.nd rfl (Or.inl rfl) (a_cb call_len_seq rc_lenL T.b_len PySem.boot_len (aa_cons (a_var 1) aa_nil)) (by rw [rps_len]; omega) (by omega)
      (fun i ρ' m2 => ∃ c, ρ' = [some (SV.L K (rps K xs)), some (SV.L K (rps K xs)), c] ∧ m2 = m') ⟨none, rfl, rfl⟩ ?_ ?_
    · rintro b1 e1 i ρ' m2 hi ⟨c, rfl, rfl⟩
      have hQ := hQ.base e1
      rw [rps_len] at hi
      have hx : xs[i]? = some xs[i] := List.getElem?_eq_getElem (by omega)
      have hp : atI (rps K xs) (i : Int) = some (rp K xs[i]) := atI_nat' (rps_get K hx)
      refine gs_when (t_not (t_val (a_call (P := B true) SF hr (by omega) (aa_cons (a_ixL (a_var 0) (a_var 2) hp) (aa_cons (a_ixL (a_var 1) (a_var 2) hp) aa_nil)) ⟨xs[i], rfl, by have := dps_get hx; omega, by have := wds_get hx; omega, rfl, rfl⟩))) (fun h => nomatch h) (fun _ => ?_)
      exact gs_nil (nx_sts ⟨_, rfl, rfl⟩)
    · rintro ρ' m2 ⟨c, rfl, rfl⟩
      exact gs_ret a_bl hQ
  | non =>
    show GS _ _ _ [some N, some N, none] _ _
    refine gs_when (w_t (w_or (t_val (a_isi (a_var 1) tyx_n (kit_ty (by decide +kernel) : _ = some false) T.b_isinstance T.b_tuple bt)) fun _ => w_or1 (t_val (a_isi (a_var 1) tyx_n (kit_ty (by decide +kernel) : _ = some false) T.b_isinstance T.b_list bl)))) (fun h => nomatch h) (fun _ => ?_)
    refine gs_when (w_t (w_or (u := false) (t_isN (a_var 1) a_non) fun h => by simp at h)) (fun _ => ?_) (fun h => by simp at h)
    refine gs_ret (a_and (a_eqB (a_isN (a_var 0) a_non) (a_isN (a_var 1) a_non)) fun _ => a_and (a_or (u := false) (a_isN (a_var 1) a_non) fun h => by simp at h) fun _ => a_one (a_eq (a_var 0) (a_var 1))) (hQ.eq (by simp) rfl)
  | bl b =>
    show GS _ _ _ [some (B b), some (B b), none] _ _
    refine gs_when (w_t (w_or (t_val (a_isi (a_var 1) tyx_b (kit_ty (by decide +kernel) : _ = some false) T.b_isinstance T.b_tuple bt)) fun _ => w_or1 (t_val (a_isi (a_var 1) tyx_b (kit_ty (by decide +kernel) : _ = some false) T.b_isinstance T.b_list bl)))) (fun h => nomatch h) (fun _ => ?_)
    refine gs_when (w_t (w_or (t_isN (a_var 1) a_non) fun _ => w_or1 (t_val (a_isi (a_var 1) tyx_b (kit_ty (by decide +kernel) : _ = some true) T.b_isinstance T.b_bool bb)))) (fun _ => ?_) (fun h => by simp at h)
    refine gs_ret (a_and (a_eqB (a_isN (a_var 0) a_non) (a_isN (a_var 1) a_non)) fun _ => a_and (a_or (a_isN (a_var 1) a_non) fun _ => a_one (a_isi (a_var 0) tyx_b (kit_ty (by decide +kernel) : _ = some true) T.b_isinstance T.b_bool bb)) fun _ => a_one (a_eq (a_var 0) (a_var 1))) (hQ.eq (by simp) rfl)
  | int i =>
    show GS _ _ _ [some (I i), some (I i), none] _ _
    refine gs_when (w_t (w_or (t_val (a_isi (a_var 1) tyx_i (kit_ty (by decide +kernel) : _ = some false) T.b_isinstance T.b_tuple bt)) fun _ => w_or1 (t_val (a_isi (a_var 1) tyx_i (kit_ty (by decide +kernel) : _ = some false) T.b_isinstance T.b_list bl)))) (fun h => nomatch h) (fun _ => ?_)
    refine gs_when (w_t (w_or (t_isN (a_var 1) a_non) fun _ => w_or1 (t_val (a_isi (a_var 1) tyx_i (kit_ty (by decide +kernel) : _ = some false) T.b_isinstance T.b_bool bb)))) (fun h => by simp at h) (fun _ => ?_)
    refine gs_when (t_val (a_isi (a_var 1) tyx_i (kit_ty (by decide +kernel) : _ = some true) T.b_isinstance T.b_int bi)) (fun _ => ?_) (fun h => nomatch h)
    refine gs_ret (a_and (a_isi (a_var 0) tyx_i (kit_ty (by decide +kernel) : _ = some true) T.b_isinstance T.b_int bi) fun _ => a_and (a_not (a_isi (a_var 0) tyx_i (kit_ty (by decide +kernel) : _ = some false) T.b_isinstance T.b_bool bb)) fun _ => a_one (a_eq (a_var 0) (a_var 1))) (hQ.eq (by simp) rfl)
  | str z =>
    show GS _ _ _ [some (S z), some (S z), none] _ _
    refine gs_when (w_t (w_or (t_val (a_isi (a_var 1) tyx_s (kit_ty (by decide +kernel) : _ = some false) T.b_isinstance T.b_tuple bt)) fun _ => w_or1 (t_val (a_isi (a_var 1) tyx_s (kit_ty (by decide +kernel) : _ = some false) T.b_isinstance T.b_list bl)))) (fun h => nomatch h) (fun _ => ?_)
    refine gs_when (w_t (w_or (t_isN (a_var 1) a_non) fun _ => w_or1 (t_val (a_isi (a_var 1) tyx_s (kit_ty (by decide +kernel) : _ = some false) T.b_isinstance T.b_bool bb)))) (fun h => by simp at h) (fun _ => ?_)
    refine gs_when (t_val (a_isi (a_var 1) tyx_s (kit_ty (by decide +kernel) : _ = some false) T.b_isinstance T.b_int bi)) (fun h => nomatch h) (fun _ => ?_)
    refine gs_ret (a_and (a_isi (a_var 0) tyx_s (kit_ty (by decide +kernel) : _ = some true) T.b_isinstance T.b_str bs) fun _ => a_one (a_eq (a_var 0) (a_var 1))) (hQ.eq (by simp) rfl)
theorem ok_law_same (T : Txt K mg cTalkError cBadText cBadPaper cBadTable cBadTalk cTooLarge cBadRatio) : ∀ n, Fk P w K mg base (n + 1) "_law_same" (spC (cSame K n)) []
  | 0 => same_step T 0 fun n' e => nomatch e
  | n + 1 => same_step T (n + 1) fun n' e => by cases e; exact ok_law_same T n
def cNamed (K : PySem.W.Frag) : Ct := fun Ps m P m' => ∃ (o : Str), Ps = [S o] ∧ P = (named o).rep K ∧ m' = m
theorem ok_named (T : Txt K mg cTalkError cBadText cBadPaper cBadTable cBadTalk cTooLarge cBadRatio) : Fk P w K mg base 1 "_named" (spC (cNamed K)) [] := by
  refine Fk_of T.d_named (fun _ _ _ _ _ _ us hl => match us, hl with | [_], _ => rfl) fun f fd F => Fun_ct F sc_named _ (fun Ps m Pr m' h => by obtain ⟨o, rfl, _⟩ := h; rfl) ?_
  intro cdv A outer s H E hr Ps m Pr m' hS b0 Q hQ
  obtain ⟨o, rfl, rfl, rfl⟩ := hS
  show GS _ _ _ [some (S o)] _ _
  unfold named at hQ
  refine gs_when (w_t (w_or (t_eqS (a_var 0) a_str) fun _ => w_or1 (t_eqS (a_var 0) a_str))) (fun h => ?_) (fun h => ?_)
  · simp only [Bool.or_eq_true, decide_eq_true_eq] at h
    rw [if_pos h] at hQ
    exact gs_ret (a_tup (aa_cons (a_var 0) aa_nil)) hQ
  · simp only [Bool.or_eq_false_iff, decide_eq_false_iff_not] at h
    rw [if_neg (by rintro (z | z); exact h.1 z; exact h.2 z)] at hQ
    exact gs_ret (a_tup (aa_cons a_str (aa_cons (a_var 0) aa_nil))) hQ
/-- the value: values is a dict that tells env for the names of ns -/
theorem glob_ops (T : Txt K mg cTalkError cBadText cBadPaper cBadTable cBadTalk cTooLarge cBadRatio) : ∃ a, mg "_OPERATORS" = some (.ref a) ∧ ∀ H, SqT K H a (OPS.map V.str) := T.g__OPERATORS
theorem a_opsT {X : Cx} (hX : ∃ a, X.mg "_OPERATORS" = some (.ref a) ∧ ∀ H, SqT X.K H a (OPS.map V.str)) {ρ : Rho} {m : Sto} {pos : Pos} (hg : Gl X "_OPERATORS" := by rfl) : AE X (.Name "_OPERATORS" pos) ρ m (SV.T X.K (OPS.map S)) m := by
  obtain ⟨a, h1, h2⟩ := hX
  exact (a_gref h1 hg).to fun H v e => ⟨a, _, e, h2 H, all_of V.str⟩
def cIsNum : Ct := fun Ps m P m' => ∃ (s : Str), Ps = [S s] ∧ s.length ≤ 150000 ∧ P = B (isNum s) ∧ m' = m
def cDigits : Ct := fun Ps m P m' => ∃ (s : Str), Ps = [S s] ∧ s.length ≤ 1000 ∧ P = B ((tl s).all isDig) ∧ m' = m
theorem ok_are_digits (T : Txt K mg cTalkError cBadText cBadPaper cBadTable cBadTalk cTooLarge cBadRatio) : Fk P w K mg base 1 "are_digits" (spC cDigits) [] := by
  refine Fk_of T.d_are_digits (fun _ _ _ _ _ _ us hl => match us, hl with | [_], _ => rfl) fun f fd F => Fun_ct F sc_are_digits _ (fun Ps m Pr m' h => by obtain ⟨o, rfl, _⟩ := h; rfl) ?_
  intro cdv A outer s H E hr Ps m Pr m' hS b0 Q hQ
  obtain ⟨z, rfl, hl, rfl, rfl⟩ := hS
  show GS _ _ _ [some (S z), none] _ _
  obtain ⟨tD, hD⟩ := T.g__DIGITS
  refine gs_ret (a_cb (cr_all rfl) (rc_all (bs := (List.range z.length).map fun n => isDig ((tl z).getD n 0))) T.b_all (by decide +kernel) (aa_cons ((a_lcS (own := [("digit", 1)]) (jx := 1) ⟨rfl, sc_are_digits.nd, blkOk_by (N := n_are_digits) (sc := defScope sAre_digits) (by decide +kernel), rfl, Or.inl rfl, Or.inr rfl, fun _ _ => by simp [wipe, List.set_set]⟩ (a_var 0) (fun _ => m') (fun n => B (isDig ((tl z).getD n 0))) rfl (fun _ => rfl) (by omega) (fun n q hn => fun _ _ _ _ _ => a_inS (a_var 1) (a_gstr hD))).eq (by rw [List.map_map]; rfl)) aa_nil)) (hQ.eq (congrArg B ?_) rfl)
  rw [List.all_map, len_tl]
  exact all_range isDig (tl z)
theorem ok_is_number (T : Txt K mg cTalkError cBadText cBadPaper cBadTable cBadTalk cTooLarge cBadRatio) : Fk P w K mg base 2 "is_number" (spC cIsNum) [] := by
  refine Fk_of T.d_is_number (fun _ _ _ _ _ _ us hl => match us, hl with | [_], _ => rfl) fun f fd F => Fun_ct F sc_is_number _ (fun Ps m Pr m' h => by obtain ⟨o, rfl, _⟩ := h; rfl) ?_
  intro cdv A outer s H E hr Ps m Pr m' hS b0 Q hQ
  obtain ⟨z, rfl, hl, rfl, rfl⟩ := hS
  show GS _ _ _ [some (S z)] _ _
  obtain ⟨tL, hL⟩ := T.g_LARGEST
  unfold isNum at hQ
  refine gs_when (t_not (t_leLe a_int (a_cb call_len_str (rc_lenS (s := z) (by omega)) T.b_len PySem.boot_len (aa_cons (a_var 0) aa_nil)) a_int)) (fun h => ?_) (fun h => ?_)
  · refine gs_ret a_bl (hQ.eq ?_ rfl)
    have h2 : (decide (1 ≤ z.length) && decide (z.length ≤ 5)) = false := by
      revert h
      simp
      intro q
      omega
    rw [h2] <;> rfl
  have h2 : (decide (1 ≤ z.length) && decide (z.length ≤ 5)) = true := by
    revert h
    simp
    intro q1 q2
    omega
  have h5 : z.length ≤ 5 := by
    simp only [Bool.and_eq_true, decide_eq_true_eq] at h2
    exact h2.2
  rw [h2, Bool.true_and] at hQ
  refine gs_when (t := !((tl z).all isDig)) (t_not (t_val (a_call (P := B ((tl z).all isDig)) (ok_are_digits T) hr (by omega) (aa_cons (a_var (P := S z) 0) aa_nil) ⟨z, rfl, by omega, rfl, rfl⟩))) (fun h => ?_) (fun h => ?_)
  · refine gs_ret a_bl (hQ.eq ?_ rfl)
    rw [show (tl z).all isDig = false by simpa using h] <;> rfl
  have h3 : (tl z).all isDig = true := by simpa using h
  rw [h3, Bool.true_and] at hQ
  refine gs_when (t_val (a_startswith (a_var 0) a_str)) (fun h => ?_) (fun h => ?_)
  · rw [if_pos h] at hQ
    exact gs_ret (a_eqS (a_var 0) a_str) hQ
  · rw [if_neg (by rw [h]; decide)] at hQ
    have hz : tl z ≠ [] := by
      intro e
      have : z.length = 0 := by rw [len_tl, e]; rfl
      rw [this] at h2
      revert h2
      decide
    exact gs_ret (a_le (a_ct call_int_str (fun d H vs Q _ h q => by
      match vs, h with
      | [_], .cons rfl .nil => exact ⟨z, numV z, rfl, intText_dig h3 hz (by omega), by omega, q _ H (Ex.refl _) rfl⟩ : RC _ [S z] (I (numV z))) T.b_int (by decide +kernel) (aa_cons (a_var 0) aa_nil)) (a_gint hL)) hQ
def cTxt (K : PySem.W.Frag) (n : Nat) : Ct := fun Ps m P m' => ∃ (f : Fm), Ps = [f.rep K] ∧ f.ht ≤ n ∧ n ≤ 6 ∧ f.tx ∧ P = S f.txt ∧ m' = m
theorem text_step (T : Txt K mg cTalkError cBadText cBadPaper cBadTable cBadTalk cTooLarge cBadRatio) (n : Nat) (ih : ∀ n', n = n' + 1 → Fk P w K mg base n "expression_text" (spC (cTxt K n')) []) : Fk P w K mg base (n + 1) "expression_text" (spC (cTxt K n)) [] := by
  refine Fk_of T.d_expression_text (fun _ _ _ _ _ _ us hl => match us, hl with | [_], _ => rfl) fun f fd F => Fun_ct F sc_expression_text _ (fun Ps m Pr m' h => by obtain ⟨f, rfl, _⟩ := h; rfl) ?_
  intro cdv A outer s H E hr Ps m Pr m' hS b0 Q hQ
  obtain ⟨f, rfl, hht, hn6, htx, rfl, rfl⟩ := hS
  cases f with
  | num k =>
    show GS _ _ _ [some (SV.T K [S "number", I (k : Int)]), none] _ _
    refine gs_asgG (i := 1) sc_expression_text.nd rfl (Or.inl rfl) (a_ixT (a_var 0) a_int) ?_
    refine gs_when (t_inT (a_var 1) (a_opsT (glob_ops T))) (fun h => absurd h (by decide +kernel)) (fun _ => ?_)
    refine gs_when (w_t (w_or (u := false) (t_eqS (a_var 1) a_str) fun h => absurd h (by decide +kernel))) (fun _ => ?_) (fun h => absurd h (by decide +kernel))
    exact gs_ret (a_fstr1 (a_fmtI (a_ixT (P := I (k : Int)) (a_var 0) a_int) (num_log htx))) hQ
  | var x =>
    show GS _ _ _ [some (SV.T K [S "variable", S x]), none] _ _
    refine gs_asgG (i := 1) sc_expression_text.nd rfl (Or.inl rfl) (a_ixT (a_var 0) a_int) ?_
    refine gs_when (t_inT (a_var 1) (a_opsT (glob_ops T))) (fun h => absurd h (by decide +kernel)) (fun _ => ?_)
    refine gs_when (w_t (w_or (t_eqS (a_var 1) a_str) fun _ => w_or1 (t_eqS (a_var 1) a_str))) (fun _ => ?_) (fun h => absurd h (by decide +kernel))
    have hx : x.length ≤ 10 := htx
    exact gs_ret (a_fstr1 (a_fmtS (s := x) (a_ixT (P := S x) (a_var 0) a_int) (by omega))) hQ
  | kw x =>
    show GS _ _ _ [some (SV.T K [S x]), none] _ _
    have hx : x ∉ OPS ∧ x ≠ "number" ∧ x ≠ "variable" := by
      rcases htx with rfl | rfl
      · decide +kernel
      · decide +kernel
    refine gs_asgG (i := 1) sc_expression_text.nd rfl (Or.inl rfl) (a_ixT (P := S x) (a_var 0) a_int) ?_
    refine gs_when (t_inT (a_var 1) (a_opsT (glob_ops T))) (fun h => absurd (of_decide_eq_true h) hx.1) (fun _ => ?_)
    refine gs_when (w_t (w_or (t_eqS (a_var 1) a_str) fun _ => w_or1 (t_eqS (a_var 1) a_str))) (fun h => by simp [hx.2.1, hx.2.2] at h) (fun h => ?_)
    exact gs_ret (a_var (P := S x) 1) hQ
  | op o l r =>
    simp only [Fm.ht] at hht
    obtain ⟨n', rfl⟩ : ∃ n', n = n' + 1 := ⟨n - 1, by omega⟩
    have XF := ih n' rfl
    have z := tx_len (.op o l r) htx (n := n' + 1) (by simp only [Fm.ht]; omega) hn6
    have zo := ops_len htx.1
    have zl := tx_len l htx.2.1 (n := n' + 1) (by omega) hn6
    have zr := tx_len r htx.2.2 (n := n' + 1) (by omega) hn6
    show GS _ _ _ [some (SV.T K [S o, l.rep K, r.rep K]), none] _ _
    refine gs_asgG (i := 1) sc_expression_text.nd rfl (Or.inl rfl) (a_ixT (P := S o) (a_var 0) a_int) ?_
    refine gs_when (t_inT (a_var 1) (a_opsT (glob_ops T))) (fun _ => ?_) (fun h => absurd htx.1 (of_decide_eq_false h))
    exact gs_ret (a_fstr (ss := [o, " ", l.txt, " ", r.txt]) (.cons (a_fmtS (a_var (P := S o) 1) (by omega)) (.cons a_str (.cons (a_fmtS (a_call (P := S l.txt) XF hr (by omega) (aa_cons (a_ixT (P := l.rep K) (a_var 0) a_int) aa_nil) ⟨l, rfl, by omega, by omega, htx.2.1, rfl, rfl⟩) (by omega)) (.cons a_str (.cons (a_fmtS (a_call (P := S r.txt) XF hr (by omega) (aa_cons (a_ixT (P := r.rep K) (a_var 0) a_int) aa_nil) ⟨r, rfl, by omega, by omega, htx.2.2, rfl, rfl⟩) (by omega)) .nil))))) (by
      have e1 : (" " : Str).length = 1 := by decide +kernel
      simp only [glens, e1]
      omega)) hQ
theorem ok_expression_text (T : Txt K mg cTalkError cBadText cBadPaper cBadTable cBadTalk cTooLarge cBadRatio) : ∀ n, Fk P w K mg base (n + 1) "expression_text" (spC (cTxt K n)) []
  | 0 => text_step T 0 fun n' e => nomatch e
  | n + 1 => text_step T (n + 1) fun n' e => by cases e; exact ok_expression_text T n
/-! ### what the law draws -/
def cGen (K : PySem.W.Frag) (n : Nat) : Ct := fun Ps m P m' => ∃ (i : Nat) (a : Addr) (p : Pool) (ns : List Str) (d : Nat), Ps = [R a, L K (ns.map S), I (d : Int)] ∧ m[i]? = some (a, p.mo K) ∧ 0 ≤ p.pos ∧ ns.length ≤ 1000 ∧ d ≤ n ∧ P = (gen ns d p).1.rep K ∧ m' = m.set i (a, (gen ns d p).2.mo K)
theorem gen_step (T : Txt K mg cTalkError cBadText cBadPaper cBadTable cBadTalk cTooLarge cBadRatio) (n : Nat) (ih : ∀ n', n = n' + 1 → Fk P w K mg base (n + 1) "_law_value" (spC (cGen K n')) []) : Fk P w K mg base (n + 2) "_law_value" (spC (cGen K n)) [] := by
  refine Fk_of T.d_law_value (fun _ _ _ _ _ _ us hl => match us, hl with | [_, _, _], _ => rfl) fun f fd F => Fun_ct F sc_law_value _ (fun Ps m Pr m' h => by obtain ⟨i, a, p, ns, d, rfl, _⟩ := h; rfl) ?_
  intro cdv A outer s H E hr Ps m Pr m' hS b0 Q hQ
  obtain ⟨i, a, p, ns, d, rfl, hm, hp, hns, hd, rfl, rfl⟩ := hS
  show GS _ _ _ [some (R a), some (L K (ns.map S)), some (I (d : Int)), none, none, none, none] _ _
  have DR := ok_law_draw (P := P) (w := w) (base := base) T
  have hk := Pool.draw_lt p (size := 10) (by decide)
  have p1 := Pool.draw_pos (size := 10) hp
  rw [← set_id hm]
  rw [← set_id hm, List.set_set] at hQ
  have hm2 : (m.set i (a, p.mo K))[i]? = some (a, p.mo K) := by rw [set_id hm]; exact hm
  refine gs_asgG (i := 3) sc_law_value.nd rfl (Or.inl rfl) (a_draw (size := 10) DR hr (by omega) hm (by decide) (by decide) hp (a_var 0) a_int) ?_
  refine gs_when (w_t (w_and (t_lt (a_var (P := I (p.draw 10).1) 3) a_int) fun _ => w_and1 (t_gt (a_var (P := I (d : Int)) 2) a_int))) (fun h => ?_) (fun h => ?_)
  · simp only [Bool.and_eq_true, decide_eq_true_eq] at h
    obtain ⟨d', rfl⟩ : ∃ d', d = d' + 1 := ⟨d - 1, by omega⟩
    obtain ⟨n', rfl⟩ : ∃ n', n = n' + 1 := ⟨n - 1, by omega⟩
    have GF := ih n' rfl
    rw [gen_op h.1] at hQ
    have p2 := Pool.draw_pos (size := 7) p1
    have hs := Pool.draw_lt (p.draw 10).2 (size := 7) (by decide)
    have ed : ((d' + 1 : Nat) : Int) - 1 = (d' : Int) := by omega
    refine gs_asgG (i := 4) sc_law_value.nd rfl (Or.inl rfl) (a_ixT (P := S (OPS.getD ((p.draw 10).2.draw 7).1.toNat "")) (a_tup (aa_cons a_str (aa_cons a_str (aa_cons a_str (aa_cons a_str (aa_cons a_str (aa_cons a_str (aa_cons a_str aa_nil)))))))) (a_draw (size := 7) DR hr (by omega) hm (by decide) (by decide) p1 (a_var 0) a_int) (atI_of S (xs := OPS) hs.1 (by show _ < (7 : Int); omega))) ?_
    refine gs_asgG (i := 5) sc_law_value.nd rfl (Or.inl rfl) (a_call (P := (gen ns d' ((p.draw 10).2.draw 7).2).1.rep K) (m2 := m.set i (a, (gen ns d' ((p.draw 10).2.draw 7).2).2.mo K)) GF hr (by omega) (aa_cons (a_var 0) (aa_cons (a_var 1) (aa_cons ((a_sub (a_var 2) a_int).eq (by rw [ed])) aa_nil))) ⟨i, a, ((p.draw 10).2.draw 7).2, ns, d', rfl, set_at (List.getElem?_eq_some_iff.mp hm).1, p2, hns, by omega, rfl, by rw [List.set_set]⟩ (dom_at hm)) ?_
    refine gs_ret (a_tup (aa_cons (a_var 4) (aa_cons (a_var 5) (aa_cons (a_call (P := (gen ns d' (gen ns d' ((p.draw 10).2.draw 7).2).2).1.rep K) (m2 := m.set i (a, (gen ns d' (gen ns d' ((p.draw 10).2.draw 7).2).2).2.mo K)) GF hr (by omega) (aa_cons (a_var 0) (aa_cons (a_var 1) (aa_cons ((a_sub (a_var 2) a_int).eq (by rw [ed])) aa_nil))) ⟨i, a, (gen ns d' ((p.draw 10).2.draw 7).2).2, ns, d', rfl, set_at (List.getElem?_eq_some_iff.mp hm).1, gen_pos d' p2, hns, by omega, rfl, by rw [List.set_set]⟩ (dom_at hm)) aa_nil)))) ?_
    exact hQ
  have hno : ¬ ((p.draw 10).1 < 5 ∧ 0 < d) := by
    intro z
    have : (decide ((p.draw 10).1 < 5) && decide ((0 : Int) < (d : Int))) = true := by simp; omega
    rw [this] at h
    exact absurd h (by decide)
  rw [gen_leaf hno] at hQ
  unfold genLeaf at hQ
  refine gs_when (w_t (w_and (t_lt (a_var (P := I (p.draw 10).1) 3) a_int) fun _ => w_and1 (t_gt (a_cb call_len_seq rc_lenL T.b_len PySem.boot_len (aa_cons (a_var (P := L K (ns.map S)) 1) aa_nil)) a_int))) (fun h => ?_) (fun h => ?_)
  · simp only [Bool.and_eq_true, decide_eq_true_eq, List.length_map] at h
    rw [if_pos ⟨h.1, by omega⟩] at hQ
    have hs := Pool.draw_lt (p.draw 10).2 (size := ns.length) (by omega)
    refine gs_asgG (i := 6) sc_law_value.nd rfl (Or.inl rfl) (a_ixL (P := S (ns.getD ((p.draw 10).2.draw ns.length).1.toNat "")) (a_var (P := L K (ns.map S)) 1) (a_draw (size := ns.length) DR hr (by omega) hm (by omega) (by omega) p1 (a_var 0) ((a_cb call_len_seq rc_lenL T.b_len PySem.boot_len (aa_cons (a_var (P := L K (ns.map S)) 1) aa_nil)).eq (by rw [List.length_map]))) (atI_of S hs.1 hs.2)) ?_
    unfold named at hQ
    refine gs_when (t_inT (ws := ["own", "lot"]) (a_var (P := S (ns.getD ((p.draw 10).2.draw ns.length).1.toNat "")) 6) (a_tup (aa_cons a_str (aa_cons a_str aa_nil)))) (fun h2 => ?_) (fun h2 => ?_)
    · have h2 := of_decide_eq_true h2
      simp only [List.mem_cons, List.not_mem_nil, or_false] at h2
      rw [if_pos h2] at hQ
      exact gs_ret (a_tup (aa_cons (a_var 6) aa_nil)) hQ
    · have h2 := of_decide_eq_false h2
      simp only [List.mem_cons, List.not_mem_nil, or_false] at h2
      rw [if_neg h2] at hQ
      exact gs_ret (a_tup (aa_cons a_str (aa_cons (a_var 6) aa_nil))) hQ
  · have hno2 : ¬ ((p.draw 10).1 < 8 ∧ 0 < ns.length) := by
      intro z
      have : (decide ((p.draw 10).1 < 8) && decide ((0 : Int) < ((ns.map S).length : Int))) = true := by simp; omega
      rw [this] at h
      exact absurd h (by decide)
    rw [if_neg hno2] at hQ
    have q1 := Pool.draw_pos (size := 4) p1
    have q2 := Pool.draw_pos (size := 9) q1
    have q3 := Pool.draw_pos (size := 65536) q2
    have hx := Pool.draw_lt ((((p.draw 10).2.draw 4).2.draw 9).2.draw 65536).2 (size := 3) (by decide)
    have hl := leaf_num (q := (p.draw 10).2)
    refine gs_ret (a_tup (aa_cons a_str (aa_cons (a_ixT (P := I ([((p.draw 10).2.draw 4).1, (((p.draw 10).2.draw 4).2.draw 9).1, ((((p.draw 10).2.draw 4).2.draw 9).2.draw 65536).1].getD (((((p.draw 10).2.draw 4).2.draw 9).2.draw 65536).2.draw 3).1.toNat 0)) (a_tup (aa_cons (a_draw (size := 4) DR hr (by omega) hm (by decide) (by decide) p1 (a_var 0) a_int) (aa_cons (a_draw (size := 9) DR hr (by omega) hm (by decide) (by decide) q1 (a_var 0) a_int) (aa_cons (a_draw (size := 65536) DR hr (by omega) hm (by decide) (by decide) q2 (a_var 0) a_int) aa_nil)))) (a_draw (size := 3) DR hr (by omega) hm (by decide) (by decide) q3 (a_var 0) a_int) (atI_of I (xs := [((p.draw 10).2.draw 4).1, (((p.draw 10).2.draw 4).2.draw 9).1, ((((p.draw 10).2.draw 4).2.draw 9).2.draw 65536).1]) hx.1 (by show _ < (3 : Int); omega))) aa_nil))) (hQ.eq ?_ rfl)
    simp only [Fm.rep]
    rw [Int.toNat_of_nonneg hl.2]
    rfl
theorem ok_law_value (T : Txt K mg cTalkError cBadText cBadPaper cBadTable cBadTalk cTooLarge cBadRatio) : ∀ n, Fk P w K mg base (n + 2) "_law_value" (spC (cGen K n)) []
  | 0 => gen_step T 0 fun n' e => nomatch e
  | n + 1 => gen_step T (n + 1) fun n' e => by cases e; exact ok_law_value T n
/-! ### the law's words and values -/
def cLWords (K : PySem.W.Frag) (n : Nat) : Ct := fun Ps m P m' => ∃ (f : Fm), Ps = [f.rep K] ∧ f.ht ≤ n ∧ n ≤ 6 ∧ f.tx ∧ P = Lf (f.words.map S) ∧ m' = m
theorem lwords_step (T : Txt K mg cTalkError cBadText cBadPaper cBadTable cBadTalk cTooLarge cBadRatio) (n : Nat) (ih : ∀ n', n = n' + 1 → Fk P w K mg base n "_law_value_words" (spC (cLWords K n')) []) : Fk P w K mg base (n + 1) "_law_value_words" (spC (cLWords K n)) [] := by
  refine Fk_of T.d_law_value_words (fun _ _ _ _ _ _ us hl => match us, hl with | [_], _ => rfl) fun f fd F => Fun_ct F sc_law_value_words _ (fun Ps m Pr m' h => by obtain ⟨f, rfl, _⟩ := h; rfl) ?_
  intro cdv A outer s H E hr Ps m Pr m' hS b0 Q hQ
  obtain ⟨f, rfl, hht, hn6, htx, rfl, rfl⟩ := hS
  cases f with
  | num k =>
    show GS _ _ _ [some (SV.T K [S "number", I (k : Int)])] _ _
    refine gs_when (t_lt (a_cb call_len_seq rc_lenT T.b_len PySem.boot_len (aa_cons (a_var 0) aa_nil)) a_int) (fun _ => ?_) (fun h => absurd h (by show ¬ (decide ((2 : Int) < 3)) = false; decide))
    exact gs_ret (a_lstF (aa_cons (a_ct call_str_int (rc_str (num_log htx)) T.b_str (by decide +kernel) (aa_cons (a_ixT (P := I (k : Int)) (a_var 0) (a_neg a_int)) aa_nil)) aa_nil)) hQ
  | var x =>
    show GS _ _ _ [some (SV.T K [S "variable", S x])] _ _
    refine gs_when (t_lt (a_cb call_len_seq rc_lenT T.b_len PySem.boot_len (aa_cons (a_var 0) aa_nil)) a_int) (fun _ => ?_) (fun h => absurd h (by show ¬ (decide ((2 : Int) < 3)) = false; decide))
    exact gs_ret (a_lstF (aa_cons (a_ct SkE.call_str_str rc_strS T.b_str (by decide +kernel) (aa_cons (a_ixT (P := S x) (a_var 0) (a_neg a_int)) aa_nil)) aa_nil)) hQ
  | kw x =>
    show GS _ _ _ [some (SV.T K [S x])] _ _
    refine gs_when (t_lt (a_cb call_len_seq rc_lenT T.b_len PySem.boot_len (aa_cons (a_var 0) aa_nil)) a_int) (fun _ => ?_) (fun h => absurd h (by show ¬ (decide ((1 : Int) < 3)) = false; decide))
    exact gs_ret (a_lstF (aa_cons (a_ct SkE.call_str_str rc_strS T.b_str (by decide +kernel) (aa_cons (a_ixT (P := S x) (a_var 0) (a_neg a_int)) aa_nil)) aa_nil)) hQ
  | op o l r =>
    simp only [Fm.ht] at hht
    obtain ⟨n', rfl⟩ : ∃ n', n = n' + 1 := ⟨n - 1, by omega⟩
    have XF := ih n' rfl
    have c1 := words_few l (n := n') (by omega) (by omega)
    have c2 := words_few r (n := n') (by omega) (by omega)
    show GS _ _ _ [some (SV.T K [S o, l.rep K, r.rep K])] _ _
    refine gs_when (t_lt (a_cb call_len_seq rc_lenT T.b_len PySem.boot_len (aa_cons (a_var 0) aa_nil)) a_int) (fun h => absurd h (by show ¬ (decide ((3 : Int) < 3)) = true; decide)) (fun _ => ?_)
    refine gs_ret (a_catL (a_catL (a_lstF (aa_cons (a_ixT (P := S o) (a_var 0) a_int) aa_nil)) (a_call (P := Lf (l.words.map S)) XF hr (by omega) (aa_cons (a_ixT (P := l.rep K) (a_var 0) a_int) aa_nil) ⟨l, rfl, by omega, by omega, htx.2.1, rfl, rfl⟩) (by simp; omega)) (a_call (P := Lf (r.words.map S)) XF hr (by omega) (aa_cons (a_ixT (P := r.rep K) (a_var 0) a_int) aa_nil) ⟨r, rfl, by omega, by omega, htx.2.2, rfl, rfl⟩) (by simp; omega)) (hQ.eq ?_ rfl)
    simp [Fm.words]
theorem ok_law_value_words (T : Txt K mg cTalkError cBadText cBadPaper cBadTable cBadTalk cTooLarge cBadRatio) : ∀ n, Fk P w K mg base (n + 1) "_law_value_words" (spC (cLWords K n)) []
  | 0 => lwords_step T 0 fun n' e => nomatch e
  | n + 1 => lwords_step T (n + 1) fun n' e => by cases e; exact ok_law_value_words T n
theorem ok_formula_text (T : Txt K mg cTalkError cBadText cBadPaper cBadTable cBadTalk cTooLarge cBadRatio) (n : Nat) : Fk P w K mg base (n + 2) "formula_text" (spC (cTxt K n)) [] := by
  refine Fk_of T.d_formula_text (fun _ _ _ _ _ _ us hl => match us, hl with | [_], _ => rfl) fun f fd F => Fun_ct F sc_formula_text _ (fun Ps m Pr m' h => by obtain ⟨f, rfl, _⟩ := h; rfl) ?_
  intro cdv A outer s H E hr Ps m Pr m' hS b0 Q hQ
  obtain ⟨f, rfl, hht, hn6, htx, rfl, rfl⟩ := hS
  exact gs_ret (a_call (P := S f.txt) (ok_expression_text T n) hr (by omega) (aa_cons (a_var (P := f.rep K) 0) aa_nil) ⟨f, rfl, hht, hn6, htx, rfl, rfl⟩) hQ
/-! ### the error BadText -/
def okN : V → Prop := fun v => ∃ n : Nat, v = .int (n : Int) ∧ n ≤ 1000000
theorem fx_BadText (T : Txt K mg cTalkError cBadText cBadPaper cBadTable cBadTalk cTooLarge cBadRatio) : Fx P w K mg base 1 "BadText" cBadText "at" okN := by
  obtain ⟨f, fd, F, hfi, hfn, hkp⟩ := T.d_BadText_init
  refine ⟨T.xO_BadText, T.g_BadText, T.na_BadText_at, f, fd, ["self", "at"], ?_, hfi, ?_, F.binds fun _ _ _ _ _ _ us hl => match us, hl with | [_, _], _ => rfl⟩
  · refine Fun_ctE F sc_BadText_init rfl ?_
    intro cdv A outer s H E hr a Cc y O hno hok b0 Q hb0 hq
    obtain ⟨i, rfl, hi⟩ := hok
    have hz : (numS i).length ≤ 7 := by rw [len_tl, numS_tl]; exact TL.numL_len (by omega) (by omega)
    have hlg : ((i : Int)).natAbs.log2 < 1920 := by
      have e : ((i : Int)).natAbs = i := by omega
      rw [e]
      rcases Nat.eq_zero_or_pos i with h0 | h0
      · rw [h0]; decide
      · rw [Nat.log2_lt (by omega)]
        exact Nat.lt_of_le_of_lt hi (by decide)
    show GS _ _ _ [some (R a), some (I (i : Int))] _ _
    refine gs_tinit (Cc := Cc) (Ps := [S (glue Str.empty ["the text is wrong at word ", numS i])]) T.g_TalkError T.xR_TalkError T.xG_TalkError T.xF_TalkError hb0 O (aa_cons (a_var (P := R a) 0) (aa_cons (a_fstr (.cons a_str (.cons (a_fmtI (a_var (P := I (i : Int)) 1) hlg) .nil)) ?_) aa_nil)) ?_ (by show 1 ≤ 1000; decide)
    · have e1 : ("the text is wrong at word " : Str).length ≤ 100 := by decide +kernel
      simp only [glens]
      omega
    · refine gs_ost hb0 O hno (a_var (P := I (i : Int)) 1) (a_var (P := R a) 0) ?_
      intro σ H2 y dx st ex py hdx hne
      have py : y = .int (i : Int) := py
      subst py
      exact hq H2 dx (by rw [show dom [] = [] from rfl, mask_nil] at ex; exact ex) hdx hne
  · exact hfn
/-! ### reading, with what may be wrong -/
def wordsOf (s : Str) : List Str := if s = "" then [] else Txt.split s " "
def cWordsE (K : PySem.W.Frag) : Ct := fun Ps m P m' => ∃ (s : Str), Ps = [S s] ∧ s.length ≤ 150000 ∧ P = L K ((wordsOf s).map S) ∧ m' = m
theorem ok_words_of (T : Txt K mg cTalkError cBadText cBadPaper cBadTable cBadTalk cTooLarge cBadRatio) : Fk P w K mg base 1 "words_of" (spC (cWordsE K)) [] := by
  refine Fk_of T.d_words_of (fun _ _ _ _ _ _ us hl => match us, hl with | [_], _ => rfl) fun f fd F => Fun_ct F sc_words_of _ (fun Ps m Pr m' h => by obtain ⟨o, rfl, _⟩ := h; rfl) ?_
  intro cdv A outer s H E hr Ps m Pr m' hS b0 Q hQ
  obtain ⟨z, rfl, hl, rfl, rfl⟩ := hS
  show GS _ _ _ [some (S z)] _ _
  refine gs_when (t_eqS (a_var 0) a_str) (fun h => ?_) (fun h => ?_)
  · exact gs_ret (a_lst aa_nil) (hQ.eq (by unfold wordsOf; rw [if_pos (of_decide_eq_true h)]; rfl) rfl)
  · exact gs_ret (a_split (s := z) (a_var (P := S z) 0) a_str (by decide +kernel) (by omega)) (hQ.eq (by unfold wordsOf; rw [if_neg (of_decide_eq_false h)] <;> rfl) rfl)
def outR (K : PySem.W.Frag) (cB : Addr) : Except Nat (Fm × Nat) → Oc
  | .ok (f, b) => .ret (SV.T K [f.rep K, I (b : Int)])
  | .error e => .exc (XF cB "at" (I (e : Int)))
def cReadX (K : PySem.W.Frag) (cB : Addr) (n : Nat) : CtX := fun Ps m oc m' => ∃ (ws ns : List Str) (at_ d : Nat), Ps = [L K (ws.map S), I (at_ : Int), SV.T K (ns.map S), I (d : Int)] ∧ d ≤ n ∧ 1 ≤ d ∧ at_ ≤ 200000 ∧ ws.length ≤ 200000 ∧ (∀ w ∈ ws, w.length ≤ 150000) ∧ oc = outR K cB (rd ws ns d at_) ∧ m' = m
theorem rd_bd {ws ns : List Str} : ∀ (d at_ : Nat) {f : Fm} {b : Nat}, rd ws ns d at_ = .ok (f, b) → at_ < b ∧ b ≤ ws.length
  | 0, at_, f, b, h => by unfold rd at h; cases h
  | d + 1, at_, f, b, h => by
    unfold rd at h
    cases hat : ws[at_]? with
    | none => rw [hat] at h; cases h
    | some wd =>
    rw [hat] at h
    have hlt : at_ < ws.length := (List.getElem?_eq_some_iff.mp hat).1
    simp only at h
    split at h
    · cases h; exact ⟨Nat.lt_succ_self _, hlt⟩
    split at h
    · cases h; exact ⟨Nat.lt_succ_self _, hlt⟩
    split at h
    · cases h
    split at h
    · cases h
    rename_i l b1 h1
    split at h
    · cases h
    rename_i r b2 h2
    cases h
    have i1 := rd_bd d _ h1
    have i2 := rd_bd d _ h2
    omega
theorem okN_I {i : Nat} (h : i ≤ 1000000) : ∀ H v, (I (i : Int)).p H v → okN v := fun H v p => ⟨i, p, h⟩
theorem rd_err {ws ns : List Str} : ∀ (d at_ : Nat) {e : Nat}, rd ws ns d at_ = .error e → at_ ≤ ws.length → e ≤ ws.length
  | 0, at_, e, h, hl => by unfold rd at h; cases h; exact hl
  | d + 1, at_, e, h, hl => by
    unfold rd at h
    cases hat : ws[at_]? with
    | none => rw [hat] at h; cases h; exact Nat.le_refl _
    | some wd =>
    rw [hat] at h
    have hlt : at_ < ws.length := (List.getElem?_eq_some_iff.mp hat).1
    simp only at h
    split at h
    · cases h
    split at h
    · cases h
    split at h
    · cases h; exact hl
    split at h
    · rename_i e1 h1
      cases h
      exact rd_err d _ h1 hlt
    rename_i l b1 h1
    have i1 := rd_bd d _ h1
    split at h
    · rename_i e2 h2
      cases h
      exact rd_err d _ h2 i1.2
    · cases h
theorem readx_step (T : Txt K mg cTalkError cBadText cBadPaper cBadTable cBadTalk cTooLarge cBadRatio) (n : Nat) (ih : ∀ n', n = n' + 1 → FkX P w K mg base (n + 2) "read_expression" (spX (cReadX K cBadText n')) []) : ∀ f fd, FunD K "read_expression" "read_expression" (defArgs sRead_expression) (defBody sRead_expression) (defScope sRead_expression) [.int (5)] [] f fd → FnOk P w K mg base (L2.CX P w) (n + 3) f fd ["words", "at", "names", "deepest"] (spX (cReadX K cBadText n)) := by
  intro f fd F
  refine FunD_ctX F sc_read_expression _ (fun Ps m oc m' h => by obtain ⟨ws, ns, at_, d, rfl, _⟩ := h; rfl) ?_
  intro cdv A outer s H E hr Ps m oc m' hS b0 Q hQ
  obtain ⟨ws, ns, at_, d, rfl, hdn, hd1, hat5, hws5, hw, rfl, rfl⟩ := hS
  show GS _ _ _ [some (L K (ws.map S)), some (I (at_ : Int)), some (SV.T K (ns.map S)), some (I (d : Int)), none, none, none, none] _ _
  have NM := ok_named (P := P) (w := w) (base := base) T
  have IN := ok_is_number (P := P) (w := w) (base := base) T
  have BT := fx_BadText (P := P) (w := w) (base := base) T
  obtain ⟨d, rfl⟩ : ∃ d', d = d' + 1 := ⟨d - 1, by omega⟩
  have lenE : ∀ {X : Cx}, X.K = K → (List.map S ws).length = ws.length := fun _ => List.length_map _
  cases hat : ws[at_]? with
  | none =>
    have hge : ws.length ≤ at_ := List.getElem?_eq_none_iff.mp hat
    refine gs_when (t := true) ((t_ge (a_var 1) (a_cb call_len_seq rc_lenL T.b_len PySem.boot_len (aa_cons (a_var (P := L K (ws.map S)) 0) aa_nil))).eq (decide_eq_true (by rw [List.length_map]; omega))) (fun _ => ?_) (fun h => nomatch h)
    have e : rd ws ns (d + 1) at_ = .error ws.length := by unfold rd; rw [hat]
    rw [e] at hQ
    exact gs_raiseF rfl BT hr (by omega) ((a_cb call_len_seq rc_lenL T.b_len PySem.boot_len (aa_cons (a_var (P := L K (ws.map S)) 0) aa_nil)).eq (P1 := I (ws.length : Int)) (by rw [List.length_map])) (okN_I (by omega)) hQ.exc
  | some wd =>
  have hlt : at_ < ws.length := (List.getElem?_eq_some_iff.mp hat).1
  have hwd : wd.length ≤ 150000 := hw wd (List.mem_of_getElem? hat)
  refine gs_when (t := false) ((t_ge (a_var 1) (a_cb call_len_seq rc_lenL T.b_len PySem.boot_len (aa_cons (a_var (P := L K (ws.map S)) 0) aa_nil))).eq (decide_eq_false (by rw [List.length_map]; omega))) (fun h => nomatch h) (fun _ => ?_)
  refine gs_asgG (i := 4) sc_read_expression.nd rfl (Or.inl rfl) (a_ixL (P := S wd) (a_var 0) (a_var 1) (atI_nat' (by rw [List.getElem?_map, hat] <;> rfl))) ?_
  have erd : rd ws ns (d + 1) at_ = (if wd ∈ ns then .ok (named wd, at_ + 1) else if isNum wd = true then .ok (.num (numV wd).toNat, at_ + 1) else if wd ∉ OPS ∨ d = 0 then .error at_ else match rd ws ns d (at_ + 1) with
        | .error e => .error e
        | .ok (l, b) => match rd ws ns d b with
          | .error e => .error e
          | .ok (r, b2) => .ok (.op wd l r, b2)) := by
    conv => lhs; unfold rd
    rw [hat] <;> rfl
  rw [erd] at hQ
  refine gs_when (t_inT (a_var 4) (a_var 2)) (fun h => ?_) (fun h => ?_)
  · rw [if_pos (of_decide_eq_true h)] at hQ
    exact gs_ret (a_tup (aa_cons (a_call (P := (named wd).rep K) NM hr (by omega) (aa_cons (a_var 4) aa_nil) ⟨wd, rfl, rfl, rfl⟩) (aa_cons (a_add (a_var 1) a_int) aa_nil))) (hQ.ret.eq rfl rfl)
  rw [if_neg (of_decide_eq_false h)] at hQ
  refine gs_when (t_val (a_call (P := B (isNum wd)) IN hr (by omega) (aa_cons (a_var 4) aa_nil) ⟨wd, rfl, hwd, rfl, rfl⟩)) (fun h => ?_) (fun h => ?_)
  · rw [if_pos h] at hQ
    have hd := h
    unfold isNum at hd
    simp only [Bool.and_eq_true, decide_eq_true_eq] at hd
    have hz : tl wd ≠ [] := by
      intro e
      have := hd.1.1
      rw [len_tl, e] at this
      simp at this
    have e : ((numV wd).toNat : Int) = numV wd := by unfold numV; omega
    refine gs_ret (a_tup (aa_cons (a_tup (aa_cons a_str (aa_cons (a_ct call_int_str (fun d H vs Q _ h q => by
      match vs, h with
      | [_], .cons rfl .nil => exact ⟨wd, numV wd, rfl, intText_dig hd.2.1 hz (by omega), by omega, q _ H (Ex.refl _) rfl⟩ : RC _ [S wd] (I (numV wd))) T.b_int (by decide +kernel) (aa_cons (a_var 4) aa_nil)) aa_nil))) (aa_cons (a_add (a_var 1) a_int) aa_nil))) (hQ.ret.eq ?_ rfl)
    simp only [Fm.rep, e]
    rfl
  rw [if_neg (by rw [h]; decide)] at hQ
  by_cases hop : wd ∉ OPS ∨ d = 0
  · rw [if_pos hop] at hQ
    refine gs_when (t := true) ((w_t (w_or (t_ninT (a_var 4) (a_opsT (glob_ops T))) fun _ => w_or1 (t_eqI (a_var 3) a_int))).eq (by rcases hop with h1 | h1; simp [h1]; simp [h1])) (fun _ => ?_) (fun h => nomatch h)
    exact gs_raiseF rfl BT hr (by omega) (a_var (P := I (at_ : Int)) 1) (okN_I (by omega)) hQ.exc
  rw [if_neg hop] at hQ
  have hop2 : wd ∈ OPS ∧ d ≠ 0 := by
    refine ⟨Classical.byContradiction fun z => hop (Or.inl z), fun z => hop (Or.inr z)⟩
  refine gs_when (t := false) ((w_t (w_or (t_ninT (a_var 4) (a_opsT (glob_ops T))) fun _ => w_or1 (t_eqI (a_var 3) a_int))).eq (by simp [hop2.1]; omega)) (fun h => nomatch h) (fun _ => ?_)
  obtain ⟨n', rfl⟩ : ∃ n', n = n' + 1 := ⟨n - 1, by omega⟩
  have RF := ih n' rfl
  have ed : ((d + 1 : Nat) : Int) - 1 = (d : Int) := by omega
  have ea : ((at_ : Nat) : Int) + 1 = ((at_ + 1 : Nat) : Int) := by omega
  have S1 : cReadX K cBadText n' [L K (ws.map S), I ((at_ + 1 : Nat) : Int), SV.T K (ns.map S), I (d : Int)] m' (outR K cBadText (rd ws ns d (at_ + 1))) m' := ⟨ws, ns, at_ + 1, d, rfl, by omega, by omega, by omega, hws5, hw, rfl, rfl⟩
  cases h1 : rd ws ns d (at_ + 1) with
  | error e =>
    rw [h1] at hQ S1
    exact gs_unpR rfl sc_read_expression.nd (n1 := 5) (n2 := 6) rfl rfl (Or.inl rfl) (Or.inl rfl) (ar_call (z := XF cBadText "at" (I (e : Int))) RF hr (by omega) (aa_cons (a_var 0) (aa_cons ((a_add (a_var 1) a_int).eq (by rw [ea])) (aa_cons (a_var 2) (aa_cons ((a_sub (a_var 3) a_int).eq (by rw [ed])) aa_nil)))) S1) hQ.exc
  | ok lb =>
  obtain ⟨l, b1⟩ := lb
  rw [h1] at hQ S1
  have hb1 := rd_bd d _ h1
  refine gs_unp (n1 := 5) (n2 := 6) (P1 := l.rep K) (P2 := I (b1 : Int)) rfl sc_read_expression.nd rfl rfl (Or.inl rfl) (Or.inl rfl) (a_callX (P := SV.T K [l.rep K, I (b1 : Int)]) RF hr (by omega) (aa_cons (a_var 0) (aa_cons ((a_add (a_var 1) a_int).eq (by rw [ea])) (aa_cons (a_var 2) (aa_cons ((a_sub (a_var 3) a_int).eq (by rw [ed])) aa_nil)))) S1) ?_
  have S2 : cReadX K cBadText n' [L K (ws.map S), I (b1 : Int), SV.T K (ns.map S), I (d : Int)] m' (outR K cBadText (rd ws ns d b1)) m' := ⟨ws, ns, b1, d, rfl, by omega, by omega, by omega, hws5, hw, rfl, rfl⟩
  cases h2 : rd ws ns d b1 with
  | error e =>
    simp only [h2] at hQ
    rw [h2] at S2
    exact gs_unpR rfl sc_read_expression.nd (n1 := 7) (n2 := 6) rfl rfl (Or.inl rfl) (Or.inl rfl) (ar_call (z := XF cBadText "at" (I (e : Int))) RF hr (by omega) (aa_cons (a_var 0) (aa_cons (a_var 6) (aa_cons (a_var 2) (aa_cons ((a_sub (a_var 3) a_int).eq (by rw [ed])) aa_nil)))) S2) hQ.exc
  | ok rb =>
  obtain ⟨r, b2⟩ := rb
  simp only [h2] at hQ
  rw [h2] at S2
  refine gs_unp (n1 := 7) (n2 := 6) (P1 := r.rep K) (P2 := I (b2 : Int)) rfl sc_read_expression.nd rfl rfl (Or.inl rfl) (Or.inl rfl) (a_callX (P := SV.T K [r.rep K, I (b2 : Int)]) RF hr (by omega) (aa_cons (a_var 0) (aa_cons (a_var 6) (aa_cons (a_var 2) (aa_cons ((a_sub (a_var 3) a_int).eq (by rw [ed])) aa_nil)))) S2) ?_
  exact gs_ret (a_tup (aa_cons (a_tup (aa_cons (a_var 4) (aa_cons (a_var 5) (aa_cons (a_var 7) aa_nil)))) (aa_cons (a_var 6) aa_nil))) hQ.ret

theorem FkXD_of {x qual : Str} {st : Stmt} {sp : Sp} {k : Nat} {ps : List Str} {dvs : List V} (d : ∃ f fd, FunD K x qual (defArgs st) (defBody st) (defScope st) dvs [] f fd ∧ mg x = some (.ref f)) (n j : Nat) (hd : dvs ≠ []) (hn : n + (dvs.length - j) = ps.length)
    (h : ∀ (T : Addr) (kV doc pm : Value) (an : Option Addr) (cdv ct : Value) (us its : List Value), us.length = n → its.length = dvs.length →
      ∃ k, bindArgs (PySem.W.fnOf x qual (defArgs st) (defBody st) (defScope st) (.ref T) kV doc pm an cdv ct) ⟨us, []⟩ = seqItems? (.ref T) >>= k ∧ k (some its.toArray) = pure (ps.zip (us ++ its.drop j)))
    (ok : ∀ f fd, FunD K x qual (defArgs st) (defBody st) (defScope st) dvs [] f fd → FnOk P w K mg base (L2.CX P w) k f fd ps sp) : FkX P w K mg base k x sp (dvs.drop j) := by
  obtain ⟨f, fd, F, hmg⟩ := d
  obtain ⟨ds, h1, h2⟩ := F.binds1 n j hd hn h
  exact ⟨f, fd, ps, ds, ok f fd F, hmg, F.kp, h2, h1⟩
theorem fn_readx (T : Txt K mg cTalkError cBadText cBadPaper cBadTable cBadTalk cTooLarge cBadRatio) : ∀ n, (∀ f fd, FunD K "read_expression" "read_expression" (defArgs sRead_expression) (defBody sRead_expression) (defScope sRead_expression) [.int (5)] [] f fd → FnOk P w K mg base (L2.CX P w) (n + 3) f fd ["words", "at", "names", "deepest"] (spX (cReadX K cBadText n)))
  | 0 => readx_step T 0 fun n' e => nomatch e
  | n + 1 => readx_step T (n + 1) fun n' e => by
    cases e
    exact FkXD_of (dvs := [.int 5]) T.d_read_expression 4 1 (by simp) rfl (fun _ _ _ _ _ _ _ us its h1 h2 => match us, its, h1, h2 with | [_, _, _, _], [_], _, _ => ⟨_, rfl, rfl⟩) (fn_readx T n)
theorem okx_read_expression (T : Txt K mg cTalkError cBadText cBadPaper cBadTable cBadTalk cTooLarge cBadRatio) (n : Nat) : FkX P w K mg base (n + 3) "read_expression" (spX (cReadX K cBadText n)) [.int 5] := FkXD_of (dvs := [.int 5]) T.d_read_expression 3 0 (by simp) rfl (fun _ _ _ _ _ _ _ us its h1 h2 => match us, its, h1, h2 with | [_, _, _], [_], _, _ => ⟨_, rfl, rfl⟩) (fn_readx T n)
/-- read_formula -/
def rf (s : Str) : Except Nat Fm := match rd (wordsOf s) ["a", "b"] 5 0 with
  | .error e => .error e
  | .ok (f, b) => if b < (wordsOf s).length then .error b else .ok f
def outF (K : PySem.W.Frag) (cB : Addr) : Except Nat Fm → Oc
  | .ok f => .ret (f.rep K)
  | .error e => .exc (XF cB "at" (I (e : Int)))
def cReadFX (K : PySem.W.Frag) (cB : Addr) : CtX := fun Ps m oc m' => ∃ (s : Str), Ps = [S s] ∧ s.length ≤ 150000 ∧ (wordsOf s).length ≤ 200000 ∧ (∀ w ∈ wordsOf s, w.length ≤ 150000) ∧ oc = outF K cB (rf s) ∧ m' = m
theorem okx_read_formula (T : Txt K mg cTalkError cBadText cBadPaper cBadTable cBadTalk cTooLarge cBadRatio) : FkX P w K mg base 9 "read_formula" (spX (cReadFX K cBadText)) [] := by
  obtain ⟨f, fd, F, hmg⟩ := T.d_read_formula
  refine ⟨f, fd, ["text"], [], ?_, hmg, F.kp, F.binds fun _ _ _ _ _ _ us hl => match us, hl with | [_], _ => rfl, .nil⟩
  refine Fun_ctX F sc_read_formula _ (fun Ps m oc m' h => by obtain ⟨z, rfl, _⟩ := h; rfl) ?_
  intro cdv A outer s H E hr Ps m oc m' hS b0 Q hQ
  obtain ⟨z, rfl, hz, hws, hw, rfl, rfl⟩ := hS
  show GS _ _ _ [some (S z), none, none, none] _ _
  have RX := okx_read_expression (P := P) (w := w) (base := base) T 5
  have BT := fx_BadText (P := P) (w := w) (base := base) T
  refine gs_asgG (i := 1) sc_read_formula.nd rfl (Or.inl rfl) (a_call (P := L K ((wordsOf z).map S)) (ok_words_of T) hr (by omega) (aa_cons (a_var (P := S z) 0) aa_nil) ⟨z, rfl, hz, rfl, rfl⟩) ?_
  have S1 : cReadX K cBadText 5 ([L K ((wordsOf z).map S), I ((0 : Nat) : Int), SV.T K ((["a", "b"] : List Str).map S)] ++ [V.int 5].map C) m' (outR K cBadText (rd (wordsOf z) ["a", "b"] 5 0)) m' := ⟨wordsOf z, ["a", "b"], 0, 5, rfl, by omega, by omega, by omega, hws, hw, rfl, rfl⟩
  unfold rf at hQ
  cases h : rd (wordsOf z) ["a", "b"] 5 0 with
  | error e =>
    rw [h] at hQ S1
    exact gs_unpR rfl sc_read_formula.nd (n1 := 2) (n2 := 3) rfl rfl (Or.inl rfl) (Or.inl rfl) (ar_call (z := XF cBadText "at" (I (e : Int))) RX hr (by omega) (aa_cons (a_var 1) (aa_cons a_int (aa_cons (a_tup (aa_cons a_str (aa_cons a_str aa_nil))) aa_nil))) S1) hQ.exc
  | ok fb =>
  obtain ⟨f, b⟩ := fb
  rw [h] at hQ S1
  have hb := rd_bd 5 _ h
  refine gs_unp (n1 := 2) (n2 := 3) (P1 := f.rep K) (P2 := I (b : Int)) rfl sc_read_formula.nd rfl rfl (Or.inl rfl) (Or.inl rfl) (a_callX (P := SV.T K [f.rep K, I (b : Int)]) RX hr (by omega) (aa_cons (a_var 1) (aa_cons a_int (aa_cons (a_tup (aa_cons a_str (aa_cons a_str aa_nil))) aa_nil))) S1) ?_
  by_cases hlt : b < (wordsOf z).length
  · simp only [if_pos hlt] at hQ
    refine gs_when (t := true) ((t_lt (a_var (P := I (b : Int)) 3) (a_cb call_len_seq rc_lenL T.b_len PySem.boot_len (aa_cons (a_var (P := L K ((wordsOf z).map S)) 1) aa_nil))).eq (decide_eq_true (by rw [List.length_map]; omega))) (fun _ => ?_) (fun h => nomatch h)
    exact gs_raiseF rfl BT hr (by omega) (a_var (P := I (b : Int)) 3) (okN_I (by omega)) hQ.exc
  · simp only [if_neg hlt] at hQ
    refine gs_when (t := false) ((t_lt (a_var (P := I (b : Int)) 3) (a_cb call_len_seq rc_lenL T.b_len PySem.boot_len (aa_cons (a_var (P := L K ((wordsOf z).map S)) 1) aa_nil))).eq (decide_eq_false (by rw [List.length_map]; omega))) (fun h => nomatch h) (fun _ => ?_)
    exact gs_ret (a_var (P := f.rep K) 2) hQ.ret
/-- the comparison of a number, where an exception is handled -/
def cSameI (K : PySem.W.Frag) : Ct := fun Ps m P m' => ∃ i : Int, Ps = [I i, I i] ∧ P = B true ∧ m' = m
theorem okq_same (T : Txt K mg cTalkError cBadText cBadPaper cBadTable cBadTalk cTooLarge cBadRatio) : FkQ P w K mg base 1 "_law_same" (spC (cSameI K)) := by
  refine FkQ_of T.d_law_same (fun _ _ _ _ _ _ us hl => match us, hl with | [_, _], _ => rfl) fun f fd F => Fun_ctQ F sc_law_same _ (fun Ps m Pr m' h => by obtain ⟨i, rfl, _⟩ := h; rfl) ?_
  intro cdv A out s H z Ps m Pr m' hS b0 Q hQ
  obtain ⟨i, rfl, rfl, rfl⟩ := hS
  have bi : bootBuiltins "int" = some (.type "int") := by decide +kernel
  have bt : bootBuiltins "tuple" = some (.type "tuple") := by decide +kernel
  have bl : bootBuiltins "list" = some (.type "list") := by decide +kernel
  have bb : bootBuiltins "bool" = some (.type "bool") := by decide +kernel
  show GS _ _ _ [some (I i), some (I i), none] _ _
  refine gs_when (w_t (w_or (t_val (a_isi (a_var 1) tyx_i (kit_ty (by decide +kernel) : _ = some false) T.b_isinstance T.b_tuple bt)) fun _ => w_or1 (t_val (a_isi (a_var 1) tyx_i (kit_ty (by decide +kernel) : _ = some false) T.b_isinstance T.b_list bl)))) (fun h => nomatch h) (fun _ => ?_)
  refine gs_when (w_t (w_or (t_isN (a_var 1) a_non) fun _ => w_or1 (t_val (a_isi (a_var 1) tyx_i (kit_ty (by decide +kernel) : _ = some false) T.b_isinstance T.b_bool bb)))) (fun h => by simp at h) (fun _ => ?_)
  refine gs_when (t_val (a_isi (a_var 1) tyx_i (kit_ty (by decide +kernel) : _ = some true) T.b_isinstance T.b_int bi)) (fun _ => ?_) (fun h => nomatch h)
  exact gs_ret (a_and (a_isi (a_var 0) tyx_i (kit_ty (by decide +kernel) : _ = some true) T.b_isinstance T.b_int bi) fun _ => a_and (a_not (a_isi (a_var 0) tyx_i (kit_ty (by decide +kernel) : _ = some false) T.b_isinstance T.b_bool bb)) fun _ => a_one (a_eq (a_var 0) (a_var 1))) (hQ.eq (by simp) rfl)
/-! ### the law's own reading -/
def cLIsNum : Ct := fun Ps m P m' => ∃ (s : Str), Ps = [S s, I 0, I 65535] ∧ s.length ≤ 150000 ∧ P = B (isNum s) ∧ m' = m
theorem ok_law_is_number (T : Txt K mg cTalkError cBadText cBadPaper cBadTable cBadTalk cTooLarge cBadRatio) : Fk P w K mg base 1 "_law_is_number" (spC cLIsNum) [] := by
  refine Fk_of T.d_law_is_number (fun _ _ _ _ _ _ us hl => match us, hl with | [_, _, _], _ => rfl) fun f fd F => Fun_ct F sc_law_is_number _ (fun Ps m Pr m' h => by obtain ⟨o, rfl, _⟩ := h; rfl) ?_
  intro cdv A outer s H E hr Ps m Pr m' hS b0 Q hQ
  obtain ⟨z, rfl, hl, rfl, rfl⟩ := hS
  show GS _ _ _ [some (S z), some (I 0), some (I 65535), none] _ _
  by_cases h15 : 1 ≤ z.length ∧ z.length ≤ 5
  · refine gs_when (t := false) ((t_not (t_ltLt (j := (z.length : Int)) a_int (a_cb call_len_str (rc_lenS (s := z) (by omega)) T.b_len PySem.boot_len (aa_cons (a_var 0) aa_nil)) a_int)).eq (by simp; omega)) (fun h => nomatch h) (fun _ => ?_)
    refine gs_forS (jn := 3) (z := z) PassesOwn.never rfl sc_law_is_number.nd rfl (Or.inl rfl) (a_var (P := S z) 0) (fun i ρ' m2 => (∀ k, k < i → isDig ((tl z).getD k 0) = true) ∧ ∃ c, ρ' = [some (S z), some (I 0), some (I 65535), c] ∧ m2 = m') ⟨fun k hk => absurd hk (Nat.not_lt_zero _), none, rfl, rfl⟩ ?_ ?_
    · rintro b1 e1 i ρ' m2 hi ⟨hk, c, rfl, rfl⟩
      show GS _ _ _ [some (S z), some (I 0), some (I 65535), some (S (sign z i))] _ _
      have e0 : (("0" : Str)).cps.toList = [48] := by decide +kernel
      have e9 : (("9" : Str)).cps.toList = [57] := by decide +kernel
      refine gs_when (t := !(isDig ((tl z).getD i 0))) ((t_not (t_chain op_le_str op_le_str rv_leS rv_leS (a_str (s := "0")) (a_var (P := S (sign z i)) 3) (a_str (s := "9")))).eq ?_) (fun h => ?_) (fun h => ?_)
      · rw [e0, e9]
        show (!((!decide ([(tl z).getD i 0] < [48])) && (!decide ([57] < [(tl z).getD i 0])))) = _
        rw [sign_dig]
      · have hd : isDig ((tl z).getD i 0) = false := by simpa using h
        refine gs_ret a_bl ((hQ.base e1).eq ?_ rfl)
        have : (tl z).all isDig = false := by
          rw [List.all_eq_false]
          have hi2 : i < (tl z).length := by rw [len_tl] at hi; exact hi
          refine ⟨(tl z)[i], List.getElem_mem hi2, ?_⟩
          rw [List.getD_eq_getElem?_getD, List.getElem?_eq_getElem hi2] at hd
          simpa using hd
        unfold isNum
        rw [this]
        simp
      · have hd : isDig ((tl z).getD i 0) = true := by simpa using h
        refine gs_nil (nx_sts ⟨fun k hk2 => ?_, _, rfl, rfl⟩)
        by_cases e : k = i
        · rw [e]; exact hd
        · exact hk k (by omega)
    · rintro ρ' m2 ⟨hk, c, rfl, rfl⟩
      have hd : (tl z).all isDig = true := by
        rw [← all_range isDig (tl z), List.all_eq_true]
        intro n hn
        exact hk n (by have := List.mem_range.mp hn; rw [len_tl]; exact this)
      have hz : tl z ≠ [] := by
        intro e
        have := h15.1
        rw [len_tl, e] at this
        simp at this
      have hv : numV z = (((numV z).toNat : Nat) : Int) := by unfold numV; omega
      have hint : ∀ {pos p p2 : Pos}, AE (bodyX CX0 P w K mg base n_law_is_number "_law_is_number" (defScope sLaw_is_number) f cdv A outer s H E) (.Call (.Name "int" p) [.Name "word" p2] [] pos) [some (S z), some (I 0), some (I 65535), c] m2 (I (numV z)) m2 := fun {pos p p2} => a_ct call_int_str (fun d H vs Q _ h q => by
        match vs, h with
        | [_], .cons rfl .nil => exact ⟨z, numV z, rfl, intText_dig hd hz (by omega), by omega, q _ H (Ex.refl _) rfl⟩ : RC _ [S z] (I (numV z))) T.b_int (by decide +kernel) (aa_cons (a_var 0) aa_nil)
      have hlog : (numV z).natAbs.log2 < 1920 := by
        have h5 : (tl z).length ≤ 5 := by have := h15.2; rw [len_tl] at this; exact this
        have hb : (numV z).natAbs ≤ 99999 := by
          have key : ∀ (l : List Nat) (a : Nat), l.all isDig = true → l.foldl (fun acc c => acc * 10 + (c - 48)) a + 1 ≤ (a + 1) * 10 ^ l.length := by
            intro l
            induction l with
            | nil => intro a _; simp
            | cons c l ih =>
              intro a h
              rw [List.all_cons, Bool.and_eq_true] at h
              have hc := isDig_iff.mp h.1
              have := ih (a * 10 + (c - 48)) h.2
              have h2 : (a * 10 + (c - 48) + 1) * 10 ^ l.length ≤ ((a + 1) * 10) * 10 ^ l.length := Nat.mul_le_mul_right _ (by omega)
              rw [List.foldl_cons, List.length_cons, Nat.pow_succ]
              calc _ ≤ _ := this
                _ ≤ _ := h2
                _ = _ := by rw [Nat.mul_assoc, Nat.mul_comm 10]
          have := key (tl z) 0 hd
          have hp : 10 ^ (tl z).length ≤ 10 ^ 5 := Nat.pow_le_pow_right (by decide) h5
          unfold numV
          show (((NumText.digitsVal (tl z) : Nat)) : Int).natAbs ≤ 99999
          have e : NumText.digitsVal (tl z) = (tl z).foldl (fun acc c => acc * 10 + (c - 48)) 0 := rfl
          omega
        rcases Nat.eq_zero_or_pos (numV z).natAbs with h0 | h0
        · rw [h0]; decide
        · rw [Nat.log2_lt (by omega)]
          exact Nat.lt_of_le_of_lt hb (by decide)
      refine gs_ret (a_and (a_eqS (a_ct call_str_int (rc_str hlog) T.b_str PySem.Pv.boot_str (aa_cons hint aa_nil)) (a_var (P := S z) 0)) fun _ => a_one (a_leLe (a_var (P := I 0) 1) hint (a_var (P := I 65535) 2))) (hQ.eq ?_ rfl)
      rw [← isNum_law h15.1 h15.2 hd]
      congr 2
  · have hf : isNum z = false := by
      unfold isNum
      have : (decide (1 ≤ z.length) && decide (z.length ≤ 5)) = false := by
        simp only [Bool.and_eq_false_iff, decide_eq_false_iff_not]
        omega
      rw [this]
      rfl
    refine gs_when (t := true) ((t_not (t_ltLt (j := (z.length : Int)) a_int (a_cb call_len_str (rc_lenS (s := z) (by omega)) T.b_len PySem.boot_len (aa_cons (a_var 0) aa_nil)) a_int)).eq (by simp; omega)) (fun _ => ?_) (fun h => nomatch h)
    exact gs_ret a_bl (hQ.eq (by rw [hf]) rfl)
abbrev AB : List Str := ["a", "b"]
abbrev itM (K : PySem.W.Frag) (r : Nat) : MP := SV.T K [S "value", SV.T K (AB.map S), I (r : Int)]
def cLVals (K : PySem.W.Frag) : Ct := fun Ps m P m' => ∃ (i : Nat) (l : Addr) (Ps0 : List MP) (z : Str) (r : Nat), Ps = [R l, SV.T K (AB.map S), S z, I (r : Int)] ∧ m[i]? = some (l, .lst Ps0) ∧ Ps0.length ≤ 99000 ∧ z.length ≤ 150000 ∧
  P = B (decide (z ∈ OPS ∧ 1 < r) || (decide (z ∈ AB) || isNum z)) ∧ m' = if z ∈ OPS ∧ 1 < r then m.set i (l, .lst (Ps0 ++ [itM K (r - 1), itM K (r - 1)])) else m
theorem ok_law_values (T : Txt K mg cTalkError cBadText cBadPaper cBadTable cBadTalk cTooLarge cBadRatio) : Fk P w K mg base 2 "_law_values" (spC (cLVals K)) [] := by
  refine Fk_of T.d_law_values (fun _ _ _ _ _ _ us hl => match us, hl with | [_, _, _, _], _ => rfl) fun f fd F => Fun_ct F sc_law_values _ (fun Ps m Pr m' h => by obtain ⟨i, l, p0, z, r, rfl, _⟩ := h; rfl) ?_
  intro cdv A outer s H E hr Ps m Pr m' hS b0 Q hQ
  obtain ⟨i, l, Ps0, z, r, rfl, hm, hl, hz, rfl, rfl⟩ := hS
  show GS _ _ _ [some (R l), some (SV.T K (AB.map S)), some (S z), some (I (r : Int))] _ _
  have hop : ∀ {p1 p2 : Pos} {x1}, AE (bodyX CX0 P w K mg base n_law_values "_law_values" (defScope sLaw_values) f cdv A outer s H E) (.Tuple [.Constant (.str "+") 0 p1] x1 p2) [some (R l), some (SV.T K (AB.map S)), some (S z), some (I (r : Int))] m (SV.T K [S "+"]) m := fun {p1 p2 x1} => a_tup (aa_cons a_str aa_nil)
  refine gs_when (w_t (w_and (t_inT (ws := OPS) (a_var (P := S z) 2) (a_tup (aa_cons a_str (aa_cons a_str (aa_cons a_str (aa_cons a_str (aa_cons a_str (aa_cons a_str (aa_cons a_str aa_nil))))))))) fun _ => w_and1 (t_gt (a_var (P := I (r : Int)) 3) a_int))) (fun h => ?_) (fun h => ?_)
  · have h2 : z ∈ OPS ∧ 1 < r := by
      simp only [Bool.and_eq_true, decide_eq_true_eq] at h
      exact ⟨h.1, by omega⟩
    have er : (r : Int) - 1 = ((r - 1 : Nat) : Int) := by omega
    have itE : ∀ {p1 p2 p3 p4 p5 : Pos} {x1}, AE (bodyX CX0 P w K mg base n_law_values "_law_values" (defScope sLaw_values) f cdv A outer s H E) (.Tuple [.Constant (.str "value") 0 p1, .Name "names" p2, .BinOp (.Name "room" p3) .Sub (.Constant (.int 1) 0 p4) p5] x1 p5) [some (R l), some (SV.T K (AB.map S)), some (S z), some (I (r : Int))] m (itM K (r - 1)) m → True := fun _ => trivial
    refine gs_ext (n := i) (Qs := [itM K (r - 1), itM K (r - 1)]) (a_var (P := R l) 0) (a_lstF (aa_cons (a_tup (aa_cons a_str (aa_cons (a_var (P := SV.T K (AB.map S)) 1) (aa_cons ((a_sub (a_var (P := I (r : Int)) 3) a_int).eq (by rw [er])) aa_nil)))) (aa_cons (a_tup (aa_cons a_str (aa_cons (a_var (P := SV.T K (AB.map S)) 1) (aa_cons ((a_sub (a_var (P := I (r : Int)) 3) a_int).eq (by rw [er])) aa_nil)))) aa_nil))) hm (by simp; omega) ?_ (pe_bm PySem.F.plainAttrs_list PySem.F.slot_list_extend PySem.F.type_list_extend mt_extend pcE pcA)
    refine gs_ret a_bl (hQ.eq ?_ ?_)
    · rw [decide_eq_true h2, Bool.true_or]
    · rw [if_pos h2]
  · have h2 : ¬ (z ∈ OPS ∧ 1 < r) := by
      intro q
      have : (decide (z ∈ OPS) && decide ((1 : Int) < (r : Int))) = true := by
        rw [decide_eq_true q.1, decide_eq_true (by omega)]; rfl
      rw [this] at h
      cases h
    rw [if_neg h2] at hQ
    refine gs_ret (a_or (a_inT (ws := AB) (a_var (P := S z) 2) (a_var (P := SV.T K (AB.map S)) 1)) fun _ => a_one (a_call (P := B (isNum z)) (ok_law_is_number T) hr (by omega) (aa_cons (a_var (P := S z) 2) (aa_cons a_int (aa_cons a_int aa_nil))) ⟨z, rfl, hz, rfl, rfl⟩)) (hQ.eq ?_ rfl)
    rw [decide_eq_false h2, Bool.false_or]
abbrev wrong (ws : List Str) : Option Nat := wrGo AB ws 0 [5]
def wV : Option Nat → V
  | none => .non
  | some n => .int (n : Int)
def cLWrong (K : PySem.W.Frag) : Ct := fun Ps m P m' => ∃ ws : List Str, Ps = [L K (ws.map S)] ∧ ws.length ≤ 90000 ∧ (∀ w ∈ ws, w.length ≤ 150000) ∧ P = C (wV (wrong ws)) ∧ m' = m
theorem ok_law_wrong (T : Txt K mg cTalkError cBadText cBadPaper cBadTable cBadTalk cTooLarge cBadRatio) : Fk P w K mg base 3 "_law_wrong" (spC (cLWrong K)) [] := by
  refine Fk_of T.d_law_wrong (fun _ _ _ _ _ _ us hl => match us, hl with | [_], _ => rfl) fun f fd F => Fun_ct F sc_law_wrong _ (fun Ps m Pr m' h => by obtain ⟨ws, rfl, _⟩ := h; rfl) ?_
  intro cdv A outer s H E hr Ps m Pr m' hS b0 Q hQ
  obtain ⟨ws, rfl, hl, hw, rfl, rfl⟩ := hS
  show GS _ _ _ [some (L K (ws.map S)), none, none] _ _
  have VL := ok_law_values (P := P) (w := w) (base := base) T
  refine gs_asgO (n := 1) sc_law_wrong.nd rfl (Or.inl rfl) (o_lst (Ps := [itM K 5]) (aa_cons (a_tup (aa_cons a_str (aa_cons (a_tup (aa_cons a_str (aa_cons a_str aa_nil))) (aa_cons a_int aa_nil)))) aa_nil)) fun l => ?_
  show GS _ _ _ [some (L K (ws.map S)), some (R l), none] ((l, .lst [itM K 5]) :: m') _
  have lenW : ∀ {ρ : Rho} {m : Sto} {pos p p2 : Pos}, ρ[0]? = some (some (L K (ws.map S))) → AE (bodyX CX0 P w K mg base n_law_wrong "_law_wrong" (defScope sLaw_wrong) f cdv A outer s H E) (.Call (.Name "len" p) [.Name "words" p2] [] pos) ρ m (I (ws.length : Int)) m := fun h => (a_cb call_len_seq rc_lenL T.b_len PySem.boot_len (aa_cons (a_var (P := L K (ws.map S)) 0 h) aa_nil)).eq (by rw [List.length_map])
  have lenS : ∀ {Ps : List MP} {c : Option MP} {pos p p2 : Pos}, AE (bodyX CX0 P w K mg base n_law_wrong "_law_wrong" (defScope sLaw_wrong) f cdv A outer s H E) (.Call (.Name "len" p) [.Name "stack" p2] [] pos) [some (L K (ws.map S)), some (R l), c] ((l, .lst Ps) :: m') (I (Ps.length : Int)) ((l, .lst Ps) :: m') := fun {Ps c pos p p2} => a_lenO 0 T.b_len (a_var (P := R l) 1) rfl
  refine gs_forR (j := 2) rfl T.b_range PassesOwn.never rfl sc_law_wrong.nd rfl (Or.inl rfl) (lenW rfl) (by omega) (by omega)
    (fun i ρ' m2 => ∃ (st : List Nat) (c : Option MP), wrGo AB (ws.drop i) i st = wrong ws ∧ st.length ≤ i + 1 ∧ ρ' = [some (L K (ws.map S)), some (R l), c] ∧ m2 = (l, .lst (st.reverse.map (itM K))) :: m') ⟨[5], none, rfl, by simp, rfl, rfl⟩ ?_ ?_
  · rintro b1 e1 i ρ' m2 hi ⟨st, c, hst, hsl, rfl, rfl⟩
    show GS _ _ _ [some (L K (ws.map S)), some (R l), some (I (i : Int))] _ _
    have hlt : i < ws.length := by omega
    have hdr : ws.drop i = ws[i] :: ws.drop (i + 1) := List.drop_eq_getElem_cons hlt
    have hwi : ws[i].length ≤ 150000 := hw _ (List.getElem_mem hlt)
    rw [hdr] at hst
    cases st with
    | nil =>
      have e : wrong ws = some i := hst.symm
      refine gs_when (t := true) (w_t (w_or (t := true) (u := false) ((t_eqI lenS a_int).eq (by simp)) fun h => nomatch h)) (fun _ => ?_) (fun h => nomatch h)
      exact gs_ret (P := I (i : Int)) (a_var 2) (((hQ.base e1).eq (by rw [e]; rfl) rfl).drop)
    | cons r st =>
      have hrev : ((r :: st).reverse.map (itM K)) = st.reverse.map (itM K) ++ [itM K r] := by rw [List.reverse_cons, List.map_append]; rfl
      rw [hrev]
      have hcall : ∀ {u : Bool} {m2 : Sto}, u = (decide (ws[i] ∈ OPS ∧ 1 < r) || (decide (ws[i] ∈ AB) || isNum ws[i])) → m2 = (if ws[i] ∈ OPS ∧ 1 < r then (l, .lst (st.reverse.map (itM K) ++ [itM K (r - 1), itM K (r - 1)])) :: m' else (l, .lst (st.reverse.map (itM K))) :: m') →
          cLVals K [R l, SV.T K (AB.map S), S ws[i], I (r : Int)] ((l, MO.lst (st.reverse.map (itM K))) :: m') (B u) m2 := by
        intro u m2 hu hm2
        refine ⟨0, l, st.reverse.map (itM K), ws[i], r, rfl, rfl, ?_, hwi, by rw [hu], hm2⟩
        rw [List.length_map, List.length_reverse]
        simp only [List.length_cons] at hsl
        omega
      have hargs := fun {pos : Pos} => (aa_cons (X := bodyX CX0 P w K mg base n_law_wrong "_law_wrong" (defScope sLaw_wrong) f cdv A outer s H E) (m := (l, MO.lst (st.reverse.map (itM K) ++ [itM K r])) :: m') (ρ := [some (L K (ws.map S)), some (R l), some (I (i : Int))]) (P := I (r : Int)) (m1 := (l, MO.lst (st.reverse.map (itM K))) :: m') (m2 := (l, MO.lst (st.reverse.map (itM K))) :: m') (Ps := []) (es := []) (e := .Name "at" pos))
      clear hargs
      by_cases h1 : ws[i] ∈ OPS ∧ 1 < r
      · refine gs_when (t := false) (w_t (w_orF ((t_eqI lenS a_int).eq (by simp; omega)) (w_or1 (t_not (t_val (a_call (P := B true) (m2 := (l, .lst (st.reverse.map (itM K) ++ [itM K (r - 1), itM K (r - 1)])) :: m') VL hr (by omega) (aa_cons (a_var (P := R l) 1) (aa_cons (a_tup (aa_cons a_str (aa_cons a_str aa_nil))) (aa_cons (a_ixL (P := S ws[i]) (a_var (P := L K (ws.map S)) 0) (a_var (P := I (i : Int)) 2) (atI_nat' (by rw [List.getElem?_map, List.getElem?_eq_getElem hlt]; rfl))) (aa_cons (a_ixT (P := I (r : Int)) (a_popO (P := itM K r) (n := 0) (a_var (P := R l) 1) rfl) a_int rfl) aa_nil)))) (hcall (by rw [decide_eq_true h1, Bool.true_or]) (by rw [if_pos h1])) (by rfl))))))) (fun h => nomatch h) (fun _ => ?_)
        refine gs_nil (nx_sts ⟨(r - 1) :: (r - 1) :: st, _, ?_, ?_, rfl, ?_⟩)
        · rw [← hst]
          show _ = (if ws[i] ∈ OPS ∧ 1 < r then wrGo AB (ws.drop (i + 1)) (i + 1) ((r - 1) :: (r - 1) :: st) else _)
          rw [if_pos h1]
        · simp only [List.length_cons] at hsl ⊢; omega
        · rw [List.reverse_cons, List.reverse_cons, List.append_assoc, List.map_append]; rfl
      by_cases h2 : ws[i] ∈ AB ∨ isNum ws[i] = true
      · have hb : (decide (ws[i] ∈ AB) || isNum ws[i]) = true := by rcases h2 with h | h; rw [decide_eq_true h, Bool.true_or]; rw [h, Bool.or_true]
        refine gs_when (t := false) (w_t (w_orF ((t_eqI lenS a_int).eq (by simp; omega)) (w_or1 (t_not (t_val (a_call (P := B true) (m2 := (l, .lst (st.reverse.map (itM K))) :: m') VL hr (by omega) (aa_cons (a_var (P := R l) 1) (aa_cons (a_tup (aa_cons a_str (aa_cons a_str aa_nil))) (aa_cons (a_ixL (P := S ws[i]) (a_var (P := L K (ws.map S)) 0) (a_var (P := I (i : Int)) 2) (atI_nat' (by rw [List.getElem?_map, List.getElem?_eq_getElem hlt]; rfl))) (aa_cons (a_ixT (P := I (r : Int)) (a_popO (P := itM K r) (n := 0) (a_var (P := R l) 1) rfl) a_int rfl) aa_nil)))) (hcall (by rw [hb, Bool.or_true]) (by rw [if_neg h1])) (by rfl))))))) (fun h => nomatch h) (fun _ => ?_)
        refine gs_nil (nx_sts ⟨st, _, ?_, ?_, rfl, rfl⟩)
        · rw [← hst]
          show _ = (if ws[i] ∈ OPS ∧ 1 < r then _ else if ws[i] ∈ AB ∨ isNum ws[i] = true then wrGo AB (ws.drop (i + 1)) (i + 1) st else _)
          rw [if_neg h1, if_pos h2]
        · simp only [List.length_cons] at hsl ⊢; omega
      · have hb : (decide (ws[i] ∈ AB) || isNum ws[i]) = false := by
          rw [Bool.or_eq_false_iff]
          exact ⟨decide_eq_false fun z => h2 (Or.inl z), by cases e : isNum ws[i] with | false => rfl | true => exact absurd (Or.inr e) h2⟩
        refine gs_when (t := true) (w_t (w_orF ((t_eqI lenS a_int).eq (by simp; omega)) (w_or1 (t_not (t_val (a_call (P := B false) (m2 := (l, .lst (st.reverse.map (itM K))) :: m') VL hr (by omega) (aa_cons (a_var (P := R l) 1) (aa_cons (a_tup (aa_cons a_str (aa_cons a_str aa_nil))) (aa_cons (a_ixL (P := S ws[i]) (a_var (P := L K (ws.map S)) 0) (a_var (P := I (i : Int)) 2) (atI_nat' (by rw [List.getElem?_map, List.getElem?_eq_getElem hlt]; rfl))) (aa_cons (a_ixT (P := I (r : Int)) (a_popO (P := itM K r) (n := 0) (a_var (P := R l) 1) rfl) a_int rfl) aa_nil)))) (hcall (by rw [decide_eq_false h1, hb]; rfl) (by rw [if_neg h1])) (by rfl))))))) (fun _ => ?_) (fun h => nomatch h)
        have e : wrong ws = some i := by
          rw [← hst]
          show (if ws[i] ∈ OPS ∧ 1 < r then _ else if ws[i] ∈ AB ∨ isNum ws[i] = true then _ else some i) = some i
          rw [if_neg h1, if_neg h2]
        exact gs_ret (P := I (i : Int)) (a_var 2) (((hQ.base e1).eq (by rw [e]; rfl) rfl).drop)
  · rintro ρ' m2 ⟨st, c, hst, hsl, rfl, rfl⟩
    rw [show (ws.length : Int).toNat = ws.length from Int.toNat_natCast _, List.drop_length] at hst
    cases st with
    | nil =>
      have e : wrong ws = none := hst.symm
      refine gs_when (t := false) ((t_gt lenS a_int).eq (by simp)) (fun h => nomatch h) (fun _ => ?_)
      exact gs_ret (P := N) a_non ((hQ.eq (by rw [e]; rfl) rfl).drop)
    | cons r st =>
      have e : wrong ws = some ws.length := hst.symm
      refine gs_when (t := true) ((t_gt lenS a_int).eq (by simp)) (fun _ => ?_) (fun h => nomatch h)
      exact gs_ret (P := I (ws.length : Int)) (lenW rfl) ((hQ.eq (by rw [e]; rfl) rfl).drop)
/-! ### what the law draws, as far as it matters -/
def cGenA (K : PySem.W.Frag) : Ct := fun Ps m P m' => ∃ (i : Nat) (a : Addr), Ps = [R a, L K (AB.map S), I 5] ∧ m[i]? = some (a, pm K) ∧ P = EX (fun f : Fm => f.ht ≤ 6 ∧ f.tx) (fun f => f.rep K) ∧ m' = m
theorem okA_value (T : Txt K mg cTalkError cBadText cBadPaper cBadTable cBadTalk cTooLarge cBadRatio) : Fk P w K mg base 7 "_law_value" (spC (cGenA K)) [] := (ok_law_value T 5).imp (by
  rintro vs H Q E ⟨Ps, m, P, m', ⟨i, a, rfl, hm, rfl, rfl⟩, hd, all, own, q⟩
  obtain ⟨p, hp, own2⟩ := own.pmO hm
  have hl : i < m'.length := (List.getElem?_eq_some_iff.mp hm).1
  have ed : dom (m'.set i (a, p.mo K)) = dom m' := dom_put hm
  refine ⟨[R a, L K (AB.map S), I ((5 : Nat) : Int)], m'.set i (a, p.mo K), (gen AB 5 p).1.rep K, m'.set i (a, (gen AB 5 p).2.mo K), ⟨i, a, p, AB, 5, rfl, set_at hl, hp, by decide, by decide, rfl, by rw [List.set_set]⟩, dom_at hm, by rw [ed]; exact all, own2, fun v H' n o pv => ?_⟩
  rw [ed] at pv
  have hg := gen_good (ns := AB) (by decide +kernel) 5 p
  exact q v H' (by have n2 := n; unfold Nxt at n2 ⊢; rw [ed] at n2; exact n2) (o.pmC hm (gen_pos 5 hp)) ⟨_, ⟨gen_ht 5 p, hg.2⟩, pv⟩)
def cLWordsA (K : PySem.W.Frag) : Ct := fun Ps m P m' => Ps = [EX (fun f : Fm => f.ht ≤ 6 ∧ f.tx) (fun f => f.rep K)] ∧ P = WD K 64 10 ∧ m' = m
theorem okA_value_words (T : Txt K mg cTalkError cBadText cBadPaper cBadTable cBadTalk cTooLarge cBadRatio) : Fk P w K mg base 7 "_law_value_words" (spC (cLWordsA K)) [] := (ok_law_value_words T 6).imp (by
  rintro vs H Q E ⟨Ps, m, P, m', ⟨rfl, rfl, rfl⟩, hd, all, own, q⟩
  match vs, all with
  | [_], .cons ⟨f, ⟨hh, ht⟩, pf⟩ .nil =>
    refine ⟨[f.rep K], m', Lf (f.words.map S), m', ⟨f, rfl, hh, by decide, ht, rfl, rfl⟩, rfl, .cons pf .nil, own, fun v H' n o pv => q v H' n o ⟨f.words, ⟨words_few f hh (by decide), words_len f ht⟩, Lf.L _ _ pv⟩⟩)
def cMenu (K : PySem.W.Frag) : Ct := fun Ps m P m' => ∃ (i : Nat) (a : Addr), Ps = [R a] ∧ m[i]? = some (a, pm K) ∧ P = EX (fun w : Str => w.length ≤ 10) S ∧ m' = m
def MEN1 : List Str := ["rows", "columns", "var", "set", "first", "second", "if", "else", "end", "own", "lot", "mod", "+", "<", "=", "a", "b"]
def MEN2 : List Str := ["x", "y", "0", "1", "2", "4", "5", "8", "9", "65535", "65536", "", "?", "01", "00", "+1", "1_0", "-0", "x1", "X"]
def MEN3 : List Str := ["abcdefgh", "abcdefghi", "ended", "100000", "c", "d", "z", "Rows", "FIRST"]
theorem men_len : ∀ w ∈ MEN1 ++ MEN2 ++ MEN3, w.length ≤ 10 := by decide +kernel
theorem ok_law_menu (T : Txt K mg cTalkError cBadText cBadPaper cBadTable cBadTalk cTooLarge cBadRatio) : Fk P w K mg base 2 "_law_menu" (spC (cMenu K)) [] := by
  refine Fk_of T.d_law_menu (fun _ _ _ _ _ _ us hl => match us, hl with | [_], _ => rfl) fun f fd F => Fun_ct F sc_law_menu _ (fun Ps m Pr m' h => by obtain ⟨i, a, rfl, _⟩ := h; rfl) ?_
  intro cdv A outer s H E hr Ps m Pr m' hS b0 Q hQ
  obtain ⟨i, a, rfl, hm, rfl, rfl⟩ := hS
  show GS _ _ _ [some (R a), none] _ _
  have DA := drawA_of (ok_law_draw (P := P) (w := w) (base := base) T)
  have H1 : ∃ p e p2, (defBody sLaw_menu).getD 0 (.Pass ⟨0, 0, 0, 0⟩) = .Assign [.Name "words" p] e p2 ∧ AE (bodyX CX0 P w K mg base n_law_menu "_law_menu" (defScope sLaw_menu) f cdv A outer s H E) e [some (R a), none] m' (Lf (MEN1.map S)) m' ∧ swapsWith e (some (.Name "words" p)) p2.line (bodyX CX0 P w K mg base n_law_menu "_law_menu" (defScope sLaw_menu) f cdv A outer s H E).env = pure false := ⟨_, _, _, rfl, a_lstF (aa_strs (ws := MEN1) (by rfl)) (by rw [List.length_map]; decide), rfl⟩
  have H2 : ∃ p e p2, (defBody sLaw_menu).getD 1 (.Pass ⟨0, 0, 0, 0⟩) = .Assign [.Name "words" p] e p2 ∧ AE (bodyX CX0 P w K mg base n_law_menu "_law_menu" (defScope sLaw_menu) f cdv A outer s H E) e [some (R a), some (Lf (MEN1.map S))] m' (Lf ((MEN1 ++ MEN2).map S)) m' ∧ swapsWith e (some (.Name "words" p)) p2.line (bodyX CX0 P w K mg base n_law_menu "_law_menu" (defScope sLaw_menu) f cdv A outer s H E).env = pure false := ⟨_, _, _, rfl, (a_catL (a_var (P := Lf (MEN1.map S)) 1) (a_lstF (aa_strs (ws := MEN2) (by rfl)) (by rw [List.length_map]; decide)) (by rw [List.length_map, List.length_map]; decide)).eq (by rw [List.map_append]), rfl⟩
  have H3 : ∃ p e p2, (defBody sLaw_menu).getD 2 (.Pass ⟨0, 0, 0, 0⟩) = .Assign [.Name "words" p] e p2 ∧ AE (bodyX CX0 P w K mg base n_law_menu "_law_menu" (defScope sLaw_menu) f cdv A outer s H E) e [some (R a), some (Lf ((MEN1 ++ MEN2).map S))] m' (Lf ((MEN1 ++ MEN2 ++ MEN3).map S)) m' ∧ swapsWith e (some (.Name "words" p)) p2.line (bodyX CX0 P w K mg base n_law_menu "_law_menu" (defScope sLaw_menu) f cdv A outer s H E).env = pure false := ⟨_, _, _, rfl, (a_catL (a_var (P := Lf ((MEN1 ++ MEN2).map S)) 1) (a_lstF (aa_strs (ws := MEN3) (by rfl)) (by rw [List.length_map]; decide)) (by rw [List.length_map, List.length_map]; decide)).eq (by rw [← List.map_append]), rfl⟩
  show GS _ ((defBody sLaw_menu).getD 0 (.Pass ⟨0, 0, 0, 0⟩) :: (defBody sLaw_menu).getD 1 (.Pass ⟨0, 0, 0, 0⟩) :: (defBody sLaw_menu).getD 2 (.Pass ⟨0, 0, 0, 0⟩) :: (defBody sLaw_menu).drop 3) _ [some (R a), none] _ _
  generalize (defBody sLaw_menu).getD 0 (.Pass ⟨0, 0, 0, 0⟩) = t1 at H1 ⊢
  generalize (defBody sLaw_menu).getD 1 (.Pass ⟨0, 0, 0, 0⟩) = t2 at H2 ⊢
  generalize (defBody sLaw_menu).getD 2 (.Pass ⟨0, 0, 0, 0⟩) = t3 at H3 ⊢
  refine gs_asgV (i := 1) H1 sc_law_menu.nd rfl (Or.inl rfl) (by first | exact .inl rfl | exact .inr rfl) ?_
  refine gs_asgV (i := 1) H2 sc_law_menu.nd rfl (Or.inl rfl) (by first | exact .inl rfl | exact .inr rfl) ?_
  refine gs_asgV (i := 1) H3 sc_law_menu.nd rfl (Or.inl rfl) (by first | exact .inl rfl | exact .inr rfl) ?_
  generalize hM : MEN1 ++ MEN2 ++ MEN3 = M
  have hMl := men_len
  rw [hM] at hMl
  have hlen : M.length = 46 := by rw [← hM]; decide
  show GS _ _ _ [some (R a), some (Lf (M.map S))] _ _
  refine gs_ret ((a_ixLE (ws := M) (G := S) ((a_var (P := Lf (M.map S)) 1).to Lf.L) ((a_drawA (size := 46) DA hr (by omega) (by decide) (by decide) (a_var (P := R a) 0) ((a_cb call_len_seq rc_lenL T.b_len PySem.boot_len (aa_cons ((a_var (P := Lf (M.map S)) 1).to Lf.L) aa_nil)).eq (by rw [List.length_map, hlen]; rfl)) hm).to ?_)).to ?_) hQ
  · rintro H v ⟨d, ⟨h1, h2⟩, e⟩
    exact ⟨d, ⟨h1, by rw [hlen]; exact h2⟩, e⟩
  · rintro H v ⟨w, hw, e⟩
    exact ⟨w, hMl w hw, e⟩
/-! ### how long slices are -/
theorem sIdx_hi {l : Option Int} {n : Nat} {i : Int} (h : (n : Int) ≤ i) : Builtin.Str.strSliceIndices l (some i) 1 n = Builtin.Str.strSliceIndices l (some (n : Int)) 1 n := by
  have h0 : ¬ i < 0 := by omega
  have h1 : ¬ ((n : Int) < 0) := by omega
  have h2 : (1 : Int) > 0 := by decide
  simp only [Builtin.Str.strSliceIndices, h0, h1, h2, if_false, if_true, Int.min_eq_right h, Int.min_self]
theorem sl_toL {z : Str} : z.cps.toList.length = z.length := by simp [Str.length]
theorem slice_b {z : Str} {i j : Int} (h0 : 0 ≤ i) (hij : i ≤ j) (hj : j ≤ z.length) : (Txt.slice z (some i) (some j)).length ≤ (j - i).toNat := by
  have e := beq_iff_eq.mp (PyProof.Rows.slice_closesL (x := z) h0 hij hj)
  rw [e]
  show (((z.cps.toList.drop i.toNat).take (j - i).toNat).toArray).size ≤ _
  rw [List.size_toArray, List.length_take]
  omega
theorem slice_two {z : Str} {i j : Int} (h0 : 0 ≤ i) (hij : i ≤ j) (hi : i ≤ z.length) : (Txt.slice z (some i) (some j)).length ≤ (j - i).toNat := by
  by_cases hj : j ≤ z.length
  · exact slice_b h0 hij hj
  · have e2 : Txt.slice z (some i) (some j) = Txt.slice z (some i) (some (z.length : Int)) := by
      unfold Txt.slice
      rw [sIdx_hi (by omega)]
    rw [e2]
    exact Nat.le_trans (slice_b h0 hi (Int.le_refl _)) (by omega)
theorem slice_to {z : Str} {j : Int} (h0 : 0 ≤ j) (hj : j ≤ z.length) : (Txt.slice z none (some j)).length ≤ j.toNat := by
  have e := beq_iff_eq.mp (PyProof.Rows.slice_closes_toL (x := z) h0 hj)
  rw [e]
  show (((z.cps.toList.drop (0 : Int).toNat).take (j - 0).toNat).toArray).size ≤ _
  rw [List.size_toArray, List.length_take]
  omega
theorem slice_fr {z : Str} {i : Int} (h0 : 0 ≤ i) (hi : i ≤ z.length) : (Txt.slice z (some i) none).length ≤ z.length - i.toNat := by
  have e := beq_iff_eq.mp (PyProof.Rows.slice_closes_fromL (x := z) (b := (z.length : Int)) h0 hi rfl)
  rw [e]
  show (((z.cps.toList.drop i.toNat).take ((z.length : Int) - i).toNat).toArray).size ≤ _
  rw [List.size_toArray, List.length_take]
  omega
/-- a draw below the length of a list, known by its words -/
theorem in_len {n : Nat} : ∀ H v, (In 0 (n : Int)).p H v → (EX (fun i : Int => 0 ≤ i ∧ i < n) I).p H v := fun _ _ h => h
theorem upper1 {z : Str} {k : Nat} (h : z.length ≤ k) : (Txt.upper z).length ≤ 3 * k := by
  have := len_upper z
  omega
def SIGNS : Str := "!#$&()*+,-./0123456789:;<=>?@ABXYZ[]^_`{|}~abcdefgnostuwxyz'"
theorem signs_len : SIGNS.length = 60 := by decide +kernel
def cSpoilt (K : PySem.W.Frag) : Ct := fun Ps m P m' => ∃ (i : Nat) (a : Addr) (ws : List Str) (n k : Nat), Ps = [R a, L K (ws.map S)] ∧ m[i]? = some (a, pm K) ∧ ws.length ≤ n ∧ (∀ w ∈ ws, w.length ≤ k) ∧ n ≤ 1000 ∧ k ≤ 2000 ∧ P = WD K n (3 * k + 3) ∧ m' = m
theorem ok_law_spoilt (T : Txt K mg cTalkError cBadText cBadPaper cBadTable cBadTalk cTooLarge cBadRatio) : Fk P w K mg base 2 "_law_spoilt" (spC (cSpoilt K)) [] := by
  refine Fk_of T.d_law_spoilt (fun _ _ _ _ _ _ us hl => match us, hl with | [_, _], _ => rfl) fun f fd F => Fun_ct F sc_law_spoilt _ (fun Ps m Pr m' h => by obtain ⟨i, a, ws, n, k, rfl, _⟩ := h; rfl) ?_
  intro cdv A outer s H E hr Ps m Pr m' hS b0 Q hQ
  obtain ⟨i, a, ws, n, k, rfl, hm, hn, hk, hn1, hk1, rfl, rfl⟩ := hS
  show GS _ _ _ [some (R a), some (L K (ws.map S)), none, none, none, none, none, none] _ _
  have DA := drawA_of (ok_law_draw (P := P) (w := w) (base := base) T)
  by_cases h0 : ws.length = 0
  · refine gs_when (t := true) ((t_eqI (a_cb call_len_seq rc_lenL T.b_len PySem.boot_len (aa_cons (a_var (P := L K (ws.map S)) 1) aa_nil)) a_int).eq (decide_eq_true (by rw [List.length_map]; omega))) (fun _ => ?_) (fun h => nomatch h)
    refine gs_ret ((a_var (P := L K (ws.map S)) 1).to (ex_in (F := fun ws : List Str => L K (ws.map S)) ⟨hn, fun w hw => ?_⟩)) hQ
    have := hk w hw
    omega
  · refine gs_when (t := false) ((t_eqI (a_cb call_len_seq rc_lenL T.b_len PySem.boot_len (aa_cons (a_var (P := L K (ws.map S)) 1) aa_nil)) a_int).eq (decide_eq_false (by rw [List.length_map]; omega))) (fun h => nomatch h) (fun _ => ?_)
    refine gs_asgG (i := 2) sc_law_spoilt.nd rfl (Or.inl rfl) (a_drawA (size := (ws.length : Int)) DA hr (by omega) (by omega) (by omega) (a_var (P := R a) 0) ((a_cb call_len_seq rc_lenL T.b_len PySem.boot_len (aa_cons (a_var (P := L K (ws.map S)) 1) aa_nil)).eq (by rw [List.length_map])) hm) ?_
    refine Go.openE 2 rfl fun place hp => ?_
    refine gs_asgG (i := 3) sc_law_spoilt.nd rfl (Or.inl rfl) (a_ixL (P := S (ws.getD place.toNat "")) (a_var (P := L K (ws.map S)) 1) (a_var (P := I place) 2) (atI_of S hp.1 hp.2)) ?_
    have hz : (ws.getD place.toNat "").length ≤ k := hk _ (getD_mem (by omega))
    generalize ws.getD place.toNat "" = z at hz
    refine gs_asgG (i := 4) sc_law_spoilt.nd rfl (Or.inl rfl) (a_drawA (size := (z.length : Int) + 1) DA hr (by omega) (by omega) (by omega) (a_var (P := R a) 0) (a_add (a_cb call_len_str (rc_lenS (s := z) (by omega)) T.b_len PySem.boot_len (aa_cons (a_var (P := S z) 3) aa_nil)) a_int) hm) ?_
    refine Go.openE 4 rfl fun at_ ha => ?_
    refine gs_asgG (i := 5) sc_law_spoilt.nd rfl (Or.inl rfl) (a_drawA (size := 4) DA hr (by omega) (by omega) (by omega) (a_var (P := R a) 0) a_int hm) ?_
    refine Go.openE 5 rfl fun way hw => ?_
    show GS _ _ _ [some (R a), some (L K (ws.map S)), some (I place), some (S z), some (I at_), some (I way), none, none] _ _
    have sl : ∀ (z : Str) (lo hi : Option Int), (Txt.slice z lo hi).length ≤ z.length := fun z lo hi => Txt.slice_le z lo hi
    have fin : ∀ {D : Ends} {c6 c7 : Option MP} {y : Str}, D.rt = Q → y.length ≤ 3 * k + 3 → GS (bodyX CX0 P w K mg base n_law_spoilt "_law_spoilt" (defScope sLaw_spoilt) f cdv A outer s H E) ((defBody sLaw_spoilt).drop 6) D [some (R a), some (L K (ws.map S)), some (I place), some (S y), some (I at_), some (I way), c6, c7] m' b0 := by
      intro D c6 c7 y hD hy
      refine gs_ret (((a_catL (a_catL (a_sliceL (a_var (P := L K (ws.map S)) 1) .none (.some (a_var (P := I place) 2))) (a_lstF (aa_cons (a_var (P := S y) 3) aa_nil)) ?_) (a_sliceL (a_var (P := L K (ws.map S)) 1) (.some (a_add (a_var (P := I place) 2) a_int)) .none) ?_).to (Lf.L (K := K))).to (P1 := WD K n (3 * k + 3)) ?_) (by rw [hD]; exact hQ)
      · have := cut_len (ws.map S) none (some place)
        rw [List.length_map] at this
        simp only [List.length_cons, List.length_nil]
        omega
      · have h1 := cut_len (ws.map S) none (some place)
        have h2 := cut_len (ws.map S) (some (place + 1)) none
        rw [List.length_map] at h1 h2
        simp only [List.length_append, List.length_cons, List.length_nil]
        omega
      · intro H v h
        refine ⟨cut ws none (some place) ++ [y] ++ cut ws (some (place + 1)) none, ⟨?_, fun x hx => ?_⟩, ?_⟩
        · -- the word at the place is left out
          have hl : ws.length = ws.length := rfl
          have hpl : place.toNat < ws.length := by omega
          have c1 : (cut ws none (some place)).length ≤ place.toNat := by
            unfold cut
            rw [List.length_take]
            have e : place = ((place.toNat : Nat) : Int) := by omega
            rw [e, HT.sIx_nat]
            omega
          have c2 : (cut ws (some (place + 1)) none).length ≤ ws.length - (place.toNat + 1) := by
            unfold cut
            rw [List.length_take, List.length_drop]
            have e : place + 1 = ((place.toNat + 1 : Nat) : Int) := by omega
            rw [e, HT.sIx_nat]
            omega
          simp only [List.length_append, List.length_cons, List.length_nil]
          omega
        · simp only [List.mem_append, List.mem_cons, List.not_mem_nil, or_false] at hx
          rcases hx with (hx | rfl) | hx
          · have := hk x (cut_mem hx); omega
          · exact hy
          · have := hk x (cut_mem hx); omega
        · have e : cut (ws.map S) none (some place) ++ [S y] ++ cut (ws.map S) (some (place + 1)) none = (cut ws none (some place) ++ [y] ++ cut ws (some (place + 1)) none).map S := by
            rw [cut_map, cut_map, List.map_append, List.map_append]; rfl
          show (L K (List.map S (cut ws none (some place) ++ [y] ++ cut ws (some (place + 1)) none))).p H v
          rw [← e]
          exact h
    by_cases w0 : way = 0
    · refine gs_if (t := true) ((t_eqI (a_var (P := I way) 5) a_int).eq (decide_eq_true w0)) (fun _ => ?_) (fun h => nomatch h)
      refine gs_asgG (i := 3) sc_law_spoilt.nd rfl (Or.inl rfl) (a_upper (z := z) (by omega) (a_var (P := S z) 3)) ?_
      exact gs_nil (fin rfl (by have := upper1 hz; omega))
    refine gs_if (t := false) ((t_eqI (a_var (P := I way) 5) a_int).eq (decide_eq_false w0)) (fun h => nomatch h) (fun _ => ?_)
    by_cases w1 : way = 1
    · refine gs_if (t := true) ((t_eqI (a_var (P := I way) 5) a_int).eq (decide_eq_true w1)) (fun _ => ?_) (fun h => nomatch h)
      have l1 : (Txt.slice z none (some at_)).length ≤ at_.toNat := slice_to ha.1 (by omega)
      have l2 : (Txt.slice z (some at_) (some (at_ + 1))).length ≤ 1 := Nat.le_trans (slice_two ha.1 (by omega) (by omega)) (by omega)
      have l3 : (Txt.slice z (some (at_ + 1)) none).length + at_.toNat ≤ 2 * z.length := by
        by_cases h : at_ = z.length
        · have := sl z (some (at_ + 1)) none
          omega
        · have := slice_fr (z := z) (i := at_ + 1) (by omega) (by omega)
          omega
      have l4 := upper1 (k := 1) l2
      refine gs_asgG (i := 3) sc_law_spoilt.nd rfl (Or.inl rfl) (a_cat (a_cat (a_sliceS (z := z) (by omega) (a_var (P := S z) 3) .none (.some (a_var (P := I at_) 4))) (a_upper (z := Txt.slice z (some at_) (some (at_ + 1))) (by omega) (a_sliceS (z := z) (by omega) (a_var (P := S z) 3) (.some (a_var (P := I at_) 4)) (.some (a_add (a_var (P := I at_) 4) a_int)))) (by omega)) (a_sliceS (z := z) (by omega) (a_var (P := S z) 3) (.some (a_add (a_var (P := I at_) 4) a_int)) .none) (by rw [slen]; omega)) ?_
      exact gs_nil (gs_nil (fin rfl (by rw [slen, slen]; omega)))
    · refine gs_if (t := false) ((t_eqI (a_var (P := I way) 5) a_int).eq (decide_eq_false w1)) (fun h => nomatch h) (fun _ => ?_)
      refine gs_asgG (i := 6) sc_law_spoilt.nd rfl (Or.inl rfl) (P := S SIGNS) a_str ?_
      refine gs_asgG (i := 7) sc_law_spoilt.nd rfl (Or.inl rfl) (a_ixSE (z := SIGNS) (by rw [signs_len]; decide) (a_var (P := S SIGNS) 6) (a_drawA (size := (SIGNS.length : Int)) DA hr (by omega) (by rw [signs_len]; decide) (by rw [signs_len]; decide) (a_var (P := R a) 0) (a_cb call_len_str (rc_lenS (s := SIGNS) (by rw [signs_len]; decide)) T.b_len PySem.boot_len (aa_cons (a_var (P := S SIGNS) 6) aa_nil)) hm)) ?_
      refine Go.openE 7 rfl fun sg hsg => ?_
      have l1 := sl z none (some at_)
      have l2 := sl z (some (at_ + way - 2)) none
      refine gs_asgG (i := 3) sc_law_spoilt.nd rfl (Or.inl rfl) (a_cat (a_cat (a_sliceS (z := z) (by omega) (a_var (P := S z) 3) .none (.some (a_var (P := I at_) 4))) (a_var (P := S sg) 7) (by omega)) (a_sliceS (z := z) (by omega) (a_var (P := S z) 3) (.some (a_sub (a_add (a_var (P := I at_) 4) (a_var (P := I way) 5)) a_int)) .none) (by rw [slen]; omega)) ?_
      exact gs_nil (gs_nil (fin rfl (by rw [slen, slen]; omega)))

/-! ### changed words -/
def bndS : Nat → Nat
  | 0 => 10
  | k + 1 => 3 * bndS k + 3
theorem bndS_le : ∀ k, k ≤ 4 → bndS k ≤ 1000 := by decide
theorem bndS_up (k : Nat) : bndS k ≤ bndS (k + 1) := by show _ ≤ 3 * bndS k + 3; omega
theorem bndS_10 : ∀ k, 10 ≤ bndS k
  | 0 => Nat.le_refl _
  | k + 1 => Nat.le_trans (bndS_10 k) (bndS_up k)
theorem cut_take {β : Type} {xs : List β} {k : Nat} : (cut xs none (some (k : Int))).length ≤ k := by
  unfold cut
  rw [List.length_take, HT.sIx_nat]
  omega
theorem cut_drop {β : Type} {xs : List β} {k : Nat} : (cut xs (some (k : Int)) none).length ≤ xs.length - k := by
  unfold cut
  rw [List.length_take, List.length_drop, HT.sIx_nat]
  omega
theorem cut_mid {β : Type} {xs : List β} {k j : Nat} : (cut xs (some (k : Int)) (some (j : Int))).length ≤ j - k := by
  unfold cut
  rw [List.length_take, List.length_drop, HT.sIx_nat, HT.sIx_nat]
  omega
def cChanged (K : PySem.W.Frag) : Ct := fun Ps m P m' => ∃ (i : Nat) (a : Addr), Ps = [R a, WD K 64 10] ∧ m[i]? = some (a, pm K) ∧ P = WD K 80 1000 ∧ m' = m
theorem ok_law_changed (T : Txt K mg cTalkError cBadText cBadPaper cBadTable cBadTalk cTooLarge cBadRatio) : Fk P w K mg base 3 "_law_changed" (spC (cChanged K)) [] := by
  refine Fk_of T.d_law_changed (fun _ _ _ _ _ _ us hl => match us, hl with | [_, _], _ => rfl) fun f fd F => Fun_ct F sc_law_changed _ (fun Ps m Pr m' h => by obtain ⟨i, a, rfl, _⟩ := h; rfl) ?_
  intro cdv A outer s H E hr Ps m Pr m' hS b0 Q hQ
  obtain ⟨i, a, rfl, hm, rfl, rfl⟩ := hS
  show GS _ _ _ [some (R a), some (WD K 64 10), none, none, none, none] _ _
  have DR := ok_law_draw (P := P) (w := w) (base := base) T
  have DA := drawA_of DR
  have MN := ok_law_menu (P := P) (w := w) (base := base) T
  have SP := ok_law_spoilt (P := P) (w := w) (base := base) T
  refine Go.openP i hm fun p hp => ?_
  have hd5 := Pool.draw_lt p (size := 5) (by decide)
  refine gs_forR (j := 2) rfl T.b_range PassesOwn.never rfl sc_law_changed.nd rfl (Or.inl rfl) (a_draw (size := 5) DR hr (by omega) hm (by decide) (by decide) hp (a_var (P := R a) 0) a_int) (by omega) (by omega)
    (fun k ρ' m2 => ∃ (p : Pool) (c2 c3 c4 c5 : Option MP), 0 ≤ p.pos ∧ ρ' = [some (R a), some (WD K (64 + 3 * k) (bndS k)), c2, c3, c4, c5] ∧ m2 = m'.set i (a, p.mo K)) ⟨_, none, none, none, none, Pool.draw_pos hp, rfl, rfl⟩ ?_ ?_
  · rintro b1 e1 k ρ' m2 hk ⟨p, c2, c3, c4, c5, hp, rfl, rfl⟩
    show GS _ _ _ [some (R a), some (WD K (64 + 3 * k) (bndS k)), some (I (k : Int)), c3, c4, c5] _ _
    refine Go.closeP i hm hp ?_
    have hk4 : k ≤ 3 := by omega
    clear hd5
    refine Go.openE 1 rfl fun ws hws => ?_
    obtain ⟨hn, hl⟩ := hws
    have hbk := bndS_le (k + 1) (by omega)
    have hb10 := bndS_10 (k + 1)
    have hup := bndS_up k
    have hbs : bndS (k + 1) = 3 * bndS k + 3 := rfl
    show GS _ _ _ [some (R a), some (L K (ws.map S)), some (I (k : Int)), c3, c4, c5] _ _
    have lenW : ∀ {ρ : Rho}, ρ[1]? = some (some (L K (ws.map S))) → ∀ {pos posB p p2 p3 : Pos} {j0 : Nat}, AE (bodyX CX0 P w K mg base n_law_changed "_law_changed" (defScope sLaw_changed) f cdv A outer s H E) (.BinOp (.Call (.Name "len" p) [.Name "words" p2] [] pos) .Add (.Constant (.int 1) j0 p3) posB) ρ m' (I ((ws.length : Int) + 1)) m' := by
      intro ρ h pos posB p p2 p3 j0
      exact a_add ((a_cb call_len_seq rc_lenL T.b_len PySem.boot_len (aa_cons (a_var (P := L K (ws.map S)) 1 h) aa_nil)).eq (by rw [List.length_map])) a_int
    refine gs_asgG (i := 3) sc_law_changed.nd rfl (Or.inl rfl) (a_drawA (size := 7) DA hr (by omega) (by decide) (by decide) (a_var (P := R a) 0) a_int hm) ?_
    refine Go.openE 3 rfl fun way hway => ?_
    refine gs_asgG (i := 4) sc_law_changed.nd rfl (Or.inl rfl) (a_drawA (size := (ws.length : Int) + 1) DA hr (by omega) (by omega) (by omega) (a_var (P := R a) 0) (lenW rfl) hm) ?_
    refine Go.openE 4 rfl fun place0 hpl => ?_
    obtain ⟨place, rfl⟩ : ∃ n : Nat, place0 = n := ⟨place0.toNat, by omega⟩
    refine gs_asgG (i := 5) sc_law_changed.nd rfl (Or.inl rfl) (a_drawA (size := (ws.length : Int) + 1) DA hr (by omega) (by omega) (by omega) (a_var (P := R a) 0) (lenW rfl) hm) ?_
    refine Go.openE 5 rfl fun other0 hot => ?_
    obtain ⟨other, rfl⟩ : ∃ n : Nat, other0 = n := ⟨other0.toNat, by omega⟩
    show GS _ _ _ [some (R a), some (L K (ws.map S)), some (I (k : Int)), some (I way), some (I (place : Int)), some (I (other : Int))] _ _
    -- three pieces of the words, or two
    have in3 : ∀ {q1 q2 q3 q4 q5 q6 : Option Int}, (cut ws q1 q2).length + (cut ws q3 q4).length + (cut ws q5 q6).length ≤ 64 + 3 * (k + 1) → ∀ H v, (Lf (cut (ws.map S) q1 q2 ++ cut (ws.map S) q3 q4 ++ cut (ws.map S) q5 q6)).p H v → (WD K (64 + 3 * (k + 1)) (bndS (k + 1))).p H v := by
      intro q1 q2 q3 q4 q5 q6 hlen H v h
      refine ⟨cut ws q1 q2 ++ cut ws q3 q4 ++ cut ws q5 q6, ⟨by rw [List.length_append, List.length_append]; exact hlen, fun x hx => ?_⟩, ?_⟩
      · simp only [List.mem_append] at hx
        have : x ∈ ws := by rcases hx with (hx | hx) | hx <;> exact cut_mem hx
        exact Nat.le_trans (hl x this) hup
      · show (L K (List.map S _)).p H v
        rw [List.map_append, List.map_append, ← cut_map, ← cut_map, ← cut_map]
        exact Lf.L _ _ h
    have in2 : ∀ {q1 q2 q3 q4 : Option Int}, (cut ws q1 q2).length + (cut ws q3 q4).length ≤ 64 + 3 * (k + 1) → ∀ H v, (Lf (cut (ws.map S) q1 q2 ++ cut (ws.map S) q3 q4)).p H v → (WD K (64 + 3 * (k + 1)) (bndS (k + 1))).p H v := by
      intro q1 q2 q3 q4 hlen H v h
      refine ⟨cut ws q1 q2 ++ cut ws q3 q4, ⟨by rw [List.length_append]; exact hlen, fun x hx => ?_⟩, ?_⟩
      · simp only [List.mem_append] at hx
        have : x ∈ ws := by rcases hx with hx | hx <;> exact cut_mem hx
        exact Nat.le_trans (hl x this) hup
      · show (L K (List.map S _)).p H v
        rw [List.map_append, ← cut_map, ← cut_map]
        exact Lf.L _ _ h
    have in4 : ∀ {q1 q2 q3 q4 q5 q6 q7 q8 : Option Int}, (cut ws q1 q2).length + (cut ws q3 q4).length + (cut ws q5 q6).length + (cut ws q7 q8).length ≤ 64 + 3 * (k + 1) → ∀ H v, (Lf (cut (ws.map S) q1 q2 ++ cut (ws.map S) q3 q4 ++ cut (ws.map S) q5 q6 ++ cut (ws.map S) q7 q8)).p H v → (WD K (64 + 3 * (k + 1)) (bndS (k + 1))).p H v := by
      intro q1 q2 q3 q4 q5 q6 q7 q8 hlen H v h
      refine ⟨cut ws q1 q2 ++ cut ws q3 q4 ++ cut ws q5 q6 ++ cut ws q7 q8, ⟨by rw [List.length_append, List.length_append, List.length_append]; exact hlen, fun x hx => ?_⟩, ?_⟩
      · simp only [List.mem_append] at hx
        have : x ∈ ws := by rcases hx with ((hx | hx) | hx) | hx <;> exact cut_mem hx
        exact Nat.le_trans (hl x this) hup
      · show (L K (List.map S _)).p H v
        rw [List.map_append, List.map_append, List.map_append, ← cut_map, ← cut_map, ← cut_map, ← cut_map]
        exact Lf.L _ _ h
    have in2m : ∀ {q1 q2 q5 q6 : Option Int}, (cut ws q1 q2).length + 1 + (cut ws q5 q6).length ≤ 64 + 3 * (k + 1) → ∀ H v, (Lf (cut (ws.map S) q1 q2 ++ [EX (fun w : Str => w.length ≤ 10) S] ++ cut (ws.map S) q5 q6)).p H v → (WD K (64 + 3 * (k + 1)) (bndS (k + 1))).p H v := by
      rintro q1 q2 q5 q6 hlen H v ⟨l, vs, rfl, h1, h2⟩
      rw [cut_map, cut_map] at h2
      obtain ⟨w, hw, h3⟩ := all_join h2
      refine ⟨cut ws q1 q2 ++ [w] ++ cut ws q5 q6, ⟨by simp only [List.length_append, List.length_cons, List.length_nil]; exact hlen, fun x hx => ?_⟩, l, vs, rfl, Or.inl (Or.inl h1), h3⟩
      simp only [List.mem_append, List.mem_cons, List.not_mem_nil, or_false] at hx
      rcases hx with (hx | rfl) | hx
      · exact Nat.le_trans (hl x (cut_mem hx)) hup
      · exact Nat.le_trans hw hb10
      · exact Nat.le_trans (hl x (cut_mem hx)) hup
    have wv : ∀ {ρ : Rho}, ρ[1]? = some (some (L K (ws.map S))) → ∀ {p : Pos}, AE (bodyX CX0 P w K mg base n_law_changed "_law_changed" (defScope sLaw_changed) f cdv A outer s H E) (.Name "words" p) ρ m' (L K (ws.map S)) m' := by
      intro ρ h p
      exact a_var 1 h
    have mn : ∀ {pos p p2 : Pos}, AE (bodyX CX0 P w K mg base n_law_changed "_law_changed" (defScope sLaw_changed) f cdv A outer s H E) (.Call (.Name "_law_menu" p) [.Name "pool" p2] [] pos) [some (R a), some (L K (ws.map S)), some (I (k : Int)), some (I way), some (I (place : Int)), some (I (other : Int))] m' (EX (fun w : Str => w.length ≤ 10) S) m' := fun {pos p p2} => a_call MN hr (by omega) (aa_cons (a_var (P := R a) 0) aa_nil) ⟨i, a, rfl, hm, rfl, rfl⟩ rfl
    have cl : ∀ (q1 q2 : Option Int), (cut ws q1 q2).length ≤ ws.length := fun q1 q2 => cut_len ws q1 q2
    have fin : ∀ {D : Ends} {W : Rho → Sto → Prop}, D.nx = Sts W b1 → (∀ p : Pool, 0 ≤ p.pos → W [some (R a), some (WD K (64 + 3 * (k + 1)) (bndS (k + 1))), some (I (k : Int)), some (I way), some (I (place : Int)), some (I (other : Int))] (m'.set i (a, p.mo K))) → GS (bodyX CX0 P w K mg base n_law_changed "_law_changed" (defScope sLaw_changed) f cdv A outer s H E) [] D [some (R a), some (WD K (64 + 3 * (k + 1)) (bndS (k + 1))), some (I (k : Int)), some (I way), some (I (place : Int)), some (I (other : Int))] m' b1 := by
      intro D W h h2
      refine Go.openP i hm fun p hp => ?_
      refine gs_nil ?_
      rw [h]
      exact nx_sts (h2 p hp)
    have c1 := @cut_take _ ws place
    have c2' := @cut_drop _ ws place
    have c3' : (cut ws (some ((place : Int) + 1)) none).length ≤ ws.length - (place + 1) := @cut_drop _ ws (place + 1)
    have c4' : (cut ws (some (other : Int)) (some ((other : Int) + 1))).length ≤ 1 := Nat.le_trans (@cut_mid _ ws other (other + 1)) (by omega)
    have c5' : (cut ws (some (other : Int)) (some ((other : Int) + 3))).length ≤ 3 := Nat.le_trans (@cut_mid _ ws other (other + 3)) (by omega)
    have c6' : (cut ws (some ((place : Int) + 1)) (some ((place : Int) + 2))).length ≤ 1 := Nat.le_trans (@cut_mid _ ws (place + 1) (place + 2)) (by omega)
    have c7' : (cut ws (some (place : Int)) (some ((place : Int) + 1))).length ≤ 1 := Nat.le_trans (@cut_mid _ ws place (place + 1)) (by omega)
    have c8' : (cut ws (some ((place : Int) + 2)) none).length ≤ ws.length - (place + 2) := @cut_drop _ ws (place + 2)
    have len1 : ∀ (q1 q2 : Option Int), (cut (ws.map S) q1 q2).length = (cut ws q1 q2).length := fun q1 q2 => by rw [cut_map, List.length_map]
    by_cases w0 : way = 0
    · refine gs_if (t := true) ((t_eqI (a_var (P := I way) 3) a_int).eq (decide_eq_true w0)) (fun _ => ?_) (fun h => nomatch h)
      refine gs_asgG (i := 1) sc_law_changed.nd rfl (Or.inl rfl) ((a_catL (a_sliceL (wv rfl) .none (.some (a_var (P := I (place : Int)) 4))) (a_sliceL (wv rfl) (.some (a_add (a_var (P := I (place : Int)) 4) a_int)) .none) (by rw [len1, len1]; omega)).to (in2 (by omega))) ?_
      exact gs_nil (fin rfl fun p hp => ⟨p, _, _, _, _, hp, rfl, rfl⟩)
    refine gs_if (t := false) ((t_eqI (a_var (P := I way) 3) a_int).eq (decide_eq_false w0)) (fun h => nomatch h) (fun _ => ?_)
    by_cases w1 : way = 1
    · refine gs_if (t := true) ((t_eqI (a_var (P := I way) 3) a_int).eq (decide_eq_true w1)) (fun _ => ?_) (fun h => nomatch h)
      refine gs_asgG (i := 1) sc_law_changed.nd rfl (Or.inl rfl) ((a_catL (a_catL (a_sliceL (wv rfl) .none (.some (a_var (P := I (place : Int)) 4))) (a_lstF (aa_cons mn aa_nil)) (by rw [len1]; simp only [List.length_cons, List.length_nil]; omega)) (a_sliceL (wv rfl) (.some (a_var (P := I (place : Int)) 4)) .none) (by rw [List.length_append, len1, len1]; simp only [List.length_cons, List.length_nil]; omega)).to (in2m (by omega))) ?_
      exact gs_nil (gs_nil (fin rfl fun p hp => ⟨p, _, _, _, _, hp, rfl, rfl⟩))
    refine gs_if (t := false) ((t_eqI (a_var (P := I way) 3) a_int).eq (decide_eq_false w1)) (fun h => nomatch h) (fun _ => ?_)
    by_cases w2 : way = 2
    · refine gs_if (t := true) ((t_eqI (a_var (P := I way) 3) a_int).eq (decide_eq_true w2)) (fun _ => ?_) (fun h => nomatch h)
      refine gs_asgG (i := 1) sc_law_changed.nd rfl (Or.inl rfl) ((a_catL (a_catL (a_sliceL (wv rfl) .none (.some (a_var (P := I (place : Int)) 4))) (a_lstF (aa_cons mn aa_nil)) (by rw [len1]; simp only [List.length_cons, List.length_nil]; omega)) (a_sliceL (wv rfl) (.some (a_add (a_var (P := I (place : Int)) 4) a_int)) .none) (by rw [List.length_append, len1, len1]; simp only [List.length_cons, List.length_nil]; omega)).to (in2m (by omega))) ?_
      exact gs_nil (gs_nil (gs_nil (fin rfl fun p hp => ⟨p, _, _, _, _, hp, rfl, rfl⟩)))
    refine gs_if (t := false) ((t_eqI (a_var (P := I way) 3) a_int).eq (decide_eq_false w2)) (fun h => nomatch h) (fun _ => ?_)
    by_cases w3 : way = 3
    · refine gs_if (t := true) ((t_eqI (a_var (P := I way) 3) a_int).eq (decide_eq_true w3)) (fun _ => ?_) (fun h => nomatch h)
      refine gs_asgG (i := 1) sc_law_changed.nd rfl (Or.inl rfl) ((a_catL (a_catL (a_sliceL (wv rfl) .none (.some (a_var (P := I (place : Int)) 4))) (a_sliceL (wv rfl) (.some (a_var (P := I (other : Int)) 5)) (.some (a_add (a_var (P := I (other : Int)) 5) a_int))) (by rw [len1, len1]; omega)) (a_sliceL (wv rfl) (.some (a_add (a_var (P := I (place : Int)) 4) a_int)) .none) (by rw [List.length_append, len1, len1, len1]; omega)).to (in3 (by omega))) ?_
      exact gs_nil (gs_nil (gs_nil (gs_nil (fin rfl fun p hp => ⟨p, _, _, _, _, hp, rfl, rfl⟩))))
    refine gs_if (t := false) ((t_eqI (a_var (P := I way) 3) a_int).eq (decide_eq_false w3)) (fun h => nomatch h) (fun _ => ?_)
    by_cases w4 : way = 4
    · refine gs_if (t := true) ((t_eqI (a_var (P := I way) 3) a_int).eq (decide_eq_true w4)) (fun _ => ?_) (fun h => nomatch h)
      refine gs_asgG (i := 1) sc_law_changed.nd rfl (Or.inl rfl) ((a_catL (a_catL (a_sliceL (wv rfl) .none (.some (a_var (P := I (place : Int)) 4))) (a_sliceL (wv rfl) (.some (a_var (P := I (other : Int)) 5)) (.some (a_add (a_var (P := I (other : Int)) 5) a_int))) (by rw [len1, len1]; omega)) (a_sliceL (wv rfl) (.some (a_var (P := I (place : Int)) 4)) .none) (by rw [List.length_append, len1, len1, len1]; omega)).to (in3 (by omega))) ?_
      exact gs_nil (gs_nil (gs_nil (gs_nil (gs_nil (fin rfl fun p hp => ⟨p, _, _, _, _, hp, rfl, rfl⟩)))))
    refine gs_if (t := false) ((t_eqI (a_var (P := I way) 3) a_int).eq (decide_eq_false w4)) (fun h => nomatch h) (fun _ => ?_)
    by_cases w5 : way = 5
    · refine gs_if (t := true) ((t_eqI (a_var (P := I way) 3) a_int).eq (decide_eq_true w5)) (fun _ => ?_) (fun h => nomatch h)
      refine gs_asgG (i := 1) sc_law_changed.nd rfl (Or.inl rfl) ((a_catL (a_catL (a_catL (a_sliceL (wv rfl) .none (.some (a_var (P := I (place : Int)) 4))) (a_sliceL (wv rfl) (.some (a_add (a_var (P := I (place : Int)) 4) a_int)) (.some (a_add (a_var (P := I (place : Int)) 4) a_int))) (by rw [len1, len1]; omega)) (a_sliceL (wv rfl) (.some (a_var (P := I (place : Int)) 4)) (.some (a_add (a_var (P := I (place : Int)) 4) a_int))) (by rw [List.length_append, len1, len1, len1]; omega)) (a_sliceL (wv rfl) (.some (a_add (a_var (P := I (place : Int)) 4) a_int)) .none) (by rw [List.length_append, List.length_append, len1, len1, len1, len1]; omega)).to (in4 (by omega))) ?_
      exact gs_nil (gs_nil (gs_nil (gs_nil (gs_nil (gs_nil (fin rfl fun p hp => ⟨p, _, _, _, _, hp, rfl, rfl⟩))))))
    refine gs_if (t := false) ((t_eqI (a_var (P := I way) 3) a_int).eq (decide_eq_false w5)) (fun h => nomatch h) (fun _ => ?_)
    refine gs_asgG (i := 1) (P := WD K (64 + 3 * (k + 1)) (bndS (k + 1))) sc_law_changed.nd rfl (Or.inl rfl) ((a_call SP hr (by omega) (aa_cons (a_var (P := R a) 0) (aa_cons (wv rfl) aa_nil)) ⟨i, a, ws, 64 + 3 * k, bndS k, rfl, hm, hn, hl, by omega, by omega, rfl, rfl⟩ rfl).to ?_) ?_
    · rintro H v ⟨ws, ⟨h1, h2⟩, h3⟩
      exact ⟨ws, ⟨by omega, fun x hx => h2 x hx⟩, h3⟩
    · exact gs_nil (gs_nil (gs_nil (gs_nil (gs_nil (gs_nil (fin rfl fun p hp => ⟨p, _, _, _, _, hp, rfl, rfl⟩))))))
  · rintro ρ' m2 ⟨p2, c2, c3, c4, c5, hp2, rfl, rfl⟩
    have h4 : (p.draw 5).1.toNat ≤ 4 := by omega
    generalize (p.draw 5).1.toNat = k at h4
    refine Go.closeP i hm hp2 ?_
    refine gs_ret ((a_var (P := WD K (64 + 3 * k) (bndS k)) 1).to ?_) hQ
    rintro H v ⟨ws, ⟨h1, h2⟩, h3⟩
    exact ⟨ws, ⟨by omega, fun x hx => Nat.le_trans (h2 x hx) (bndS_le _ h4)⟩, h3⟩
/-! ### joined words -/
theorem sum_le : ∀ (ws : List Str) (k : Nat), (∀ w ∈ ws, w.length ≤ k) → (ws.map (·.length)).sum ≤ ws.length * k
  | [], _, _ => by simp
  | w :: r, k, h => by
    have h1 := h w List.mem_cons_self
    have h2 := sum_le r k fun x hx => h x (List.mem_cons_of_mem _ hx)
    simp only [List.map_cons, List.sum_cons, List.length_cons, Nat.add_mul]
    omega
theorem join_fits {ws : List Str} {n k : Nat} (hn : ws.length ≤ n) (h : ∀ w ∈ ws, w.length ≤ k) (hb : n * k + n ≤ 16777216) : joinLen " " ws ≤ 16777216 := by
  have e1 : (" " : Str).length = 1 := by decide +kernel
  have h1 := sum_le ws k h
  have h2 : ws.length * k ≤ n * k := Nat.mul_le_mul_right k hn
  show (ws.map (·.length)).sum + ws.length * (" " : Str).length ≤ 16777216
  rw [e1]
  omega
section
variable {X : Cx} {ρ : Rho} {m m1 m2 : Sto} {a b : Expr} {pos : Pos}
theorem a_catER {s : Str} {g : Str → Prop} (ha : AE X a ρ m (S s) m1) (hb : AE X b ρ m1 (EX g S) m2) (hl : ∀ t, g t → s.length + t.length ≤ 1000000) : AE X (.BinOp a .Add b pos) ρ m (EX g fun t => S (s ++ t)) m2 :=
  a_bin op_add_str (rv_exR fun t ht => fun d H v u Q _ h1 h2 q => ⟨s, t, h1, h2, Nat.le_trans (hl t ht) (by decide), q _ H (Ex.refl _) ⟨t, ht, rfl⟩⟩) ha hb
theorem a_catEL {t : Str} {g : Str → Prop} {h : Str → Str} (ha : AE X a ρ m (EX g fun d => S (h d)) m1) (hb : AE X b ρ m1 (S t) m2) (hl : ∀ d, g d → (h d).length + t.length ≤ 1000000) : AE X (.BinOp a .Add b pos) ρ m (EX g fun d => S (h d ++ t)) m2 :=
  a_bin op_add_str (rv_exL fun d hd => fun dd H v u Q _ h1 h2 q => ⟨h d, t, h1, h2, Nat.le_trans (hl d hd) (by decide), q _ H (Ex.refl _) ⟨d, hd, rfl⟩⟩) ha hb
end
def NLTAB : Str := "\n\t"
theorem nltab_len : NLTAB.length = 2 := by decide +kernel
def cJoined (K : PySem.W.Frag) : Ct := fun Ps m P m' => ∃ (i : Nat) (a : Addr) (ws : List Str), Ps = [R a, L K (ws.map S)] ∧ m[i]? = some (a, pm K) ∧ ws.length ≤ 80 ∧ (∀ w ∈ ws, w.length ≤ 1000) ∧ P = EX (fun s : Str => s.length ≤ 85000) S ∧ m' = m
theorem ok_law_joined (T : Txt K mg cTalkError cBadText cBadPaper cBadTable cBadTalk cTooLarge cBadRatio) : Fk P w K mg base 2 "_law_joined" (spC (cJoined K)) [] := by
  refine Fk_of T.d_law_joined (fun _ _ _ _ _ _ us hl => match us, hl with | [_, _], _ => rfl) fun f fd F => Fun_ct F sc_law_joined _ (fun Ps m Pr m' h => by obtain ⟨i, a, ws, rfl, _⟩ := h; rfl) ?_
  intro cdv A outer s H E hr Ps m Pr m' hS b0 Q hQ
  obtain ⟨i, a, ws, rfl, hm, hn, hk, rfl, rfl⟩ := hS
  show GS _ _ _ [some (R a), some (L K (ws.map S)), none] _ _
  have DA := drawA_of (ok_law_draw (P := P) (w := w) (base := base) T)
  have lenW : ∀ {ρ : Rho}, ρ[1]? = some (some (L K (ws.map S))) → ∀ {pos p p2 : Pos}, AE (bodyX CX0 P w K mg base n_law_joined "_law_joined" (defScope sLaw_joined) f cdv A outer s H E) (.Call (.Name "len" p) [.Name "words" p2] [] pos) ρ m' (I (ws.length : Int)) m' := by
    intro ρ h pos p p2
    exact (a_cb call_len_seq rc_lenL T.b_len PySem.boot_len (aa_cons (a_var (P := L K (ws.map S)) 1 h) aa_nil)).eq (by rw [List.length_map])
  have jl := join_len hk
  have jl2 : ws.length * (1000 + 1) ≤ 80 * (1000 + 1) := Nat.mul_le_mul_right _ hn
  have last : ∀ {D : Ends}, D.rt = Q → GS (bodyX CX0 P w K mg base n_law_joined "_law_joined" (defScope sLaw_joined) f cdv A outer s H E) ((defBody sLaw_joined).drop 1) D [some (R a), some (L K (ws.map S)), none] m' b0 := by
    intro D hD
    exact gs_ret ((a_joinL (s := " ") (ys := ws) a_str (a_var (P := L K (ws.map S)) 1) (join_fits hn hk (by decide))).to (ex_in (F := S) (g := fun s : Str => s.length ≤ 85000) (by omega))) (by rw [hD]; exact hQ)
  by_cases h1 : 1 < ws.length
  · refine gs_whenN (wn_t (wt_and (t := true) ((t_gt (lenW rfl) a_int).eq (decide_eq_true (by omega))) fun h => wn_and1 (tn_eqI (a_drawA (size := 12) DA hr (by omega) (by decide) (by decide) (a_var (P := R a) 0) a_int hm) a_int))) ?_ (last rfl)
    refine gs_asgG (i := 2) sc_law_joined.nd rfl (Or.inl rfl) (a_addE a_int (a_drawA (size := (ws.length : Int) - 1) DA hr (by omega) (by omega) (by omega) (a_var (P := R a) 0) (a_sub (lenW rfl) a_int) hm)) ?_
    refine Go.openE 2 rfl fun d hd => ?_
    obtain ⟨place, hp⟩ : ∃ n : Nat, 1 + d = n := ⟨(1 + d).toNat, by omega⟩
    show GS _ _ _ [some (R a), some (L K (ws.map S)), some (I (1 + d))] _ _
    rw [hp]
    have c1 := @cut_take _ ws place
    have c2 := @cut_drop _ ws place
    have k1 : ∀ q1 q2, ∀ w ∈ cut ws q1 q2, w.length ≤ 1000 := fun q1 q2 w hw => hk w (cut_mem hw)
    have j1 := join_len (k1 none (some (place : Int)))
    have j2 := join_len (k1 (some (place : Int)) none)
    refine gs_ret ((a_catEL (h := fun t => Txt.join " " (cut ws none (some (place : Int))) ++ t) (g := fun t : Str => t.length = 1) (a_catER (s := Txt.join " " (cut ws none (some (place : Int)))) (a_joinL (s := " ") (ys := cut ws none (some (place : Int))) a_str (((a_sliceL (a_var (P := L K (ws.map S)) 1) .none (.some (a_var (P := I (place : Int)) 2))).eq (by rw [cut_map])).to (Lf.L (K := K))) (join_fits (n := 80) (by omega) (k1 _ _) (by decide)))
      (a_ixSE (z := NLTAB) (by rw [nltab_len]; decide) a_str (a_drawA (size := 2) DA hr (by omega) (by decide) (by decide) (a_var (P := R a) 0) a_int hm)) (fun t ht => by omega))
      (a_joinL (s := " ") (ys := cut ws (some (place : Int)) none) a_str (((a_sliceL (a_var (P := L K (ws.map S)) 1) (.some (a_var (P := I (place : Int)) 2)) .none).eq (by rw [cut_map])).to (Lf.L (K := K))) (join_fits (n := 80) (by omega) (k1 _ _) (by decide))) (fun t ht => by rw [slen]; omega)).to ?_) hQ
    rintro H v ⟨t, ht, e⟩
    refine ⟨_, ?_, e⟩
    show (_ ++ _ : Str).length ≤ 85000
    rw [slen, slen]
    omega
  · refine gs_when (t := false) (w_t (w_and (t := false) (u := false) ((t_gt (lenW rfl) a_int).eq (decide_eq_false (by omega))) fun h => nomatch h)) (fun h => nomatch h) (fun _ => last rfl)
/-! ### what reading says of the words -/
theorem rf_says (s : Str) : match rf s with
    | .error e => wrong (wordsOf s) = some e
    | .ok f => wrong (wordsOf s) = none ∧ f.txt = s ∧ f.ht ≤ 5 ∧ f.tx := by
  have hns : ∀ o ∈ OPS, o ∉ AB := by decide +kernel
  have hAB : ∀ s ∈ AB, s ≠ "own" ∧ s ≠ "lot" ∧ s.length ≤ 10 := by decide +kernel
  have h1 := wr_rd (ws := wordsOf s) hns 4 0 [] (Nat.zero_le _)
  rw [List.drop_zero] at h1
  unfold rf
  cases h : rd (wordsOf s) ["a", "b"] 5 0 with
  | error e =>
    have h : rd (wordsOf s) AB (4 + 1) 0 = .error e := h
    rw [h] at h1
    exact h1
  | ok fb =>
    obtain ⟨f, b⟩ := fb
    have h : rd (wordsOf s) AB (4 + 1) 0 = .ok (f, b) := h
    rw [h] at h1
    have hb := rd_bd _ _ h
    have hk := rd_back hAB _ _ h
    by_cases hlt : b < (wordsOf s).length
    · simp only [if_pos hlt]
      have e : (wordsOf s).drop b = (wordsOf s)[b] :: (wordsOf s).drop (b + 1) := List.drop_eq_getElem_cons hlt
      show wrGo AB (wordsOf s) 0 (5 :: []) = some b
      rw [h1]
      show wrGo AB ((wordsOf s).drop b) b [] = some b
      rw [e]
      rfl
    · simp only [if_neg hlt]
      have e : (wordsOf s).drop b = [] := List.drop_eq_nil_of_le (by omega)
      refine ⟨?_, ?_, hk.2.1, hk.2.2⟩
      · show wrGo AB (wordsOf s) 0 (5 :: []) = none
        rw [h1]
        show wrGo AB ((wordsOf s).drop b) b [] = none
        rw [e]
        rfl
      · have h2 := hk.1
        rw [List.drop_zero, e, List.append_nil] at h2
        rw [txt_join, ← h2]
        unfold wordsOf at h2 ⊢
        by_cases hs : s = ""
        · rw [if_pos hs] at h2
          exact absurd h2.symm (words_ne f)
        · rw [if_neg hs]
          exact join_split s
theorem a_notN {X : Cx} {ρ : Rho} {m m1 m2 : Sto} {a b : Expr} {pos : Pos} {v : V} (ha : AE X a ρ m (C v) m1) (hb : AE X b ρ m1 N m2) : AE X (.Compare a [.IsNot] [b] pos) ρ m (B (!decide (v = .non))) m2 := a_cmp op_notN rv_notN ha hb
/-! ### the law -/
def cLaw (K : PySem.W.Frag) : Ct := fun Ps m P m' => ∃ (ns : List Int), Ps = [L K (ns.map I)] ∧ ns.length ≤ 63 ∧ m = [] ∧ P = B true ∧ m' = []
theorem law_sp (K : PySem.W.Frag) (H : Hp) (a : Addr) (ns : List Int) (hl : ns.length ≤ 63) (_ : Only H) (hS : SqL K H a (ns.map V.int)) : spC (cLaw K) [.ref a] H (fun v _ => v = .bl true) fun _ _ _ => False :=
  ⟨[L K (ns.map I)], [], B true, [], ⟨ns, rfl, hl, rfl, rfl, rfl⟩, rfl, .cons ⟨a, _, rfl, by rw [show dom [] = [] from rfl, mask_nil]; exact hS, all_of V.int⟩ .nil, Own.nil, fun _ _ _ _ pv => pv⟩
theorem wV_scal (o : Option Nat) (k : Int) : scal (wV o) (.int k) = true := by cases o <;> rfl
theorem ok_law (T : Txt K mg cTalkError cBadText cBadPaper cBadTable cBadTalk cTooLarge cBadRatio) {f : Addr} {fd : FuncData} (F : Fun K "law" "law" sLaw f fd) : FnOk P w K mg base CX0 12 f fd ["script"] (spC (cLaw K)) := by
  refine Fun_ct F sc_law (cLaw K) (fun Ps m Pr m' h => by obtain ⟨ns, rfl, _⟩ := h; rfl) ?_
  intro cdv A outer s H E hr Ps m Pr m' hS b0 Q hQ
  obtain ⟨ns, rfl, hl, rfl, rfl, rfl⟩ := hS
  show GS _ _ _ [some (L K (ns.map I)), none, none, none, none, none, none, none, none, none] _ _
  have DR := ok_law_draw (P := P) (w := w) (base := base) T
  have DA := drawA_of DR
  have MN := ok_law_menu (P := P) (w := w) (base := base) T
  have WR := ok_law_wrong (P := P) (w := w) (base := base) T
  have RFX := okx_read_formula (P := P) (w := w) (base := base) T
  have FT := ok_formula_text (P := P) (w := w) (base := base) T 5
  have bv : bootBuiltins "isinstance" = some (.builtin "isinstance") := by decide +kernel
  refine gs_asgO (n := 1) sc_law.nd rfl (Or.inl rfl) (o_call (mo := Pool.mo K ⟨ns, 0, 0, 1, 0, 0⟩) (m2 := []) (ok_law_pool T) hr (by omega) (aa_cons (a_var 0) (aa_cons a_int aa_nil)) ⟨ns, 0, rfl, rfl, rfl⟩) fun a => ?_
  refine Go.closeP (m := [(a, pm K)]) 0 rfl (Int.le_refl 0) ?_
  have hm : ([(a, pm K)] : Sto)[0]? = some (a, pm K) := rfl
  show GS _ _ _ [some (L K (ns.map I)), some (R a), none, none, none, none, none, none, none, none] [(a, pm K)] _
  refine gs_asgG (i := 2) (P := WD K 80 1000) sc_law.nd rfl (Or.inl rfl) (a_call (ok_law_changed T) hr (by omega) (aa_cons (a_var (P := R a) 1) (aa_cons (a_call (P := WD K 64 10) (okA_value_words T) hr (by omega) (aa_cons (a_call (P := EX (fun f : Fm => f.ht ≤ 6 ∧ f.tx) (fun f => f.rep K)) (okA_value T) hr (by omega) (aa_cons (a_var (P := R a) 1) (aa_cons (a_lst (aa_cons a_str (aa_cons a_str aa_nil))) (aa_cons a_int aa_nil))) ⟨0, a, rfl, rfl, rfl, rfl⟩ rfl) aa_nil) ⟨rfl, rfl, rfl⟩ rfl) aa_nil)) ⟨0, a, rfl, rfl, rfl, rfl⟩ rfl) ?_
  show GS _ _ _ [some (L K (ns.map I)), some (R a), some (WD K 80 1000), none, none, none, none, none, none, none] [(a, pm K)] _
  refine gs_ifN (fun ρ' m' => ∃ c3 c4 c5 : Option MP, ρ' = [some (L K (ns.map I)), some (R a), some (WD K 80 1000), c3, c4, c5, none, none, none, none] ∧ m' = [(a, pm K)]) (tn_eqI (a_drawA (size := 4) DA hr (by omega) (by decide) (by decide) (a_var (P := R a) 1) a_int hm) a_int) ?_ (gs_nil (nx_sts ⟨none, none, none, rfl, rfl⟩)) ?_
  · refine gs_asgO (n := 2) sc_law.nd rfl (Or.inl rfl) (o_lst aa_nil) fun l => ?_
    have hm2 : ([(l, MO.lst []), (a, pm K)] : Sto)[1]? = some (a, pm K) := rfl
    refine Go.openP 1 hm2 fun p hp => ?_
    have hd12 := Pool.draw_lt p (size := 12) (by decide)
    show GS _ _ _ [some (L K (ns.map I)), some (R a), some (R l), none, none, none, none, none, none, none] _ _
    refine gs_forR (j := 3) rfl T.b_range PassesOwn.never rfl sc_law.nd rfl (Or.inl rfl) (a_draw (size := 12) DR hr (by omega) hm2 (by decide) (by decide) hp (a_var (P := R a) 1) a_int) (by omega) (by omega)
      (fun k ρ' m2 => ∃ (p : Pool) (ws : List Str) (c3 c4 c5 : Option MP), 0 ≤ p.pos ∧ ws.length ≤ k ∧ (∀ w ∈ ws, w.length ≤ 10) ∧ ρ' = [some (L K (ns.map I)), some (R a), some (R l), c3, c4, c5, none, none, none, none] ∧ m2 = [(l, MO.lst (ws.map S)), (a, p.mo K)]) ⟨_, [], none, none, none, Pool.draw_pos hp, Nat.le_refl _, (fun _ h => nomatch h), rfl, rfl⟩ ?_ ?_
    · rintro b1 e1 k ρ' m2 hk ⟨p, ws, c3, c4, c5, hp, hn, hw, rfl, rfl⟩
      show GS _ _ _ [some (L K (ns.map I)), some (R a), some (R l), some (I (k : Int)), c4, c5, none, none, none, none] _ _
      have hk11 : k ≤ 11 := by omega
      clear hd12
      refine Go.closeP (m := [(l, MO.lst (ws.map S)), (a, pm K)]) 1 rfl hp ?_
      have hm3 : ([(l, MO.lst (ws.map S)), (a, pm K)] : Sto)[1]? = some (a, pm K) := rfl
      refine gs_asgG (i := 4) (P := EX (fun w : Str => w.length ≤ 10) S) sc_law.nd rfl (Or.inl rfl) (a_call MN hr (by omega) (aa_cons (a_var (P := R a) 1) aa_nil) ⟨1, a, rfl, hm3, rfl, rfl⟩ rfl) ?_
      show GS _ _ _ [some (L K (ns.map I)), some (R a), some (R l), some (I (k : Int)), some (EX (fun w : Str => w.length ≤ 10) S), c5, none, none, none, none] [(l, MO.lst (ws.map S)), (a, pm K)] _
      refine gs_forR (j := 5) (n := 8) rfl T.b_range PassesOwn.never rfl sc_law.nd rfl (Or.inl rfl) a_int (by decide) (by decide)
        (fun k2 ρ' m2 => ∃ (c5 : Option MP), ρ' = [some (L K (ns.map I)), some (R a), some (R l), some (I (k : Int)), some (EX (fun w : Str => w.length ≤ 10) S), c5, none, none, none, none] ∧ m2 = [(l, MO.lst (ws.map S)), (a, pm K)]) ⟨c5, rfl, rfl⟩ ?_ ?_
      · rintro b2 e2 k2 ρ' m2 hk2 ⟨c5, rfl, rfl⟩
        refine Go.openE 4 rfl fun wd hwd => ?_
        show GS _ _ _ [some (L K (ns.map I)), some (R a), some (R l), some (I (k : Int)), some (S wd), some (I (k2 : Int)), none, none, none, none] [(l, MO.lst (ws.map S)), (a, pm K)] _
        have hall : ∀ x ∈ ws ++ [wd], x.length ≤ 10 := by
          intro x hx
          simp only [List.mem_append, List.mem_cons, List.not_mem_nil, or_false] at hx
          rcases hx with h | rfl
          · exact hw x h
          · exact hwd
        refine gs_when (t_eq (v := wV (wrong (ws ++ [wd]))) (u := .int (ws.length : Int)) (a_call (P := C (wV (wrong (ws ++ [wd])))) WR hr (by omega) (aa_cons (((a_catO (Qs := [S wd]) (n := 0) (a_var (P := R l) 2) (a_lstF (aa_cons (a_var (P := S wd) 4) aa_nil)) rfl (by rw [List.length_map]; simp only [List.length_cons, List.length_nil]; omega)).eq (P1 := Lf ((ws ++ [wd]).map S)) (by rw [List.map_append]; rfl)).to (Lf.L (K := K))) aa_nil) ⟨ws ++ [wd], rfl, by rw [List.length_append]; simp only [List.length_cons, List.length_nil]; omega, fun x hx => Nat.le_trans (hall x hx) (by decide), rfl, rfl⟩ rfl)
          ((a_lenO 0 T.b_len (a_var (P := R l) 2) rfl).eq (P1 := I (ws.length : Int)) (by rw [List.length_map])) (wV_scal _ _)) (fun _ => ?_) (fun _ => ?_)
        · refine gs_asgG (i := 4) (P := EX (fun w : Str => w.length ≤ 10) S) sc_law.nd rfl (Or.inl rfl) (a_call MN hr (by omega) (aa_cons (a_var (P := R a) 1) aa_nil) ⟨1, a, rfl, hm3, rfl, rfl⟩ rfl) ?_
          exact gs_nil (gs_nil (nx_sts ⟨_, rfl, rfl⟩))
        · refine Go.weak (Q := EX (fun w : Str => w.length ≤ 10) S) 4 rfl (ex_in (F := S) hwd) ?_
          exact gs_nil (nx_sts ⟨_, rfl, rfl⟩)
      · rintro ρ' m2 ⟨c5, rfl, rfl⟩
        refine Go.openE 4 rfl fun wd hwd => ?_
        refine gs_app (n := 0) (P := S wd) (a_var (P := R l) 2) (a_var (P := S wd) 4) ⟨_, rfl⟩ rfl (by rw [List.length_map]; omega) ?_ (pe_bm PySem.F.plainAttrs_list PySem.F.slot_list_append PySem.F.type_list_append mt_append pcE pcA)
        refine Go.openP 1 rfl fun p hp => ?_
        refine gs_nil (nx_sts ⟨p, ws ++ [wd], _, _, _, hp, ?_, ?_, rfl, ?_⟩)
        · rw [List.length_append]; simp only [List.length_cons, List.length_nil]; omega
        · intro x hx
          simp only [List.mem_append, List.mem_cons, List.not_mem_nil, or_false] at hx
          rcases hx with h | rfl
          · exact hw x h
          · exact hwd
        · rw [List.map_append]; rfl
    · rintro ρ' m2 ⟨p2, ws, c3, c4, c5, hp2, hn, hw, rfl, rfl⟩
      refine Go.closeP (m := [(l, MO.lst (ws.map S)), (a, pm K)]) 1 rfl hp2 ?_
      refine Go.freeze (K := K) 2 rfl ?_
      refine Go.weak (Q := WD K 80 1000) 2 rfl (ex_in (F := fun ws : List Str => L K (ws.map S)) ⟨by omega, fun x hx => Nat.le_trans (hw x hx) (by decide)⟩) ?_
      exact gs_nil (nx_sts ⟨_, _, _, rfl, rfl⟩)
  · rintro ρ' m' ⟨c3, c4, c5, rfl, rfl⟩
    refine Go.openE 2 rfl fun ws hws => ?_
    show GS _ _ _ [some (L K (ns.map I)), some (R a), some (L K (ws.map S)), c3, c4, c5, none, none, none, none] [(a, pm K)] _
    refine gs_asgG (i := 6) (P := EX (fun s : Str => s.length ≤ 85000) S) sc_law.nd rfl (Or.inl rfl) (a_call (ok_law_joined T) hr (by omega) (aa_cons (a_var (P := R a) 1) (aa_cons (a_var (P := L K (ws.map S)) 2) aa_nil)) ⟨0, a, ws, rfl, hm, hws.1, hws.2, rfl, rfl⟩ rfl) ?_
    refine Go.openE 6 rfl fun z hz => ?_
    show GS _ _ _ [some (L K (ns.map I)), some (R a), some (L K (ws.map S)), c3, c4, c5, some (S z), none, none, none] [(a, pm K)] _
    refine gs_asgG (i := 2) (P := L K ((Txt.split z " ").map S)) sc_law.nd rfl (Or.inl rfl) (a_split (s := z) (a_var (P := S z) 6) a_str (by decide +kernel) (by omega)) ?_
    have hsp := SV.split_len z
    have hwz : (wordsOf z).length ≤ 85001 ∧ ∀ w ∈ wordsOf z, w.length ≤ 85000 := by
      unfold wordsOf
      by_cases hs : z = ""
      · rw [if_pos hs]; exact ⟨by simp, fun _ h => nomatch h⟩
      · rw [if_neg hs]; exact ⟨by omega, fun w hw => Nat.le_trans (hsp.2 w hw) hz⟩
    obtain ⟨hwn, hww⟩ := hwz
    refine gs_ifM (fun ρ' m' => ρ' = [some (L K (ns.map I)), some (R a), some (L K ((wordsOf z).map S)), c3, c4, c5, some (S z), none, none, none] ∧ m' = [(a, pm K)]) (t_eqS (a_var (P := S z) 6) a_str) (fun h => ?_) (fun h => ?_) ?_
    · have hs : z = "" := of_decide_eq_true h
      refine gs_asgG (i := 2) (P := L K ((wordsOf z).map S)) sc_law.nd rfl (Or.inl rfl) ((a_lst aa_nil).eq (by unfold wordsOf; rw [if_pos hs]; rfl)) ?_
      exact gs_nil (nx_sts ⟨rfl, rfl⟩)
    · have hs : ¬ z = "" := of_decide_eq_false h
      refine gs_nil (nx_sts ⟨?_, rfl⟩)
      unfold wordsOf
      rw [if_neg hs]
      rfl
    · rintro ρ' m' ⟨rfl, rfl⟩
      refine gs_asgG (i := 7) (P := C (wV (wrong (wordsOf z)))) sc_law.nd rfl (Or.inl rfl) (a_call WR hr (by omega) (aa_cons (a_var (P := L K ((wordsOf z).map S)) 2) aa_nil) ⟨wordsOf z, rfl, by omega, fun w hw => Nat.le_trans (hww w hw) (by decide), rfl, rfl⟩ rfl) ?_
      show GS _ _ _ [some (L K (ns.map I)), some (R a), some (L K ((wordsOf z).map S)), c3, c4, c5, some (S z), some (C (wV (wrong (wordsOf z)))), none, none] [(a, pm K)] _
      have hsay := rf_says z
      have S1 : cReadFX K cBadText ([S z] ++ ([] : List V).map C) [(a, pm K)] (outF K cBadText (rf z)) [(a, pm K)] := ⟨z, rfl, by omega, by omega, fun w hw => Nat.le_trans (hww w hw) (by decide), rfl, rfl⟩
      refine gs_tryAs (i := 9) (c := .ref cTalkError) rfl rfl sc_law.nd rfl rfl ⟨rfl, by decide, .inl T.g_TalkError⟩ fun pn xe hh => ?_
      cases h : rf z with
      | ok fm =>
        rw [h] at hsay S1
        obtain ⟨hw0, htx, hht, hx⟩ := hsay
        refine gs_asgG (i := 8) (P := S z) sc_law.nd rfl (Or.inl rfl) ((a_call (P := S fm.txt) FT hr (by omega) (aa_cons (a_callX (P := fm.rep K) RFX hr (by omega) (aa_cons (a_var (P := S z) 6) aa_nil) S1) aa_nil) ⟨fm, rfl, hht, by decide, hx, rfl, rfl⟩).eq (by rw [htx])) ?_
        refine gs_nil (nx_go ?_)
        refine gs_ret (a_and (t := true) (u := true) ((a_isN (v := wV (wrong (wordsOf z))) (a_var (P := C (wV (wrong (wordsOf z)))) 7) a_non).eq (by rw [hw0]; rfl)) fun _ => a_one (a_call (P := B true) (ok_law_same T 0) hr (by omega) (aa_cons (a_var (P := S z) 8) (aa_cons (a_var (P := S z) 6) aa_nil)) ⟨.str z, by simp [rp], by simp [Dt.dp], by simp [Dt.wd], rfl, rfl⟩)) hQ.drop
      | error e =>
        rw [h] at hsay S1
        refine gs_asgR sc_law.nd (i := 8) rfl (Or.inl rfl) (ar_arg0 (z := XF cBadText "at" (I (e : Int))) FT hr (by omega) (ra_here (ar_call RFX hr (by omega) (aa_cons (a_var (P := S z) 6) aa_nil) S1))) (hh _ _ _ ?_)
        intro cls dx H' hz' ex
        have hcl : cls = .ref cBadText := hz'.1
        subst hcl
        refine ⟨T.xe_BadText, fun b oe pn' hzc hv => ?_⟩
        show GS _ _ _ [some (L K (ns.map I)), some (R a), some (L K ((wordsOf z).map S)), c3, c4, c5, some (S z), some (C (wV (wrong (wordsOf z)))), none, some (XV (XF cBadText "at" (I (e : Int))) b (.ref cBadText) dx)] [(a, pm K)] _
        refine gs_when (t := false) (w_t (w_or (t := false) (u := false) (t_not (t := true) (t_val (a_cb (call_isX T.xc_BadText hzc hv) (rc_isX1 (z := XF cBadText "at" (I (e : Int))) (fun H => xd_F) (.own cBadText) (by unfold PySem.W.kitOne; rw [if_pos (by simp)])) T.b_isinstance bv (aa_cons (a_var (P := XV (XF cBadText "at" (I (e : Int))) b (.ref cBadText) dx) 9) (aa_cons (a_gref T.g_BadText) aa_nil)))))
          fun _ => w_or1 (t_val (a_cb (call_isX T.xc_BadText hzc hv) (rc_isXT (z := XF cBadText "at" (I (e : Int))) (cs := [.ref cBadPaper, .ref cBadRatio, .ref cBadTable, .ref cBadTalk, .ref cTooLarge]) (fun H => xd_F) (.cons (.own _) (.cons (.own _) (.cons (.own _) (.cons (.own _) (.cons (.own _) .nil))))) T.ke_t) T.b_isinstance bv
            (aa_cons (a_var (P := XV (XF cBadText "at" (I (e : Int))) b (.ref cBadText) dx) 9) (aa_cons (a_tupF (aa_cons (a_gref T.g_BadPaper) (aa_cons (a_gref T.g_BadRatio) (aa_cons (a_gref T.g_BadTable) (aa_cons (a_gref T.g_BadTalk) (aa_cons (a_gref T.g_TooLarge) aa_nil)))))) aa_nil)))))) (fun h => nomatch h) (fun _ => ?_)
        refine gs_ret (a_and (t := true) (u := true) ((a_notN (v := wV (wrong (wordsOf z))) (a_var (P := C (wV (wrong (wordsOf z)))) 7) a_non).eq (by rw [hsay]; rfl)) fun _ => a_one (a_callQ (P := B true) (okq_same T) hr (by omega) (aa_cons (a_xf (P := I (e : Int)) ⟨T.xc_BadText.hg, T.xc_BadText.hk, T.xs_BadText, T.xc_BadText.hd⟩ T.na_BadText_at hzc hv (a_var (P := XV (XF cBadText "at" (I (e : Int))) b (.ref cBadText) dx) 9)) (aa_cons ((a_var (P := C (wV (wrong (wordsOf z)))) 7).eq (P1 := I (e : Int)) (by rw [hsay]; rfl)) aa_nil)) ⟨(e : Int), rfl, rfl, rfl⟩)) (fun v H2 o2 ex2 pv => hQ.drop v H2 o2 (ex.trans ex2) pv)

end
section
variable {P : Program} {w : World} {K : PySem.W.Frag} {mg : Str → Option Value} {cTalkError cBadText cBadPaper cBadTable cBadTalk cTooLarge cBadRatio : Addr}
theorem law_end {P : Program} {h : Heap} {fa : Addr} {f1 f2 f3 f4 f5 f6 f7 f8 f9 f10 f11 f12 f13 f14 f15 f16 f17 f18 f19 f20 f21 f22 : Addr} (X : K.In h) (G : h.Ns mainGlobals mg) (hfa : mg "law" = some (.ref fa))
    {od1 an1 : Option Addr} {sl1 : Array (Option Value)} {oc1 kV1 dc1 pm1 cd1 ct1 : Value} {od2 an2 : Option Addr} {sl2 : Array (Option Value)} {oc2 kV2 dc2 pm2 cd2 ct2 : Value} {od3 an3 : Option Addr} {sl3 : Array (Option Value)}
    {oc3 kV3 dc3 pm3 cd3 ct3 : Value} {od4 an4 : Option Addr} {sl4 : Array (Option Value)} {oc4 kV4 dc4 pm4 cd4 ct4 : Value} {od5 an5 : Option Addr} {sl5 : Array (Option Value)} {oc5 kV5 dc5 pm5 cd5 ct5 : Value} {T5 : Addr}
    {ocT5 : Value} {odT5 : Option Addr} {nT5 : Nat} {slT5 : Array (Option Value)} {tk5_0 : Tok} {od6 an6 : Option Addr} {sl6 : Array (Option Value)} {oc6 kV6 dc6 pm6 cd6 ct6 : Value}
    {od7 an7 : Option Addr} {sl7 : Array (Option Value)} {oc7 kV7 dc7 pm7 cd7 ct7 : Value} {od8 an8 : Option Addr} {sl8 : Array (Option Value)} {oc8 kV8 dc8 pm8 cd8 ct8 : Value} {od9 an9 : Option Addr} {sl9 : Array (Option Value)}
    {oc9 kV9 dc9 pm9 cd9 ct9 : Value} {od10 an10 : Option Addr} {sl10 : Array (Option Value)} {oc10 kV10 dc10 pm10 cd10 ct10 : Value} {od11 an11 : Option Addr} {sl11 : Array (Option Value)} {oc11 kV11 dc11 pm11 cd11 ct11 : Value} {od12 an12 : Option Addr}
    {sl12 : Array (Option Value)} {oc12 kV12 dc12 pm12 cd12 ct12 : Value} {od13 an13 : Option Addr} {sl13 : Array (Option Value)} {oc13 kV13 dc13 pm13 cd13 ct13 : Value} {od14 an14 : Option Addr} {sl14 : Array (Option Value)} {oc14 kV14 dc14 pm14 cd14 ct14 : Value}
    {od15 an15 : Option Addr} {sl15 : Array (Option Value)} {oc15 kV15 dc15 pm15 cd15 ct15 : Value} {od16 an16 : Option Addr} {sl16 : Array (Option Value)} {oc16 kV16 dc16 pm16 cd16 ct16 : Value} {od17 an17 : Option Addr} {sl17 : Array (Option Value)}
    {oc17 kV17 dc17 pm17 cd17 ct17 : Value} {od18 an18 : Option Addr} {sl18 : Array (Option Value)} {oc18 kV18 dc18 pm18 cd18 ct18 : Value} {od19 an19 : Option Addr} {sl19 : Array (Option Value)} {oc19 kV19 dc19 pm19 cd19 ct19 : Value} {od20 an20 : Option Addr}
    {sl20 : Array (Option Value)} {oc20 kV20 dc20 pm20 cd20 ct20 : Value} {od21 an21 : Option Addr} {sl21 : Array (Option Value)} {oc21 kV21 dc21 pm21 cd21 ct21 : Value} {od22 an22 : Option Addr} {sl22 : Array (Option Value)} {oc22 kV22 dc22 pm22 cd22 ct22 : Value}
    {eq1_BadText eq2_BadText : Str} {eN_BadText : Addr} {ebs_BadText esub_BadText : List Value} {esn_BadText : List Str} {eab_BadText : Bool} {ecol_BadText : Option Bool} {edd_BadText : Option Addr} {ek0_BadText ek1_BadText ek2_BadText ek3_BadText ek5_BadText : Option Value}
    {tg_LARGEST : Tok} {tg__DIGITS : Tok} {A__OPERATORS : Addr} {oD__OPERATORS : Option Addr} {nN__OPERATORS : Nat} {sS__OPERATORS : Array (Option Value)} {tq_OPERATORS_0 : Tok} {tq_OPERATORS_1 : Tok}
    {tq_OPERATORS_2 : Tok} {tq_OPERATORS_3 : Tok} {tq_OPERATORS_4 : Tok} {tq_OPERATORS_5 : Tok} {tq_OPERATORS_6 : Tok} {tg__DEEPEST : Tok}
    (aC_TalkError : PySem.W.nsIn K mainGlobals "TalkError" = some (some (.ref cTalkError)))
    (aC_BadText : PySem.W.nsIn K mainGlobals "BadText" = some (some (.ref cBadText)))
    (aC_BadPaper : PySem.W.nsIn K mainGlobals "BadPaper" = some (some (.ref cBadPaper)))
    (aC_BadTable : PySem.W.nsIn K mainGlobals "BadTable" = some (some (.ref cBadTable)))
    (aC_BadTalk : PySem.W.nsIn K mainGlobals "BadTalk" = some (some (.ref cBadTalk)))
    (aC_TooLarge : PySem.W.nsIn K mainGlobals "TooLarge" = some (some (.ref cTooLarge)))
    (aC_BadRatio : PySem.W.nsIn K mainGlobals "BadRatio" = some (some (.ref cBadRatio)))
    (a1 : PySem.W.findIn K (.ref cBadText) "__init__" = some (some (.ref f1)))
    (i1 : PySem.W.isFn K (.ref f1) = true)
    (l1 : K.lookup f1 = some ⟨oc1, od1, .func (PySem.W.fnOf "__init__" "BadText.__init__" (defArgs sBadText_init) (defBody sBadText_init) (defScope sBadText_init) .none kV1 dc1 pm1 an1 cd1 ct1), sl1⟩)
    (c1 : PySem.W.codeIn K cd1 "BadText.__init__" = true)
    (k1 : PySem.W.keepIn K (.ref f1) = true)
    (ty1 : PySem.W.typeIn K (.ref f1) = some (.type "function"))
    (a2 : PySem.W.nsIn K mainGlobals "words_of" = some (some (.ref f2)))
    (l2 : K.lookup f2 = some ⟨oc2, od2, .func (PySem.W.fnOf "words_of" "words_of" (defArgs sWords_of) (defBody sWords_of) (defScope sWords_of) .none kV2 dc2 pm2 an2 cd2 ct2), sl2⟩)
    (c2 : PySem.W.codeIn K cd2 "words_of" = true)
    (k2 : PySem.W.keepIn K (.ref f2) = true)
    (a3 : PySem.W.nsIn K mainGlobals "is_number" = some (some (.ref f3)))
    (l3 : K.lookup f3 = some ⟨oc3, od3, .func (PySem.W.fnOf "is_number" "is_number" (defArgs sIs_number) (defBody sIs_number) (defScope sIs_number) .none kV3 dc3 pm3 an3 cd3 ct3), sl3⟩)
    (c3 : PySem.W.codeIn K cd3 "is_number" = true)
    (k3 : PySem.W.keepIn K (.ref f3) = true)
    (a4 : PySem.W.nsIn K mainGlobals "are_digits" = some (some (.ref f4)))
    (l4 : K.lookup f4 = some ⟨oc4, od4, .func (PySem.W.fnOf "are_digits" "are_digits" (defArgs sAre_digits) (defBody sAre_digits) (defScope sAre_digits) .none kV4 dc4 pm4 an4 cd4 ct4), sl4⟩)
    (c4 : PySem.W.codeIn K cd4 "are_digits" = true)
    (k4 : PySem.W.keepIn K (.ref f4) = true)
    (a5 : PySem.W.nsIn K mainGlobals "read_expression" = some (some (.ref f5)))
    (l5 : K.lookup f5 = some ⟨oc5, od5, .func (PySem.W.fnOf "read_expression" "read_expression" (defArgs sRead_expression) (defBody sRead_expression) (defScope sRead_expression) (.ref T5) kV5 dc5 pm5 an5 cd5 ct5), sl5⟩)
    (c5 : PySem.W.codeIn K cd5 "read_expression" = true)
    (k5 : PySem.W.keepIn K (.ref f5) = true)
    (lT5 : K.lookup T5 = some ⟨ocT5, odT5, .seq (([.int (5) tk5_0] : List Value).toArray) nT5, slT5⟩)
    (a6 : PySem.W.nsIn K mainGlobals "_named" = some (some (.ref f6)))
    (l6 : K.lookup f6 = some ⟨oc6, od6, .func (PySem.W.fnOf "_named" "_named" (defArgs sNamed) (defBody sNamed) (defScope sNamed) .none kV6 dc6 pm6 an6 cd6 ct6), sl6⟩)
    (c6 : PySem.W.codeIn K cd6 "_named" = true)
    (k6 : PySem.W.keepIn K (.ref f6) = true)
    (a7 : PySem.W.nsIn K mainGlobals "expression_text" = some (some (.ref f7)))
    (l7 : K.lookup f7 = some ⟨oc7, od7, .func (PySem.W.fnOf "expression_text" "expression_text" (defArgs sExpression_text) (defBody sExpression_text) (defScope sExpression_text) .none kV7 dc7 pm7 an7 cd7 ct7), sl7⟩)
    (c7 : PySem.W.codeIn K cd7 "expression_text" = true)
    (k7 : PySem.W.keepIn K (.ref f7) = true)
    (a8 : PySem.W.nsIn K mainGlobals "read_formula" = some (some (.ref f8)))
    (l8 : K.lookup f8 = some ⟨oc8, od8, .func (PySem.W.fnOf "read_formula" "read_formula" (defArgs sRead_formula) (defBody sRead_formula) (defScope sRead_formula) .none kV8 dc8 pm8 an8 cd8 ct8), sl8⟩)
    (c8 : PySem.W.codeIn K cd8 "read_formula" = true)
    (k8 : PySem.W.keepIn K (.ref f8) = true)
    (a9 : PySem.W.nsIn K mainGlobals "formula_text" = some (some (.ref f9)))
    (l9 : K.lookup f9 = some ⟨oc9, od9, .func (PySem.W.fnOf "formula_text" "formula_text" (defArgs sFormula_text) (defBody sFormula_text) (defScope sFormula_text) .none kV9 dc9 pm9 an9 cd9 ct9), sl9⟩)
    (c9 : PySem.W.codeIn K cd9 "formula_text" = true)
    (k9 : PySem.W.keepIn K (.ref f9) = true)
    (a10 : PySem.W.nsIn K mainGlobals "_law_pool" = some (some (.ref f10)))
    (l10 : K.lookup f10 = some ⟨oc10, od10, .func (PySem.W.fnOf "_law_pool" "_law_pool" (defArgs sLaw_pool) (defBody sLaw_pool) (defScope sLaw_pool) .none kV10 dc10 pm10 an10 cd10 ct10), sl10⟩)
    (c10 : PySem.W.codeIn K cd10 "_law_pool" = true)
    (k10 : PySem.W.keepIn K (.ref f10) = true)
    (a11 : PySem.W.nsIn K mainGlobals "_law_draw" = some (some (.ref f11)))
    (l11 : K.lookup f11 = some ⟨oc11, od11, .func (PySem.W.fnOf "_law_draw" "_law_draw" (defArgs sLaw_draw) (defBody sLaw_draw) (defScope sLaw_draw) .none kV11 dc11 pm11 an11 cd11 ct11), sl11⟩)
    (c11 : PySem.W.codeIn K cd11 "_law_draw" = true)
    (k11 : PySem.W.keepIn K (.ref f11) = true)
    (a12 : PySem.W.nsIn K mainGlobals "_law_same" = some (some (.ref f12)))
    (l12 : K.lookup f12 = some ⟨oc12, od12, .func (PySem.W.fnOf "_law_same" "_law_same" (defArgs sLaw_same) (defBody sLaw_same) (defScope sLaw_same) .none kV12 dc12 pm12 an12 cd12 ct12), sl12⟩)
    (c12 : PySem.W.codeIn K cd12 "_law_same" = true)
    (k12 : PySem.W.keepIn K (.ref f12) = true)
    (a13 : PySem.W.nsIn K mainGlobals "_law_value" = some (some (.ref f13)))
    (l13 : K.lookup f13 = some ⟨oc13, od13, .func (PySem.W.fnOf "_law_value" "_law_value" (defArgs sLaw_value) (defBody sLaw_value) (defScope sLaw_value) .none kV13 dc13 pm13 an13 cd13 ct13), sl13⟩)
    (c13 : PySem.W.codeIn K cd13 "_law_value" = true)
    (k13 : PySem.W.keepIn K (.ref f13) = true)
    (a14 : PySem.W.nsIn K mainGlobals "_law_value_words" = some (some (.ref f14)))
    (l14 : K.lookup f14 = some ⟨oc14, od14, .func (PySem.W.fnOf "_law_value_words" "_law_value_words" (defArgs sLaw_value_words) (defBody sLaw_value_words) (defScope sLaw_value_words) .none kV14 dc14 pm14 an14 cd14 ct14), sl14⟩)
    (c14 : PySem.W.codeIn K cd14 "_law_value_words" = true)
    (k14 : PySem.W.keepIn K (.ref f14) = true)
    (a15 : PySem.W.nsIn K mainGlobals "_law_is_number" = some (some (.ref f15)))
    (l15 : K.lookup f15 = some ⟨oc15, od15, .func (PySem.W.fnOf "_law_is_number" "_law_is_number" (defArgs sLaw_is_number) (defBody sLaw_is_number) (defScope sLaw_is_number) .none kV15 dc15 pm15 an15 cd15 ct15), sl15⟩)
    (c15 : PySem.W.codeIn K cd15 "_law_is_number" = true)
    (k15 : PySem.W.keepIn K (.ref f15) = true)
    (a16 : PySem.W.nsIn K mainGlobals "_law_values" = some (some (.ref f16)))
    (l16 : K.lookup f16 = some ⟨oc16, od16, .func (PySem.W.fnOf "_law_values" "_law_values" (defArgs sLaw_values) (defBody sLaw_values) (defScope sLaw_values) .none kV16 dc16 pm16 an16 cd16 ct16), sl16⟩)
    (c16 : PySem.W.codeIn K cd16 "_law_values" = true)
    (k16 : PySem.W.keepIn K (.ref f16) = true)
    (a17 : PySem.W.nsIn K mainGlobals "_law_spoilt" = some (some (.ref f17)))
    (l17 : K.lookup f17 = some ⟨oc17, od17, .func (PySem.W.fnOf "_law_spoilt" "_law_spoilt" (defArgs sLaw_spoilt) (defBody sLaw_spoilt) (defScope sLaw_spoilt) .none kV17 dc17 pm17 an17 cd17 ct17), sl17⟩)
    (c17 : PySem.W.codeIn K cd17 "_law_spoilt" = true)
    (k17 : PySem.W.keepIn K (.ref f17) = true)
    (a18 : PySem.W.nsIn K mainGlobals "_law_changed" = some (some (.ref f18)))
    (l18 : K.lookup f18 = some ⟨oc18, od18, .func (PySem.W.fnOf "_law_changed" "_law_changed" (defArgs sLaw_changed) (defBody sLaw_changed) (defScope sLaw_changed) .none kV18 dc18 pm18 an18 cd18 ct18), sl18⟩)
    (c18 : PySem.W.codeIn K cd18 "_law_changed" = true)
    (k18 : PySem.W.keepIn K (.ref f18) = true)
    (a19 : PySem.W.nsIn K mainGlobals "_law_joined" = some (some (.ref f19)))
    (l19 : K.lookup f19 = some ⟨oc19, od19, .func (PySem.W.fnOf "_law_joined" "_law_joined" (defArgs sLaw_joined) (defBody sLaw_joined) (defScope sLaw_joined) .none kV19 dc19 pm19 an19 cd19 ct19), sl19⟩)
    (c19 : PySem.W.codeIn K cd19 "_law_joined" = true)
    (k19 : PySem.W.keepIn K (.ref f19) = true)
    (a20 : PySem.W.nsIn K mainGlobals "_law_menu" = some (some (.ref f20)))
    (l20 : K.lookup f20 = some ⟨oc20, od20, .func (PySem.W.fnOf "_law_menu" "_law_menu" (defArgs sLaw_menu) (defBody sLaw_menu) (defScope sLaw_menu) .none kV20 dc20 pm20 an20 cd20 ct20), sl20⟩)
    (c20 : PySem.W.codeIn K cd20 "_law_menu" = true)
    (k20 : PySem.W.keepIn K (.ref f20) = true)
    (a21 : PySem.W.nsIn K mainGlobals "_law_wrong" = some (some (.ref f21)))
    (l21 : K.lookup f21 = some ⟨oc21, od21, .func (PySem.W.fnOf "_law_wrong" "_law_wrong" (defArgs sLaw_wrong) (defBody sLaw_wrong) (defScope sLaw_wrong) .none kV21 dc21 pm21 an21 cd21 ct21), sl21⟩)
    (c21 : PySem.W.codeIn K cd21 "_law_wrong" = true)
    (k21 : PySem.W.keepIn K (.ref f21) = true)
    (a22 : PySem.W.nsIn K mainGlobals "law" = some (some (.ref f22)))
    (l22 : K.lookup f22 = some ⟨oc22, od22, .func (PySem.W.fnOf "law" "law" (defArgs sLaw) (defBody sLaw) (defScope sLaw) .none kV22 dc22 pm22 an22 cd22 ct22), sl22⟩)
    (c22 : PySem.W.codeIn K cd22 "law" = true)
    (k22 : PySem.W.keepIn K (.ref f22) = true)
    (hn_x : PySem.W.specialIn K (.builtin "object.__class__") "__get__" = some (some (.builtin "getset_descriptor.__get__")))
    (tk_x : PySem.W.takesIn K (.builtin "object.__class__") = some true)
    (xg_TalkError : PySem.W.findIn K (.ref cTalkError) "__getattribute__" = some (some (.builtin "BaseException.__getattribute__")))
    (xn_TalkError : PySem.W.findIn K (.ref cTalkError) "__getattr__" = some none)
    (xs_TalkError : PySem.W.subIn K (.ref cTalkError) (.type "BaseException") = some true)
    (xh_TalkError : PySem.W.hasDictIn K cTalkError = true)
    (xa_TalkError : PySem.W.findIn K (.ref cTalkError) "__class__" = some (some (.builtin "object.__class__")))
    (xm_TalkError : PySem.W.mroIn K cTalkError (.type "object") = some true)
    (xt_TalkError : PySem.W.typeIn K (.ref cTalkError) = some (.type "type"))
    (xk_TalkError : PySem.W.keepIn K (.ref cTalkError) = true)
    (xg_BadText : PySem.W.findIn K (.ref cBadText) "__getattribute__" = some (some (.builtin "BaseException.__getattribute__")))
    (xn_BadText : PySem.W.findIn K (.ref cBadText) "__getattr__" = some none)
    (xs_BadText : PySem.W.subIn K (.ref cBadText) (.type "BaseException") = some true)
    (xh_BadText : PySem.W.hasDictIn K cBadText = true)
    (xa_BadText : PySem.W.findIn K (.ref cBadText) "__class__" = some (some (.builtin "object.__class__")))
    (xm_BadText : PySem.W.mroIn K cBadText (.type "object") = some true)
    (xt_BadText : PySem.W.typeIn K (.ref cBadText) = some (.type "type"))
    (xk_BadText : PySem.W.keepIn K (.ref cBadText) = true)
    (xe_BadText : PySem.W.subIn K (.ref cBadText) (.ref cTalkError) = some true)
    (xl_BadText : K.lookup cBadText = some (PySem.excClassObj eq1_BadText eq2_BadText cBadText eN_BadText ebs_BadText [.ref cTalkError, .type "ValueError", .type "Exception", .type "BaseException", .type "object"] true esn_BadText esub_BadText eab_BadText ecol_BadText edd_BadText ek0_BadText ek1_BadText ek2_BadText ek3_BadText ek5_BadText "ValueError.__new__"))
    (xv_BadText : PySem.W.findIn K (.ref cBadText) "__setattr__" = some (some (.builtin "object.__setattr__")))
    (na_BadText_at : PySem.W.findIn K (.ref cBadText) "at" = some none)
    (xR_TalkError : PySem.W.readsIn K cTalkError (.type "type") = true)
    (xG_TalkError : PySem.W.specialIn K (.ref cTalkError) "__getattribute__" = some (some (.builtin "type.__getattribute__")))
    (xF_TalkError : PySem.W.findCls K (.ref cTalkError) (.type "type") "__init__" = some (.val (.builtin "ValueError.__init__")))
    (ke_t : PySem.W.kitAny K (.ref cBadText) [.ref cBadPaper, .ref cBadRatio, .ref cBadTable, .ref cBadTalk, .ref cTooLarge] = some false)
    (z_ValueError : PySem.W.nsIn K mainGlobals "ValueError" = some none)
    (z_all : PySem.W.nsIn K mainGlobals "all" = some none)
    (z_bool : PySem.W.nsIn K mainGlobals "bool" = some none)
    (z_int : PySem.W.nsIn K mainGlobals "int" = some none)
    (z_isinstance : PySem.W.nsIn K mainGlobals "isinstance" = some none)
    (z_len : PySem.W.nsIn K mainGlobals "len" = some none)
    (z_list : PySem.W.nsIn K mainGlobals "list" = some none)
    (z_range : PySem.W.nsIn K mainGlobals "range" = some none)
    (z_str : PySem.W.nsIn K mainGlobals "str" = some none)
    (z_tuple : PySem.W.nsIn K mainGlobals "tuple" = some none)
    (g_LARGEST : PySem.W.nsIn K mainGlobals "LARGEST" = some (some (.int (65535) tg_LARGEST)))
    (g__DIGITS : PySem.W.nsIn K mainGlobals "_DIGITS" = some (some (.str "0123456789" tg__DIGITS)))
    (g__OPERATORS : PySem.W.nsIn K mainGlobals "_OPERATORS" = some (some (.ref A__OPERATORS)))
    (t__OPERATORS : K.lookup A__OPERATORS = some ⟨.type "tuple", oD__OPERATORS, .seq (([.str "+" tq_OPERATORS_0, .str "-" tq_OPERATORS_1, .str "*" tq_OPERATORS_2, .str "/" tq_OPERATORS_3, .str "mod" tq_OPERATORS_4, .str "<" tq_OPERATORS_5, .str "=" tq_OPERATORS_6] : List Value).toArray) nN__OPERATORS, sS__OPERATORS⟩)
    (g__DEEPEST : PySem.W.nsIn K mainGlobals "_DEEPEST" = some (some (.int (5) tg__DEEPEST)))
    : ∃ fd : FuncData, (∀ (s : Shared) (v : Value), BindsTo s fd ⟨[v], []⟩ [("script", v)]) ∧ ∀ base : Heap, K.In base → base.Ns mainGlobals mg → FnOk P w K mg base CX0 12 fa fd ["script"] (spC (cLaw K)) := by
  have e := hfa.symm.trans (PySem.W.mg_of X G a22)
  cases e
  have T : Txt K mg cTalkError cBadText cBadPaper cBadTable cBadTalk cTooLarge cBadRatio := txt_mk X G aC_TalkError aC_BadText aC_BadPaper aC_BadTable aC_BadTalk aC_TooLarge aC_BadRatio a1 i1 l1 c1 k1 ty1 a2 l2 c2 k2 a3 l3 c3 k3 a4 l4 c4 k4 a5 l5 c5 k5 lT5 a6 l6 c6 k6 a7 l7 c7 k7 a8 l8 c8 k8 a9 l9 c9 k9 a10 l10 c10 k10 a11 l11 c11 k11 a12 l12 c12 k12 a13 l13 c13 k13 a14 l14 c14 k14 a15 l15 c15 k15 a16 l16 c16 k16 a17 l17 c17 k17 a18 l18 c18 k18 a19 l19 c19 k19 a20 l20 c20 k20 a21 l21 c21 k21 a22 l22 c22 k22 hn_x tk_x xg_TalkError xn_TalkError xs_TalkError xh_TalkError xa_TalkError xm_TalkError xt_TalkError xk_TalkError xg_BadText xn_BadText xs_BadText xh_BadText xa_BadText xm_BadText xt_BadText xk_BadText xe_BadText xl_BadText xv_BadText na_BadText_at xR_TalkError xG_TalkError xF_TalkError ke_t z_ValueError z_all z_bool z_int z_isinstance z_len z_list z_range z_str z_tuple g_LARGEST g__DIGITS g__OPERATORS t__OPERATORS g__DEEPEST
  have F := fun_mk (st := sLaw) l22 c22 k22
  exact ⟨PySem.W.fnOf "law" "law" (defArgs sLaw) (defBody sLaw) (defScope sLaw) .none kV22 dc22 pm22 an22 cd22 ct22, fun s v => .of_eq rfl, fun base _ _ => ok_law T F⟩
end

end K03
open PySem PySem.W PyProof.Rows
set_option maxRecDepth 100000 in
set_option maxHeartbeats 0 in
theorem PySem.Challenge.cw_splittalk_k03_whole_formulas_are_read_ex_holds : PySem.Challenge.rw_splittalk_k03_whole_formulas_are_read_ex.Holds := by
  w_on; o_law; k_head; (case hw => w_witness2)
  k_fill
  refine L2.walk_ofK (l := PySem.Challenge.rw_splittalk_k03_whole_formulas_are_read_ex) (n := 63) (k := 12) (x := "script") (CX := L2.CX0) (sp := fun K => SV.spC (K03.cLaw K)) rfl (by decide) rfl ⟨rfl, by decide, by decide⟩ (fun w h Y => PySem.W.kIn_of Y) ?F K03.law_sp fun _ _ _ _ z => z
  case F =>
    intro w mg fa h KX G hmg
    refine' K03.law_end KX G hmg ?aC_TalkError ?aC_BadText ?aC_BadPaper ?aC_BadTable ?aC_BadTalk ?aC_TooLarge ?aC_BadRatio ?a1 ?i1 ?l1 ?c1 ?k1 ?ty1 ?a2 ?l2 ?c2 ?k2 ?a3 ?l3 ?c3 ?k3 ?a4 ?l4 ?c4 ?k4 ?a5 ?l5 ?c5 ?k5 ?lT5 ?a6 ?l6 ?c6 ?k6 ?a7 ?l7 ?c7 ?k7 ?a8 ?l8 ?c8 ?k8 ?a9 ?l9 ?c9 ?k9 ?a10 ?l10 ?c10 ?k10 ?a11 ?l11 ?c11 ?k11 ?a12 ?l12 ?c12 ?k12 ?a13 ?l13 ?c13 ?k13 ?a14 ?l14 ?c14 ?k14 ?a15 ?l15 ?c15 ?k15 ?a16 ?l16 ?c16 ?k16 ?a17 ?l17 ?c17 ?k17 ?a18 ?l18 ?c18 ?k18 ?a19 ?l19 ?c19 ?k19 ?a20 ?l20 ?c20 ?k20 ?a21 ?l21 ?c21 ?k21 ?a22 ?l22 ?c22 ?k22 ?hn_x ?tk_x ?xg_TalkError ?xn_TalkError ?xs_TalkError ?xh_TalkError ?xa_TalkError ?xm_TalkError ?xt_TalkError ?xk_TalkError ?xg_BadText ?xn_BadText ?xs_BadText ?xh_BadText ?xa_BadText ?xm_BadText ?xt_BadText ?xk_BadText ?xe_BadText ?xl_BadText ?xv_BadText ?na_BadText_at ?xR_TalkError ?xG_TalkError ?xF_TalkError ?ke_t ?z_ValueError ?z_all ?z_bool ?z_int ?z_isinstance ?z_len ?z_list ?z_range ?z_str ?z_tuple ?g_LARGEST ?g__DIGITS ?g__OPERATORS ?t__OPERATORS ?g__DEEPEST
    (case aC_TalkError => k_is)
    (case aC_BadText => k_is)
    (case aC_BadPaper => k_is)
    (case aC_BadTable => k_is)
    (case aC_BadTalk => k_is)
    (case aC_TooLarge => k_is)
    (case aC_BadRatio => k_is)
    (case a1 => k_is)
    (case i1 => k_is)
    (case l1 => k_is)
    (case c1 => k_is)
    (case k1 => k_is)
    (case ty1 => k_is)
    (case a2 => k_is)
    (case l2 => k_is)
    (case c2 => k_is)
    (case k2 => k_is)
    (case a3 => k_is)
    (case l3 => k_is)
    (case c3 => k_is)
    (case k3 => k_is)
    (case a4 => k_is)
    (case l4 => k_is)
    (case c4 => k_is)
    (case k4 => k_is)
    (case a5 => k_is)
    (case l5 => k_is)
    (case c5 => k_is)
    (case k5 => k_is)
    (case lT5 => k_is)
    (case a6 => k_is)
    (case l6 => k_is)
    (case c6 => k_is)
    (case k6 => k_is)
    (case a7 => k_is)
    (case l7 => k_is)
    (case c7 => k_is)
    (case k7 => k_is)
    (case a8 => k_is)
    (case l8 => k_is)
    (case c8 => k_is)
    (case k8 => k_is)
    (case a9 => k_is)
    (case l9 => k_is)
    (case c9 => k_is)
    (case k9 => k_is)
    (case a10 => k_is)
    (case l10 => k_is)
    (case c10 => k_is)
    (case k10 => k_is)
    (case a11 => k_is)
    (case l11 => k_is)
    (case c11 => k_is)
    (case k11 => k_is)
    (case a12 => k_is)
    (case l12 => k_is)
    (case c12 => k_is)
    (case k12 => k_is)
    (case a13 => k_is)
    (case l13 => k_is)
    (case c13 => k_is)
    (case k13 => k_is)
    (case a14 => k_is)
    (case l14 => k_is)
    (case c14 => k_is)
    (case k14 => k_is)
    (case a15 => k_is)
    (case l15 => k_is)
    (case c15 => k_is)
    (case k15 => k_is)
    (case a16 => k_is)
    (case l16 => k_is)
    (case c16 => k_is)
    (case k16 => k_is)
    (case a17 => k_is)
    (case l17 => k_is)
    (case c17 => k_is)
    (case k17 => k_is)
    (case a18 => k_is)
    (case l18 => k_is)
    (case c18 => k_is)
    (case k18 => k_is)
    (case a19 => k_is)
    (case l19 => k_is)
    (case c19 => k_is)
    (case k19 => k_is)
    (case a20 => k_is)
    (case l20 => k_is)
    (case c20 => k_is)
    (case k20 => k_is)
    (case a21 => k_is)
    (case l21 => k_is)
    (case c21 => k_is)
    (case k21 => k_is)
    (case a22 => k_is)
    (case l22 => k_is)
    (case c22 => k_is)
    (case k22 => k_is)
    (case hn_x => k_is)
    (case tk_x => k_is)
    (case xg_TalkError => k_is)
    (case xn_TalkError => k_is)
    (case xs_TalkError => k_is)
    (case xh_TalkError => k_is)
    (case xa_TalkError => k_is)
    (case xm_TalkError => k_is)
    (case xt_TalkError => k_is)
    (case xk_TalkError => k_is)
    (case xg_BadText => k_is)
    (case xn_BadText => k_is)
    (case xs_BadText => k_is)
    (case xh_BadText => k_is)
    (case xa_BadText => k_is)
    (case xm_BadText => k_is)
    (case xt_BadText => k_is)
    (case xk_BadText => k_is)
    (case xe_BadText => k_is)
    (case xl_BadText => k_is)
    (case xv_BadText => k_is)
    (case na_BadText_at => k_is)
    (case xR_TalkError => k_is)
    (case xG_TalkError => k_is)
    (case xF_TalkError => k_is)
    (case ke_t => first | k_is | kit_is)
    (case z_ValueError => k_is)
    (case z_all => k_is)
    (case z_bool => k_is)
    (case z_int => k_is)
    (case z_isinstance => k_is)
    (case z_len => k_is)
    (case z_list => k_is)
    (case z_range => k_is)
    (case z_str => k_is)
    (case z_tuple => k_is)
    (case g_LARGEST => k_is)
    (case g__DIGITS => k_is)
    (case g__OPERATORS => k_is)
    (case t__OPERATORS => k_is)
    (case g__DEEPEST => k_is)
