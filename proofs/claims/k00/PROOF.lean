import PyProof.Rows.All
import Wide.All
import OpenK.AllK
import Wide.FinOn
import HandS.ForMost
import HandS.ForExc
import HandS.TupAny
import HandS.IsInst
import HandS.ExcInit
import HandS.FStr
import HandS.TryMany
import KE.KExcTry
import HandS.Property
import HandS.SlotsOwn
import HandS.Zip
import HandS.HotCalls
import KE.GoesMore
import HandS.Conv
import HandS.SortInts
import HandS.TupLe
import HandS.Defaults
import HandS.CallSlots
import HandS.TryOnly
import KE.SortData
import HandS.SetBool
import HandS.Strs
import HandS.Deep
import HandS.Style
import HandS.SetFor
import HandS.ReCall
import KE.DataFind
import HandS.TupSets
import HandS.DictComp
import HandS.ExcCtx
import HandS.ExcIs
import KE.KExcIs
import KE.KExcLine
import PySem.Challenge.RW_promisedesk_k00_errors
set_option Elab.async false
set_option linter.all false
set_option maxRecDepth 100000
namespace Mp
open PySem PySem.Spec PyProof.Rows L2

/-! ## values as data -/
inductive D where
  | non | bl (b : Bool) | int (i : Int) | str (x : Str) | tup (xs : List D) | lst (xs : List D) | rol (xs : List D) | obj (c : Str) (fs : List D) | ty (n : String) | cls (c : Str) | adr (a : Addr) | tpk (xs : List D) | kdt (kvs : List (List Int × Int))

/-- the constants of a program: the written part, own classes (address, field names), exception classes (address, field) -/
structure Gc where
  K : PySem.W.Frag
  cl : Str → Option (Addr × List Str)
  xc : Str → Option (Addr × Str)

/-- a dict whose keys are tuples of whole numbers, its values whole numbers -/
def hT (ks : List Int) : Int := reduceHash (Builtin.Tuple.tupleHashOf (ks.map hashInt))
def rawE (x : List Int × Addr × Value) : DictEntry := ⟨hT x.1, .ref x.2.1, x.2.2⟩
def KdO (a : Addr) (xs : List (List Int × Addr × Value)) : HO := .ext fun h => ∃ o es ep, h.get? a = some o ∧ o.ExactDict ∧ o.data = .dict es ep ∧ es.toList = xs.map rawE ∧ (xs.map (·.1)).Nodup ∧ xs.length ≤ 1000
/-- the value v stands for the data d, by what the heap F says -/
inductive Rep (g : Gc) (F : Hp) : V → D → Prop
  | non : Rep g F .non .non
  | bl (b : Bool) : Rep g F (.bl b) (.bl b)
  | int (i : Int) : Rep g F (.int i) (.int i)
  | str (x : Str) : Rep g F (.str x) (.str x)
  | tup (a : Addr) (vs : List V) (ds : List D) (h : SqT g.K F a vs) (hl : vs.length = ds.length)
      (hi : ∀ (i : Nat) (v : V) (d : D), vs[i]? = some v → ds[i]? = some d → Rep g F v d) : Rep g F (.ref a) (.tup ds)
  | rol (a : Addr) (vs : List V) (ds : List D) (h : SqL g.K F a vs) (hl : vs.length = ds.length)
      (hi : ∀ (i : Nat) (v : V) (d : D), vs[i]? = some v → ds[i]? = some d → Rep g F v d) : Rep g F (.ref a) (.rol ds)
  | tpk (a : Addr) (o : Obj) (vs : List V) (ds : List D) (h : F a = some (.frz o (.tup vs))) (hc : o.cls = .type "tuple") (hd : o.dict = none) (hl : vs.length = ds.length)
      (hi : ∀ (i : Nat) (v : V) (d : D), vs[i]? = some v → ds[i]? = some d → Rep g F v d) : Rep g F (.ref a) (.tpk ds)
  | kdt (a : Addr) (xs : List (List Int × Addr × Value)) (kvs : List (List Int × Int)) (h : F a = some (KdO a xs)) (hl : xs.length = kvs.length)
      (hi : ∀ (i : Nat) (x : List Int × Addr × Value) (p : List Int × Int), xs[i]? = some x → kvs[i]? = some p → x.1 = p.1 ∧ SqT g.K F x.2.1 (p.1.map V.int) ∧ RelV (.int p.2) x.2.2) : Rep g F (.ref a) (.kdt kvs)
  | ty (n : String) : Rep g F (.ty n) (.ty n)
  | adr (a : Addr) : Rep g F (.ref a) (.adr a)
  | cls (c : Str) (C : Addr) (ns : List Str) (hc : g.cl c = some (C, ns)) : Rep g F (.ref C) (.cls c)
  | lst (a : Addr) (vs : List V) (ds : List D) (h : F a = some (.lst vs)) (hl : vs.length = ds.length)
      (hi : ∀ (i : Nat) (v : V) (d : D), vs[i]? = some v → ds[i]? = some d → Rep g F v d) : Rep g F (.ref a) (.lst ds)
  | obj (a : Addr) (c : Str) (C dx : Addr) (ns : List Str) (vs : List V) (ds : List D) (hc : g.cl c = some (C, ns)) (h : F a = some (.ins C dx (ns.zip vs))) (hn : ns.length = vs.length) (hl : vs.length = ds.length)
      (hi : ∀ (i : Nat) (v : V) (d : D), vs[i]? = some v → ds[i]? = some d → Rep g F v d) : Rep g F (.ref a) (.obj c ds)

structure Reps (g : Gc) (F : Hp) (vs : List V) (ds : List D) : Prop where
  len : vs.length = ds.length
  at_ : ∀ (i : Nat) (v : V) (d : D), vs[i]? = some v → ds[i]? = some d → Rep g F v d

theorem same_t {K : PySem.W.Frag} {H H' : Hp} {a : Addr} {xs : List V} (e : Same H H') (h : SqT K H a xs) : SqT K H' a xs := by
  rcases h with (h | ⟨o, h⟩) | h
  · exact .inl (.inl (e _ _ h))
  · exact .inl (.inr ⟨o, e _ _ h⟩)
  · exact .inr h
theorem same_new {H : Hp} {p : Addr} {o : HO} (h : H p = none) : Same H (upd H p o) := fun b x e => by
  rw [upd_ne (ne_of_none e h)]
  exact e

section
variable {g : Gc} {F F' : Hp}
theorem Rep.mono (e : Same F F') {v : V} {d : D} (h : Rep g F v d) : Rep g F' v d := by
  induction h with
  | non => exact .non
  | bl b => exact .bl b
  | int i => exact .int i
  | str x => exact .str x
  | tup a vs ds h hl _ ih => exact .tup a vs ds (same_t e h) hl ih
  | lst a vs ds h hl _ ih => exact .lst a vs ds (e _ _ h) hl ih
  | rol a vs ds h hl _ ih => exact .rol a vs ds (e.seq h) hl ih
  | tpk a o vs ds h hc hd hl _ ih => exact .tpk a o vs ds (e _ _ h) hc hd hl ih
  | kdt a xs kvs h hl hi => exact .kdt a xs kvs (e _ _ h) hl fun i x p q r => ⟨(hi i x p q r).1, same_t e (hi i x p q r).2.1, (hi i x p q r).2.2⟩
  | ty n => exact .ty n
  | adr a => exact .adr a
  | cls c C ns hc => exact .cls c C ns hc
  | obj a c C dx ns vs ds hc h hn hl _ ih => exact .obj a c C dx ns vs ds hc (e _ _ h) hn hl ih
theorem Reps.mono (e : Same F F') {vs : List V} {ds : List D} (h : Reps g F vs ds) : Reps g F' vs ds := ⟨h.len, fun i v d a b => (h.at_ i v d a b).mono e⟩
theorem Reps.nil : Reps g F [] [] := ⟨rfl, fun i v d a _ => by simp at a⟩
theorem Reps.cons {v : V} {d : D} {vs : List V} {ds : List D} (h : Rep g F v d) (t : Reps g F vs ds) : Reps g F (v :: vs) (d :: ds) :=
  ⟨by simp [t.len], fun i w e a b => by
    cases i with
    | zero =>
      simp only [List.getElem?_cons_zero, Option.some.injEq] at a b
      subst a b
      exact h
    | succ i =>
      simp only [List.getElem?_cons_succ] at a b
      exact t.at_ i w e a b⟩
theorem Reps.head {v : V} {d : D} {vs : List V} {ds : List D} (h : Reps g F (v :: vs) (d :: ds)) : Rep g F v d := h.at_ 0 v d rfl rfl
theorem Reps.tail {v : V} {d : D} {vs : List V} {ds : List D} (h : Reps g F (v :: vs) (d :: ds)) : Reps g F vs ds :=
  ⟨by have := h.len; simpa using this, fun i w e a b => h.at_ (i + 1) w e (by simpa using a) (by simpa using b)⟩
theorem Reps.get {vs : List V} {ds : List D} (h : Reps g F vs ds) {i : Nat} {d : D} (e : ds[i]? = some d) : ∃ v, vs[i]? = some v ∧ Rep g F v d := by
  have hlt : i < ds.length := (List.getElem?_eq_some_iff.mp e).1
  have hv : i < vs.length := by rw [h.len]; exact hlt
  exact ⟨vs[i], List.getElem?_eq_getElem hv, h.at_ i _ d (List.getElem?_eq_getElem hv) e⟩
theorem Reps.append : ∀ {vs ws : List V} {ds es : List D}, Reps g F vs ds → Reps g F ws es → Reps g F (vs ++ ws) (ds ++ es)
  | [], _, [], _, _, h => h
  | [], _, _ :: _, _, h, _ => by have := h.len; simp at this
  | _ :: _, _, [], _, h, _ => by have := h.len; simp at this
  | v :: vs, ws, d :: ds, es, h, k => .cons h.head (Reps.append h.tail k)
theorem Reps.take {vs : List V} {ds : List D} (h : Reps g F vs ds) (n : Nat) : Reps g F (vs.take n) (ds.take n) :=
  ⟨by simp [h.len], fun i v d a b => by
    rw [List.getElem?_take] at a b
    by_cases hi : i < n
    · rw [if_pos hi] at a b
      exact h.at_ i v d a b
    · rw [if_neg hi] at a
      cases a⟩
theorem Reps.drop {vs : List V} {ds : List D} (h : Reps g F vs ds) (n : Nat) : Reps g F (vs.drop n) (ds.drop n) :=
  ⟨by simp [h.len], fun i v d a b => by
    rw [List.getElem?_drop] at a b
    exact h.at_ (n + i) v d a b⟩
theorem Reps.set {vs : List V} {ds : List D} (h : Reps g F vs ds) (n : Nat) {v : V} {d : D} (r : Rep g F v d) : Reps g F (vs.set n v) (ds.set n d) :=
  ⟨by simp [h.len], fun i w e a b => by
    by_cases hi : n = i
    · subst hi
      rw [List.getElem?_set] at a b
      simp only [if_true] at a b
      by_cases h1 : n < vs.length
      · rw [if_pos h1] at a
        rw [if_pos (by rw [← h.len]; exact h1)] at b
        cases a
        cases b
        exact r
      · rw [if_neg h1] at a
        cases a
    · rw [List.getElem?_set_ne hi] at a b
      exact h.at_ i w e a b⟩
theorem Rep.mkTup {a : Addr} {vs : List V} {ds : List D} (h : F a = some (.tup vs)) (r : Reps g F vs ds) : Rep g F (.ref a) (.tup ds) := .tup a vs ds (SqT.of h) r.len r.at_
theorem Rep.mkLst {a : Addr} {vs : List V} {ds : List D} (h : F a = some (.lst vs)) (r : Reps g F vs ds) : Rep g F (.ref a) (.lst ds) := .lst a vs ds h r.len r.at_
end

/-! ## slots, results -/
/-- a slot: empty, a value, a list of one's own (it may change) -/
inductive Sl where
  | un | va (d : D) | ow (b : Bool) (xs : List D)
abbrev Env := List Sl
inductive Re (α : Type) where
  | ok (a : α) (e : Env) | exc (c : Str) (v : D) (e : Env) | no
def Re.bind {α β : Type} (r : Re α) (k : α → Env → Re β) : Re β :=
  match r with
  | .ok a e => k a e
  | .exc c v e => .exc c v e
  | .no => .no
inductive Fl where
  | nx (e : Env) | rt (d : D) (e : Env) | br (e : Env) | ct (e : Env) | exc (c : Str) (v : D) (e : Env) | no
def Re.flow {α : Type} (r : Re α) (k : α → Env → Fl) : Fl :=
  match r with
  | .ok a e => k a e
  | .exc c v e => .exc c v e
  | .no => .no
def Fl.seq (r : Fl) (k : Env → Fl) : Fl :=
  match r with
  | .nx e => k e
  | r => r

/-- what a frame starts from: the lists that were handed in (slot, address), the heap, its settled part -/
structure Fc where
  io : List (Nat × Addr)
  H0 : Hp
  F0 : Hp

structure Rel (g : Gc) (φ : Fc) (F : Hp) (σ : L2.St) (H : Hp) (env : Env) : Prop where
  ex : Same F H
  ex0 : Same φ.F0 F
  new : ∀ b o, F b = some o → φ.F0 b = some o ∨ φ.H0 b = none
  fr : ∀ b o, φ.H0 b = some o → (∀ p ∈ φ.io, p.2 ≠ b) → H b = some o
  len : σ.length = env.length
  va : ∀ (i : Nat) (d : D), env[i]? = some (Sl.va d) → ∃ v, σ[i]? = some (some v) ∧ Rep g F v d
  ow : ∀ (i : Nat) (b : Bool) (xs : List D), env[i]? = some (Sl.ow b xs) → ∃ (a : Addr) (vs : List V), σ[i]? = some (some (V.ref a)) ∧ H a = some (.lst vs) ∧ F a = none ∧ Reps g F vs xs ∧ (b = false → φ.H0 a = none) ∧ (b = true → (i, a) ∈ φ.io)
  dj : ∀ (i j : Nat) (b c : Bool) (xs ys : List D) (a : Addr), env[i]? = some (Sl.ow b xs) → env[j]? = some (Sl.ow c ys) → σ[i]? = some (some (V.ref a)) → σ[j]? = some (some (V.ref a)) → i = j
  ioh : ∀ p ∈ φ.io, σ[p.1]? = some (some (V.ref p.2)) ∧ ∃ xs, env[p.1]? = some (Sl.ow true xs)

section
variable {g : Gc} {φ : Fc} {F F' : Hp} {σ : L2.St} {H : Hp} {env : Env}
theorem Rel.h0 (r : Rel g φ F σ H env) {p : Addr} (hp : H p = none) : φ.H0 p = none := by
  cases e : φ.H0 p with
  | none => rfl
  | some o =>
    by_cases hio : ∀ q ∈ φ.io, q.2 ≠ p
    · rw [r.fr p o e hio] at hp
      cases hp
    · exfalso
      refine hio fun q hq z => ?_
      obtain ⟨h1, xs, h2⟩ := r.ioh q hq
      obtain ⟨a, vs, h3, h4, _⟩ := r.ow _ _ _ h2
      rw [h1] at h3
      cases h3
      rw [z, hp] at h4
      cases h4
/-- a new object that is settled -/
theorem Rel.laid (r : Rel g φ F σ H env) {p : Addr} {o : HO} (hp : H p = none) : Same F (upd F p o) ∧ Rel g φ (upd F p o) σ (upd H p o) env := by
  have hF : F p = none := r.ex.free hp
  have sF : Same F (upd F p o) := same_new hF
  refine ⟨sF, ⟨fun b u e => ?_, r.ex0.trans sF, fun b u e => ?_, fun b u e hb => ?_, r.len, fun i d e => ?_, fun i b xs e => ?_, r.dj, r.ioh⟩⟩
  · by_cases hb : b = p
    · subst hb
      rw [upd_same] at e ⊢
      exact e
    · rw [upd_ne hb] at e ⊢
      exact r.ex b u e
  · by_cases hb : b = p
    · subst hb
      exact .inr (r.h0 hp)
    · rw [upd_ne hb] at e
      exact r.new b u e
  · have h1 := r.fr b u e hb
    rw [upd_ne (ne_of_none h1 hp)]
    exact h1
  · obtain ⟨v, h1, h2⟩ := r.va i d e
    exact ⟨v, h1, h2.mono sF⟩
  · obtain ⟨a, vs, h1, h2, h3, h4, h5⟩ := r.ow i b xs e
    have ha : a ≠ p := ne_of_none h2 hp
    exact ⟨a, vs, h1, by rw [upd_ne ha]; exact h2, by rw [upd_ne ha]; exact h3, h4.mono sF, h5⟩
/-- a new object that is nobody's yet -/
theorem Rel.loose (r : Rel g φ F σ H env) {p : Addr} {o : HO} (hp : H p = none) : Rel g φ F σ (upd H p o) env := by
  refine ⟨fun b u e => ?_, r.ex0, r.new, fun b u e hb => ?_, r.len, r.va, fun i b xs e => ?_, r.dj, r.ioh⟩
  · have h1 := r.ex b u e
    rw [upd_ne (ne_of_none h1 hp)]
    exact h1
  · have h1 := r.fr b u e hb
    rw [upd_ne (ne_of_none h1 hp)]
    exact h1
  · obtain ⟨a, vs, h1, h2, h3, h4, h5⟩ := r.ow i b xs e
    exact ⟨a, vs, h1, by rw [upd_ne (ne_of_none h2 hp)]; exact h2, h3, h4, h5⟩
end

/-! ## the judgements -/
/-- the whole of what may be wished of a piece of the text -/
def wE (X : Cx) (e : Expr) : TE := fun σ H Q => ∃ t, PE X e t ∧ t σ H Q
def wT (X : Cx) (e : Expr) : TT := fun σ H Q => ∃ t, PT X e t ∧ t σ H Q
def wA (X : Cx) (es : List Expr) : TA := fun σ H Q => ∃ t, PA X es t ∧ t σ H Q
def wS (X : Cx) (st : Stmt) : TS := fun D σ H => ∃ t, PS X st t ∧ t D σ H
def wB (X : Cx) (st : List Stmt) : TS := fun D σ H => ∃ t, PSs X st t ∧ t D σ H
def wO (X : Cx) (f : Value → Value → Sem Value) : R2 := fun x y H Q => ∃ r, OpR X f r ∧ r x y H Q
def wC (X : Cx) (f : Value) : List V → Hp → VK → Prop := fun vs H Q => ∃ r, CallR X f r ∧ r vs H Q
def wI (X : Cx) : R2 := fun x y H Q => ∃ r, IxR X r ∧ r x y H Q
section
variable {X : Cx}
theorem w_pe {e : Expr} : PE X e (wE X e) := ⟨fun pins s σ H Q I ⟨_, h, q⟩ => h.run pins s σ H Q I q⟩
theorem w_pt {e : Expr} : PT X e (wT X e) := ⟨fun pins s σ H Q I ⟨_, h, q⟩ => h.run pins s σ H Q I q⟩
theorem w_pa {es : List Expr} : PA X es (wA X es) := ⟨fun pos pins s σ H Q I ⟨_, h, q⟩ => h.run pos pins s σ H Q I q⟩
theorem w_ps {st : Stmt} : PS X st (wS X st) := ⟨fun pins s σ H D I ⟨_, h, q⟩ => h.run pins s σ H D I q⟩
theorem w_pb {st : List Stmt} : PSs X st (wB X st) := ⟨fun pins s σ H D I ⟨_, h, q⟩ => h.run pins s σ H D I q⟩
theorem w_op {f : Value → Value → Sem Value} : OpR X f (wO X f) := fun pins s σ H x y v u Q I a b ⟨_, h, q⟩ => h pins s σ H x y v u Q I a b q
theorem w_call {f : Value} : CallR X f (wC X f) := fun pins s σ H xs us Q I a ⟨_, h, q⟩ => h pins s σ H xs us Q I a q
theorem w_ix : IxR X (wI X) := fun a b pins s σ H x y v u Q I rx ry ⟨_, h, q⟩ hs => h a b pins s σ H x y v u Q I rx ry q hs
end

section
variable (g : Gc) (W : WX) (φ : Fc)
/-- the wish at an exception c(v) -/
def XP (F : Hp) (c : Str) (v : D) (e' : Env) : Prop :=
  ∀ C fld dd vv σ' H' F', g.xc c = some (C, fld) → Same F F' → Rel g φ F' σ' H' e' → H' dd = some (.xd [(fld, vv)]) → Rep g F' vv v → W (.ref C) (some dd) σ' H'
def PoE (F : Hp) (σ : L2.St) (Q : VK) (r : Re D) : Prop :=
  match r with
  | .ok d e' => ∀ v H' F', Same F F' → Rel g φ F' σ H' e' → Rep g F' v d → Q v H'
  | .exc c v e' => XP g W φ F c v e'
  | .no => False
def PoT (F : Hp) (σ : L2.St) (Q : Bool → Hp → Prop) (r : Re Bool) : Prop :=
  match r with
  | .ok d e' => ∀ H' F', Same F F' → Rel g φ F' σ H' e' → Q d H'
  | .exc c v e' => XP g W φ F c v e'
  | .no => False
/-- an argument: a value, or the place of a list of one's own -/
inductive Av where
  | va (d : D) | ix (i : Nat)
def AvR (F : Hp) (σ : L2.St) (v : V) : Av → Prop
  | .va d => Rep g F v d
  | .ix i => σ[i]? = some (some v)
structure AvsR (F : Hp) (σ : L2.St) (vs : List V) (as : List Av) : Prop where
  len : vs.length = as.length
  at_ : ∀ (i : Nat) (v : V) (a : Av), vs[i]? = some v → as[i]? = some a → AvR g F σ v a
def PoV (F : Hp) (σ : L2.St) (Q : VK) (r : Re Av) : Prop :=
  match r with
  | .ok d e' => ∀ v H' F', Same F F' → Rel g φ F' σ H' e' → AvR g F' σ v d → Q v H'
  | .exc c v e' => XP g W φ F c v e'
  | .no => False
def PoA (F : Hp) (σ : L2.St) (Q : List V → Hp → Prop) (r : Re (List Av)) : Prop :=
  match r with
  | .ok d e' => ∀ vs H' F', Same F F' → Rel g φ F' σ H' e' → AvsR g F' σ vs d → Q vs H'
  | .exc c v e' => XP g W φ F c v e'
  | .no => False
def PoS (F : Hp) (En : Ends) (r : Fl) : Prop :=
  match r with
  | .nx e' => ∀ σ' H' F', Same F F' → Rel g φ F' σ' H' e' → En.nx σ' H'
  | .rt d e' => ∀ v σ' H' F', Same F F' → Rel g φ F' σ' H' e' → Rep g F' v d → En.rt v H'
  | .br e' => ∀ σ' H' F', Same F F' → Rel g φ F' σ' H' e' → En.bk σ' H'
  | .ct e' => ∀ σ' H' F', Same F F' → Rel g φ F' σ' H' e' → En.ct σ' H'
  | .exc c v e' => XP g W φ F c v e'
  | .no => False
abbrev ME := Env → Re D
abbrev MT := Env → Re Bool
abbrev MV := Env → Re Av
abbrev MA := Env → Re (List Av)
abbrev MS := Env → Fl
def SE (X : Cx) (e : Expr) (m : ME) : Prop := ∀ F σ H env Q, Rel g φ F σ H env → PoE g W φ F σ Q (m env) → wE X e σ H Q
def SV (X : Cx) (e : Expr) (m : MV) : Prop := ∀ F σ H env Q, Rel g φ F σ H env → PoV g W φ F σ Q (m env) → wE X e σ H Q
def ST (X : Cx) (e : Expr) (m : MT) : Prop := ∀ F σ H env Q, Rel g φ F σ H env → PoT g W φ F σ Q (m env) → wT X e σ H Q
def SA (X : Cx) (es : List Expr) (m : MA) : Prop := ∀ F σ H env Q, Rel g φ F σ H env → PoA g W φ F σ Q (m env) → wA X es σ H Q
def SS (X : Cx) (st : Stmt) (m : MS) : Prop := ∀ F σ H env En, Rel g φ F σ H env → PoS g W φ F En (m env) → wS X st En σ H
def SB (X : Cx) (st : List Stmt) (m : MS) : Prop := ∀ F σ H env En, Rel g φ F σ H env → PoS g W φ F En (m env) → wB X st En σ H
end

section
variable {g : Gc} {W : WX} {φ : Fc} {F F' : Hp} {σ : L2.St} {H : Hp}
theorem XP.mono (e : Same F F') {c : Str} {v : D} {e' : Env} (h : XP g W φ F c v e') : XP g W φ F' c v e' :=
  fun C fld dd vv σ' H' F2 a b => h C fld dd vv σ' H' F2 a (e.trans b)
theorem PoE.mono (e : Same F F') {Q : VK} {r : Re D} (h : PoE g W φ F σ Q r) : PoE g W φ F' σ Q r := by
  cases r with
  | ok d e' => exact fun v H' F2 a => h v H' F2 (e.trans a)
  | exc c v e' => exact XP.mono e h
  | no => exact h
theorem PoV.mono (e : Same F F') {Q : VK} {r : Re Av} (h : PoV g W φ F σ Q r) : PoV g W φ F' σ Q r := by
  cases r with
  | ok d e' => exact fun v H' F2 a => h v H' F2 (e.trans a)
  | exc c v e' => exact XP.mono e h
  | no => exact h
theorem PoT.mono (e : Same F F') {Q : Bool → Hp → Prop} {r : Re Bool} (h : PoT g W φ F σ Q r) : PoT g W φ F' σ Q r := by
  cases r with
  | ok d e' => exact fun H' F2 a => h H' F2 (e.trans a)
  | exc c v e' => exact XP.mono e h
  | no => exact h
theorem PoA.mono (e : Same F F') {Q : List V → Hp → Prop} {r : Re (List Av)} (h : PoA g W φ F σ Q r) : PoA g W φ F' σ Q r := by
  cases r with
  | ok d e' => exact fun v H' F2 a => h v H' F2 (e.trans a)
  | exc c v e' => exact XP.mono e h
  | no => exact h
theorem PoS.mono (e : Same F F') {Q : Ends} {r : Fl} (h : PoS g W φ F Q r) : PoS g W φ F' Q r := by
  cases r with
  | nx e' => exact fun σ' H' F2 a => h σ' H' F2 (e.trans a)
  | rt d e' => exact fun v σ' H' F2 a => h v σ' H' F2 (e.trans a)
  | br e' => exact fun σ' H' F2 a => h σ' H' F2 (e.trans a)
  | ct e' => exact fun σ' H' F2 a => h σ' H' F2 (e.trans a)
  | exc c v e' => exact XP.mono e h
  | no => exact h

/-! steps: from the whole's wish to a part's -/
theorem ee {r : Re D} {k : D → Env → Re D} {Q Q1 : VK} (hp : PoE g W φ F σ Q (r.bind k))
    (h : ∀ x e1 v H1 F1, Same F F1 → Rel g φ F1 σ H1 e1 → Rep g F1 v x → PoE g W φ F1 σ Q (k x e1) → Q1 v H1) : PoE g W φ F σ Q1 r := by
  cases r with
  | ok x e1 => exact fun v H1 F1 a b c => h x e1 v H1 F1 a b c (hp.mono a)
  | exc c v e' => exact hp
  | no => exact hp
theorem et {r : Re D} {k : D → Env → Re Bool} {Q : Bool → Hp → Prop} {Q1 : VK} (hp : PoT g W φ F σ Q (r.bind k))
    (h : ∀ x e1 v H1 F1, Same F F1 → Rel g φ F1 σ H1 e1 → Rep g F1 v x → PoT g W φ F1 σ Q (k x e1) → Q1 v H1) : PoE g W φ F σ Q1 r := by
  cases r with
  | ok x e1 => exact fun v H1 F1 a b c => h x e1 v H1 F1 a b c (hp.mono a)
  | exc c v e' => exact hp
  | no => exact hp
theorem te {r : Re Bool} {k : Bool → Env → Re D} {Q : VK} {Q1 : Bool → Hp → Prop} (hp : PoE g W φ F σ Q (r.bind k))
    (h : ∀ x e1 H1 F1, Same F F1 → Rel g φ F1 σ H1 e1 → PoE g W φ F1 σ Q (k x e1) → Q1 x H1) : PoT g W φ F σ Q1 r := by
  cases r with
  | ok x e1 => exact fun H1 F1 a b => h x e1 H1 F1 a b (hp.mono a)
  | exc c v e' => exact hp
  | no => exact hp
theorem tt {r : Re Bool} {k : Bool → Env → Re Bool} {Q : Bool → Hp → Prop} {Q1 : Bool → Hp → Prop} (hp : PoT g W φ F σ Q (r.bind k))
    (h : ∀ x e1 H1 F1, Same F F1 → Rel g φ F1 σ H1 e1 → PoT g W φ F1 σ Q (k x e1) → Q1 x H1) : PoT g W φ F σ Q1 r := by
  cases r with
  | ok x e1 => exact fun H1 F1 a b => h x e1 H1 F1 a b (hp.mono a)
  | exc c v e' => exact hp
  | no => exact hp
theorem ae {r : Re (List Av)} {k : List Av → Env → Re D} {Q : VK} {Q1 : List V → Hp → Prop} (hp : PoE g W φ F σ Q (r.bind k))
    (h : ∀ x e1 vs H1 F1, Same F F1 → Rel g φ F1 σ H1 e1 → AvsR g F1 σ vs x → PoE g W φ F1 σ Q (k x e1) → Q1 vs H1) : PoA g W φ F σ Q1 r := by
  cases r with
  | ok x e1 => exact fun v H1 F1 a b c => h x e1 v H1 F1 a b c (hp.mono a)
  | exc c v e' => exact hp
  | no => exact hp
theorem ea {r : Re D} {k : D → Env → Re (List Av)} {Q : List V → Hp → Prop} {Q1 : VK} (hp : PoA g W φ F σ Q (r.bind k))
    (h : ∀ x e1 v H1 F1, Same F F1 → Rel g φ F1 σ H1 e1 → Rep g F1 v x → PoA g W φ F1 σ Q (k x e1) → Q1 v H1) : PoE g W φ F σ Q1 r := by
  cases r with
  | ok x e1 => exact fun v H1 F1 a b c => h x e1 v H1 F1 a b c (hp.mono a)
  | exc c v e' => exact hp
  | no => exact hp
theorem aa {r : Re (List Av)} {k : List Av → Env → Re (List Av)} {Q : List V → Hp → Prop} {Q1 : List V → Hp → Prop} (hp : PoA g W φ F σ Q (r.bind k))
    (h : ∀ x e1 vs H1 F1, Same F F1 → Rel g φ F1 σ H1 e1 → AvsR g F1 σ vs x → PoA g W φ F1 σ Q (k x e1) → Q1 vs H1) : PoA g W φ F σ Q1 r := by
  cases r with
  | ok x e1 => exact fun v H1 F1 a b c => h x e1 v H1 F1 a b c (hp.mono a)
  | exc c v e' => exact hp
  | no => exact hp
theorem es {r : Re D} {k : D → Env → Fl} {Q : Ends} {Q1 : VK} (hp : PoS g W φ F Q (r.flow k))
    (h : ∀ x e1 v H1 F1, Same F F1 → Rel g φ F1 σ H1 e1 → Rep g F1 v x → PoS g W φ F1 Q (k x e1) → Q1 v H1) : PoE g W φ F σ Q1 r := by
  cases r with
  | ok x e1 => exact fun v H1 F1 a b c => h x e1 v H1 F1 a b c (hp.mono a)
  | exc c v e' => exact hp
  | no => exact hp
theorem ts {r : Re Bool} {k : Bool → Env → Fl} {Q : Ends} {Q1 : Bool → Hp → Prop} (hp : PoS g W φ F Q (r.flow k))
    (h : ∀ x e1 H1 F1, Same F F1 → Rel g φ F1 σ H1 e1 → PoS g W φ F1 Q (k x e1) → Q1 x H1) : PoT g W φ F σ Q1 r := by
  cases r with
  | ok x e1 => exact fun H1 F1 a b => h x e1 H1 F1 a b (hp.mono a)
  | exc c v e' => exact hp
  | no => exact hp
theorem as_ {r : Re (List Av)} {k : List Av → Env → Fl} {Q : Ends} {Q1 : List V → Hp → Prop} (hp : PoS g W φ F Q (r.flow k))
    (h : ∀ x e1 vs H1 F1, Same F F1 → Rel g φ F1 σ H1 e1 → AvsR g F1 σ vs x → PoS g W φ F1 Q (k x e1) → Q1 vs H1) : PoA g W φ F σ Q1 r := by
  cases r with
  | ok x e1 => exact fun v H1 F1 a b c => h x e1 v H1 F1 a b c (hp.mono a)
  | exc c v e' => exact hp
  | no => exact hp
theorem ve {r : Re Av} {k : Av → Env → Re D} {Q : VK} {Q1 : VK} (hp : PoE g W φ F σ Q (r.bind k))
    (h : ∀ x e1 v H1 F1, Same F F1 → Rel g φ F1 σ H1 e1 → AvR g F1 σ v x → PoE g W φ F1 σ Q (k x e1) → Q1 v H1) : PoV g W φ F σ Q1 r := by
  cases r with
  | ok x e1 => exact fun v H1 F1 a b c => h x e1 v H1 F1 a b c (hp.mono a)
  | exc c v e' => exact hp
  | no => exact hp
theorem vt {r : Re Av} {k : Av → Env → Re Bool} {Q : Bool → Hp → Prop} {Q1 : VK} (hp : PoT g W φ F σ Q (r.bind k))
    (h : ∀ x e1 v H1 F1, Same F F1 → Rel g φ F1 σ H1 e1 → AvR g F1 σ v x → PoT g W φ F1 σ Q (k x e1) → Q1 v H1) : PoV g W φ F σ Q1 r := by
  cases r with
  | ok x e1 => exact fun v H1 F1 a b c => h x e1 v H1 F1 a b c (hp.mono a)
  | exc c v e' => exact hp
  | no => exact hp
theorem va_ {r : Re Av} {k : Av → Env → Re (List Av)} {Q : List V → Hp → Prop} {Q1 : VK} (hp : PoA g W φ F σ Q (r.bind k))
    (h : ∀ x e1 v H1 F1, Same F F1 → Rel g φ F1 σ H1 e1 → AvR g F1 σ v x → PoA g W φ F1 σ Q (k x e1) → Q1 v H1) : PoV g W φ F σ Q1 r := by
  cases r with
  | ok x e1 => exact fun v H1 F1 a b c => h x e1 v H1 F1 a b c (hp.mono a)
  | exc c v e' => exact hp
  | no => exact hp
theorem vv {r : Re Av} {k : Av → Env → Re Av} {Q : VK} {Q1 : VK} (hp : PoV g W φ F σ Q (r.bind k))
    (h : ∀ x e1 v H1 F1, Same F F1 → Rel g φ F1 σ H1 e1 → AvR g F1 σ v x → PoV g W φ F1 σ Q (k x e1) → Q1 v H1) : PoV g W φ F σ Q1 r := by
  cases r with
  | ok x e1 => exact fun v H1 F1 a b c => h x e1 v H1 F1 a b c (hp.mono a)
  | exc c v e' => exact hp
  | no => exact hp
theorem vs_ {r : Re Av} {k : Av → Env → Fl} {Q : Ends} {Q1 : VK} (hp : PoS g W φ F Q (r.flow k))
    (h : ∀ x e1 v H1 F1, Same F F1 → Rel g φ F1 σ H1 e1 → AvR g F1 σ v x → PoS g W φ F1 Q (k x e1) → Q1 v H1) : PoV g W φ F σ Q1 r := by
  cases r with
  | ok x e1 => exact fun v H1 F1 a b c => h x e1 v H1 F1 a b c (hp.mono a)
  | exc c v e' => exact hp
  | no => exact hp
theorem at_ {r : Re (List Av)} {k : List Av → Env → Re Bool} {Q : Bool → Hp → Prop} {Q1 : List V → Hp → Prop} (hp : PoT g W φ F σ Q (r.bind k))
    (h : ∀ x e1 vs H1 F1, Same F F1 → Rel g φ F1 σ H1 e1 → AvsR g F1 σ vs x → PoT g W φ F1 σ Q (k x e1) → Q1 vs H1) : PoA g W φ F σ Q1 r := by
  cases r with
  | ok x e1 => exact fun v H1 F1 a b c => h x e1 v H1 F1 a b c (hp.mono a)
  | exc c v e' => exact hp
  | no => exact hp
theorem ev_ {r : Re D} {k : D → Env → Re Av} {Q : VK} {Q1 : VK} (hp : PoV g W φ F σ Q (r.bind k))
    (h : ∀ x e1 v H1 F1, Same F F1 → Rel g φ F1 σ H1 e1 → Rep g F1 v x → PoV g W φ F1 σ Q (k x e1) → Q1 v H1) : PoE g W φ F σ Q1 r := by
  cases r with
  | ok x e1 => exact fun v H1 F1 a b c => h x e1 v H1 F1 a b c (hp.mono a)
  | exc c v e' => exact hp
  | no => exact hp
theorem AvR.mono (e : Same F F') {v : V} {a : Av} (h : AvR g F σ v a) : AvR g F' σ v a := by
  cases a with
  | va d => exact Rep.mono e h
  | ix i => exact h
theorem AvsR.mono (e : Same F F') {vs : List V} {as : List Av} (h : AvsR g F σ vs as) : AvsR g F' σ vs as := ⟨h.len, fun i v a p q => (h.at_ i v a p q).mono e⟩
theorem AvsR.nil : AvsR g F σ [] [] := ⟨rfl, fun i v a p _ => by simp at p⟩
theorem AvsR.cons {v : V} {a : Av} {vs : List V} {as : List Av} (h : AvR g F σ v a) (t : AvsR g F σ vs as) : AvsR g F σ (v :: vs) (a :: as) :=
  ⟨by simp [t.len], fun i w e p q => by
    cases i with
    | zero =>
      simp only [List.getElem?_cons_zero, Option.some.injEq] at p q
      subst p q
      exact h
    | succ i =>
      simp only [List.getElem?_cons_succ] at p q
      exact t.at_ i w e p q⟩
theorem AvsR.head {v : V} {a : Av} {vs : List V} {as : List Av} (h : AvsR g F σ (v :: vs) (a :: as)) : AvR g F σ v a := h.at_ 0 v a rfl rfl
theorem AvsR.tail {v : V} {a : Av} {vs : List V} {as : List Av} (h : AvsR g F σ (v :: vs) (a :: as)) : AvsR g F σ vs as :=
  ⟨by have := h.len; simpa using this, fun i w e p q => h.at_ (i + 1) w e (by simpa using p) (by simpa using q)⟩

/-! what an operand is worth when it is used -/
def Av.get (e : Env) : Av → Option D
  | .va d => some d
  | .ix i => match e[i]? with
    | some (.ow _ xs) => some (.lst xs)
    | _ => none
def gets (e : Env) : List Av → Option (List D)
  | [] => some []
  | a :: as => match a.get e, gets e as with
    | some d, some ds => some (d :: ds)
    | _, _ => none
/-- v stands for d here and now -/
inductive RepH (g : Gc) (F H : Hp) : V → D → Prop
  | of {v : V} {d : D} (h : Rep g F v d) : RepH g F H v d
  | ow {a : Addr} {vs : List V} {xs : List D} (h : H a = some (.lst vs)) (r : Reps g F vs xs) : RepH g F H (.ref a) (.lst xs)
inductive RepsH (g : Gc) (F H : Hp) : List V → List D → Prop
  | nil : RepsH g F H [] []
  | cons {v : V} {d : D} {vs : List V} {ds : List D} (h : RepH g F H v d) (t : RepsH g F H vs ds) : RepsH g F H (v :: vs) (d :: ds)
theorem AvR.get {env : Env} (r : Rel g φ F σ H env) {v : V} {a : Av} {d : D} (h : AvR g F σ v a) (e : a.get env = some d) : RepH g F H v d := by
  cases a with
  | va d' =>
    have : d' = d := Option.some.inj e
    subst this
    exact .of h
  | ix i =>
    cases hs : env[i]? with
    | none => simp only [Av.get, hs] at e; cases e
    | some s =>
      cases s with
      | un => simp only [Av.get, hs] at e; cases e
      | va d' => simp only [Av.get, hs] at e; cases e
      | ow bb xs =>
        simp only [Av.get, hs] at e
        cases e
        obtain ⟨b, vs, h1, h2, h3, h4, h5⟩ := r.ow i bb xs hs
        have h' : σ[i]? = some (some v) := h
        rw [h1] at h'
        cases h'
        exact .ow h2 h4
theorem AvsR.gets {env : Env} (r : Rel g φ F σ H env) : ∀ {vs : List V} {as : List Av} {ds : List D}, AvsR g F σ vs as → gets env as = some ds → RepsH g F H vs ds
  | [], [], ds, _, e => by
    have : ([] : List D) = ds := Option.some.inj e
    subst this
    exact .nil
  | [], _ :: _, _, h, _ => by have := h.len; simp at this
  | _ :: _, [], _, h, _ => by have := h.len; simp at this
  | v :: vs, a :: as, ds, h, e => by
    cases h1 : a.get env with
    | none => simp only [Mp.gets, h1] at e; cases e
    | some d =>
      cases h2 : Mp.gets env as with
      | none => simp only [Mp.gets, h1, h2] at e; cases e
      | some ds' =>
        simp only [Mp.gets, h1, h2] at e
        cases e
        exact .cons (h.head.get r h1) (AvsR.gets r h.tail h2)
/-- a list here and now -/
theorem RepH.lst {v : V} {xs : List D} (r : Same F H) (h : RepH g F H v (.lst xs)) : ∃ a vs, v = .ref a ∧ H a = some (.lst vs) ∧ Reps g F vs xs := by
  cases h with
  | of h =>
    cases h with
    | lst a vs ds h hl hi => exact ⟨a, vs, rfl, r _ _ h, hl, hi⟩
  | ow h q => exact ⟨_, _, rfl, h, q⟩
theorem RepH.tup {v : V} {xs : List D} (r : Same F H) (h : RepH g F H v (.tup xs)) : ∃ a vs, v = .ref a ∧ SqT g.K H a vs ∧ Reps g F vs xs := by
  cases h with
  | of h =>
    cases h with
    | tup a vs ds h hl hi => exact ⟨a, vs, rfl, same_t r h, hl, hi⟩
theorem RepH.rol {v : V} {xs : List D} (r : Same F H) (h : RepH g F H v (.rol xs)) : ∃ a vs, v = .ref a ∧ SqL g.K H a vs ∧ Reps g F vs xs := by
  cases h with
  | of h =>
    cases h with
    | rol a vs ds h hl hi => exact ⟨a, vs, rfl, r.seq h, hl, hi⟩
theorem RepH.int {v : V} {i : Int} (h : RepH g F H v (.int i)) : v = .int i := by
  cases h with
  | of h => cases h; rfl
theorem RepH.bl {v : V} {i : Bool} (h : RepH g F H v (.bl i)) : v = .bl i := by
  cases h with
  | of h => cases h; rfl
theorem RepH.str {v : V} {i : Str} (h : RepH g F H v (.str i)) : v = .str i := by
  cases h with
  | of h => cases h; rfl
theorem RepH.non {v : V} (h : RepH g F H v .non) : v = .non := by
  cases h with
  | of h => cases h; rfl
end
end Mp
set_option Elab.async false
set_option linter.all false
set_option maxRecDepth 100000
namespace Mp
open PySem PySem.Spec PyProof.Rows L2

structure Cok (g : Gc) (X : Cx) (W : WX) (k : Nat) : Prop where
  K : X.K = g.K
  calm : X.calm = true
  nd : X.N.Nodup
  tk : Takes X W
  rm : Room k X.A
  po : PassesOwn (model X.prog X.w) X.A X.env X.xe

section
variable {g : Gc} {W : WX} {φ : Fc} {X : Cx} {k : Nat}

theorem SV.of {e : Expr} {m : ME} (h : SE g W φ X e m) : SV g W φ X e (fun env => (m env).bind fun d e1 => .ok (.va d) e1) := by
  intro F σ H env Q hr hp
  refine h F σ H env Q hr (ev_ hp fun x e1 v H1 F1 a b c hp1 => ?_)
  exact hp1 v H1 F1 (Same.refl _) b c

/-! ### names, constants -/
def mVar (i : Nat) : ME := fun env => match env[i]? with
  | some (.va d) => .ok d env
  | _ => .no
def mOwn (i : Nat) : MV := fun env => match env[i]? with
  | some (.ow _ _) => .ok (.ix i) env
  | some (.va d) => .ok (.va d) env
  | _ => .no
theorem se_var (i : Nat) {x : Str} {pos : Pos} (hN : X.N[i]? = some x := by rfl) (hv : Vis X.env.scope x := by first | exact Or.inl rfl | exact Or.inr (Or.inl rfl) | exact Or.inr (Or.inr rfl))
    (hd : (x == ("__debug__" : Str)) = false := by decide) (hcd : (x == ("__classdict__" : Str)) = false := by decide) : SE g W φ X (.Name x pos) (mVar i) := by
  intro F σ H env Q hr hp
  unfold mVar at hp
  cases e : env[i]? with
  | none => rw [e] at hp; exact hp.elim
  | some s =>
    cases s with
    | va d =>
      rw [e] at hp
      obtain ⟨v, h1, h2⟩ := hr.va i d e
      exact ⟨_, pe_var hN hv hd hcd, v, h1, hp v H F (Same.refl _) hr h2⟩
    | un => rw [e] at hp; exact hp.elim
    | ow _ xs => rw [e] at hp; exact hp.elim
theorem sv_own (i : Nat) {x : Str} {pos : Pos} (hN : X.N[i]? = some x := by rfl) (hv : Vis X.env.scope x := by first | exact Or.inl rfl | exact Or.inr (Or.inl rfl) | exact Or.inr (Or.inr rfl))
    (hd : (x == ("__debug__" : Str)) = false := by decide) (hcd : (x == ("__classdict__" : Str)) = false := by decide) : SV g W φ X (.Name x pos) (mOwn i) := by
  intro F σ H env Q hr hp
  unfold mOwn at hp
  cases e : env[i]? with
  | none => rw [e] at hp; exact hp.elim
  | some s =>
    cases s with
    | va d =>
      rw [e] at hp
      obtain ⟨v, h1, h2⟩ := hr.va i d e
      exact ⟨_, pe_var hN hv hd hcd, v, h1, hp v H F (Same.refl _) hr h2⟩
    | un => rw [e] at hp; exact hp.elim
    | ow bb xs =>
      rw [e] at hp
      obtain ⟨a, vs, h1, _⟩ := hr.ow i bb xs e
      exact ⟨_, pe_var hN hv hd hcd, .ref a, h1, hp (.ref a) H F (Same.refl _) hr h1⟩
def mC (d : D) : ME := fun env => .ok d env
theorem se_int {i : Int} {j : Nat} {pos : Pos} : SE g W φ X (.Constant (.int i) j pos) (mC (.int i)) := fun F σ H env Q hr hp => ⟨_, pe_int, hp _ _ _ (Same.refl _) hr (.int i)⟩
theorem se_bl {i : Bool} {j : Nat} {pos : Pos} : SE g W φ X (.Constant (.bool i) j pos) (mC (.bl i)) := fun F σ H env Q hr hp => ⟨_, pe_bl, hp _ _ _ (Same.refl _) hr (.bl i)⟩
theorem se_non {j : Nat} {pos : Pos} : SE g W φ X (.Constant .none j pos) (mC .non) := fun F σ H env Q hr hp => ⟨_, pe_non, hp _ _ _ (Same.refl _) hr .non⟩
theorem se_str {i : Str} {j : Nat} {pos : Pos} : SE g W φ X (.Constant (.str i) j pos) (mC (.str i)) := fun F σ H env Q hr hp => ⟨_, pe_str, hp _ _ _ (Same.refl _) hr (.str i)⟩
theorem se_ty {x : Str} {n : String} {pos : Pos} (hg : Gl X x) (hm : X.mg x = none) (hv : bootBuiltins x = some (.type n)) (hn : x ≠ "__name__" := by decide) (hd : (x == ("__debug__" : Str)) = false := by decide) : SE g W φ X (.Name x pos) (mC (.ty n)) :=
  fun F σ H env Q hr hp => ⟨_, pe_bltn (v := .ty n) hg hm hv rfl hn hd, hp _ _ _ (Same.refl _) hr (.ty n)⟩
theorem se_cls {x c : Str} {C : Addr} {ns : List Str} {pos : Pos} (hg : Gl X x) (hm : X.mg x = some (.ref C)) (hc : g.cl c = some (C, ns)) (hd : (x == ("__debug__" : Str)) = false := by decide) : SE g W φ X (.Name x pos) (mC (.cls c)) :=
  fun F σ H env Q hr hp => ⟨_, pe_glob (v := .ref C) hg hm rfl hd, hp _ _ _ (Same.refl _) hr (.cls c C ns hc)⟩
/-- a module's constant -/
theorem se_glob {x : Str} {i : Int} {t : Tok} {pos : Pos} (hg : Gl X x) (hm : X.mg x = some (.int i t)) (hd : (x == ("__debug__" : Str)) = false := by decide) : SE g W φ X (.Name x pos) (mC (.int i)) :=
  fun F σ H env Q hr hp => ⟨_, pe_glob (v := .int i) hg hm ⟨t, rfl⟩ hd, hp _ _ _ (Same.refl _) hr (.int i)⟩

/-! ### operators -/
def use1 {β : Type} (f : D → Option β) (x : Av) (e : Env) : Re β := match x.get e with
  | some d => match f d with
    | some z => .ok z e
    | none => .no
  | none => .no
def use2 {β : Type} (f : D → D → Option β) (x y : Av) (e : Env) : Re β := match x.get e, y.get e with
  | some d, some d' => match f d d' with
    | some z => .ok z e
    | none => .no
  | _, _ => .no
def mBin {β : Type} (f : D → D → Option β) (ma mb : MV) : Env → Re β := fun env => (ma env).bind fun x e1 => (mb e1).bind fun y e2 => use2 f x y e2
def mUn {β : Type} (f : D → Option β) (ma : MV) : Env → Re β := fun env => (ma env).bind fun x e1 => use1 f x e1
theorem use1_ok {F : Hp} {σ : L2.St} {Q : VK} {f : D → Option D} {x : Av} {e : Env} (hp : PoE g W φ F σ Q (use1 f x e)) : ∃ d z, x.get e = some d ∧ f d = some z ∧ PoE g W φ F σ Q (.ok z e) := by
  unfold use1 at hp
  cases h1 : x.get e with
  | none => rw [h1] at hp; exact hp.elim
  | some d =>
    rw [h1] at hp
    cases h2 : f d with
    | none => simp only [h2] at hp; exact hp.elim
    | some z => simp only [h2] at hp; exact ⟨d, z, rfl, h2, hp⟩
theorem use2_ok {F : Hp} {σ : L2.St} {Q : VK} {f : D → D → Option D} {x y : Av} {e : Env} (hp : PoE g W φ F σ Q (use2 f x y e)) : ∃ d d' z, x.get e = some d ∧ y.get e = some d' ∧ f d d' = some z ∧ PoE g W φ F σ Q (.ok z e) := by
  unfold use2 at hp
  cases h1 : x.get e with
  | none => rw [h1] at hp; exact hp.elim
  | some d =>
    cases h3 : y.get e with
    | none => rw [h1, h3] at hp; exact hp.elim
    | some d' =>
      rw [h1, h3] at hp
      cases h2 : f d d' with
      | none => simp only [h2] at hp; exact hp.elim
      | some z => simp only [h2] at hp; exact ⟨d, d', z, rfl, rfl, h2, hp⟩
theorem use2_okT {F : Hp} {σ : L2.St} {Q : Bool → Hp → Prop} {f : D → D → Option Bool} {x y : Av} {e : Env} (hp : PoT g W φ F σ Q (use2 f x y e)) : ∃ d d' z, x.get e = some d ∧ y.get e = some d' ∧ f d d' = some z ∧ PoT g W φ F σ Q (.ok z e) := by
  unfold use2 at hp
  cases h1 : x.get e with
  | none => rw [h1] at hp; exact hp.elim
  | some d =>
    cases h3 : y.get e with
    | none => rw [h1, h3] at hp; exact hp.elim
    | some d' =>
      rw [h1, h3] at hp
      cases h2 : f d d' with
      | none => simp only [h2] at hp; exact hp.elim
      | some z => simp only [h2] at hp; exact ⟨d, d', z, rfl, rfl, h2, hp⟩

/-- what an operation on values is: a value of the data f tells, settled -/
def OpS (g : Gc) (φ : Fc) (w : V → V → Hp → VK → Prop) (f : D → D → Option D) : Prop :=
  ∀ F σ H env v u x y z Q, Rel g φ F σ H env → RepH g F H v x → RepH g F H u y → f x y = some z → (∀ r H' F', Same F F' → Rel g φ F' σ H' env → Rep g F' r z → Q r H') → w v u H Q
/-- .. a bool -/
def OpB (g : Gc) (φ : Fc) (w : V → V → Hp → VK → Prop) (f : D → D → Option Bool) : Prop :=
  ∀ F σ H env v u x y z Q, Rel g φ F σ H env → RepH g F H v x → RepH g F H u y → f x y = some z → Q (.bl z) H → w v u H Q
theorem se_bin {op : Operator} {f : D → D → Option D} {a b : Expr} {ma mb : MV} {pos : Pos} (ho : OpS g φ (wO X (binaryOp op)) f) (ha : SV g W φ X a ma) (hb : SV g W φ X b mb) : SE g W φ X (.BinOp a op b pos) (mBin f ma mb) := by
  intro F σ H env Q hr hp
  refine ⟨_, pe_op w_op w_pe w_pe, ?_⟩
  refine ha F σ H env _ hr (ve hp fun x e1 v H1 F1 s1 r1 p1 hp1 => hb F1 σ H1 e1 _ r1 (ve hp1 fun y e2 u H2 F2 s2 r2 p2 hp2 => ?_))
  obtain ⟨d, d', z, g1, g2, hf, hp3⟩ := use2_ok hp2
  exact ho F2 σ H2 e2 v u d d' z Q r2 ((p1.mono s2).get r2 g1) (p2.get r2 g2) hf hp3
def bl (r : Re Bool) : Re D := r.bind fun b e => .ok (.bl b) e
theorem se_cmp {op : CmpOp} {f : D → D → Option Bool} {a b : Expr} {ma mb : MV} {pos : Pos} (ho : OpB g φ (wO X (compareOp op)) f) (ha : SV g W φ X a ma) (hb : SV g W φ X b mb) (hm : behindInMarks op b = false := by first | exact nomark _ | rfl) :
    SE g W φ X (.Compare a [op] [b] pos) (mBin (fun x y => (f x y).map D.bl) ma mb) := by
  intro F σ H env Q hr hp
  refine ⟨_, pe_cmpR w_op w_pe w_pe hm, ?_⟩
  refine ha F σ H env _ hr (ve hp fun x e1 v H1 F1 s1 r1 p1 hp1 => hb F1 σ H1 e1 _ r1 (ve hp1 fun y e2 u H2 F2 s2 r2 p2 hp2 => ?_))
  obtain ⟨d, d', z, g1, g2, hf, hp3⟩ := use2_ok hp2
  obtain ⟨b, hb1, hb2⟩ := Option.map_eq_some_iff.mp hf
  subst hb2
  exact ho F2 σ H2 e2 v u d d' b Q r2 ((p1.mono s2).get r2 g1) (p2.get r2 g2) hb1 (hp3 _ _ _ (Same.refl _) r2 (.bl b))
theorem st_cmp {op : CmpOp} {f : D → D → Option Bool} {a b : Expr} {ma mb : MV} {pos : Pos} (ho : OpB g φ (wO X (compareOp op)) f) (ha : SV g W φ X a ma) (hb : SV g W φ X b mb) (hm : behindInMarks op b = false := by first | exact nomark _ | rfl) :
    ST g W φ X (.Compare a [op] [b] pos) (mBin f ma mb) := by
  intro F σ H env Q hr hp
  refine ⟨_, pt_cmpR w_op w_pe w_pe hm, ?_⟩
  refine ha F σ H env _ hr (vt hp fun x e1 v H1 F1 s1 r1 p1 hp1 => hb F1 σ H1 e1 _ r1 (vt hp1 fun y e2 u H2 F2 s2 r2 p2 hp2 => ?_))
  obtain ⟨d, d', z, g1, g2, hf, hp3⟩ := use2_okT hp2
  exact ho F2 σ H2 e2 v u d d' z _ r2 ((p1.mono s2).get r2 g1) (p2.get r2 g2) hf ⟨z, rfl, hp3 _ _ (Same.refl _) r2⟩
/-- a < b < c -/
def mChain (f f' : D → D → Option Bool) (ma mb mc : MV) : Env → Re Bool := fun env => (ma env).bind fun x e1 => (mb e1).bind fun y e2 => (use2 f x y e2).bind fun b e3 => if b = true then (mc e3).bind fun z e4 => use2 f' y z e4 else .ok false e3
theorem st_chain {op op' : CmpOp} {f f' : D → D → Option Bool} {a b c : Expr} {ma mb mc : MV} {pos : Pos} (ho : OpB g φ (wO X (compareOp op)) f) (ho' : OpB g φ (wO X (compareOp op')) f') (ha : SV g W φ X a ma) (hb : SV g W φ X b mb) (hc : SV g W φ X c mc)
    (hm : lastMarks [op, op'] [b, c] = false := by with_unfolding_all rfl) :
    ST g W φ X (.Compare a [op, op'] [b, c] pos) (mChain f f' ma mb mc) := by
  intro F σ H env Q hr hp
  refine ⟨_, pt_chain w_op w_op w_pe w_pe w_pe hm, ?_⟩
  refine ha F σ H env _ hr (vt hp fun x e1 v H1 F1 s1 r1 p1 hp1 => hb F1 σ H1 e1 _ r1 (vt hp1 fun y e2 u H2 F2 s2 r2 p2 hp2 => ?_))
  unfold use2 at hp2
  cases g1 : x.get e2 with
  | none => rw [g1] at hp2; exact hp2.elim
  | some d =>
    cases g2 : y.get e2 with
    | none => rw [g1, g2] at hp2; exact hp2.elim
    | some d' =>
      rw [g1, g2] at hp2
      cases hf : f d d' with
      | none => simp only [hf] at hp2; exact hp2.elim
      | some z =>
        simp only [hf] at hp2
        refine ho F2 σ H2 e2 v u d d' z _ r2 ((p1.mono s2).get r2 g1) (p2.get r2 g2) hf ⟨z, rfl, ?_⟩
        cases z with
        | true =>
          refine iteT ?_
          refine hc F2 σ H2 e2 _ r2 (vt hp2 fun q e4 w H4 F4 s4 r4 p4 hp4 => ?_)
          obtain ⟨d1, d2, z2, g3, g4, hf2, hp5⟩ := use2_okT hp4
          exact ho' F4 σ H4 e4 u w d1 d2 z2 _ r4 ((p2.mono s4).get r4 g3) (p4.get r4 g4) hf2 ⟨z2, rfl, hp5 _ _ (Same.refl _) r4⟩
        | false => exact iteF ⟨false, rfl, hp2 _ _ (Same.refl _) r2⟩
theorem se_chain {op op' : CmpOp} {f f' : D → D → Option Bool} {a b c : Expr} {ma mb mc : MV} {pos : Pos} (ho : OpB g φ (wO X (compareOp op)) f) (ho' : OpB g φ (wO X (compareOp op')) f') (ha : SV g W φ X a ma) (hb : SV g W φ X b mb) (hc : SV g W φ X c mc)
    (hm : lastMarks [op, op'] [b, c] = false := by with_unfolding_all rfl) :
    SE g W φ X (.Compare a [op, op'] [b, c] pos) (fun env => bl (mChain f f' ma mb mc env)) := by
  intro F σ H env Q hr hp
  refine ⟨_, pe_chain w_op w_op w_pe w_pe w_pe hm, ?_⟩
  have hp : PoE g W φ F σ Q (bl (mChain f f' ma mb mc env)) := hp
  unfold bl mChain at hp
  have e0 : ∀ {α β γ : Type} (r : Re α) (k : α → Env → Re β) (k2 : β → Env → Re γ), (r.bind k).bind k2 = r.bind fun a e => (k a e).bind k2 := fun r k k2 => by cases r <;> rfl
  rw [e0] at hp
  refine ha F σ H env _ hr (ve hp fun x e1 v H1 F1 s1 r1 p1 hp1 => ?_)
  rw [e0] at hp1
  refine hb F1 σ H1 e1 _ r1 (ve hp1 fun y e2 u H2 F2 s2 r2 p2 hp2 => ?_)
  unfold use2 at hp2
  cases g1 : x.get e2 with
  | none => rw [g1] at hp2; exact hp2.elim
  | some d =>
    cases g2 : y.get e2 with
    | none => rw [g1, g2] at hp2; exact hp2.elim
    | some d' =>
      rw [g1, g2] at hp2
      cases hf : f d d' with
      | none => simp only [hf] at hp2; exact hp2.elim
      | some z =>
        simp only [hf] at hp2
        refine ho F2 σ H2 e2 v u d d' z _ r2 ((p1.mono s2).get r2 g1) (p2.get r2 g2) hf ⟨z, rfl, ?_⟩
        cases z with
        | true =>
          refine iteT ?_
          have hp2' : PoE g W φ F2 σ Q (((mc e2).bind fun z e4 => use2 f' y z e4).bind fun b e => .ok (.bl b) e) := hp2
          rw [e0] at hp2'
          refine hc F2 σ H2 e2 _ r2 (ve hp2' fun q e4 w H4 F4 s4 r4 p4 hp4 => ?_)
          unfold use2 at hp4
          cases g3 : y.get e4 with
          | none => rw [g3] at hp4; exact hp4.elim
          | some d1 =>
            cases g4 : q.get e4 with
            | none => rw [g3, g4] at hp4; exact hp4.elim
            | some d2 =>
              rw [g3, g4] at hp4
              cases hf2 : f' d1 d2 with
              | none => simp only [hf2] at hp4; exact hp4.elim
              | some z2 =>
                simp only [hf2] at hp4
                exact ho' F4 σ H4 e4 u w d1 d2 z2 _ r4 ((p2.mono s4).get r4 g3) (p4.get r4 g4) hf2 (hp4 _ _ _ (Same.refl _) r4 (.bl z2))
        | false => exact iteF (hp2 _ _ _ (Same.refl _) r2 (.bl false))

/-! ### and, or, not, if else -/
/-- a value that is a bool, as a test -/
def asB : D → Env → Re Bool := fun d e => match d with
  | .bl b => .ok b e
  | _ => .no
theorem st_val {e : Expr} {m : ME} (h : SE g W φ X e m) (he : ∀ whole, isTrue e X.env whole = (do let v ← whole; standAt e.pos; holding [v] (truthy v)) := by intro _; rfl) : ST g W φ X e (fun env => (m env).bind asB) := by
  intro F σ H env Q hr hp
  refine ⟨_, pt_val w_pe he, ?_⟩
  refine h F σ H env _ hr (et hp fun x e1 v H1 F1 s1 r1 p1 hp1 => ?_)
  cases x with
  | bl b =>
    cases p1
    exact ⟨b, rfl, hp1 _ _ (Same.refl _) r1⟩
  | _ => exact hp1.elim
def mNot (m : MT) : MT := fun env => (m env).bind fun b e => .ok (!b) e
theorem st_not {a : Expr} {m : MT} {pos : Pos} (h : ST g W φ X a m) : ST g W φ X (.UnaryOp .Not a pos) (mNot m) := by
  intro F σ H env Q hr hp
  refine ⟨_, pt_not w_pt, ?_⟩
  exact h F σ H env _ hr (tt hp fun x e1 H1 F1 s1 r1 hp1 => hp1 _ _ (Same.refl _) r1)
theorem se_not {a : Expr} {m : ME} {pos : Pos} (h : SE g W φ X a m) : SE g W φ X (.UnaryOp .Not a pos) (fun env => ((m env).bind asB).bind fun b e => .ok (.bl (!b)) e) := by
  intro F σ H env Q hr hp
  refine ⟨_, pe_not w_pe, ?_⟩
  have e0 : ∀ {α β γ : Type} (r : Re α) (k : α → Env → Re β) (k2 : β → Env → Re γ), (r.bind k).bind k2 = r.bind fun a e => (k a e).bind k2 := fun r k k2 => by cases r <;> rfl
  have hp : PoE g W φ F σ Q (((m env).bind asB).bind fun b e => .ok (.bl (!b)) e) := hp
  rw [e0] at hp
  refine h F σ H env _ hr (ee hp fun x e1 v H1 F1 s1 r1 p1 hp1 => ?_)
  cases x with
  | bl b =>
    cases p1
    exact ⟨b, rfl, hp1 _ _ _ (Same.refl _) r1 (.bl (!b))⟩
  | _ => exact hp1.elim
def mAnd (m n : MT) : MT := fun env => (m env).bind fun b e => if b = true then n e else .ok false e
def mOr (m n : MT) : MT := fun env => (m env).bind fun b e => if b = true then .ok true e else n e
/-- a test in a row of and, or -/
def SW (g : Gc) (W : WX) (φ : Fc) (X : Cx) (e : Expr) (m : MT) : Prop := ∀ F σ H env Q, Rel g φ F σ H env → PoT g W φ F σ Q (m env) → ∃ t, PW X e t ∧ t σ H Q
def wW (X : Cx) (e : Expr) : TT := fun σ H Q => ∃ t, PW X e t ∧ t σ H Q
theorem w_pw {e : Expr} : PW X e (wW X e) := ⟨fun wh pins s σ H Q I ⟨_, h, q⟩ => h.run wh pins s σ H Q I q⟩
theorem sw_and1 {a : Expr} {m : MT} {pos : Pos} (h : ST g W φ X a m) : SW g W φ X (.BoolOp .And [a] pos) m := fun F σ H env Q hr hp => ⟨_, pw_and1 w_pt, h F σ H env Q hr hp⟩
theorem sw_or1 {a : Expr} {m : MT} {pos : Pos} (h : ST g W φ X a m) : SW g W φ X (.BoolOp .Or [a] pos) m := fun F σ H env Q hr hp => ⟨_, pw_or1 w_pt, h F σ H env Q hr hp⟩
theorem sw_and {a b : Expr} {rest : List Expr} {m n : MT} {pos : Pos} (ha : ST g W φ X a m) (hb : SW g W φ X (.BoolOp .And (b :: rest) pos) n) : SW g W φ X (.BoolOp .And (a :: b :: rest) pos) (mAnd m n) := by
  intro F σ H env Q hr hp
  refine ⟨_, pw_and w_pt w_pw, ?_⟩
  refine ha F σ H env _ hr (tt hp fun x e1 H1 F1 s1 r1 hp1 => ?_)
  cases x with
  | true => exact iteT (hb F1 σ H1 e1 Q r1 hp1)
  | false => exact iteF (hp1 _ _ (Same.refl _) r1)
theorem sw_or {a b : Expr} {rest : List Expr} {m n : MT} {pos : Pos} (ha : ST g W φ X a m) (hb : SW g W φ X (.BoolOp .Or (b :: rest) pos) n) : SW g W φ X (.BoolOp .Or (a :: b :: rest) pos) (mOr m n) := by
  intro F σ H env Q hr hp
  refine ⟨_, pw_or w_pt w_pw, ?_⟩
  refine ha F σ H env _ hr (tt hp fun x e1 H1 F1 s1 r1 hp1 => ?_)
  cases x with
  | true => exact iteT (hp1 _ _ (Same.refl _) r1)
  | false => exact iteF (hb F1 σ H1 e1 Q r1 hp1)
theorem st_w {e : Expr} {m : MT} (h : SW g W φ X e m) : ST g W φ X e m := fun F σ H env Q hr hp => by
  obtain ⟨t, h1, h2⟩ := h F σ H env Q hr hp
  exact ⟨t, h1.pt, h2⟩
/-- as values: all but the last are bools -/
def mAndV (m n : ME) : ME := fun env => ((m env).bind asB).bind fun b e => if b = true then n e else .ok (.bl false) e
def mOrV (m n : ME) : ME := fun env => ((m env).bind asB).bind fun b e => if b = true then .ok (.bl true) e else n e
theorem se_one {op : BoolOp} {a : Expr} {m : ME} {pos : Pos} (h : SE g W φ X a m) : SE g W φ X (.BoolOp op [a] pos) m := fun F σ H env Q hr hp => ⟨_, pe_one w_pe, h F σ H env Q hr hp⟩
theorem se_and {a b : Expr} {rest : List Expr} {m n : ME} {pos : Pos} (ha : SE g W φ X a m) (hb : SE g W φ X (.BoolOp .And (b :: rest) pos) n) : SE g W φ X (.BoolOp .And (a :: b :: rest) pos) (mAndV m n) := by
  intro F σ H env Q hr hp
  refine ⟨_, pe_and w_pe w_pe, ?_⟩
  have e0 : ∀ {α β γ : Type} (r : Re α) (k : α → Env → Re β) (k2 : β → Env → Re γ), (r.bind k).bind k2 = r.bind fun a e => (k a e).bind k2 := fun r k k2 => by cases r <;> rfl
  unfold mAndV at hp
  rw [e0] at hp
  refine ha F σ H env _ hr (ee hp fun x e1 v H1 F1 s1 r1 p1 hp1 => ?_)
  cases x with
  | bl b =>
    cases p1
    refine ⟨b, rfl, ?_⟩
    cases b with
    | true => exact iteT (hb F1 σ H1 e1 Q r1 hp1)
    | false => exact iteF (hp1 _ _ _ (Same.refl _) r1 (.bl false))
  | _ => exact hp1.elim
theorem se_or {a b : Expr} {rest : List Expr} {m n : ME} {pos : Pos} (ha : SE g W φ X a m) (hb : SE g W φ X (.BoolOp .Or (b :: rest) pos) n) : SE g W φ X (.BoolOp .Or (a :: b :: rest) pos) (mOrV m n) := by
  intro F σ H env Q hr hp
  refine ⟨_, pe_or w_pe w_pe, ?_⟩
  have e0 : ∀ {α β γ : Type} (r : Re α) (k : α → Env → Re β) (k2 : β → Env → Re γ), (r.bind k).bind k2 = r.bind fun a e => (k a e).bind k2 := fun r k k2 => by cases r <;> rfl
  unfold mOrV at hp
  rw [e0] at hp
  refine ha F σ H env _ hr (ee hp fun x e1 v H1 F1 s1 r1 p1 hp1 => ?_)
  cases x with
  | bl b =>
    cases p1
    refine ⟨b, rfl, ?_⟩
    cases b with
    | true => exact iteT (hp1 _ _ _ (Same.refl _) r1 (.bl true))
    | false => exact iteF (hb F1 σ H1 e1 Q r1 hp1)
  | _ => exact hp1.elim
def mIf (c : MT) (m n : ME) : ME := fun env => (c env).bind fun b e => if b = true then m e else n e
theorem se_if {c a b : Expr} {mc : MT} {m n : ME} {pos : Pos} (hc : ST g W φ X c mc) (ha : SE g W φ X a m) (hb : SE g W φ X b n) : SE g W φ X (.IfExp c a b pos) (mIf mc m n) := by
  intro F σ H env Q hr hp
  refine ⟨_, pe_ifExp w_pt w_pe w_pe, ?_⟩
  refine hc F σ H env _ hr (te hp fun x e1 H1 F1 s1 r1 hp1 => ?_)
  cases x with
  | true => exact iteT (ha F1 σ H1 e1 Q r1 hp1)
  | false => exact iteF (hb F1 σ H1 e1 Q r1 hp1)

/-! ### arguments, tuples, lists -/
def aNil : MA := fun env => .ok [] env
def aCons (m : MV) (n : MA) : MA := fun env => (m env).bind fun a e => (n e).bind fun as e2 => .ok (a :: as) e2
theorem sa_nil : SA g W φ X [] aNil := fun F σ H env Q hr hp => ⟨_, pa_nil, hp [] H F (Same.refl _) hr .nil⟩
theorem sa_cons {e : Expr} {es : List Expr} {m : MV} {n : MA} (h : SV g W φ X e m) (t : SA g W φ X es n) (hs : starEach (e :: es) X.env = (false, eval e X.env) :: starEach es X.env := by rfl) : SA g W φ X (e :: es) (aCons m n) := by
  intro F σ H env Q hr hp
  refine ⟨_, pa_cons w_pe w_pa hs, ?_⟩
  refine h F σ H env _ hr (va_ hp fun x e1 v H1 F1 s1 r1 p1 hp1 => t F1 σ H1 e1 _ r1 (aa hp1 fun y e2 vs H2 F2 s2 r2 p2 hp2 => ?_))
  exact hp2 _ H2 F2 (Same.refl _) r2 (.cons (p1.mono s2) p2)
/-- plain values only -/
def vals : List Av → Option (List D)
  | [] => some []
  | .va d :: as => (vals as).map (d :: ·)
  | .ix _ :: _ => none
theorem AvsR.vals {F : Hp} {σ : L2.St} : ∀ {vs : List V} {as : List Av} {ds : List D}, AvsR g F σ vs as → vals as = some ds → Reps g F vs ds
  | [], [], ds, _, e => by
    have : ([] : List D) = ds := Option.some.inj e
    subst this
    exact .nil
  | [], _ :: _, _, h, _ => by have := h.len; simp at this
  | _ :: _, [], _, h, _ => by have := h.len; simp at this
  | v :: vs, .va d :: as, ds, h, e => by
    simp only [Mp.vals, Option.map_eq_some_iff] at e
    obtain ⟨ds', e1, e2⟩ := e
    subst e2
    exact .cons h.head (AvsR.vals h.tail e1)
  | v :: vs, .ix i :: as, ds, h, e => by simp [Mp.vals] at e
def use {β : Type} (f : List D → Option β) (as : List Av) (e : Env) : Re β := match gets e as with
  | some ds => match f ds with
    | some z => .ok z e
    | none => .no
  | none => .no
def line : Nat := 16777216
theorem line_eq : line = sizeLine := by
  rw [sizeLine_eq]
  all_goals rfl
def mTup (m : MA) : ME := fun env => (m env).bind fun as e => match vals as with
  | some ds => if ds.length ≤ line then .ok (.tup ds) e else .no
  | none => .no
def mLst (m : MA) : ME := fun env => (m env).bind fun as e => match vals as with
  | some ds => if ds.length ≤ line then .ok (.lst ds) e else .no
  | none => .no
theorem se_tup {es : List Expr} {m : MA} {x1 : Nat} {pos : Pos} (h : SA g W φ X es m) : SE g W φ X (.Tuple es x1 pos) (mTup m) := by
  intro F σ H env Q hr hp
  refine ⟨_, pe_tup w_pa, ?_⟩
  refine h F σ H env _ hr (ae hp fun x e1 vs H1 F1 s1 r1 p1 hp1 => ?_)
  cases e : vals x with
  | none => simp only [e] at hp1; exact hp1.elim
  | some ds =>
    simp only [e] at hp1
    by_cases hz : ds.length ≤ line
    · rw [if_pos hz] at hp1
      have q := p1.vals e
      refine ⟨by rw [q.len, ← line_eq]; exact hz, fun p hn => ?_⟩
      obtain ⟨s2, r2⟩ := r1.laid (o := .tup vs) hn
      exact hp1 _ _ _ s2 r2 (.mkTup upd_same (q.mono s2))
    · rw [if_neg hz] at hp1
      exact hp1.elim
theorem se_lst {es : List Expr} {m : MA} {pos : Pos} (h : SA g W φ X es m) : SE g W φ X (.List es pos) (mLst m) := by
  intro F σ H env Q hr hp
  refine ⟨_, pe_lst w_pa, ?_⟩
  refine h F σ H env _ hr (ae hp fun x e1 vs H1 F1 s1 r1 p1 hp1 => ?_)
  cases e : vals x with
  | none => simp only [e] at hp1; exact hp1.elim
  | some ds =>
    simp only [e] at hp1
    by_cases hz : ds.length ≤ line
    · rw [if_pos hz] at hp1
      have q := p1.vals e
      refine ⟨by rw [q.len, ← line_eq]; exact hz, fun p hn => ?_⟩
      obtain ⟨s2, r2⟩ := r1.laid (o := .lst vs) hn
      exact hp1 _ _ _ s2 r2 (.mkLst upd_same (q.mono s2))
    · rw [if_neg hz] at hp1
      exact hp1.elim

/-! ### calls of built-ins -/
def CaS (g : Gc) (φ : Fc) (w : List V → Hp → VK → Prop) (f : List D → Option D) : Prop :=
  ∀ F σ H env vs ds z Q, Rel g φ F σ H env → RepsH g F H vs ds → f ds = some z → (∀ r H' F', Same F F' → Rel g φ F' σ H' env → Rep g F' r z → Q r H') → w vs H Q
def mCall (f : List D → Option D) (m : MA) : ME := fun env => (m env).bind fun as e => use f as e
theorem use_ok {F : Hp} {σ : L2.St} {Q : VK} {f : List D → Option D} {x : List Av} {e : Env} (hp : PoE g W φ F σ Q (use f x e)) : ∃ d z, gets e x = some d ∧ f d = some z ∧ PoE g W φ F σ Q (.ok z e) := by
  unfold use at hp
  cases h1 : gets e x with
  | none => rw [h1] at hp; exact hp.elim
  | some d =>
    rw [h1] at hp
    cases h2 : f d with
    | none => simp only [h2] at hp; exact hp.elim
    | some z => simp only [h2] at hp; exact ⟨d, z, rfl, h2, hp⟩
theorem se_callB {x : Str} {id : String} {f : List D → Option D} {e : Expr} {es : List Expr} {m : MA} {p pos : Pos} (hc : CaS g φ (wC X (.builtin id)) f) (hg : Gl X x) (hm : X.mg x = none) (hv : bootBuiltins x = some (.builtin id)) (ha : SA g W φ X (e :: es) m)
    (hn : x ≠ "__name__" := by decide) (hdb : (x == ("__debug__" : Str)) = false := by decide) (he : starEach (e :: es) X.env = (false, eval e X.env) :: starEach es X.env := by rfl) (hpl : (backTo pos (starEach es X.env)).any (·.1) = false := by rfl) :
    SE g W φ X (.Call (.Name x p) (e :: es) [] pos) (mCall f m) := by
  intro F σ H env Q hr hp
  refine ⟨_, pe_callB w_call hg hm hv w_pa hn hdb he hpl, ?_⟩
  refine ha F σ H env _ hr (ae hp fun as e1 vs H1 F1 s1 r1 p1 hp1 => ?_)
  obtain ⟨d, z, g1, hf, hp2⟩ := use_ok hp1
  exact hc F1 σ H1 e1 vs d z Q r1 (p1.gets r1 g1) hf hp2
theorem se_callT {x : Str} {T : String} {f : List D → Option D} {e : Expr} {es : List Expr} {m : MA} {p pos : Pos} (hc : CaS g φ (wC X (.type T)) f) (hg : Gl X x) (hm : X.mg x = none) (hv : bootBuiltins x = some (.type T)) (ha : SA g W φ X (e :: es) m)
    (hn : x ≠ "__name__" := by decide) (hdb : (x == ("__debug__" : Str)) = false := by decide) (he : starEach (e :: es) X.env = (false, eval e X.env) :: starEach es X.env := by rfl) (hpl : (backTo pos (starEach es X.env)).any (·.1) = false := by rfl) :
    SE g W φ X (.Call (.Name x p) (e :: es) [] pos) (mCall f m) := by
  intro F σ H env Q hr hp
  refine ⟨_, pe_callTy w_call hg hm hv w_pa hn hdb he hpl, ?_⟩
  refine ha F σ H env _ hr (ae hp fun as e1 vs H1 F1 s1 r1 p1 hp1 => ?_)
  obtain ⟨d, z, g1, hf, hp2⟩ := use_ok hp1
  exact hc F1 σ H1 e1 vs d z Q r1 (p1.gets r1 g1) hf hp2
/-! ### subscripts -/
def IxS (g : Gc) (φ : Fc) (w : V → V → Hp → VK → Prop) (f : D → D → Option D) : Prop := OpS g φ w f
theorem se_ix {a b : Expr} {f : D → D → Option D} {ma mb : MV} {pos : Pos} (ho : OpS g φ (wI X) f) (ha : SV g W φ X a ma) (hb : SV g W φ X b mb) (hs : PlainIx b := by intro _ _; rfl) : SE g W φ X (.Subscript a b pos) (mBin f ma mb) := by
  intro F σ H env Q hr hp
  refine ⟨_, pe_ix w_ix w_pe w_pe hs, ?_⟩
  refine ha F σ H env _ hr (ve hp fun x e1 v H1 F1 s1 r1 p1 hp1 => hb F1 σ H1 e1 _ r1 (ve hp1 fun y e2 u H2 F2 s2 r2 p2 hp2 => ?_))
  obtain ⟨d, d', z, g1, g2, hf, hp3⟩ := use2_ok hp2
  exact ho F2 σ H2 e2 v u d d' z Q r2 ((p1.mono s2).get r2 g1) (p2.get r2 g2) hf hp3
end
end Mp
set_option Elab.async false
set_option linter.all false
set_option maxRecDepth 100000
namespace Mp
open PySem PySem.Spec PyProof.Rows L2

/-! ## operations on data -/
def addF : D → D → Option D
  | .int i, .int j => some (.int (i + j))
  | .tup a, .tup b => if a.length + b.length ≤ line then some (.tup (a ++ b)) else none
  | .lst a, .lst b => if a.length + b.length ≤ line then some (.lst (a ++ b)) else none
  | .str a, .str b => if a.length + b.length ≤ line then some (.str (a ++ b)) else none
  | _, _ => none
def subF : D → D → Option D
  | .int i, .int j => some (.int (i - j))
  | _, _ => none
def mulF : D → D → Option D
  | .int i, .int j => if (-(2 ^ 64) < i ∧ i < 2 ^ 64) ∨ (-(2 ^ 64) < j ∧ j < 2 ^ 64) then some (.int (i * j)) else none
  | _, _ => none
def fdivF : D → D → Option D
  | .int i, .int j => if 0 < j ∧ j < 1073741824 then some (.int (i / j)) else none
  | _, _ => none
def modF : D → D → Option D
  | .int i, .int j => if 0 < j then some (.int (i % j)) else none
  | _, _ => none
def powF : D → D → Option D
  | .int i, .int j => if 0 ≤ j ∧ j ≤ 1000000 ∧ i.natAbs < 2 ^ 64 then some (.int (i ^ j.toNat)) else none
  | _, _ => none
def ltF : D → D → Option Bool
  | .int i, .int j => some (decide (i < j))
  | _, _ => none
def leF : D → D → Option Bool
  | .int i, .int j => some (decide (i ≤ j))
  | _, _ => none
def gtF : D → D → Option Bool
  | .int i, .int j => some (decide (j < i))
  | _, _ => none
def geF : D → D → Option Bool
  | .int i, .int j => some (decide (j ≤ i))
  | _, _ => none
mutual
def toPy : D → Option PyData
  | .non => some .none
  | .bl b => some (.bool b)
  | .int i => some (.int i)
  | .str x => some (.str x)
  | .tup xs => (toPys xs).map .tuple
  | .lst xs => (toPys xs).map .list
  | .rol _ => none
  | .obj _ _ => none
  | .ty _ => none
  | .cls _ => none
  | .adr _ => none
  | .kdt _ => none
  | .tpk xs => (toPys xs).map .tuple
def toPys : List D → Option (List PyData)
  | [] => some []
  | d :: ds => match toPy d, toPys ds with
    | some p, some ps => some (p :: ps)
    | _, _ => none
end
def eqF (x y : D) : Option Bool := match toPy x, toPy y with
  | some a, some b => if SeqAt.shaped a = true ∧ SeqAt.shaped b = true then some (PyData.eqv a b) else none
  | _, _ => none
def neF (x y : D) : Option Bool := (eqF x y).map (!·)
def D.isNon : D → Bool
  | .non => true
  | _ => false
def isF (x y : D) : Option Bool := if y.isNon = true then some x.isNon else none
def isntF (x y : D) : Option Bool := if y.isNon = true then some (!x.isNon) else none
/-- the place of an index -/
def atF : D → D → Option D
  | .lst xs, .int i => atI xs i
  | .tup xs, .int i => atI xs i
  | .rol xs, .int i => atI xs i
  | _, _ => none
def lenF : List D → Option D
  | [.lst xs] => some (.int xs.length)
  | [.tup xs] => some (.int xs.length)
  | [.rol xs] => some (.int xs.length)
  | [.str x] => if x.length ≤ line then some (.int x.length) else none
  | _ => none
def intF : List D → Option D
  | [.int i] => some (.int i)
  | [.bl b] => some (.int (if b then 1 else 0))
  | _ => none
def minF : List D → Option D
  | [.int i, .int j] => some (.int (if j < i then j else i))
  | _ => none
def maxF : List D → Option D
  | [.int i, .int j] => some (.int (if j > i then j else i))
  | _ => none
def tupF : List D → Option D
  | [.lst xs] => some (.tup xs)
  | [.tup xs] => some (.tup xs)
  | [.rol xs] => some (.tup xs)
  | _ => none
def tyName : D → Option String
  | .non => some "NoneType"
  | .bl _ => some "bool"
  | .int _ => some "int"
  | .str _ => some "str"
  | .tup _ => some "tuple"
  | .lst _ => some "list"
  | _ => none
/-- isinstance(x, T), T one built-in class -/
def isiF : List D → Option D
  | [x, .ty n] => match tyName x with
    | some t => (kitB t n).map D.bl
    | none => none
  | _ => none

theorem atI_reps {g : Gc} {F : Hp} {vs : List V} {xs : List D} {i : Int} {d : D} (h : Reps g F vs xs) (e : atI xs i = some d) : ∃ v, atI vs i = some v ∧ Rep g F v d := by
  unfold atI at e ⊢
  rw [h.len]
  cases q : ixN xs.length i with
  | none => rw [q] at e; cases e
  | some j =>
    rw [q] at e
    exact h.get e

section
variable {g : Gc} {W : WX} {φ : Fc} {X : Cx} {k : Nat} {F F' H : Hp} {σ : L2.St}
theorem RepH.tupR {v : V} {xs : List D} (h : RepH g F H v (.tup xs)) : Rep g F v (.tup xs) := by
  cases h with
  | of h => exact h
theorem op_add_ (hK : X.K = g.K) : OpS g φ (wO X (binaryOp .Add)) addF := by
  intro F σ H env v u x y z Q hr hx hy hf hq
  cases x <;> cases y <;> simp only [addF, reduceCtorEq] at hf
  · cases hf
    rw [hx.int, hy.int]
    exact ⟨_, op_add, _, _, rfl, rfl, hq _ _ _ (Same.refl _) hr (.int _)⟩
  · split at hf
    · rename_i hz
      cases hf
      rw [hx.str, hy.str]
      exact ⟨_, op_add_str, _, _, rfl, rfl, by rw [← line_eq]; exact hz, hq _ _ _ (Same.refl _) hr (.str _)⟩
    · cases hf
  · split at hf
    · rename_i hz
      cases hf
      obtain ⟨a, vs, rfl, h1, h2⟩ := hx.tup hr.ex
      obtain ⟨b, ws, rfl, h3, h4⟩ := hy.tup hr.ex
      refine ⟨_, op_catA, a, b, vs, ws, rfl, rfl, hK ▸ h1, hK ▸ h3, by rw [h2.len, h4.len, ← line_eq]; exact hz, fun e => ?_, fun e e' => ?_, fun e e' p hp => ?_⟩
      · have hl := h2.len
        rw [e] at hl
        rename_i xs ys
        have e2 : xs = [] := List.length_eq_zero_iff.mp hl.symm
        subst e2
        exact hq _ _ _ (Same.refl _) hr hy.tupR
      · have hl := h4.len
        rw [e'] at hl
        rename_i xs ys
        have e2 : ys = [] := List.length_eq_zero_iff.mp hl.symm
        subst e2
        rw [List.append_nil] at hq
        exact hq _ _ _ (Same.refl _) hr hx.tupR
      · obtain ⟨s2, r2⟩ := hr.laid (o := .tup (vs ++ ws)) hp
        exact hq _ _ _ s2 r2 (.mkTup upd_same ((h2.append h4).mono s2))
    · cases hf
  · split at hf
    · rename_i hz
      cases hf
      obtain ⟨a, vs, rfl, h1, h2⟩ := hx.lst hr.ex
      obtain ⟨b, ws, rfl, h3, h4⟩ := hy.lst hr.ex
      refine ⟨_, op_cat, a, b, vs, ws, rfl, rfl, h1, h3, by rw [h2.len, h4.len, ← line_eq]; exact hz, fun p hp => ?_⟩
      obtain ⟨s2, r2⟩ := hr.laid (o := .lst (vs ++ ws)) hp
      exact hq _ _ _ s2 r2 (.mkLst upd_same ((h2.append h4).mono s2))
    · cases hf
theorem op_sub_ : OpS g φ (wO X (binaryOp .Sub)) subF := by
  intro F σ H env v u x y z Q hr hx hy hf hq
  cases x <;> cases y <;> simp only [subF, reduceCtorEq] at hf
  cases hf
  rw [hx.int, hy.int]
  exact ⟨_, op_sub, _, _, rfl, rfl, hq _ _ _ (Same.refl _) hr (.int _)⟩
theorem op_mul_ : OpS g φ (wO X (binaryOp .Mult)) mulF := by
  intro F σ H env v u x y z Q hr hx hy hf hq
  cases x <;> cases y <;> simp only [mulF, reduceCtorEq] at hf
  split at hf
  · rename_i hc
    cases hf
    rw [hx.int, hy.int]
    exact ⟨_, op_mul, _, _, rfl, rfl, hc, hq _ _ _ (Same.refl _) hr (.int _)⟩
  · cases hf
theorem op_fdiv_ : OpS g φ (wO X (binaryOp .FloorDiv)) fdivF := by
  intro F σ H env v u x y z Q hr hx hy hf hq
  cases x <;> cases y <;> simp only [fdivF, reduceCtorEq] at hf
  split at hf
  · rename_i hc
    cases hf
    rw [hx.int, hy.int]
    exact ⟨_, op_fdiv, _, _, rfl, rfl, hc, hq _ _ _ (Same.refl _) hr (.int _)⟩
  · cases hf
theorem op_mod_ : OpS g φ (wO X (binaryOp .Mod)) modF := by
  intro F σ H env v u x y z Q hr hx hy hf hq
  cases x <;> cases y <;> simp only [modF, reduceCtorEq] at hf
  split at hf
  · rename_i hc
    cases hf
    rw [hx.int, hy.int]
    exact ⟨_, op_mod, _, _, rfl, rfl, hc, hq _ _ _ (Same.refl _) hr (.int _)⟩
  · cases hf
theorem op_pow_ : OpS g φ (wO X (binaryOp .Pow)) powF := by
  intro F σ H env v u x y z Q hr hx hy hf hq
  cases x <;> cases y <;> simp only [powF, reduceCtorEq] at hf
  split at hf
  · rename_i hc
    cases hf
    rw [hx.int, hy.int]
    exact ⟨_, op_pow, _, _, rfl, rfl, hc, hq _ _ _ (Same.refl _) hr (.int _)⟩
  · cases hf
theorem op_lt_ : OpB g φ (wO X (compareOp .Lt)) ltF := by
  intro F σ H env v u x y z Q hr hx hy hf hq
  cases x <;> cases y <;> simp only [ltF, reduceCtorEq] at hf
  cases hf
  rw [hx.int, hy.int]
  exact ⟨_, op_lt, _, _, rfl, rfl, hq⟩
theorem op_le_ : OpB g φ (wO X (compareOp .LtE)) leF := by
  intro F σ H env v u x y z Q hr hx hy hf hq
  cases x <;> cases y <;> simp only [leF, reduceCtorEq] at hf
  cases hf
  rw [hx.int, hy.int]
  exact ⟨_, op_le, _, _, rfl, rfl, hq⟩
theorem op_gt_ : OpB g φ (wO X (compareOp .Gt)) gtF := by
  intro F σ H env v u x y z Q hr hx hy hf hq
  cases x <;> cases y <;> simp only [gtF, reduceCtorEq] at hf
  cases hf
  rw [hx.int, hy.int]
  exact ⟨_, op_gt, _, _, rfl, rfl, hq⟩
theorem op_ge_ : OpB g φ (wO X (compareOp .GtE)) geF := by
  intro F σ H env v u x y z Q hr hx hy hf hq
  cases x <;> cases y <;> simp only [geF, reduceCtorEq] at hf
  cases hf
  rw [hx.int, hy.int]
  exact ⟨_, op_ge, _, _, rfl, rfl, hq⟩
/-! equality of data -/
mutual
theorem Rep.dp (s : Same F H) : ∀ (d : D) (v : V) (p : PyData), toPy d = some p → Rep g F v d → Dp g.K H v p
  | .non, v, p, e, r => by
    simp only [toPy, Option.some.injEq] at e
    subst e
    cases r
    exact .non
  | .bl b, v, p, e, r => by
    simp only [toPy, Option.some.injEq] at e
    subst e
    cases r
    exact .bl b
  | .int b, v, p, e, r => by
    simp only [toPy, Option.some.injEq] at e
    subst e
    cases r
    exact .int b
  | .str b, v, p, e, r => by
    simp only [toPy, Option.some.injEq] at e
    subst e
    cases r
    exact .str b
  | .tup xs, v, p, e, r => by
    simp only [toPy, Option.map_eq_some_iff] at e
    obtain ⟨ps, e1, e2⟩ := e
    subst e2
    cases r with
    | tup a vs ds h hl hi => exact .tup (same_t s h) (Rep.dps s xs vs ps e1 ⟨hl, hi⟩)
  | .lst xs, v, p, e, r => by
    simp only [toPy, Option.map_eq_some_iff] at e
    obtain ⟨ps, e1, e2⟩ := e
    subst e2
    cases r with
    | lst a vs ds h hl hi => exact .lst (.inl (.inl (s _ _ h))) (Rep.dps s xs vs ps e1 ⟨hl, hi⟩)
  | .rol _, _, _, e, _ => by simp only [toPy, reduceCtorEq] at e
  | .obj _ _, _, _, e, _ => by simp only [toPy, reduceCtorEq] at e
  | .ty _, _, _, e, _ => by simp only [toPy, reduceCtorEq] at e
  | .cls _, _, _, e, _ => by simp only [toPy, reduceCtorEq] at e
  | .adr _, _, _, e, _ => by simp only [toPy, reduceCtorEq] at e
  | .kdt _, _, _, e, _ => by simp only [toPy, reduceCtorEq] at e
  | .tpk xs, v, p, e, r => by
    simp only [toPy, Option.map_eq_some_iff] at e
    obtain ⟨ps, e1, e2⟩ := e
    subst e2
    cases r with
    | tpk a o vs ds h hc hd hl hi => exact .tup (.inl (.inr ⟨o, s _ _ h⟩)) (Rep.dps s xs vs ps e1 ⟨hl, hi⟩)
theorem Rep.dps (s : Same F H) : ∀ (ds : List D) (vs : List V) (ps : List PyData), toPys ds = some ps → Reps g F vs ds → DpAll g.K H vs ps
  | [], vs, ps, e, r => by
    simp only [toPys, Option.some.injEq] at e
    subst e
    have : vs = [] := List.length_eq_zero_iff.mp r.len
    subst this
    exact .nil
  | d :: ds, [], ps, e, r => by have := r.len; simp at this
  | d :: ds, v :: vs, ps, e, r => by
    cases h1 : toPy d with
    | none => simp only [toPys, h1, reduceCtorEq] at e
    | some p =>
      cases h2 : toPys ds with
      | none => simp only [toPys, h1, h2, reduceCtorEq] at e
      | some qs =>
        simp only [toPys, h1, h2, Option.some.injEq] at e
        subst e
        exact .cons (Rep.dp s d v p h1 r.head) (Rep.dps s ds vs qs h2 r.tail)
end
theorem RepH.dp (s : Same F H) {d : D} {v : V} {p : PyData} (e : toPy d = some p) (r : RepH g F H v d) : Dp g.K H v p := by
  cases r with
  | of h => exact Rep.dp s d v p e h
  | ow h q =>
    simp only [toPy, Option.map_eq_some_iff] at e
    obtain ⟨ps, e1, e2⟩ := e
    subst e2
    exact .lst (SqL.of h) (Rep.dps s _ _ ps e1 q)
theorem op_eq_ (hK : X.K = g.K) (rm : Room k X.A) : OpB g φ (wO X (compareOp .Eq)) eqF := by
  intro F σ H env v u x y z Q hr hx hy hf hq
  unfold eqF at hf
  cases h1 : toPy x with
  | none => simp only [h1, reduceCtorEq] at hf
  | some a =>
    cases h2 : toPy y with
    | none => simp only [h1, h2, reduceCtorEq] at hf
    | some b =>
      simp only [h1, h2] at hf
      split at hf
      · rename_i hs
        cases hf
        exact ⟨_, op_eqD rm.units, a, b, hK ▸ hx.dp hr.ex h1, hK ▸ hy.dp hr.ex h2, hs.1, hs.2, hq⟩
      · cases hf
theorem op_ne_ (hK : X.K = g.K) (rm : Room k X.A) : OpB g φ (wO X (compareOp .NotEq)) neF := by
  intro F σ H env v u x y z Q hr hx hy hf hq
  unfold neF eqF at hf
  cases h1 : toPy x with
  | none => simp only [h1, reduceCtorEq, Option.map_none] at hf
  | some a =>
    cases h2 : toPy y with
    | none => simp only [h1, h2, reduceCtorEq, Option.map_none] at hf
    | some b =>
      simp only [h1, h2] at hf
      split at hf
      · rename_i hs
        simp only [Option.map_some, Option.some.injEq] at hf
        subst hf
        exact ⟨_, op_neD rm.units, a, b, hK ▸ hx.dp hr.ex h1, hK ▸ hy.dp hr.ex h2, hs.1, hs.2, hq⟩
      · simp at hf
theorem RepH.non_iff {v : V} {d : D} (h : RepH g F H v d) : decide (v = .non) = d.isNon := by
  cases h with
  | of h => cases h <;> simp [D.isNon]
  | ow h q => simp [D.isNon]
theorem op_is_ : OpB g φ (wO X (compareOp .Is)) isF := by
  intro F σ H env v u x y z Q hr hx hy hf hq
  unfold isF at hf
  split at hf
  · rename_i hn
    cases hf
    have e1 := hx.non_iff
    have e2 := hy.non_iff
    rw [hn] at e2
    exact ⟨_, op_isN, of_decide_eq_true e2, by rw [e1]; exact hq⟩
  · cases hf
theorem op_isnt_ : OpB g φ (wO X (compareOp .IsNot)) isntF := by
  intro F σ H env v u x y z Q hr hx hy hf hq
  unfold isntF at hf
  split at hf
  · rename_i hn
    cases hf
    have e1 := hx.non_iff
    have e2 := hy.non_iff
    rw [hn] at e2
    exact ⟨_, op_notN, of_decide_eq_true e2, by rw [e1]; exact hq⟩
  · cases hf
/-! an item -/
theorem ix_at_ (hK : X.K = g.K) : OpS g φ (wI X) atF := by
  intro F σ H env v u x y z Q hr hx hy hf hq
  cases x <;> cases y <;> simp only [atF, reduceCtorEq] at hf
  · obtain ⟨a, vs, rfl, h1, h2⟩ := hx.tup hr.ex
    obtain ⟨w, h3, h4⟩ := atI_reps h2 hf
    rw [hy.int]
    exact ⟨_, ix_tup, a, vs, _, w, rfl, rfl, hK ▸ h1, h3, hq _ _ _ (Same.refl _) hr h4⟩
  · obtain ⟨a, vs, rfl, h1, h2⟩ := hx.lst hr.ex
    obtain ⟨w, h3, h4⟩ := atI_reps h2 hf
    rw [hy.int]
    exact ⟨_, ix_list, a, vs, _, w, rfl, rfl, SqL.of h1, h3, hq _ _ _ (Same.refl _) hr h4⟩
  · obtain ⟨a, vs, rfl, h1, h2⟩ := hx.rol hr.ex
    obtain ⟨w, h3, h4⟩ := atI_reps h2 hf
    rw [hy.int]
    exact ⟨_, ix_list, a, vs, _, w, rfl, rfl, hK ▸ h1, h3, hq _ _ _ (Same.refl _) hr h4⟩
/-! calls -/
theorem ca_len (hK : X.K = g.K) : CaS g φ (wC X (.builtin "len")) lenF := by
  intro F σ H env vs ds z Q hr hx hf hq
  cases hx with
  | nil => simp [lenF] at hf
  | @cons v d vs ds h t =>
    cases t with
    | cons h2 t2 => cases d <;> simp [lenF] at hf
    | nil =>
      cases d <;> simp only [lenF, reduceCtorEq] at hf
      · split at hf
        · rename_i hz
          cases hf
          rw [h.str]
          exact ⟨_, call_len_str, _, rfl, by rw [← line_eq]; exact hz, hq _ _ _ (Same.refl _) hr (.int _)⟩
        · cases hf
      · cases hf
        obtain ⟨a, ws, rfl, h1, h2⟩ := h.tup hr.ex
        exact ⟨_, call_len_seq, a, ws, rfl, .inr (hK ▸ h1), hq _ _ _ (Same.refl _) hr (by rw [h2.len]; exact .int _)⟩
      · cases hf
        obtain ⟨a, ws, rfl, h1, h2⟩ := h.lst hr.ex
        exact ⟨_, call_len_seq, a, ws, rfl, .inl (SqL.of h1), hq _ _ _ (Same.refl _) hr (by rw [h2.len]; exact .int _)⟩
      · cases hf
        obtain ⟨a, ws, rfl, h1, h2⟩ := h.rol hr.ex
        exact ⟨_, call_len_seq, a, ws, rfl, .inl (hK ▸ h1), hq _ _ _ (Same.refl _) hr (by rw [h2.len]; exact .int _)⟩
theorem ca_int : CaS g φ (wC X (.type "int")) intF := by
  intro F σ H env vs ds z Q hr hx hf hq
  cases hx with
  | nil => simp [intF] at hf
  | @cons v d vs ds h t =>
    cases t with
    | cons h2 t2 => cases d <;> simp [intF] at hf
    | nil =>
      cases d <;> simp only [intF, reduceCtorEq] at hf
      · cases hf
        rw [h.bl]
        exact ⟨_, call_int1, .inr ⟨_, rfl, hq _ _ _ (Same.refl _) hr (.int _)⟩⟩
      · cases hf
        rw [h.int]
        exact ⟨_, call_int1, .inl ⟨_, rfl, hq _ _ _ (Same.refl _) hr (.int _)⟩⟩
theorem ca_min (hc : X.calm = true) : CaS g φ (wC X (.builtin "min")) minF := by
  intro F σ H env vs ds z Q hr hx hf hq
  cases hx with
  | nil => simp [minF] at hf
  | @cons v d vs ds h t =>
    cases t with
    | nil => cases d <;> simp [minF] at hf
    | @cons v2 d2 vs ds h2 t =>
      cases t with
      | cons h3 t3 => cases d <;> cases d2 <;> simp [minF] at hf
      | nil =>
        cases d <;> cases d2 <;> simp only [minF, reduceCtorEq] at hf
        cases hf
        rw [h.int, h2.int]
        exact ⟨_, call_min2 hc, _, _, rfl, hq _ _ _ (Same.refl _) hr (.int _)⟩
theorem ca_max (hc : X.calm = true) : CaS g φ (wC X (.builtin "max")) maxF := by
  intro F σ H env vs ds z Q hr hx hf hq
  cases hx with
  | nil => simp [maxF] at hf
  | @cons v d vs ds h t =>
    cases t with
    | nil => cases d <;> simp [maxF] at hf
    | @cons v2 d2 vs ds h2 t =>
      cases t with
      | cons h3 t3 => cases d <;> cases d2 <;> simp [maxF] at hf
      | nil =>
        cases d <;> cases d2 <;> simp only [maxF, reduceCtorEq] at hf
        cases hf
        rw [h.int, h2.int]
        exact ⟨_, call_max2 hc, _, _, rfl, hq _ _ _ (Same.refl _) hr (.int _)⟩
theorem ca_tup (hK : X.K = g.K) : CaS g φ (wC X (.type "tuple")) tupF := by
  intro F σ H env vs ds z Q hr hx hf hq
  cases hx with
  | nil => simp [tupF] at hf
  | @cons v d vs ds h t =>
    cases t with
    | cons h2 t2 => cases d <;> simp [tupF] at hf
    | nil =>
      cases d <;> simp only [tupF, reduceCtorEq] at hf
      · cases hf
        have h0 := h.tupR
        obtain ⟨a, ws, rfl, h1, h2⟩ := h.tup hr.ex
        exact ⟨_, call_tuple_of, a, ws, rfl, .inr ⟨hK ▸ h1, hq _ _ _ (Same.refl _) hr h0⟩⟩
      · cases hf
        obtain ⟨a, ws, rfl, h1, h2⟩ := h.lst hr.ex
        refine ⟨_, call_tuple_of, a, ws, rfl, .inl ⟨SqL.of h1, fun p hp => ?_⟩⟩
        obtain ⟨s2, r2⟩ := hr.laid (o := .tup ws) hp
        exact hq _ _ _ s2 r2 (.mkTup upd_same (h2.mono s2))
      · cases hf
        obtain ⟨a, ws, rfl, h1, h2⟩ := h.rol hr.ex
        refine ⟨_, call_tuple_of, a, ws, rfl, .inl ⟨hK ▸ h1, fun p hp => ?_⟩⟩
        obtain ⟨s2, r2⟩ := hr.laid (o := .tup ws) hp
        exact hq _ _ _ s2 r2 (.mkTup upd_same (h2.mono s2))
/-- a value's class -/
theorem RepH.ty {v : V} {d : D} {t : String} (s : Same F H) (h : RepH g F H v d) (e : tyName d = some t) : TyX g.K H v (.type t) := by
  cases d <;> simp only [tyName, reduceCtorEq, Option.some.injEq] at e
  · subst e
    rw [h.non]
    exact .base .non
  · subst e
    rw [h.bl]
    exact .base (.bl _)
  · subst e
    rw [h.int]
    exact .base (.int _)
  · subst e
    rw [h.str]
    exact .base (.str _)
  · subst e
    obtain ⟨a, ws, rfl, h1, h2⟩ := h.tup s
    rcases h1 with (h1 | ⟨o, h1⟩) | ⟨o, its, n, h1, hc, _⟩
    · exact .base (.tup h1)
    · exact .fTuple h1
    · exact .kTuple h1 hc
  · subst e
    obtain ⟨a, ws, rfl, h1, h2⟩ := h.lst s
    exact .base (.lst h1)
theorem ca_isi (hK : X.K = g.K) : CaS g φ (wC X (.builtin "isinstance")) isiF := by
  intro F σ H env vs ds z Q hr hx hf hq
  cases hx with
  | nil => simp [isiF] at hf
  | @cons v d vs ds h t =>
    cases t with
    | nil => simp [isiF] at hf
    | @cons v2 d2 vs ds h2 t =>
      cases t with
      | cons h3 t3 => cases d2 <;> simp [isiF] at hf
      | nil =>
        cases d2 <;> simp only [isiF, reduceCtorEq] at hf
        rename_i n
        cases e : tyName d with
        | none => simp [e] at hf
        | some t =>
          simp only [e, Option.map_eq_some_iff] at hf
          obtain ⟨b, hb, rfl⟩ := hf
          have e2 : v2 = .ty n := by
            cases h2 with
            | of h2 => cases h2; rfl
          subst e2
          exact ⟨_, call_isi, v, .ty n, .type t, .type n, b, rfl, .ty n, hK ▸ h.ty hr.ex e, kit_ty hb, hq _ _ _ (Same.refl _) hr (.bl b)⟩
end
end Mp
set_option Elab.async false
set_option linter.all false
set_option maxRecDepth 100000
namespace Mp
open PySem PySem.Spec PyProof.Rows L2

/-! ## the frame's slots -/
def NotOwn (σ : L2.St) (env : Env) (p : Addr) : Prop := ∀ (i : Nat) (b : Bool) (xs : List D) (a : Addr), env[i]? = some (Sl.ow b xs) → σ[i]? = some (some (V.ref a)) → a ≠ p
theorem get_set {α : Type} {l : List α} {i j : Nat} {x y : α} (h : (l.set i x)[j]? = some y) : (i = j ∧ y = x ∧ i < l.length) ∨ (i ≠ j ∧ l[j]? = some y) := by
  rw [List.getElem?_set] at h
  split at h
  · rename_i e
    split at h
    · rename_i hl
      exact .inl ⟨e, (Option.some.inj h).symm, hl⟩
    · cases h
  · rename_i e
    exact .inr ⟨e, h⟩
theorem set_get {α : Type} {l : List α} {i : Nat} {x : α} (h : i < l.length) : (l.set i x)[i]? = some x := by
  rw [List.getElem?_set, if_pos rfl, if_pos h]
theorem set_get_ne {α : Type} {l : List α} {i j : Nat} {x : α} (h : i ≠ j) : (l.set i x)[j]? = l[j]? := List.getElem?_set_ne h
theorem lt_of_get {α : Type} {l : List α} {i : Nat} {x : α} (h : l[i]? = some x) : i < l.length := (List.getElem?_eq_some_iff.mp h).1
def isOw : Option Sl → Bool
  | some (.ow _ _) => true
  | _ => false
section
variable {g : Gc} {φ : Fc} {F F' : Hp} {σ : L2.St} {H : Hp} {env : Env}
theorem Rel.setVa (r : Rel g φ F σ H env) {i : Nat} {s : Sl} (hs : env[i]? = some s) (hn : isOw (some s) = false) {v : V} {d : D} (h : Rep g F v d) : Rel g φ F (σ.set i (some v)) H (env.set i (.va d)) := by
  have hi : i < env.length := lt_of_get hs
  have hσ : i < σ.length := by rw [r.len]; exact hi
  refine ⟨r.ex, r.ex0, r.new, r.fr, by simp [r.len], fun j d' e => ?_, fun j b xs e => ?_, fun j k b c xs ys a e1 e2 e3 e4 => ?_, fun p hp => ?_⟩
  · rcases get_set e with ⟨rfl, e2, _⟩ | ⟨hne, e2⟩
    · cases e2
      exact ⟨v, set_get hσ, h⟩
    · obtain ⟨w, h1, h2⟩ := r.va j d' e2
      exact ⟨w, by rw [set_get_ne hne]; exact h1, h2⟩
  · rcases get_set e with ⟨rfl, e2, _⟩ | ⟨hne, e2⟩
    · cases e2
    · obtain ⟨a, vs, h1, h2⟩ := r.ow j b xs e2
      exact ⟨a, vs, by rw [set_get_ne hne]; exact h1, h2⟩
  · rcases get_set e1 with ⟨rfl, z, _⟩ | ⟨n1, e1⟩
    · cases z
    · rcases get_set e2 with ⟨rfl, z, _⟩ | ⟨n2, e2⟩
      · cases z
      · rw [set_get_ne n1] at e3
        rw [set_get_ne n2] at e4
        exact r.dj j k b c xs ys a e1 e2 e3 e4
  · obtain ⟨h1, xs, h2⟩ := r.ioh p hp
    have hne : i ≠ p.1 := fun z => by
      rw [← z, hs] at h2
      cases h2
      simp [isOw] at hn
    exact ⟨by rw [set_get_ne hne]; exact h1, xs, by rw [set_get_ne hne]; exact h2⟩
/-- a list of one's own, new, at the slot i -/
theorem Rel.setOw (r : Rel g φ F σ H env) {i : Nat} {s : Sl} (hs : env[i]? = some s) (hn : ∀ xs, s ≠ .ow true xs) {p : Addr} {vs : List V} {xs : List D} (hp : H p = some (.lst vs)) (hF : F p = none) (h0 : φ.H0 p = none) (ho : NotOwn σ env p) (h : Reps g F vs xs) :
    Rel g φ F (σ.set i (some (.ref p))) H (env.set i (.ow false xs)) := by
  have hi : i < env.length := lt_of_get hs
  have hσ : i < σ.length := by rw [r.len]; exact hi
  refine ⟨r.ex, r.ex0, r.new, r.fr, by simp [r.len], fun j d' e => ?_, fun j b ys e => ?_, fun j k b c ys zs a e1 e2 e3 e4 => ?_, fun q hq => ?_⟩
  · rcases get_set e with ⟨rfl, e2, _⟩ | ⟨hne, e2⟩
    · cases e2
    · obtain ⟨w, h1, h2⟩ := r.va j d' e2
      exact ⟨w, by rw [set_get_ne hne]; exact h1, h2⟩
  · rcases get_set e with ⟨rfl, e2, _⟩ | ⟨hne, e2⟩
    · cases e2
      exact ⟨p, vs, set_get hσ, hp, hF, h, fun _ => h0, fun z => by cases z⟩
    · obtain ⟨a, ws, h1, h2⟩ := r.ow j b ys e2
      exact ⟨a, ws, by rw [set_get_ne hne]; exact h1, h2⟩
  · rcases get_set e1 with ⟨rfl, z, _⟩ | ⟨n1, e1⟩
    · rcases get_set e2 with ⟨rfl, z, _⟩ | ⟨n2, e2⟩
      · rfl
      · rw [set_get hσ] at e3
        rw [set_get_ne n2] at e4
        cases e3
        exact absurd rfl (ho k c zs p e2 e4)
    · rcases get_set e2 with ⟨rfl, z, _⟩ | ⟨n2, e2⟩
      · rw [set_get hσ] at e4
        rw [set_get_ne n1] at e3
        cases e4
        exact absurd rfl (ho j b ys p e1 e3)
      · rw [set_get_ne n1] at e3
        rw [set_get_ne n2] at e4
        exact r.dj j k b c ys zs a e1 e2 e3 e4
  · obtain ⟨h1, ys, h2⟩ := r.ioh q hq
    have hne : i ≠ q.1 := fun z => by
      rw [← z, hs] at h2
      exact hn ys (Option.some.inj h2)
    exact ⟨by rw [set_get_ne hne]; exact h1, ys, by rw [set_get_ne hne]; exact h2⟩
/-- a list of one's own is changed -/
theorem Rel.updOw (r : Rel g φ F σ H env) {i : Nat} {b : Bool} {xs ys : List D} (hs : env[i]? = some (.ow b xs)) {a : Addr} (ha : σ[i]? = some (some (.ref a))) {ws : List V} (h : Reps g F ws ys) :
    Rel g φ F σ (upd H a (.lst ws)) (env.set i (.ow b ys)) := by
  have hi : i < env.length := lt_of_get hs
  obtain ⟨a', vs, h1, h2, h3, h4, h5, h6⟩ := r.ow i b xs hs
  rw [ha] at h1
  cases h1
  refine ⟨fun c u e => ?_, r.ex0, r.new, fun c u e hc => ?_, by simp [r.len], fun j d' e => ?_, fun j c zs e => ?_, fun j k c c' zs us e e1 e2 e3 e4 => ?_, fun q hq => ?_⟩
  · have hca : c ≠ a := ne_of_none e h3
    rw [upd_ne hca]
    exact r.ex c u e
  · have hca : c ≠ a := fun z => by
      cases b with
      | false => rw [z, h5 rfl] at e; cases e
      | true => exact hc _ (h6 rfl) z.symm
    rw [upd_ne hca]
    exact r.fr c u e hc
  · rcases get_set e with ⟨rfl, e2, _⟩ | ⟨hne, e2⟩
    · cases e2
    · exact r.va j d' e2
  · rcases get_set e with ⟨rfl, e2, _⟩ | ⟨hne, e2⟩
    · cases e2
      exact ⟨a, ws, ha, upd_same, h3, h, h5, h6⟩
    · obtain ⟨p, us, q1, q2, q3⟩ := r.ow j c zs e2
      have hpa : p ≠ a := fun z => hne (r.dj i j b c xs zs a hs e2 ha (z ▸ q1))
      exact ⟨p, us, q1, by rw [upd_ne hpa]; exact q2, q3⟩
  · rcases get_set e1 with ⟨rfl, z, _⟩ | ⟨n1, e1⟩
    · rcases get_set e2 with ⟨rfl, z2, _⟩ | ⟨n2, e2⟩
      · rfl
      · exact r.dj _ k b c' xs us e hs e2 e3 e4
    · rcases get_set e2 with ⟨rfl, z2, _⟩ | ⟨n2, e2⟩
      · exact r.dj j _ c b zs xs e e1 hs e3 e4
      · exact r.dj j k c c' zs us e e1 e2 e3 e4
  · obtain ⟨q1, zs, q2⟩ := r.ioh q hq
    refine ⟨q1, ?_⟩
    by_cases hne : i = q.1
    · rw [← hne, hs] at q2
      cases q2
      exact ⟨ys, by rw [← hne]; exact set_get hi⟩
    · exact ⟨zs, by rw [set_get_ne hne]; exact q2⟩
/-- an object that nobody has is settled -/
theorem Rel.settle (r : Rel g φ F σ H env) {p : Addr} {o : HO} (hp : H p = some o) (hF : F p = none) (h0 : φ.H0 p = none) (ho : NotOwn σ env p) : Same F (upd F p o) ∧ Rel g φ (upd F p o) σ H env := by
  have sF : Same F (upd F p o) := same_new hF
  refine ⟨sF, ⟨fun b u e => ?_, r.ex0.trans sF, fun b u e => ?_, r.fr, r.len, fun i d e => ?_, fun i b xs e => ?_, r.dj, r.ioh⟩⟩
  · by_cases hb : b = p
    · subst hb
      rw [upd_same] at e
      cases e
      exact hp
    · rw [upd_ne hb] at e
      exact r.ex b u e
  · by_cases hb : b = p
    · subst hb
      exact .inr h0
    · rw [upd_ne hb] at e
      exact r.new b u e
  · obtain ⟨v, h1, h2⟩ := r.va i d e
    exact ⟨v, h1, h2.mono sF⟩
  · obtain ⟨a, vs, h1, h2, h3, h4, h5⟩ := r.ow i b xs e
    have ha : a ≠ p := ho i b xs a e h1
    exact ⟨a, vs, h1, h2, by rw [upd_ne ha]; exact h3, h4.mono sF, h5⟩
/-- a loose object changes -/
theorem Rel.mut (r : Rel g φ F σ H env) {p : Addr} {o : HO} (hF : F p = none) (h0 : φ.H0 p = none) (ho : NotOwn σ env p) : Rel g φ F σ (upd H p o) env := by
  refine ⟨fun b u e => ?_, r.ex0, r.new, fun b u e hb => ?_, r.len, r.va, fun i b xs e => ?_, r.dj, r.ioh⟩
  · rw [upd_ne (ne_of_none e hF)]
    exact r.ex b u e
  · rw [upd_ne (ne_of_none e h0)]
    exact r.fr b u e hb
  · obtain ⟨a, vs, h1, h2, h3⟩ := r.ow i b xs e
    exact ⟨a, vs, h1, by rw [upd_ne (ho i b xs a e h1)]; exact h2, h3⟩
/-- a slot is emptied that holds no list handed in -/
theorem Rel.drop (r : Rel g φ F σ H env) {i : Nat} (hn : ∀ xs, env[i]? ≠ some (.ow true xs)) : Rel g φ F σ H (env.set i .un) := by
  refine ⟨r.ex, r.ex0, r.new, r.fr, by simp [r.len], fun j d' e => ?_, fun j b ys e => ?_, fun j k b c ys zs a e1 e2 e3 e4 => ?_, fun q hq => ?_⟩
  · rcases get_set e with ⟨rfl, e2, _⟩ | ⟨hne, e2⟩
    · cases e2
    · exact r.va j d' e2
  · rcases get_set e with ⟨rfl, e2, _⟩ | ⟨hne, e2⟩
    · cases e2
    · exact r.ow j b ys e2
  · rcases get_set e1 with ⟨rfl, z, _⟩ | ⟨n1, e1⟩
    · cases z
    · rcases get_set e2 with ⟨rfl, z, _⟩ | ⟨n2, e2⟩
      · cases z
      · exact r.dj j k b c ys zs a e1 e2 e3 e4
  · obtain ⟨h1, ys, h2⟩ := r.ioh q hq
    have hne : i ≠ q.1 := fun z => by
      rw [← z] at h2
      exact hn ys h2
    exact ⟨h1, ys, by rw [set_get_ne hne]; exact h2⟩
/-- a list of one's own becomes a settled value -/
theorem Rel.give (r : Rel g φ F σ H env) {i : Nat} {xs : List D} (hs : env[i]? = some (.ow false xs)) : ∃ (a : Addr) (vs : List V), σ[i]? = some (some (.ref a)) ∧ Same F (upd F a (.lst vs)) ∧ Rel g φ (upd F a (.lst vs)) σ H (env.set i .un) ∧ Rep g (upd F a (.lst vs)) (.ref a) (.lst xs) := by
  obtain ⟨a, vs, h1, h2, h3, h4, h5, h6⟩ := r.ow i false xs hs
  have r2 : Rel g φ F σ H (env.set i .un) := r.drop fun ys z => by
    rw [hs] at z
    cases z
  have ho : NotOwn σ (env.set i .un) a := fun j b ys a' e1 e2 z => by
    rcases get_set e1 with ⟨rfl, z2, _⟩ | ⟨n1, e1⟩
    · cases z2
    · subst z
      exact n1 (r.dj i j false b xs ys a' hs e1 h1 e2)
  obtain ⟨s3, r3⟩ := r2.settle h2 h3 (h5 rfl) ho
  exact ⟨a, vs, h1, s3, r3, .mkLst upd_same (h4.mono s3)⟩
end

/-! ## a new list -/
section
variable (g : Gc) (W : WX) (φ : Fc)
def PoL (F : Hp) (σ : L2.St) (Q : VK) (r : Re (List D)) : Prop :=
  match r with
  | .ok xs e' => ∀ p vs H' F', Same F F' → Rel g φ F' σ H' e' → H' p = some (.lst vs) → F' p = none → φ.H0 p = none → NotOwn σ e' p → Reps g F' vs xs → Q (.ref p) H'
  | .exc c v e' => XP g W φ F c v e'
  | .no => False
abbrev ML := Env → Re (List D)
def SL (X : Cx) (e : Expr) (m : ML) : Prop := ∀ F σ H env Q, Rel g φ F σ H env → PoL g W φ F σ Q (m env) → wE X e σ H Q
end
section
variable {g : Gc} {W : WX} {φ : Fc} {X : Cx} {k : Nat} {F F' H : Hp} {σ : L2.St}
theorem PoL.mono (e : Same F F') {Q : VK} {r : Re (List D)} (h : PoL g W φ F σ Q r) : PoL g W φ F' σ Q r := by
  cases r with
  | ok d e' => exact fun p vs H' F2 a => h p vs H' F2 (e.trans a)
  | exc c v e' => exact XP.mono e h
  | no => exact h
theorem al {r : Re (List Av)} {k : List Av → Env → Re (List D)} {Q : VK} {Q1 : List V → Hp → Prop} (hp : PoL g W φ F σ Q (r.bind k))
    (h : ∀ x e1 vs H1 F1, Same F F1 → Rel g φ F1 σ H1 e1 → AvsR g F1 σ vs x → PoL g W φ F1 σ Q (k x e1) → Q1 vs H1) : PoA g W φ F σ Q1 r := by
  cases r with
  | ok x e1 => exact fun v H1 F1 a b c => h x e1 v H1 F1 a b c (hp.mono a)
  | exc c v e' => exact hp
  | no => exact hp
/-- a new list as a value -/
def mL (m : ML) : ME := fun env => (m env).bind fun xs e => .ok (.lst xs) e
theorem SE.ofL {e : Expr} {m : ML} (h : SL g W φ X e m) : SE g W φ X e (mL m) := by
  intro F σ H env Q hr hp
  refine h F σ H env Q hr ?_
  unfold mL at hp
  cases e1 : m env with
  | ok xs e' =>
    rw [e1] at hp
    intro p vs H' F' s1 r1 h1 h2 h3 h4 h5
    obtain ⟨s2, r2⟩ := r1.settle h1 h2 h3 h4
    exact hp _ _ _ (s1.trans s2) r2 (.mkLst upd_same (h5.mono s2))
  | exc c v e' => rw [e1] at hp; exact hp
  | no => rw [e1] at hp; exact hp
theorem Rel.freshOwn {env : Env} (r : Rel g φ F σ H env) {p : Addr} (hp : H p = none) : NotOwn σ env p := fun i b xs a e1 e2 z => by
  obtain ⟨a', vs, h1, h2, _⟩ := r.ow i b xs e1
  rw [e2] at h1
  cases h1
  rw [z, hp] at h2
  cases h2
/-- the wish of a new list from a fresh address -/
theorem PoL.at_ {env : Env} {Q : VK} {xs : List D} (r : Rel g φ F σ H env) (hp : PoL g W φ F σ Q (.ok xs env)) {vs : List V} (hv : Reps g F vs xs) : ∀ p, H p = none → Q (.ref p) (upd H p (.lst vs)) := fun p hn =>
  hp p vs _ F (Same.refl _) (r.loose hn) upd_same (r.ex.free hn) (r.h0 hn) (r.freshOwn hn) hv
def lLst (m : MA) : ML := fun env => (m env).bind fun as e => match vals as with
  | some ds => if ds.length ≤ line then .ok ds e else .no
  | none => .no
theorem sl_lst {es : List Expr} {m : MA} {pos : Pos} (h : SA g W φ X es m) : SL g W φ X (.List es pos) (lLst m) := by
  intro F σ H env Q hr hp
  refine ⟨_, pe_lst w_pa, ?_⟩
  refine h F σ H env _ hr (al hp fun x e1 vs H1 F1 s1 r1 p1 hp1 => ?_)
  cases e : vals x with
  | none => simp only [e] at hp1; exact hp1.elim
  | some ds =>
    simp only [e] at hp1
    by_cases hz : ds.length ≤ line
    · rw [if_pos hz] at hp1
      have q := p1.vals e
      exact ⟨by rw [q.len, ← line_eq]; exact hz, PoL.at_ r1 hp1 q⟩
    · rw [if_neg hz] at hp1
      exact hp1.elim
/-- list(x) -/
def listF : List D → Option (List D)
  | [.lst xs] => some xs
  | [.tup xs] => some xs
  | [.rol xs] => some xs
  | _ => none
def lCall (f : List D → Option (List D)) (m : MA) : ML := fun env => (m env).bind fun as e => use f as e
theorem use_okL {Q : VK} {f : List D → Option (List D)} {x : List Av} {e : Env} (hp : PoL g W φ F σ Q (use f x e)) : ∃ d z, gets e x = some d ∧ f d = some z ∧ PoL g W φ F σ Q (.ok z e) := by
  unfold use at hp
  cases h1 : gets e x with
  | none => rw [h1] at hp; exact hp.elim
  | some d =>
    rw [h1] at hp
    cases h2 : f d with
    | none => simp only [h2] at hp; exact hp.elim
    | some z => simp only [h2] at hp; exact ⟨d, z, rfl, h2, hp⟩
theorem sl_list {e : Expr} {es : List Expr} {m : MA} {p pos : Pos} (hK : X.K = g.K) (hg : Gl X "list") (hm : X.mg "list" = none) (ha : SA g W φ X (e :: es) m)
    (he : starEach (e :: es) X.env = (false, eval e X.env) :: starEach es X.env := by rfl) (hpl : (backTo pos (starEach es X.env)).any (·.1) = false := by rfl) :
    SL g W φ X (.Call (.Name "list" p) (e :: es) [] pos) (lCall listF m) := by
  intro F σ H env Q hr hp
  refine ⟨_, pe_callTy call_list_of hg hm (by decide +kernel) w_pa (by decide) (by decide) he hpl, ?_⟩
  refine ha F σ H env _ hr (al hp fun as e1 vs H1 F1 s1 r1 p1 hp1 => ?_)
  obtain ⟨ds, z, g1, hf, hp2⟩ := use_okL hp1
  have q := p1.gets r1 g1
  cases q with
  | nil => simp [listF] at hf
  | @cons v d vs ds h t =>
    cases t with
    | cons h2 t2 => cases d <;> simp [listF] at hf
    | nil =>
      cases d <;> simp only [listF, reduceCtorEq, Option.some.injEq] at hf
      · subst hf
        obtain ⟨a, ws, rfl, h1, h2⟩ := h.tup r1.ex
        exact ⟨a, ws, rfl, .inr (hK ▸ h1), PoL.at_ r1 hp2 h2⟩
      · subst hf
        obtain ⟨a, ws, rfl, h1, h2⟩ := h.lst r1.ex
        exact ⟨a, ws, rfl, .inl (SqL.of h1), PoL.at_ r1 hp2 h2⟩
      · subst hf
        obtain ⟨a, ws, rfl, h1, h2⟩ := h.rol r1.ex
        exact ⟨a, ws, rfl, .inl (hK ▸ h1), PoL.at_ r1 hp2 h2⟩
end

/-! ## slices -/
def sliceF (lo hi : Option Int) : D → Option D
  | .tup xs => some (.tup ((xs.drop (HT.sIx xs.length 0 lo)).take (HT.sIx xs.length xs.length hi - HT.sIx xs.length 0 lo)))
  | _ => none
def sliceL (lo hi : Option Int) : D → Option (List D)
  | .lst xs => some ((xs.drop (HT.sIx xs.length 0 lo)).take (HT.sIx xs.length xs.length hi - HT.sIx xs.length 0 lo))
  | .rol xs => some ((xs.drop (HT.sIx xs.length 0 lo)).take (HT.sIx xs.length xs.length hi - HT.sIx xs.length 0 lo))
  | _ => none
/-- a part of a slice: left out, or an int -/
abbrev MO := Env → Re (Option Int)
def oNone : MO := fun env => .ok none env
def asI : D → Env → Re (Option Int) := fun d e => match d with
  | .int i => .ok (some i) e
  | _ => .no
def oSome (m : ME) : MO := fun env => (m env).bind asI
def wPO (X : Cx) (e : Option Expr) : TO := fun σ H Q => ∃ t, PO X e t ∧ t σ H Q
theorem w_po {X : Cx} {e : Option Expr} : PO X e (wPO X e) := ⟨fun pins s σ H Q I ⟨_, h, q⟩ => h.run pins s σ H Q I q⟩
section
variable (g : Gc) (W : WX) (φ : Fc)
def PoO (F : Hp) (σ : L2.St) (Q : Option Int → Hp → Prop) (r : Re (Option Int)) : Prop :=
  match r with
  | .ok d e' => ∀ H' F', Same F F' → Rel g φ F' σ H' e' → Q d H'
  | .exc c v e' => XP g W φ F c v e'
  | .no => False
def SO (X : Cx) (e : Option Expr) (m : MO) : Prop := ∀ F σ H env Q, Rel g φ F σ H env → PoO g W φ F σ Q (m env) → wPO X e σ H Q
end
section
variable {g : Gc} {W : WX} {φ : Fc} {X : Cx} {k : Nat} {F F' H : Hp} {σ : L2.St}
theorem so_none : SO g W φ X none oNone := fun F σ H env Q hr hp => ⟨_, po_none, hp _ _ (Same.refl _) hr⟩
theorem PoO.mono (e : Same F F') {Q : Option Int → Hp → Prop} {r : Re (Option Int)} (h : PoO g W φ F σ Q r) : PoO g W φ F' σ Q r := by
  cases r with
  | ok d e' => exact fun H' F2 a => h H' F2 (e.trans a)
  | exc c v e' => exact XP.mono e h
  | no => exact h
theorem so_some {e : Expr} {m : ME} (h : SE g W φ X e m) : SO g W φ X (some e) (oSome m) := by
  intro F σ H env Q hr hp
  refine ⟨_, po_some w_pe, ?_⟩
  refine h F σ H env _ hr ?_
  unfold oSome at hp
  cases e1 : m env with
  | ok x e' =>
    rw [e1] at hp
    intro v H1 F1 s1 r1 p1
    cases x with
    | int i =>
      cases p1
      exact ⟨i, rfl, hp _ _ s1 r1⟩
    | _ => exact hp.elim
  | exc c v e' => rw [e1] at hp; exact hp
  | no => rw [e1] at hp; exact hp
theorem oe {r : Re (Option Int)} {k : Option Int → Env → Re D} {Q : VK} {Q1 : Option Int → Hp → Prop} (hp : PoE g W φ F σ Q (r.bind k))
    (h : ∀ x e1 H1 F1, Same F F1 → Rel g φ F1 σ H1 e1 → PoE g W φ F1 σ Q (k x e1) → Q1 x H1) : PoO g W φ F σ Q1 r := by
  cases r with
  | ok x e1 => exact fun H1 F1 a b => h x e1 H1 F1 a b (hp.mono a)
  | exc c v e' => exact hp
  | no => exact hp
theorem ol {r : Re (Option Int)} {k : Option Int → Env → Re (List D)} {Q : VK} {Q1 : Option Int → Hp → Prop} (hp : PoL g W φ F σ Q (r.bind k))
    (h : ∀ x e1 H1 F1, Same F F1 → Rel g φ F1 σ H1 e1 → PoL g W φ F1 σ Q (k x e1) → Q1 x H1) : PoO g W φ F σ Q1 r := by
  cases r with
  | ok x e1 => exact fun H1 F1 a b => h x e1 H1 F1 a b (hp.mono a)
  | exc c v e' => exact hp
  | no => exact hp
theorem vl {r : Re Av} {k : Av → Env → Re (List D)} {Q : VK} {Q1 : VK} (hp : PoL g W φ F σ Q (r.bind k))
    (h : ∀ x e1 v H1 F1, Same F F1 → Rel g φ F1 σ H1 e1 → AvR g F1 σ v x → PoL g W φ F1 σ Q (k x e1) → Q1 v H1) : PoV g W φ F σ Q1 r := by
  cases r with
  | ok x e1 => exact fun v H1 F1 a b c => h x e1 v H1 F1 a b c (hp.mono a)
  | exc c v e' => exact hp
  | no => exact hp
def mSlice (ma : MV) (ml mh : MO) : ME := fun env => (ma env).bind fun x e1 => (ml e1).bind fun lo e2 => (mh e2).bind fun hi e3 => use1 (sliceF lo hi) x e3
theorem se_slice {a : Expr} {lo hi : Option Expr} {ma : MV} {ml mh : MO} {p2 pos : Pos} (hK : X.K = g.K) (ha : SV g W φ X a ma) (hl : SO g W φ X lo ml) (hh : SO g W φ X hi mh) : SE g W φ X (.Subscript a (.Slice lo hi none p2) pos) (mSlice ma ml mh) := by
  intro F σ H env Q hr hp
  refine ⟨_, pe_slice sl_tupA w_pe w_po w_po, ?_⟩
  refine ha F σ H env _ hr (ve hp fun x e1 v H1 F1 s1 r1 p1 hp1 => hl F1 σ H1 e1 _ r1 (oe hp1 fun l e2 H2 F2 s2 r2 hp2 => hh F2 σ H2 e2 _ r2 (oe hp2 fun h e3 H3 F3 s3 r3 hp3 => ?_)))
  obtain ⟨d, z, g1, hf, hp4⟩ := use1_ok hp3
  have q := ((p1.mono s2).mono s3).get r3 g1
  cases d <;> simp only [sliceF, reduceCtorEq, Option.some.injEq] at hf
  subst hf
  have q0 := q.tupR
  obtain ⟨b, vs, rfl, h1, h2⟩ := q.tup r3.ex
  refine ⟨b, vs, rfl, hK ▸ h1, fun hw => ?_, fun hw p hn => ?_⟩
  · rw [h2.len] at hw
    have e : ∀ {n : Nat} {ys : List D}, n = ys.length → List.take (n - 0) (List.drop 0 ys) = ys := fun {n ys} e => by
      rw [e, Nat.sub_zero, List.drop_zero, List.take_length]
    rw [hw.1, hw.2, e rfl] at hp4
    exact hp4 _ _ _ (Same.refl _) r3 q0
  · obtain ⟨s4, r4⟩ := r3.laid (o := .tup (cutV vs l h)) hn
    refine hp4 _ _ _ s4 r4 (.mkTup upd_same (Reps.mono s4 ?_))
    unfold cutV
    rw [h2.len]
    exact (h2.drop _).take _
def lSlice (ma : MV) (ml mh : MO) : ML := fun env => (ma env).bind fun x e1 => (ml e1).bind fun lo e2 => (mh e2).bind fun hi e3 => use1 (sliceL lo hi) x e3
theorem sl_slice {a : Expr} {lo hi : Option Expr} {ma : MV} {ml mh : MO} {p2 pos : Pos} (hK : X.K = g.K) (ha : SV g W φ X a ma) (hl : SO g W φ X lo ml) (hh : SO g W φ X hi mh) : SL g W φ X (.Subscript a (.Slice lo hi none p2) pos) (lSlice ma ml mh) := by
  intro F σ H env Q hr hp
  refine ⟨_, pe_slice L2.sl_list w_pe w_po w_po, ?_⟩
  refine ha F σ H env _ hr (vl hp fun x e1 v H1 F1 s1 r1 p1 hp1 => hl F1 σ H1 e1 _ r1 (ol hp1 fun l e2 H2 F2 s2 r2 hp2 => hh F2 σ H2 e2 _ r2 (ol hp2 fun h e3 H3 F3 s3 r3 hp3 => ?_)))
  unfold use1 at hp3
  cases g1 : x.get e3 with
  | none => rw [g1] at hp3; exact hp3.elim
  | some d =>
    rw [g1] at hp3
    have q := ((p1.mono s2).mono s3).get r3 g1
    cases d <;> simp only [sliceL] at hp3
    case lst xs =>
      obtain ⟨b, vs, rfl, h1, h2⟩ := q.lst r3.ex
      refine ⟨b, vs, rfl, SqL.of h1, PoL.at_ r3 hp3 ?_⟩
      unfold cutV
      rw [h2.len]
      exact (h2.drop _).take _
    case rol xs =>
      obtain ⟨b, vs, rfl, h1, h2⟩ := q.rol r3.ex
      refine ⟨b, vs, rfl, hK ▸ h1, PoL.at_ r3 hp3 ?_⟩
      unfold cutV
      rw [h2.len]
      exact (h2.drop _).take _
    all_goals exact hp3.elim
end
end Mp
set_option Elab.async false
set_option linter.all false
set_option maxRecDepth 100000
namespace Mp
open PySem PySem.Spec PyProof.Rows L2

/-! ## targets -/
abbrev MG := D → Env → Option Env
abbrev MGs := List D → Env → Option Env
def wG (X : Cx) (tg : Expr) : TG := fun v σ H Q => ∃ t, PG X tg t ∧ t v σ H Q
def wGs (X : Cx) (tg : List Expr) : TGs := fun v σ H Q => ∃ t, PGs X tg t ∧ t v σ H Q
theorem w_pg {X : Cx} {e : Expr} : PG X e (wG X e) := ⟨fun pins s σ H v u Q I r ⟨_, h, q⟩ => h.run pins s σ H v u Q I r q⟩
theorem w_pgs {X : Cx} {e : List Expr} : PGs X e (wGs X e) := ⟨fun pins s σ H v u Q I r ⟨_, h, q⟩ => h.run pins s σ H v u Q I r q⟩
/-- off the slots ws all is as it was -/
def Off (ws : List Nat) (σ σ' : L2.St) : Prop := σ'.length = σ.length ∧ ∀ i, i ∉ ws → σ'[i]? = σ[i]?
theorem Off.refl {ws : List Nat} {σ : L2.St} : Off ws σ σ := ⟨rfl, fun _ _ => rfl⟩
theorem Off.trans {ws us : List Nat} {σ σ' σ2 : L2.St} (a : Off ws σ σ') (b : Off us σ' σ2) : Off (ws ++ us) σ σ2 := ⟨b.1.trans a.1, fun i h => by
  simp only [List.mem_append, not_or] at h
  rw [b.2 i h.2, a.2 i h.1]⟩
def SG (g : Gc) (φ : Fc) (X : Cx) (ws : List Nat) (tg : Expr) (m : MG) : Prop :=
  ∀ F σ H env v d env' (Q : L2.St → Hp → Prop), Rel g φ F σ H env → Rep g F v d → m d env = some env' → (∀ σ', Off ws σ σ' → Rel g φ F σ' H env' → Q σ' H) → wG X tg v σ H Q
def SGs (g : Gc) (φ : Fc) (X : Cx) (ws : List Nat) (tg : List Expr) (m : MGs) : Prop :=
  ∀ F σ H env vs ds env' (Q : L2.St → Hp → Prop), Rel g φ F σ H env → Reps g F vs ds → m ds env = some env' → (∀ σ', Off ws σ σ' → Rel g φ F σ' H env' → Q σ' H) → wGs X tg vs σ H Q
def putG (i : Nat) : MG := fun d env => match env[i]? with
  | some (.ow _ _) => none
  | some _ => some (env.set i (.va d))
  | none => none
def nilG : MGs := fun ds env => match ds with
  | [] => some env
  | _ => none
def consG (m : MG) (n : MGs) : MGs := fun ds env => match ds with
  | d :: ds => match m d env with
    | some e => n ds e
    | none => none
  | [] => none
def tupG (n : Nat) (m : MGs) : MG := fun d env => match d with
  | .tup ds => if ds.length = n then m ds env else none
  | _ => none
section
variable {g : Gc} {W : WX} {φ : Fc} {X : Cx} {k : Nat} {F F' H : Hp} {σ : L2.St}
theorem putG_ok {i : Nat} {d : D} {env env' : Env} (e : putG i d env = some env') : ∃ s, env[i]? = some s ∧ isOw (some s) = false ∧ env' = env.set i (.va d) := by
  unfold putG at e
  cases h : env[i]? with
  | none => rw [h] at e; cases e
  | some s =>
    rw [h] at e
    cases s with
    | ow b xs => cases e
    | un => cases e; exact ⟨_, rfl, rfl, rfl⟩
    | va d' => cases e; exact ⟨_, rfl, rfl, rfl⟩
theorem sg_name {i : Nat} {x : Str} {pos : Pos} (hN : X.N.Nodup) (hi : X.N[i]? = some x := by rfl) (hx : Loc X.env.scope x := by first | exact Or.inl rfl | exact Or.inr rfl)
    (hf : X.fn x = true ∨ X.env.scope.names.lookup x = some .local := by first | exact .inl rfl | exact .inr rfl) : SG g φ X [i] (.Name x pos) (putG i) := by
  intro F σ H env v d env' Q hr hv hm hq
  obtain ⟨s, h1, h2, rfl⟩ := putG_ok hm
  exact ⟨_, pg_name hN hi hx hf, hq _ ⟨by simp, fun j hj => set_get_ne (fun z => hj (by simp [z]))⟩ (hr.setVa h1 h2 hv)⟩
theorem sgs_nil : SGs g φ X [] [] nilG := by
  intro F σ H env vs ds env' Q hr hv hm hq
  cases ds with
  | nil =>
    have : vs = [] := List.length_eq_zero_iff.mp hv.len
    subst this
    cases hm
    exact ⟨_, pgs_nil, rfl, hq _ .refl hr⟩
  | cons d ds => cases hm
theorem sgs_cons {ws us : List Nat} {e : Expr} {es : List Expr} {m : MG} {n : MGs} (h : SG g φ X ws e m) (t : SGs g φ X us es n) (hs : (assignEach (e :: es) X.env).map (·.2) = assign e X.env :: (assignEach es X.env).map (·.2) := by rfl) : SGs g φ X (ws ++ us) (e :: es) (consG m n) := by
  intro F σ H env vs ds env' Q hr hv hm hq
  cases ds with
  | nil => cases hm
  | cons d ds =>
    cases vs with
    | nil => have := hv.len; simp at this
    | cons v vs =>
      cases h1 : m d env with
      | none => simp only [consG, h1, reduceCtorEq] at hm
      | some e1 =>
        simp only [consG, h1] at hm
        exact ⟨_, pgs_cons w_pg w_pgs hs, v, vs, rfl, h F σ H env v d e1 _ hr hv.head h1 fun σ1 o1 r1 => t F σ1 H e1 vs ds env' Q r1 hv.tail hm fun σ2 o2 r2 => hq σ2 (o1.trans o2) r2⟩
theorem sg_tup {ws : List Nat} {es : List Expr} {kk : Nat} {m : MGs} {n : Nat} {pos : Pos} (hK : X.K = g.K) (hc : X.calm = true) (h : SGs g φ X ws es m) (hn : (assignEach es X.env).length = n := by rfl) (hst : (assignEach es X.env).findIdx? (·.1) = none := by rfl) : SG g φ X ws (.Tuple es kk pos) (tupG n m) := by
  intro F σ H env v d env' Q hr hv hm hq
  cases d <;> simp only [tupG, reduceCtorEq] at hm
  rename_i ds
  split at hm
  · rename_i hl
    cases hv with
    | tup a vs ds h1 h2 h3 =>
      exact ⟨_, pg_tup hc w_pgs hn hst, a, vs, rfl, hK ▸ same_t hr.ex h1, by rw [h2]; exact hl, h F σ H env vs ds env' Q hr ⟨h2, h3⟩ hm hq⟩
  · cases hm

/-! ## small statements, blocks -/
theorem ss_pass {pos : Pos} : SS g W φ X (.Pass pos) (fun e => .nx e) := fun F σ H env En hr hp => ⟨_, ps_pass, hp _ _ _ (Same.refl _) hr⟩
theorem ss_break {pos : Pos} : SS g W φ X (.Break pos) (fun e => .br e) := fun F σ H env En hr hp => ⟨_, ps_break, hp _ _ _ (Same.refl _) hr⟩
theorem ss_continue {pos : Pos} : SS g W φ X (.Continue pos) (fun e => .ct e) := fun F σ H env En hr hp => ⟨_, ps_continue, hp _ _ _ (Same.refl _) hr⟩
theorem ss_doc {x : Str} {j : Nat} {pos pos' : Pos} : SS g W φ X (.Expr (.Constant (.str x) j pos) pos') (fun e => .nx e) := fun F σ H env En hr hp => ⟨_, ps_doc, hp _ _ _ (Same.refl _) hr⟩
theorem ss_expr {e : Expr} {m : ME} {pos : Pos} (h : SE g W φ X e m) (hs : swapsWith e none pos.line X.env = pure false := by rfl) : SS g W φ X (.Expr e pos) (fun env => (m env).flow fun _ e1 => .nx e1) := by
  intro F σ H env En hr hp
  exact ⟨_, ps_expr w_pe hs, h F σ H env _ hr (es hp fun x e1 v H1 F1 s1 r1 p1 hp1 => hp1 _ _ _ (Same.refl _) r1)⟩
theorem ss_ret {e : Expr} {m : ME} {pos : Pos} (h : SE g W φ X e m) : SS g W φ X (.Return (some e) pos) (fun env => (m env).flow fun d e1 => .rt d e1) := by
  intro F σ H env En hr hp
  exact ⟨_, ps_ret w_pe, h F σ H env _ hr (es hp fun x e1 v H1 F1 s1 r1 p1 hp1 => hp1 v σ H1 F1 (Same.refl _) r1 p1)⟩
/-- return x, x a list of one's own -/
def retOwn (i : Nat) : MS := fun env => match env[i]? with
  | some (.ow false xs) => .rt (.lst xs) (env.set i .un)
  | some (.va d) => .rt d env
  | _ => .no
theorem ss_retOwn (i : Nat) {x : Str} {p pos : Pos} (hN : X.N[i]? = some x := by rfl) (hv : Vis X.env.scope x := by first | exact Or.inl rfl | exact Or.inr (Or.inl rfl) | exact Or.inr (Or.inr rfl))
    (hd : (x == ("__debug__" : Str)) = false := by decide) (hcd : (x == ("__classdict__" : Str)) = false := by decide) : SS g W φ X (.Return (some (.Name x p)) pos) (retOwn i) := by
  intro F σ H env En hr hp
  unfold retOwn at hp
  cases e : env[i]? with
  | none => rw [e] at hp; exact hp.elim
  | some s =>
    cases s with
    | un => rw [e] at hp; exact hp.elim
    | va d =>
      rw [e] at hp
      obtain ⟨v, h1, h2⟩ := hr.va i d e
      exact ⟨_, ps_ret (pe_var hN hv hd hcd), v, h1, hp v σ H F (Same.refl _) hr h2⟩
    | ow b xs =>
      cases b with
      | true => rw [e] at hp; exact hp.elim
      | false =>
        rw [e] at hp
        obtain ⟨a, vs, h1, h2, h3, h4⟩ := hr.give e
        exact ⟨_, ps_ret (pe_var hN hv hd hcd), .ref a, h1, hp (.ref a) σ H _ h2 h3 h4⟩
theorem ss_retN {pos : Pos} : SS g W φ X (.Return none pos) (fun e => .rt .non e) := fun F σ H env En hr hp => ⟨_, ps_retN, hp .non σ H F (Same.refl _) hr .non⟩
def mIfS (c : MT) (a b : MS) : MS := fun env => (c env).flow fun t e => if t = true then a e else b e
theorem ss_if {c : Expr} {a b : List Stmt} {mc : MT} {ma mb : MS} {pos : Pos} (hc : ST g W φ X c mc) (ha : SB g W φ X a ma) (hb : SB g W φ X b mb) : SS g W φ X (.If c a b pos) (mIfS mc ma mb) := by
  intro F σ H env En hr hp
  refine ⟨_, ps_if w_pt w_pb w_pb, hc F σ H env _ hr (ts hp fun x e1 H1 F1 s1 r1 hp1 => ?_)⟩
  cases x with
  | true => exact iteT (ha F1 σ H1 e1 En r1 hp1)
  | false => exact iteF (hb F1 σ H1 e1 En r1 hp1)
theorem sb_nil : SB g W φ X [] (fun e => .nx e) := fun F σ H env En hr hp => ⟨_, pss_nil, hp _ _ _ (Same.refl _) hr⟩
def mSeq (a b : MS) : MS := fun env => (a env).seq b
theorem sb_cons {s : Stmt} {r : List Stmt} {m n : MS} (h : SS g W φ X s m) (t : SB g W φ X r n) : SB g W φ X (s :: r) (mSeq m n) := by
  intro F σ H env En hr hp
  refine ⟨_, pss_cons w_ps w_pb, h F σ H env _ hr ?_⟩
  unfold mSeq at hp
  cases e : m env with
  | nx e1 =>
    rw [e] at hp
    exact fun σ' H' F' s1 r1 => t F' σ' H' e1 En r1 (PoS.mono s1 hp)
  | rt d e1 => rw [e] at hp; exact hp
  | br e1 => rw [e] at hp; exact hp
  | ct e1 => rw [e] at hp; exact hp
  | exc c v e1 => rw [e] at hp; exact hp
  | no => rw [e] at hp; exact hp
theorem sb_one {s : Stmt} {m : MS} (h : SS g W φ X s m) : SB g W φ X [s] m := fun F σ H env En hr hp => ⟨_, pss_one w_ps, h F σ H env En hr hp⟩
/-- x = e -/
def mSet (i : Nat) (m : ME) : MS := fun env => (m env).flow fun d e => match putG i d e with
  | some e1 => .nx e1
  | none => .no
theorem ss_set {i : Nat} {x : Str} {e : Expr} {m : ME} {pos pos' : Pos} (hN : X.N.Nodup) (h : SE g W φ X e m) (hi : X.N[i]? = some x := by rfl) (hx : Loc X.env.scope x := by first | exact Or.inl rfl | exact Or.inr rfl)
    (hs : swapsWith e (some (.Name x pos')) pos.line X.env = pure false := by rfl) (hf : X.fn x = true ∨ X.env.scope.names.lookup x = some .local := by first | exact .inl rfl | exact .inr rfl) :
    SS g W φ X (.Assign [.Name x pos'] e pos) (mSet i m) := by
  intro F σ H env En hr hp
  refine ⟨_, ps_set hN hi hx w_pe hs hf, h F σ H env _ hr (es hp fun d e1 v H1 F1 s1 r1 p1 hp1 => ?_)⟩
  cases e2 : putG i d e1 with
  | none => simp only [e2] at hp1; exact hp1.elim
  | some e3 =>
    simp only [e2] at hp1
    obtain ⟨s, h1, h2, rfl⟩ := putG_ok e2
    exact hp1 _ _ _ (Same.refl _) (r1.setVa h1 h2 p1)
/-- x = a new list, which is x's own from here on -/
def ownG (i : Nat) (xs : List D) (env : Env) : Fl := match env[i]? with
  | some (.ow true _) => .no
  | some _ => .nx (env.set i (.ow false xs))
  | none => .no
def mSetO (i : Nat) (m : ML) : MS := fun env => (m env).flow fun xs e => ownG i xs e
theorem ss_setO {i : Nat} {x : Str} {e : Expr} {m : ML} {pos pos' : Pos} (hN : X.N.Nodup) (h : SL g W φ X e m) (hi : X.N[i]? = some x := by rfl) (hx : Loc X.env.scope x := by first | exact Or.inl rfl | exact Or.inr rfl)
    (hs : swapsWith e (some (.Name x pos')) pos.line X.env = pure false := by rfl) (hf : X.fn x = true ∨ X.env.scope.names.lookup x = some .local := by first | exact .inl rfl | exact .inr rfl) :
    SS g W φ X (.Assign [.Name x pos'] e pos) (mSetO i m) := by
  intro F σ H env En hr hp
  refine ⟨_, ps_set hN hi hx w_pe hs hf, h F σ H env _ hr ?_⟩
  unfold mSetO at hp
  cases e1 : m env with
  | exc c v e' => rw [e1] at hp; exact hp
  | no => rw [e1] at hp; exact hp
  | ok xs e' =>
    rw [e1] at hp
    intro p vs H' F' s1 r1 h1 h2 h3 h4 h5
    have hp2 : PoS g W φ F En (ownG i xs e') := hp
    unfold ownG at hp2
    cases e2 : e'[i]? with
    | none => rw [e2] at hp2; exact hp2.elim
    | some s =>
      rw [e2] at hp2
      cases s with
      | un => exact hp2 _ _ _ s1 (r1.setOw e2 (fun ys z => by cases z) h1 h2 h3 h4 h5)
      | va d => exact hp2 _ _ _ s1 (r1.setOw e2 (fun ys z => by cases z) h1 h2 h3 h4 h5)
      | ow b ys =>
        cases b with
        | true => exact hp2.elim
        | false => exact hp2 _ _ _ s1 (r1.setOw e2 (fun ys z => by cases z) h1 h2 h3 h4 h5)
/-- y = x, x a list of one's own: it is settled, y holds it as a value -/
def mFreeze (i j : Nat) : MS := fun env => match env[j]? with
  | some (.ow false xs) => match putG i (.lst xs) (env.set j .un) with
    | some e1 => .nx e1
    | none => .no
  | _ => .no
theorem ss_freeze {i j : Nat} {x y : Str} {p pos pos' : Pos} (hN : X.N.Nodup) (hi : X.N[i]? = some y := by rfl) (hj : X.N[j]? = some x := by rfl) (hx : Loc X.env.scope y := by first | exact Or.inl rfl | exact Or.inr rfl)
    (hv : Vis X.env.scope x := by first | exact Or.inl rfl | exact Or.inr (Or.inl rfl) | exact Or.inr (Or.inr rfl)) (hd : (x == ("__debug__" : Str)) = false := by decide) (hcd : (x == ("__classdict__" : Str)) = false := by decide)
    (hs : swapsWith (.Name x p) (some (.Name y pos')) pos.line X.env = pure false := by rfl) (hf : X.fn y = true ∨ X.env.scope.names.lookup y = some .local := by first | exact .inl rfl | exact .inr rfl) :
    SS g W φ X (.Assign [.Name y pos'] (.Name x p) pos) (mFreeze i j) := by
  intro F σ H env En hr hp
  unfold mFreeze at hp
  cases e : env[j]? with
  | none => rw [e] at hp; exact hp.elim
  | some s =>
    rw [e] at hp
    cases s with
    | un => exact hp.elim
    | va d => exact hp.elim
    | ow b xs =>
      cases b with
      | true => exact hp.elim
      | false =>
        simp only at hp
        cases e2 : putG i (.lst xs) (env.set j .un) with
        | none => rw [e2] at hp; exact hp.elim
        | some e3 =>
          rw [e2] at hp
          obtain ⟨a, vs, h1, h2, h3, h4⟩ := hr.give e
          obtain ⟨s, q1, q2, rfl⟩ := putG_ok e2
          exact ⟨_, ps_set hN hi hx (pe_var hj hv hd hcd) hs hf, .ref a, h1, hp _ _ _ h2 (h3.setVa q1 q2 h4)⟩
/-- a, b = e -/
def mAsg (mg : MG) (m : ME) : MS := fun env => (m env).flow fun d e => match mg d e with
  | some e1 => .nx e1
  | none => .no
theorem ss_asg {ws : List Nat} {tg e : Expr} {m : ME} {mg : MG} {pos : Pos} (h : SE g W φ X e m) (hg : SG g φ X ws tg mg) (hs : swapsWithSole [tg] e pos.line X.env = pure false := by rfl) (hw : swappedStores [tg] e X.env = pure none := by rfl)
    (h1 : (assignEach [tg] X.env).map (·.2) = [assign tg X.env] := by rfl) : SS g W φ X (.Assign [tg] e pos) (mAsg mg m) := by
  intro F σ H env En hr hp
  refine ⟨_, ps_asg w_pe w_pg hs hw h1, h F σ H env _ hr (es hp fun d e1 v H1 F1 s1 r1 p1 hp1 => ?_)⟩
  cases e2 : mg d e1 with
  | none => simp only [e2] at hp1; exact hp1.elim
  | some e3 =>
    simp only [e2] at hp1
    exact hg F1 σ H1 e1 v d e3 _ r1 p1 e2 fun σ' _ r2 => hp1 _ _ _ (Same.refl _) r2
/-- x.append(e), x a list of one's own -/
def mAppend (i : Nat) (m : ME) : MS := fun env => match env[i]? with
  | some (.ow _ _) => (m env).flow fun d e => match e[i]? with
    | some (.ow b xs) => if xs.length < line then .nx (e.set i (.ow b (xs ++ [d]))) else .no
    | _ => .no
  | _ => .no
theorem ss_append (i : Nat) {x : Str} {e : Expr} {m : ME} {p apos cpos pos : Pos} (h : SE g W φ X e m) (hN : X.N[i]? = some x := by rfl) (hv : Vis X.env.scope x := by first | exact Or.inl rfl | exact Or.inr (Or.inl rfl) | exact Or.inr (Or.inr rfl))
    (hd : (x == ("__debug__" : Str)) = false := by decide) (hcd : (x == ("__classdict__" : Str)) = false := by decide) (hs1 : starEach (e :: []) X.env = (false, eval e X.env) :: starEach [] X.env := by rfl)
    (hbase : attributeBase (.Name x p) "append" X.env (eval (.Name x p) X.env) = eval (.Name x p) X.env := by rfl)
    (hfew : ((backTo cpos (starEach (e :: []) X.env)).all (fun x => !x.1) && (backToKw cpos (keywordEach [] X.env)).all (fun x => x.1.isSome)
      && decide ((e :: []).length + ([] : List Keyword).length + (if ([] : List Keyword).isEmpty then 0 else 1) < 30)) = true := by rfl)
    (hline : (apos.endLine == cpos.line) = true := by rfl) (hplain : (backTo cpos (starEach [] X.env)).any (·.1) = false := by rfl)
    (hs : swapsWith (.Call (.Attribute (.Name x p) "append" apos) [e] [] cpos) none pos.line X.env = pure false := by rfl) :
    SS g W φ X (.Expr (.Call (.Attribute (.Name x p) "append" apos) [e] [] cpos) pos) (mAppend i m) := by
  intro F σ H env En hr hp
  refine ⟨_, ps_expr (pe_bm PySem.F.plainAttrs_list PySem.F.slot_list_append PySem.F.type_list_append mt_append (pe_var hN hv hd hcd) (pa_cons w_pe pa_nil hs1) hbase hfew hline hs1 hplain) hs, ?_⟩
  unfold mAppend at hp
  cases e0 : env[i]? with
  | none => rw [e0] at hp; exact hp.elim
  | some s =>
    rw [e0] at hp
    cases s with
    | un => exact hp.elim
    | va d => exact hp.elim
    | ow b0 xs0 =>
      simp only at hp
      obtain ⟨a, vs0, g1, g2, _⟩ := hr.ow i b0 xs0 e0
      refine ⟨.ref a, g1, .inl ⟨rfl, vs0, SqL.of g2⟩, ?_⟩
      refine h F σ H env _ hr (es hp fun d e1 v H1 F1 s1 r1 p1 hp1 => ?_)
      cases e1' : e1[i]? with
      | none => simp only [e1'] at hp1; exact hp1.elim
      | some s =>
        cases s with
        | un => simp only [e1'] at hp1; exact hp1.elim
        | va d => simp only [e1'] at hp1; exact hp1.elim
        | ow b xs =>
          simp only [e1'] at hp1
          by_cases hz : xs.length < line
          · rw [if_pos hz] at hp1
            obtain ⟨a', vs, k1, k2, k3, k4, _⟩ := r1.ow i b xs e1'
            rw [g1] at k1
            cases k1
            refine ⟨a, vs, v, rfl, rfl, k2, by rw [k4.len, ← line_eq]; exact hz, ?_⟩
            exact hp1 _ _ _ (Same.refl _) (r1.updOw e1' g1 (k4.append (.cons p1 .nil)))
          · rw [if_neg hz] at hp1
            exact hp1.elim
/-- x[k] = e, x a list of one's own -/
def mStore (i : Nat) (mk m : ME) : MS := fun env => (m env).flow fun d e => match e[i]? with
  | some (.ow _ _) => (mk e).flow fun q e2 => match q, e2[i]? with
    | .int z, some (.ow b xs) => match ixN xs.length z with
      | some j => .nx (e2.set i (.ow b (xs.set j d)))
      | none => .no
    | _, _ => .no
  | _ => .no
theorem ss_store (i : Nat) {x : Str} {ke e : Expr} {m mk : ME} {p spos pos : Pos} (h : SE g W φ X e m) (hk : SE g W φ X ke mk) (hN : X.N[i]? = some x := by rfl) (hv : Vis X.env.scope x := by first | exact Or.inl rfl | exact Or.inr (Or.inl rfl) | exact Or.inr (Or.inr rfl))
    (hd : (x == ("__debug__" : Str)) = false := by decide) (hcd : (x == ("__classdict__" : Str)) = false := by decide)
    (hsw : swapsWithSole [.Subscript (.Name x p) ke spos] e pos.line X.env = pure false := by rfl) (hw : swappedStores [.Subscript (.Name x p) ke spos] e X.env = pure none := by rfl) (h1 : (assignEach [.Subscript (.Name x p) ke spos] X.env).map (·.2) = [assign (.Subscript (.Name x p) ke spos) X.env] := by rfl)
    (ha : ∀ v, assign (.Subscript (.Name x p) ke spos) X.env v = (do
      let ov ← holding [v] (eval (.Name x p) X.env)
      let iv ← holding [v, ov] (eval ke X.env)
      standAt spos
      holding [v, ov, iv] (setItem ov iv v)
      release [v, ov, iv] []) := by intro _; rfl) :
    SS g W φ X (.Assign [.Subscript (.Name x p) ke spos] e pos) (mStore i mk m) := by
  intro F σ H env En hr hp
  refine ⟨_, ps_asg w_pe (pg_sub (pe_var hN hv hd hcd) w_pe set_list ha) hsw hw h1, ?_⟩
  refine h F σ H env _ hr (es hp fun d e1 v H1 F1 s1 r1 p1 hp1 => ?_)
  cases e0 : e1[i]? with
  | none => simp only [e0] at hp1; exact hp1.elim
  | some s =>
    cases s with
    | un => simp only [e0] at hp1; exact hp1.elim
    | va d => simp only [e0] at hp1; exact hp1.elim
    | ow b0 xs0 =>
      simp only [e0] at hp1
      obtain ⟨a, vs0, g1, g2, _⟩ := r1.ow i b0 xs0 e0
      refine ⟨.ref a, g1, ?_⟩
      refine hk F1 σ H1 e1 _ r1 (es hp1 fun q e2 w H2 F2 s2 r2 p2 hp2 => ?_)
      cases q with
      | int z =>
        cases e2' : e2[i]? with
        | none => simp only [e2'] at hp2; exact hp2.elim
        | some s =>
          cases s with
          | un => simp only [e2'] at hp2; exact hp2.elim
          | va d => simp only [e2'] at hp2; exact hp2.elim
          | ow b xs =>
            simp only [e2'] at hp2
            obtain ⟨a', vs, k1, k2, k3, k4, _⟩ := r2.ow i b xs e2'
            rw [g1] at k1
            cases k1
            cases p2
            cases hj : ixN xs.length z with
            | none => simp only [hj] at hp2; exact hp2.elim
            | some j =>
              simp only [hj] at hp2
              refine ⟨a, vs, z, j, rfl, rfl, k2, by rw [k4.len]; exact hj, ?_⟩
              exact hp2 _ _ _ (Same.refl _) (r2.updOw e2' g1 (k4.set j (p1.mono s2)))
      | _ => exact hp2.elim
end

/-! ## loops -/
/-- the iterator J goes over ds -/
def Walks (g : Gc) (J : It) (F : Hp) (ds : List D) : Prop := ∀ (φ : Fc) F1 σ H env i, Same F F1 → Rel g φ F1 σ H env →
  (∀ d, ds[i]? = some d → J.go i H ∧ ∀ x H', J.yld i H x H' → ∃ F2, Same F1 F2 ∧ Same H H' ∧ (∀ b o, F2 b = some o → F1 b = some o ∨ H b = none) ∧ Rel g φ F2 σ H' env ∧ Rep g F2 x d) ∧ (ds.length ≤ i → J.stop i H)
def wIt (X : Cx) (tg iter : Expr) : TI := fun σ H R => ∃ wi, PI X tg iter wi ∧ wi σ H R
theorem w_pi {X : Cx} {tg iter : Expr} : PI X tg iter (wIt X tg iter) := ⟨fun pins s σ H R I ⟨_, h, q⟩ => h.run pins s σ H R I q⟩
section
variable (g : Gc) (W : WX) (φ : Fc)
def PoI (F : Hp) (σ : L2.St) (R : It → Hp → Prop) (r : Re (List D)) : Prop :=
  match r with
  | .ok ds e' => ∀ J H' F', Same F F' → Rel g φ F' σ H' e' → Walks g J F' ds → R J H'
  | .exc c v e' => XP g W φ F c v e'
  | .no => False
def SI (X : Cx) (tg iter : Expr) (m : ML) : Prop := ∀ F σ H env R, Rel g φ F σ H env → PoI g W φ F σ R (m env) → wIt X tg iter σ H R
end
def seqF : D → Option (List D)
  | .lst xs => some xs
  | .tup xs => some xs
  | .rol xs => some xs
  | _ => none
def lSeq (m : ME) : ML := fun env => (m env).bind fun d e => match seqF d with
  | some xs => .ok xs e
  | none => .no
def lRange1 (m : ME) : ML := fun env => (m env).bind fun d e => match d with
  | .int j => if -(2 ^ 62) ≤ j ∧ j < 2 ^ 62 then .ok ((List.range j.toNat).map fun (i : Nat) => D.int (0 + (i : Int))) e else .no
  | _ => .no
section
variable {g : Gc} {W : WX} {φ : Fc} {X : Cx} {k : Nat} {F F' H : Hp} {σ : L2.St}
theorem PoI.mono (e : Same F F') {Q : It → Hp → Prop} {r : Re (List D)} (h : PoI g W φ F σ Q r) : PoI g W φ F' σ Q r := by
  cases r with
  | ok d e' => exact fun J H' F2 a => h J H' F2 (e.trans a)
  | exc c v e' => exact XP.mono e h
  | no => exact h
theorem ei {r : Re D} {k : D → Env → Re (List D)} {Q : It → Hp → Prop} {Q1 : VK} (hp : PoI g W φ F σ Q (r.bind k))
    (h : ∀ x e1 v H1 F1, Same F F1 → Rel g φ F1 σ H1 e1 → Rep g F1 v x → PoI g W φ F1 σ Q (k x e1) → Q1 v H1) : PoE g W φ F σ Q1 r := by
  cases r with
  | ok x e1 => exact fun v H1 F1 a b c => h x e1 v H1 F1 a b c (hp.mono a)
  | exc c v e' => exact hp
  | no => exact hp
theorem walks_list {a : Addr} {vs : List V} {ds : List D} (h : SqL g.K F a vs) (r : Reps g F vs ds) : Walks g (Itl g.K a) F ds := by
  intro φ F1 σ H env i s1 r1
  have h1 : SqL g.K H a vs := (s1.trans r1.ex).seq h
  refine ⟨fun d e => ?_, fun e => ⟨vs, h1, by rw [r.len]; exact e⟩⟩
  obtain ⟨v, q1, q2⟩ := r.get e
  refine ⟨⟨vs, v, h1, q1⟩, fun x H' y => ?_⟩
  obtain ⟨y1, y2⟩ := y
  subst y1
  have := (y2 vs h1).symm.trans q1
  cases this
  exact ⟨F1, Same.refl _, Same.refl _, fun b o z => .inl z, r1, q2.mono s1⟩
theorem walks_tup {a : Addr} {vs : List V} {ds : List D} (h : SqT g.K F a vs) (r : Reps g F vs ds) : Walks g (Itt g.K a) F ds := by
  intro φ F1 σ H env i s1 r1
  have h1 : SqT g.K H a vs := same_t (s1.trans r1.ex) h
  refine ⟨fun d e => ?_, fun e => ⟨vs, h1, by rw [r.len]; exact e⟩⟩
  obtain ⟨v, q1, q2⟩ := r.get e
  refine ⟨⟨vs, v, h1, q1⟩, fun x H' y => ?_⟩
  obtain ⟨y1, y2⟩ := y
  subst y1
  have := (y2 vs h1).symm.trans q1
  cases this
  exact ⟨F1, Same.refl _, Same.refl _, fun b o z => .inl z, r1, q2.mono s1⟩
theorem walks_range {lo : Int} {n : Nat} : Walks g (Itr lo n) F ((List.range n).map fun (i : Nat) => D.int (lo + (i : Int))) := by
  intro φ F1 σ H env i s1 r1
  refine ⟨fun d e => ?_, fun e => (show n ≤ i by simpa using e)⟩
  rw [List.getElem?_map] at e
  obtain ⟨j, e1, e2⟩ := Option.map_eq_some_iff.mp e
  have hi : i < n := by
    have := lt_of_get e1
    simpa using this
  rw [List.getElem?_range hi] at e1
  cases e1
  subst e2
  refine ⟨hi, fun x H' y => ?_⟩
  obtain ⟨y1, y2⟩ := y
  subst y1 y2
  exact ⟨F1, Same.refl _, Same.refl _, fun b o z => .inl z, r1, .int _⟩
theorem si_seq {tg iter : Expr} {m : ME} (hK : X.K = g.K) (h : SE g W φ X iter m) : SI g W φ X tg iter (lSeq m) := by
  intro F σ H env R hr hp
  -- which kind of sequence it is, is known by the data alone
  unfold lSeq at hp
  cases e : m env with
  | exc c v e' =>
    rw [e] at hp
    exact ⟨_, pi_list w_pe, h F σ H env _ hr (by rw [e]; exact hp)⟩
  | no => rw [e] at hp; exact hp.elim
  | ok d e' =>
    rw [e] at hp
    cases d with
    | lst xs =>
      refine ⟨_, pi_list w_pe, h F σ H env _ hr ?_⟩
      rw [e]
      intro v H' F' s1 r1 p1
      cases p1 with
      | lst a vs ds h1 h2 h3 => exact ⟨a, rfl, ⟨vs, SqL.of (r1.ex _ _ h1)⟩, hp _ _ _ s1 r1 (hK ▸ walks_list (.inl (.inl h1)) ⟨h2, h3⟩)⟩
    | rol xs =>
      refine ⟨_, pi_list w_pe, h F σ H env _ hr ?_⟩
      rw [e]
      intro v H' F' s1 r1 p1
      cases p1 with
      | rol a vs ds h1 h2 h3 => exact ⟨a, rfl, ⟨vs, hK ▸ r1.ex.seq h1⟩, hp _ _ _ s1 r1 (hK ▸ walks_list h1 ⟨h2, h3⟩)⟩
    | tup xs =>
      refine ⟨_, pi_tup w_pe, h F σ H env _ hr ?_⟩
      rw [e]
      intro v H' F' s1 r1 p1
      cases p1 with
      | tup a vs ds h1 h2 h3 => exact ⟨a, rfl, ⟨vs, hK ▸ same_t r1.ex h1⟩, hp _ _ _ s1 r1 (hK ▸ walks_tup h1 ⟨h2, h3⟩)⟩
    | _ => exact hp.elim
theorem si_range1 {tg a : Expr} {m : ME} {p pos : Pos} (h : SE g W φ X a m) (hg : Gl X "range") (hm : X.mg "range" = none) (hs : starEach [a] X.env = [(false, eval a X.env)] := by rfl) (hs1 : starEach (a :: []) X.env = (false, eval a X.env) :: starEach [] X.env := by rfl) :
    SI g W φ X tg (.Call (.Name "range" p) [a] [] pos) (lRange1 m) := by
  intro F σ H env R hr hp
  refine ⟨_, pi_range1 hg hm (pa_cons w_pe pa_nil hs1) hs, ?_⟩
  refine h F σ H env _ hr (ei hp fun d e1 v H1 F1 s1 r1 p1 hp1 => ?_)
  cases d with
  | int j =>
    cases p1
    by_cases hz : -(2 ^ 62) ≤ j ∧ j < 2 ^ 62
    · simp only [hz, and_self, if_true] at hp1
      exact ⟨j, rfl, hz.1, hz.2, hp1 _ _ _ (Same.refl _) r1 walks_range⟩
    · simp only [hz, if_false] at hp1
      exact hp1.elim
  | _ => exact hp1.elim
def forF (tg : MG) (body : MS) : List D → Env → Fl
  | [], e => .nx e
  | d :: ds, e => match tg d e with
    | none => .no
    | some e1 => match body e1 with
      | .nx e2 => forF tg body ds e2
      | .ct e2 => forF tg body ds e2
      | .br e2 => .nx e2
      | .rt d e2 => .rt d e2
      | .exc c v e2 => .exc c v e2
      | .no => .no
def mFor (mi : ML) (tg : MG) (body : MS) : MS := fun env => (mi env).flow fun ds e => forF tg body ds e
theorem ss_for {ws : List Nat} {tg iter : Expr} {body : List Stmt} {mi : ML} {mg : MG} {mb : MS} {pos : Pos} (c : Cok g X W k) (hi : SI g W φ X tg iter mi) (hg : SG g φ X ws tg mg) (hb : SB g W φ X body mb)
    (hs : ∀ x, foldedSetIterable iter X.env x = pure x := by intro _; rfl) : SS g W φ X (.For tg iter body [] pos) (mFor mi mg mb) := by
  intro F σ H env En hr hp
  refine ⟨_, ps_for c.po c.calm w_pi w_pg w_pb hs, ?_⟩
  refine hi F σ H env _ hr ?_
  unfold mFor at hp
  cases e : mi env with
  | exc c v e' => rw [e] at hp; exact hp
  | no => rw [e] at hp; exact hp
  | ok ds e' =>
    rw [e] at hp
    have hp' : PoS g W φ F En (forF mg mb ds e') := hp
    intro J H1 F1 s1 r1 w1
    refine ⟨fun i m σ H => ∃ F2 env2, Same F1 F2 ∧ Rel g φ F2 σ H env2 ∧ PoS g W φ F2 En (forF mg mb (ds.drop i) env2) ∧ m = ds.length - i, ⟨ds.length, F1, e', Same.refl _, r1, ?_, rfl⟩, ?_⟩
    · exact hp'.mono s1
    rintro i m σ2 H2 ⟨F2, env2, s2, r2, hp2, rfl⟩
    obtain ⟨wgo, wstop⟩ := w1 φ F2 σ2 H2 env2 i s2 r2
    by_cases hl : i < ds.length
    · have ed : ds.drop i = ds[i] :: ds.drop (i + 1) := List.drop_eq_getElem_cons hl
      rw [ed] at hp2
      obtain ⟨go, yl⟩ := wgo ds[i] (List.getElem?_eq_getElem hl)
      refine .inr ⟨go, fun σ' H' => ∃ F3 env3, Same F1 F3 ∧ Rel g φ F3 σ' H' env3 ∧ PoS g W φ F3 En (forF mg mb (ds.drop (i + 1)) env3), fun σ' H' ⟨F3, env3, a1, a2, a3⟩ => ⟨_, by omega, F3, env3, a1, a2, a3, rfl⟩, fun x H' hy => ?_⟩
      obtain ⟨F3, s3, _, _, r3, p3⟩ := yl x H' hy
      unfold forF at hp2
      cases e1 : mg ds[i] env2 with
      | none => rw [e1] at hp2; exact hp2.elim
      | some e1' =>
        rw [e1] at hp2
        simp only at hp2
        refine hg F3 σ2 H' env2 x ds[i] e1' _ r3 p3 e1 fun σ4 _ r4 => ?_
        refine hb F3 σ4 H' e1' _ r4 ?_
        cases e2 : mb e1' with
        | nx e2' =>
          rw [e2] at hp2
          exact fun σ5 H5 F5 s5 r5 => ⟨F5, e2', s2.trans (s3.trans s5), r5, PoS.mono (s3.trans s5) hp2⟩
        | ct e2' =>
          rw [e2] at hp2
          exact fun σ5 H5 F5 s5 r5 => ⟨F5, e2', s2.trans (s3.trans s5), r5, PoS.mono (s3.trans s5) hp2⟩
        | br e2' =>
          rw [e2] at hp2
          exact fun σ5 H5 F5 s5 r5 => hp2 σ5 H5 F5 (s3.trans s5) r5
        | rt d e2' =>
          rw [e2] at hp2
          exact fun v σ5 H5 F5 s5 r5 => hp2 v σ5 H5 F5 (s3.trans s5) r5
        | exc c v e2' =>
          rw [e2] at hp2
          exact XP.mono s3 hp2
        | no => rw [e2] at hp2; exact hp2
    · have ed : ds.drop i = [] := List.drop_eq_nil_of_le (by omega)
      rw [ed] at hp2
      exact .inl ⟨wstop (by omega), hp2 _ _ _ (Same.refl _) r2⟩
end
end Mp
set_option Elab.async false
set_option linter.all false
set_option maxRecDepth 100000
namespace Mp
open PySem PySem.Spec PyProof.Rows L2

/-! ## defs as functions of data -/
inductive FR where
  | ok (d : D) (outs : List Sl) | exc (c : Str) (v : D) (outs : List Sl) | no
abbrev Fn := List Sl → FR
def ioL : Nat → List V → List Sl → List (Nat × Addr)
  | n, v :: vs, s :: ss => match v, s with
    | .ref a, .ow _ _ => (n, a) :: ioL (n + 1) vs ss
    | _, _ => ioL (n + 1) vs ss
  | _, _, _ => []
theorem mem_ioL : ∀ {n : Nat} {vs : List V} {ss : List Sl} {p : Nat × Addr}, p ∈ ioL n vs ss ↔ ∃ j b xs, p.1 = n + j ∧ vs[j]? = some (V.ref p.2) ∧ ss[j]? = some (Sl.ow b xs)
  | n, [], ss, p => by simp [ioL]
  | n, v :: vs, [], p => by simp [ioL]
  | n, v :: vs, s :: ss, p => by
    have ih := @mem_ioL (n + 1) vs ss p
    have tail : (∃ j b xs, p.1 = n + 1 + j ∧ vs[j]? = some (V.ref p.2) ∧ ss[j]? = some (Sl.ow b xs)) ↔ ∃ j b xs, p.1 = n + (j + 1) ∧ (v :: vs)[j + 1]? = some (V.ref p.2) ∧ (s :: ss)[j + 1]? = some (Sl.ow b xs) := by
      constructor
      · rintro ⟨j, b, xs, h1, h2, h3⟩
        exact ⟨j, b, xs, by omega, by simpa using h2, by simpa using h3⟩
      · rintro ⟨j, b, xs, h1, h2, h3⟩
        exact ⟨j, b, xs, by omega, by simpa using h2, by simpa using h3⟩
    have split_ : (∃ j b xs, p.1 = n + j ∧ (v :: vs)[j]? = some (V.ref p.2) ∧ (s :: ss)[j]? = some (Sl.ow b xs)) ↔ (p.1 = n ∧ v = .ref p.2 ∧ ∃ b xs, s = .ow b xs) ∨ p ∈ ioL (n + 1) vs ss := by
      rw [ih, tail]
      constructor
      · rintro ⟨j, b, xs, h1, h2, h3⟩
        cases j with
        | zero => exact .inl ⟨by simpa using h1, by simpa using h2, b, xs, by simpa using h3⟩
        | succ j => exact .inr ⟨j, b, xs, h1, h2, h3⟩
      · rintro (⟨h1, h2, b, xs, h3⟩ | ⟨j, b, xs, h⟩)
        · exact ⟨0, b, xs, by simpa using h1, by simp [h2], by simp [h3]⟩
        · exact ⟨j + 1, b, xs, h⟩
    rw [split_]
    cases s with
    | ow b xs =>
      cases v with
      | ref a =>
        simp only [ioL, List.mem_cons]
        constructor
        · rintro (h | h)
          · subst h
            exact .inl ⟨rfl, rfl, b, xs, rfl⟩
          · exact .inr h
        · rintro (⟨h1, h2, _⟩ | h)
          · left
            cases h2
            exact Prod.ext h1 rfl
          · exact .inr h
      | _ =>
        simp only [ioL]
        constructor
        · exact .inr
        · rintro (⟨_, h2, _⟩ | h)
          · cases h2
          · exact h
    | un =>
      have e : ioL n (v :: vs) (.un :: ss) = ioL (n + 1) vs ss := by cases v <;> rfl
      rw [e]
      constructor
      · exact .inr
      · rintro (⟨_, _, b, xs, h3⟩ | h)
        · cases h3
        · exact h
    | va d =>
      have e : ioL n (v :: vs) (.va d :: ss) = ioL (n + 1) vs ss := by cases v <;> rfl
      rw [e]
      constructor
      · exact .inr
      · rintro (⟨_, _, b, xs, h3⟩ | h)
        · cases h3
        · exact h
/-- what a call starts from -/
def fcOf (vs : List V) (args : List Sl) (H F : Hp) : Fc := ⟨ioL 0 vs args, H, F⟩
def spOf (g : Gc) (fn : Fn) : Sp := fun vs H Q E => ∃ (F : Hp) (args : List Sl), Rel g (fcOf vs args H F) F (vs.map some) H args ∧
  match fn args with
  | .ok d outs => ∀ v H' F', Same F F' → Rel g (fcOf vs args H F) F' (vs.map some) H' outs → Rep g F' v d → Q v H'
  | .exc c v outs => ∀ C fld dd vv H' F', g.xc c = some (C, fld) → Same F F' → Rel g (fcOf vs args H F) F' (vs.map some) H' outs → H' dd = some (.xd [(fld, vv)]) → Rep g F' vv v → E (.ref C) (some dd) H'
  | .no => False
/-- the def that stands under the name x does as fn says -/
structure Has (P : Program) (w : World) (mg : Str → Option Value) (base : Heap) (g : Gc) (k : Nat) (x : Str) (fn : Fn) : Prop where
  ex : ∃ (f : Addr) (fd : FuncData) (ps : List Str), FnOk P w g.K mg base (L2.CX P w) k f fd ps (spOf g fn) ∧ mg x = some (.ref f) ∧ PySem.W.keepIn g.K (.ref f) = true ∧ Binds g.K fd ps []

/-! ### arguments -/
def argsOf (e : Env) : List Av → Option (List Sl)
  | [] => some []
  | .va d :: as => match argsOf e as with
    | some ss => some (.va d :: ss)
    | none => none
  | .ix i :: as => match e[i]?, argsOf e as with
    | some (.ow _ xs), some ss => some (.ow true xs :: ss)
    | _, _ => none
def putB : Env → List Av → List Sl → Option Env
  | e, [], [] => some e
  | e, .va _ :: as, _ :: os => putB e as os
  | e, .ix j :: as, .ow true ys :: os => match e[j]? with
    | some (.ow b _) => putB (e.set j (.ow b ys)) as os
    | _ => none
  | _, _, _ => none
def ixs : List Av → List Nat
  | [] => []
  | .va _ :: as => ixs as
  | .ix i :: as => i :: ixs as
theorem ixs_mem : ∀ {as : List Av} {j : Nat}, j ∈ ixs as ↔ ∃ i : Nat, as[i]? = some (Av.ix j)
  | [], j => by simp [ixs]
  | .va d :: as, j => by
    simp only [ixs]
    rw [@ixs_mem as j]
    constructor
    · rintro ⟨i, h⟩
      exact ⟨i + 1, by simpa using h⟩
    · rintro ⟨i, h⟩
      cases i with
      | zero => simp at h
      | succ i => exact ⟨i, by simpa using h⟩
  | .ix q :: as, j => by
    simp only [ixs, List.mem_cons]
    rw [@ixs_mem as j]
    constructor
    · rintro (h | ⟨i, h⟩)
      · exact ⟨0, by simp [h]⟩
      · exact ⟨i + 1, by simpa using h⟩
    · rintro ⟨i, h⟩
      cases i with
      | zero =>
        simp only [List.getElem?_cons_zero, Option.some.injEq, Av.ix.injEq] at h
        exact .inl h.symm
      | succ i => exact .inr ⟨i, by simpa using h⟩
theorem ixs_inj : ∀ {as : List Av}, (ixs as).Nodup → ∀ {i i' j : Nat}, as[i]? = some (Av.ix j) → as[i']? = some (Av.ix j) → i = i'
  | [], _, i, _, _, h, _ => by simp at h
  | .va d :: as, hn, i, i', j, h, h' => by
    cases i with
    | zero => simp at h
    | succ i =>
      cases i' with
      | zero => simp at h'
      | succ i' =>
        have z := ixs_inj (as := as) (by simpa [ixs] using hn) (i := i) (i' := i') (j := j) (by simpa using h) (by simpa using h')
        rw [z]
  | .ix q :: as, hn, i, i', j, h, h' => by
    simp only [ixs, List.nodup_cons] at hn
    cases i with
    | zero =>
      cases i' with
      | zero => rfl
      | succ i' =>
        simp only [List.getElem?_cons_zero, Option.some.injEq, Av.ix.injEq] at h
        exact absurd (ixs_mem.mpr ⟨i', by simpa [h] using h'⟩) hn.1
    | succ i =>
      cases i' with
      | zero =>
        simp only [List.getElem?_cons_zero, Option.some.injEq, Av.ix.injEq] at h'
        exact absurd (ixs_mem.mpr ⟨i, by simpa [h'] using h⟩) hn.1
      | succ i' =>
        have z := ixs_inj (as := as) hn.2 (i := i) (i' := i') (j := j) (by simpa using h) (by simpa using h')
        rw [z]
theorem argsOf_at {e : Env} : ∀ {as : List Av} {args : List Sl}, argsOf e as = some args → args.length = as.length ∧
    (∀ (i : Nat) (d : D), as[i]? = some (Av.va d) → args[i]? = some (Sl.va d)) ∧ (∀ (i j : Nat), as[i]? = some (Av.ix j) → ∃ b xs, e[j]? = some (Sl.ow b xs) ∧ args[i]? = some (Sl.ow true xs))
  | [], args, h => by
    cases h
    exact ⟨rfl, fun i d z => by simp at z, fun i j z => by simp at z⟩
  | .va d :: as, args, h => by
    cases h1 : argsOf e as with
    | none => simp only [argsOf, h1, reduceCtorEq] at h
    | some ss =>
      simp only [argsOf, h1, Option.some.injEq] at h
      subst h
      obtain ⟨q1, q2, q3⟩ := argsOf_at h1
      refine ⟨by simp [q1], fun i d' z => ?_, fun i j z => ?_⟩
      · cases i with
        | zero => simpa using z
        | succ i => simpa using q2 i d' (by simpa using z)
      · cases i with
        | zero => simp at z
        | succ i => simpa using q3 i j (by simpa using z)
  | .ix q :: as, args, h => by
    cases h0 : e[q]? with
    | none => simp only [argsOf, h0, reduceCtorEq] at h
    | some s =>
      cases s with
      | un => simp only [argsOf, h0, reduceCtorEq] at h
      | va d => simp only [argsOf, h0, reduceCtorEq] at h
      | ow b xs =>
        cases h1 : argsOf e as with
        | none => simp only [argsOf, h0, h1, reduceCtorEq] at h
        | some ss =>
          simp only [argsOf, h0, h1, Option.some.injEq] at h
          subst h
          obtain ⟨q1, q2, q3⟩ := argsOf_at h1
          refine ⟨by simp [q1], fun i d' z => ?_, fun i j z => ?_⟩
          · cases i with
            | zero => simp at z
            | succ i => simpa using q2 i d' (by simpa using z)
          · cases i with
            | zero =>
              simp only [List.getElem?_cons_zero, Option.some.injEq, Av.ix.injEq] at z
              subst z
              exact ⟨b, xs, h0, by simp⟩
            | succ i => simpa using q3 i j (by simpa using z)
theorem putB_at : ∀ {as : List Av} {outs : List Sl} {e e' : Env}, putB e as outs = some e' → (ixs as).Nodup → e'.length = e.length ∧ outs.length = as.length ∧
    (∀ j : Nat, j ∉ ixs as → e'[j]? = e[j]?) ∧ (∀ i j : Nat, as[i]? = some (Av.ix j) → ∃ b xs ys, e[j]? = some (Sl.ow b xs) ∧ outs[i]? = some (Sl.ow true ys) ∧ e'[j]? = some (Sl.ow b ys))
  | [], outs, e, e', h, _ => by
    cases outs with
    | cons o os => simp [putB] at h
    | nil =>
      cases h
      exact ⟨rfl, rfl, fun _ _ => rfl, fun i j z => by simp at z⟩
  | .va d :: as, outs, e, e', h, hn => by
    cases outs with
    | nil => simp [putB] at h
    | cons o os =>
      simp only [putB] at h
      obtain ⟨q1, q2, q3, q4⟩ := putB_at h hn
      refine ⟨q1, by simp [q2], q3, fun i j z => ?_⟩
      cases i with
      | zero => simp at z
      | succ i => simpa using q4 i j (by simpa using z)
  | .ix q :: as, outs, e, e', h, hn => by
    simp only [ixs, List.nodup_cons] at hn
    cases outs with
    | nil => simp [putB] at h
    | cons o os =>
      cases o with
      | un => simp [putB] at h
      | va d => simp [putB] at h
      | ow bb ys =>
        cases bb with
        | false => simp [putB] at h
        | true =>
          cases h0 : e[q]? with
          | none => simp [putB, h0] at h
          | some s =>
            cases s with
            | un => simp [putB, h0] at h
            | va d => simp [putB, h0] at h
            | ow b xs =>
              simp only [putB, h0] at h
              have hq : q < e.length := lt_of_get h0
              obtain ⟨q1, q2, q3, q4⟩ := putB_at h hn.2
              refine ⟨by simpa using q1, by simp [q2], fun j hj => ?_, fun i j z => ?_⟩
              · simp only [ixs, List.mem_cons, not_or] at hj
                rw [q3 j hj.2, set_get_ne (Ne.symm hj.1)]
              · cases i with
                | zero =>
                  simp only [List.getElem?_cons_zero, Option.some.injEq, Av.ix.injEq] at z
                  subst z
                  exact ⟨b, xs, ys, h0, by simp, by rw [q3 q hn.1]; exact set_get hq⟩
                | succ i =>
                  have z' : as[i]? = some (Av.ix j) := by simpa using z
                  have hne : q ≠ j := fun w => hn.1 (w ▸ ixs_mem.mpr ⟨i, z'⟩)
                  obtain ⟨b', xs', ys', k1, k2, k3⟩ := q4 i j z'
                  rw [set_get_ne hne] at k1
                  exact ⟨b', xs', ys', k1, by simpa using k2, k3⟩
section
variable {g : Gc} {φ : Fc} {F F' : Hp} {σ : L2.St} {H H' : Hp} {env : Env}
theorem map_some_at {vs : List V} {i : Nat} {v : V} : (vs.map some)[i]? = some (some v) ↔ vs[i]? = some v := by
  rw [List.getElem?_map]
  cases vs[i]? <;> simp
theorem Rel.call_in (r : Rel g φ F σ H env) {vs : List V} {as : List Av} {args : List Sl} (p : AvsR g F σ vs as) (hn : (ixs as).Nodup) (ha : argsOf env as = some args) : Rel g (fcOf vs args H F) F (vs.map some) H args := by
  obtain ⟨q1, q2, q3⟩ := argsOf_at ha
  -- an argument by its place
  have kind : ∀ (i : Nat) (s : Sl), args[i]? = some s → (∃ d, as[i]? = some (Av.va d) ∧ s = .va d) ∨ ∃ (j : Nat) (b : Bool) (xs : List D), as[i]? = some (Av.ix j) ∧ env[j]? = some (Sl.ow b xs) ∧ s = .ow true xs := fun i s e => by
    have hi : i < as.length := by
      rw [← q1]
      exact lt_of_get e
    cases ea : as[i] with
    | va d =>
      have h1 : as[i]? = some (Av.va d) := by rw [List.getElem?_eq_getElem hi, ea]
      have h2 := q2 i d h1
      rw [e] at h2
      exact .inl ⟨d, h1, Option.some.inj h2⟩
    | ix j =>
      have h1 : as[i]? = some (Av.ix j) := by rw [List.getElem?_eq_getElem hi, ea]
      obtain ⟨b, xs, h2, h3⟩ := q3 i j h1
      rw [e] at h3
      exact .inr ⟨j, b, xs, h1, h2, Option.some.inj h3⟩
  have val : ∀ (i : Nat) (a : Av), as[i]? = some a → ∃ v, vs[i]? = some v ∧ AvR g F σ v a := fun i a e => by
    have hi : i < vs.length := by rw [p.len]; exact lt_of_get e
    exact ⟨vs[i], List.getElem?_eq_getElem hi, p.at_ i _ a (List.getElem?_eq_getElem hi) e⟩
  refine ⟨r.ex, Same.refl _, fun b o e => .inl e, fun b o e _ => e, by simp [p.len, q1], fun i d e => ?_, fun i b xs e => ?_, fun i j b c xs ys a e1 e2 e3 e4 => ?_, fun q hq => ?_⟩
  · rcases kind i _ e with ⟨d', h1, h2⟩ | ⟨j, b, xs, _, _, h2⟩
    · cases h2
      obtain ⟨v, k1, k2⟩ := val i _ h1
      exact ⟨v, map_some_at.mpr k1, k2⟩
    · cases h2
  · rcases kind i _ e with ⟨d', h1, h2⟩ | ⟨j, b', xs', h1, h2, h3⟩
    · cases h2
    · cases h3
      obtain ⟨v, k1, k2⟩ := val i _ h1
      obtain ⟨a, us, m1, m2, m3, m4, _⟩ := r.ow j b' xs h2
      have k2' : σ[j]? = some (some v) := k2
      rw [k2'] at m1
      cases m1
      exact ⟨a, us, map_some_at.mpr k1, m2, m3, m4, ⟨(fun z => by cases z), fun _ => (mem_ioL (p := (i, a))).mpr ⟨i, true, xs, (Nat.zero_add i).symm, k1, e⟩⟩⟩
  · rcases kind i _ e1 with ⟨d', _, h2⟩ | ⟨i', b1, xs1, h1, h2, h3⟩
    · cases h2
    · rcases kind j _ e2 with ⟨d', _, h5⟩ | ⟨j', b2, xs2, h4, h5, h6⟩
      · cases h5
      · obtain ⟨v, k1, k2⟩ := val i _ h1
        obtain ⟨u, k3, k4⟩ := val j _ h4
        have e3' := map_some_at.mp e3
        have e4' := map_some_at.mp e4
        rw [k1] at e3'
        rw [k3] at e4'
        cases e3'
        cases e4'
        have : i' = j' := r.dj i' j' b1 b2 xs1 xs2 a h2 h5 k2 k4
        subst this
        exact ixs_inj hn h1 h4
  · obtain ⟨j, b, xs, h1, h2, h3⟩ := mem_ioL.mp hq
    have h1' : q.1 = j := by simpa using h1
    rw [h1']
    refine ⟨map_some_at.mpr h2, ?_⟩
    rcases kind j _ h3 with ⟨d', _, h5⟩ | ⟨j', b2, xs2, h4, h5, h6⟩
    · cases h5
    · cases h6
      exact ⟨xs, h3⟩
theorem Rel.call_out (r : Rel g φ F σ H env) {vs : List V} {as : List Av} {args outs : List Sl} {env' : Env} (p : AvsR g F σ vs as) (hn : (ixs as).Nodup) (ha : argsOf env as = some args) (hb : putB env as outs = some env')
    (s : Same F F') (q : Rel g (fcOf vs args H F) F' (vs.map some) H' outs) : Rel g φ F' σ H' env' := by
  obtain ⟨q1, q2, q3⟩ := argsOf_at ha
  obtain ⟨t1, t2, t3, t4⟩ := putB_at hb hn
  have val : ∀ (i : Nat) (a : Av), as[i]? = some a → ∃ v, vs[i]? = some v ∧ AvR g F σ v a := fun i a e => by
    have hi : i < vs.length := by rw [p.len]; exact lt_of_get e
    exact ⟨vs[i], List.getElem?_eq_getElem hi, p.at_ i _ a (List.getElem?_eq_getElem hi) e⟩
  -- whose list an address of the call is
  have io : ∀ pr ∈ ioL 0 vs args, ∃ (i j : Nat) (b : Bool) (xs : List D), as[i]? = some (Av.ix j) ∧ env[j]? = some (Sl.ow b xs) ∧ σ[j]? = some (some (V.ref pr.2)) := fun pr hp => by
    obtain ⟨i, b, xs, h1, h2, h3⟩ := mem_ioL.mp hp
    have hi : i < as.length := by
      rw [← q1]
      exact lt_of_get h3
    cases ea : as[i] with
    | va d =>
      have h4 := q2 i d (by rw [List.getElem?_eq_getElem hi, ea])
      rw [h3] at h4
      cases h4
    | ix j =>
      have h4 : as[i]? = some (Av.ix j) := by rw [List.getElem?_eq_getElem hi, ea]
      obtain ⟨b', xs', h5, h6⟩ := q3 i j h4
      obtain ⟨v, k1, k2⟩ := val i _ h4
      rw [h2] at k1
      cases k1
      exact ⟨i, j, b', xs', h4, h5, k2⟩
  refine ⟨q.ex, r.ex0.trans s, fun b o e => ?_, fun b o e hb' => ?_, by rw [r.len, t1], fun i d e => ?_, fun i b xs e => ?_, fun i j b c xs ys a e1 e2 e3 e4 => ?_, fun pr hp => ?_⟩
  · rcases q.new b o e with h | h
    · exact r.new b o h
    · exact .inr (r.h0 h)
  · refine q.fr b o (r.fr b o e hb') fun pr hp z => ?_
    obtain ⟨i, j, b', xs', h1, h2, h3⟩ := io pr hp
    obtain ⟨a, us, m1, m2, m3, m4, m5, m6⟩ := r.ow j b' xs' h2
    rw [h3] at m1
    cases m1
    cases b' with
    | false =>
      rw [← z, m5 rfl] at e
      cases e
    | true => exact hb' _ (m6 rfl) z
  · by_cases hi : i ∈ ixs as
    · obtain ⟨i', h1⟩ := ixs_mem.mp hi
      obtain ⟨b, xs, ys, _, _, h2⟩ := t4 i' i h1
      rw [e] at h2
      cases h2
    · rw [t3 i hi] at e
      obtain ⟨v, h1, h2⟩ := r.va i d e
      exact ⟨v, h1, h2.mono s⟩
  · by_cases hi : i ∈ ixs as
    · obtain ⟨i', h1⟩ := ixs_mem.mp hi
      obtain ⟨b', xs', ys, h2, h3, h4⟩ := t4 i' i h1
      rw [e] at h4
      cases h4
      obtain ⟨a, us, m1, m2, m3, m4, m5, m6⟩ := r.ow i b xs' h2
      obtain ⟨v, k1, k2⟩ := val i' _ h1
      have k2' : σ[i]? = some (some v) := k2
      rw [k2'] at m1
      cases m1
      obtain ⟨a', us', n1, n2, n3, n4, _⟩ := q.ow i' true xs h3
      have n1' := map_some_at.mp n1
      rw [k1] at n1'
      cases n1'
      exact ⟨a, us', k2, n2, n3, n4, m5, m6⟩
    · rw [t3 i hi] at e
      obtain ⟨a, us, m1, m2, m3, m4, m5, m6⟩ := r.ow i b xs e
      refine ⟨a, us, m1, q.fr a _ m2 fun pr hp z => ?_, ?_, m4.mono s, m5, m6⟩
      · obtain ⟨i', j, b', xs', h1, h2, h3⟩ := io pr hp
        rw [z] at h3
        have : i = j := r.dj i j b b' xs xs' a e h2 m1 h3
        subst this
        exact hi (ixs_mem.mpr ⟨i', h1⟩)
      · cases ef : F' a with
        | none => rfl
        | some o =>
          rcases q.new a o ef with h | h
          · have h' : F a = some o := h
            rw [m3] at h'
            cases h'
          · have h' : H a = none := h
            rw [m2] at h'
            cases h'
  · have old : ∀ (i : Nat) (b : Bool) (xs : List D), env'[i]? = some (Sl.ow b xs) → ∃ (b' : Bool) (xs' : List D), env[i]? = some (Sl.ow b' xs') := fun i b xs e => by
      by_cases hi : i ∈ ixs as
      · obtain ⟨i', h1⟩ := ixs_mem.mp hi
        obtain ⟨b', xs', ys, h2, _⟩ := t4 i' i h1
        exact ⟨b', xs', h2⟩
      · rw [t3 i hi] at e
        exact ⟨b, xs, e⟩
    obtain ⟨b1, xs1, h1⟩ := old i b xs e1
    obtain ⟨b2, xs2, h2⟩ := old j c ys e2
    exact r.dj i j b1 b2 xs1 xs2 a h1 h2 e3 e4
  · obtain ⟨h1, xs, h2⟩ := r.ioh pr hp
    refine ⟨h1, ?_⟩
    by_cases hi : pr.1 ∈ ixs as
    · obtain ⟨i', h3⟩ := ixs_mem.mp hi
      obtain ⟨b', xs', ys, h4, h5, h6⟩ := t4 i' pr.1 h3
      rw [h2] at h4
      cases h4
      exact ⟨ys, h6⟩
    · exact ⟨xs, by rw [t3 _ hi]; exact h2⟩
end
def callF (fn : Fn) (as : List Av) (e : Env) : Re D := if (ixs as).Nodup then
    match argsOf e as with
    | none => .no
    | some args => match fn args with
      | .ok d outs => match putB e as outs with
        | some e' => .ok d e'
        | none => .no
      | .exc c v outs => match putB e as outs with
        | some e' => .exc c v e'
        | none => .no
      | .no => .no
  else .no
def mFn (fn : Fn) (m : MA) : ME := fun env => (m env).bind fun as e => callF fn as e
section
variable {g : Gc} {W : WX} {φ : Fc} {X : Cx} {k : Nat} {F F' H : Hp} {σ : L2.St}
theorem sp_call {fn : Fn} {vs : List V} {as : List Av} {env : Env} {Q : VK} (r : Rel g φ F σ H env) (p : AvsR g F σ vs as) (hp : PoE g W φ F σ Q (callF fn as env)) : spOf g fn vs H Q (L2.WE W σ) := by
  unfold callF at hp
  by_cases hn : (ixs as).Nodup
  · rw [if_pos hn] at hp
    cases ha : argsOf env as with
    | none => rw [ha] at hp; exact hp.elim
    | some args =>
      rw [ha] at hp
      simp only at hp
      refine ⟨F, args, r.call_in p hn ha, ?_⟩
      cases hf : fn args with
      | no => rw [hf] at hp; exact hp.elim
      | ok d outs =>
        rw [hf] at hp
        simp only at hp
        cases hb : putB env as outs with
        | none => rw [hb] at hp; exact hp.elim
        | some e' =>
          rw [hb] at hp
          exact fun v H' F' s q t => hp v H' F' s (r.call_out p hn ha hb s q) t
      | exc c v outs =>
        rw [hf] at hp
        simp only at hp
        cases hb : putB env as outs with
        | none => rw [hb] at hp; exact hp.elim
        | some e' =>
          rw [hb] at hp
          exact fun C fld dd vv H' F' x s q t u => hp C fld dd vv σ H' F' x s (r.call_out p hn ha hb s q) t u
  · rw [if_neg hn] at hp
    exact hp.elim
theorem se_fn {x : Str} {kk : Nat} {fn : Fn} {e : Expr} {es : List Expr} {m : MA} {p pos : Pos} (c : Cok g X W k) (h : Has X.prog X.w X.mg X.base g kk x fn) (hk : kk ≤ k) (hg : Gl X x) (ha : SA g W φ X (e :: es) m)
    (hdb : (x == ("__debug__" : Str)) = false := by decide) (he : starEach (e :: es) X.env = (false, eval e X.env) :: starEach es X.env := by rfl) (hpl : (backTo pos (starEach es X.env)).any (·.1) = false := by rfl) :
    SE g W φ X (.Call (.Name x p) (e :: es) [] pos) (mFn fn m) := by
  intro F σ H env Q hr hp
  obtain ⟨f, fd, ps, Fo, hm, hkp, hb⟩ := h.ex
  rw [← c.K] at Fo hkp hb
  refine ⟨_, pe_callS Fo (c.rm.mono hk) hg hm hkp hb (fun σ => passAt c.tk σ) w_pa hdb he hpl, ?_⟩
  refine ha F σ H env _ hr (ae hp fun as e1 vs H1 F1 s1 r1 p1 hp1 => ?_)
  exact sp_call r1 p1 hp1
/-! ### a def's body -/
def outsOf (n : Nat) (e : Env) : List Sl := (List.range n).map fun (i : Nat) => match e[i]? with
  | some (Sl.ow true xs) => Sl.ow true xs
  | _ => Sl.un
def fnOf (np n : Nat) (body : MS) : Fn := fun args => if args.length = np then
    match body (args ++ List.replicate (n - np) Sl.un) with
    | .rt d e => .ok d (outsOf np e)
    | .nx e => .ok .non (outsOf np e)
    | .exc c v e => .exc c v (outsOf np e)
    | _ => .no
  else .no
theorem outsOf_at {n : Nat} {e : Env} {i : Nat} {s : Sl} (h : (outsOf n e)[i]? = some s) : s = Sl.un ∨ ∃ xs, s = Sl.ow true xs ∧ e[i]? = some (Sl.ow true xs) ∧ i < n := by
  unfold outsOf at h
  rw [List.getElem?_map, Option.map_eq_some_iff] at h
  obtain ⟨j, h1, h2⟩ := h
  have hi : i < n := by have := lt_of_get h1; simpa using this
  rw [List.getElem?_range hi] at h1
  cases h1
  cases he : e[i]? with
  | none => rw [he] at h2; exact .inl h2.symm
  | some t =>
    rw [he] at h2
    cases t with
    | un => exact .inl h2.symm
    | va d => exact .inl h2.symm
    | ow b xs =>
      cases b with
      | false => exact .inl h2.symm
      | true => exact .inr ⟨xs, h2.symm, rfl, hi⟩
theorem Rel.start {N : List Str} {vs : List V} {args : List Sl} {n : Nat} (r : Rel g φ F (vs.map some) H args) (hn : N.length = n) (hl : vs.length ≤ n) : Rel g φ F (L2.start N vs) H (args ++ List.replicate (n - vs.length) Sl.un) := by
  have hl2 : vs.length = args.length := by have := r.len; simpa using this
  have atv : ∀ (i : Nat) (v : V), (vs.map some)[i]? = some (some v) → (L2.start N vs)[i]? = some (some v) := fun i v e => by
    unfold L2.start
    rw [List.getElem?_append_left (lt_of_get e)]
    exact e
  have ate : ∀ (i : Nat) (s : Sl), (args ++ List.replicate (n - vs.length) Sl.un)[i]? = some s → s = .un ∨ args[i]? = some s := fun i s e => by
    by_cases hi : i < args.length
    · rw [List.getElem?_append_left hi] at e
      exact .inr e
    · rw [List.getElem?_append_right (by omega), List.getElem?_replicate] at e
      split at e
      · exact .inl (Option.some.inj e).symm
      · cases e
  have atb : ∀ (i : Nat) (v : V), (L2.start N vs)[i]? = some (some v) → (vs.map some)[i]? = some (some v) := fun i v e => by
    unfold L2.start at e
    by_cases hi : i < (vs.map some).length
    · rw [List.getElem?_append_left hi] at e
      exact e
    · rw [List.getElem?_append_right (by omega), List.getElem?_replicate] at e
      split at e
      · cases e
      · cases e
  refine ⟨r.ex, r.ex0, r.new, r.fr, by unfold L2.start; simp [hl2, hn], fun i d e => ?_, fun i b xs e => ?_, fun i j b c xs ys a e1 e2 e3 e4 => ?_, fun p hp => ?_⟩
  · rcases ate i _ e with h | h
    · cases h
    · obtain ⟨v, h1, h2⟩ := r.va i d h
      exact ⟨v, atv i v h1, h2⟩
  · rcases ate i _ e with h | h
    · cases h
    · obtain ⟨a, us, h1, h2⟩ := r.ow i b xs h
      exact ⟨a, us, atv i _ h1, h2⟩
  · rcases ate i _ e1 with h | h
    · cases h
    · rcases ate j _ e2 with h' | h'
      · cases h'
      · exact r.dj i j b c xs ys a h h' (atb i _ e3) (atb j _ e4)
  · obtain ⟨h1, xs, h2⟩ := r.ioh p hp
    refine ⟨atv _ _ h1, xs, ?_⟩
    rw [List.getElem?_append_left (lt_of_get h2)]
    exact h2
theorem Rel.leave {vs : List V} {args : List Sl} {H0 F0 : Hp} {env : Env} {np : Nat} (r : Rel g (fcOf vs args H0 F0) F σ H env) (hv : vs.length = np) : Rel g (fcOf vs args H0 F0) F (vs.map some) H (outsOf np env) := by
  have low : ∀ (i : Nat) (b : Bool) (xs : List D), (outsOf np env)[i]? = some (Sl.ow b xs) → b = true ∧ env[i]? = some (Sl.ow true xs) ∧ ∃ a, (i, a) ∈ ioL 0 vs args ∧ σ[i]? = some (some (V.ref a)) ∧ (vs.map some)[i]? = some (some (V.ref a)) := fun i b xs e => by
    rcases outsOf_at e with h | ⟨ys, h1, h2, h3⟩
    · cases h
    · cases h1
      obtain ⟨a, us, m1, m2, m3, m4, m5, m6⟩ := r.ow i true xs h2
      have m7 : (i, a) ∈ ioL 0 vs args := m6 rfl
      obtain ⟨j, b', xs', k1, k2, k3⟩ := mem_ioL.mp m7
      have k1' : i = j := by simpa using k1
      subst k1'
      exact ⟨rfl, h2, a, m7, m1, map_some_at.mpr k2⟩
  refine ⟨r.ex, r.ex0, r.new, r.fr, by unfold outsOf; simp [hv], fun i d e => ?_, fun i b xs e => ?_, fun i j b c xs ys a e1 e2 e3 e4 => ?_, fun p hp => ?_⟩
  · rcases outsOf_at e with h | ⟨ys, h1, h2, h3⟩
    · cases h
    · cases h1
  · obtain ⟨hb, h1, a, h2, h3, h4⟩ := low i b xs e
    subst hb
    obtain ⟨a', us, m1, m2⟩ := r.ow i true xs h1
    rw [h3] at m1
    cases m1
    exact ⟨a, us, h4, m2⟩
  · obtain ⟨hb, h1, a1, h2, h3, h4⟩ := low i b xs e1
    subst hb
    obtain ⟨hc, k1, a2, k2, k3, k4⟩ := low j c ys e2
    subst hc
    rw [h4] at e3
    rw [k4] at e4
    cases e3
    cases e4
    exact r.dj i j true true xs ys a h1 k1 h3 k3
  · obtain ⟨h1, xs, h2⟩ := r.ioh p hp
    obtain ⟨j, b', xs', k1, k2, k3⟩ := mem_ioL.mp (show p ∈ ioL 0 vs args from hp)
    have k1' : p.1 = j := by simpa using k1
    rw [k1']
    rw [k1'] at h2
    refine ⟨map_some_at.mpr k2, xs, ?_⟩
    have hj : j < np := by
      rw [← hv]
      exact lt_of_get k2
    unfold outsOf
    rw [List.getElem?_map, List.getElem?_range hj, Option.map_some, h2]
theorem def_ok {P : Program} {w : World} {mg : Str → Option Value} {base : Heap} {x qual : Str} {st : Stmt} {f : Addr} {fd : FuncData} {N ps : List Str} {body : MS} (Fu : Fun g.K x qual st f fd) (S : FnScope N ps (defScope st)) (hl : ps.length ≤ N.length)
    (hbody : ∀ (cdv : Value) (A : Around) (outer : List PySem.Env) (s : Shared) (H : Hp) (E : XK) (φ : Fc), Cok g (cxOf (L2.CX P w) P w g.K mg base N qual (defScope st) f cdv A outer s H E) (fun cls d _ H => E cls d H) k →
      SB g (fun cls d _ H => E cls d H) φ (cxOf (L2.CX P w) P w g.K mg base N qual (defScope st) f cdv A outer s H E) (defBody st) body) :
    FnOk P w g.K mg base (L2.CX P w) (k + 1) f fd ps (spOf g (fnOf ps.length N.length body)) := by
  refine Fu.okX S (fun vs H Q E h => ?_) (fun cdv A outer s H vs Q E hr h => ?_)
  · obtain ⟨F, args, r, h⟩ := h
    have hl2 : vs.length = args.length := by have := r.len; simpa using this
    unfold fnOf at h
    by_cases hz : args.length = ps.length
    · rw [hl2, hz]
    · rw [if_neg hz] at h
      exact h.elim
  · obtain ⟨F, args, r, h⟩ := h
    have hl2 : vs.length = args.length := by have := r.len; simpa using this
    unfold fnOf at h
    by_cases hz : args.length = ps.length
    · rw [if_pos hz] at h
      have c : Cok g (cxOf (L2.CX P w) P w g.K mg base N qual (defScope st) f cdv A outer s H E) (fun cls d _ H => E cls d H) k := ⟨rfl, rfl, S.nd, takes_of rfl rfl rfl rfl, hr, passes_of rfl⟩
      have r0 := r.start (N := N) (n := N.length) rfl (by omega)
      rw [hl2, hz] at r0
      obtain ⟨t, h1, h2⟩ := hbody cdv A outer s H E (fcOf vs args H F) c F (L2.start N vs) H _ { nx := fun _ H' => Q .non H', rt := Q } r0 (by
        have fit : ∀ {F' : Hp} {σ' : L2.St} {H' : Hp} {e' : Env}, Rel g (fcOf vs args H F) F' σ' H' e' → Rel g (fcOf vs args H F) F' (vs.map some) H' (outsOf ps.length e') := fun {F' σ' H' e'} q => q.leave (by omega)
        cases hb : body (args ++ List.replicate (N.length - ps.length) Sl.un) with
        | no => rw [hb] at h; exact h.elim
        | br e => rw [hb] at h; exact h.elim
        | ct e => rw [hb] at h; exact h.elim
        | nx e =>
          rw [hb] at h
          exact fun σ' H' F' s1 r1 => h .non H' F' s1 (fit r1) .non
        | rt d e =>
          rw [hb] at h
          exact fun v σ' H' F' s1 r1 p1 => h v H' F' s1 (fit r1) p1
        | exc c v e =>
          rw [hb] at h
          exact fun C fld dd vv σ' H' F' q1 q2 q3 q4 q5 => h C fld dd vv H' F' q1 q2 (fit q3) q4 q5)
      exact ⟨t, h1, h2⟩
    · rw [if_neg hz] at h
      exact h.elim
end
end Mp
set_option Elab.async false
set_option linter.all false
set_option maxRecDepth 100000
namespace Mp
open PySem PySem.Spec PyProof.Rows L2

/-! ## list comprehensions -/
def wipeE (env : Env) : List Nat → Env
  | [] => env
  | v :: vs => (wipeE env vs).set v .un
def Sl.mark : Sl → Sl
  | .ow _ xs => .ow true xs
  | s => s
def Sl.back (s0 s : Sl) : Sl := match s0, s with
  | .ow b _, .ow _ xs => .ow b xs
  | s0, _ => s0
def enterE (own : List Nat) (env : Env) : Env := (wipeE env own).map Sl.mark
def backE (env e : Env) : Env := List.zipWith Sl.back env e
def free_ (own : List Nat) (env : Env) : Bool := own.all fun v => !isOw env[v]?
def ioE (σ : L2.St) (env : Env) : List (Nat × Addr) := (List.range env.length).filterMap fun i => match σ[i]?, env[i]? with
  | some (some (V.ref a)), some (Sl.ow _ _) => some (i, a)
  | _, _ => none
theorem mem_ioE {σ : L2.St} {env : Env} {p : Nat × Addr} : p ∈ ioE σ env ↔ σ[p.1]? = some (some (V.ref p.2)) ∧ ∃ b xs, env[p.1]? = some (Sl.ow b xs) := by
  unfold ioE
  rw [List.mem_filterMap]
  constructor
  · rintro ⟨i, _, h⟩
    split at h
    · rename_i a b xs h1 h2
      cases h
      exact ⟨h1, b, xs, h2⟩
    · cases h
  · rintro ⟨h1, b, xs, h2⟩
    refine ⟨p.1, List.mem_range.mpr (lt_of_get h2), ?_⟩
    rw [h1, h2]
theorem wipeE_length (env : Env) : ∀ vs : List Nat, (wipeE env vs).length = env.length
  | [] => rfl
  | v :: vs => by unfold wipeE; rw [List.length_set, wipeE_length env vs]
theorem wipeE_at {env : Env} {i : Nat} {s : Sl} : ∀ {vs : List Nat}, (wipeE env vs)[i]? = some s → (s = .un ∧ i ∈ vs) ∨ (i ∉ vs ∧ env[i]? = some s)
  | [], h => .inr ⟨by simp, h⟩
  | v :: vs, h => by
    unfold wipeE at h
    rcases get_set h with ⟨rfl, h2, _⟩ | ⟨hne, h2⟩
    · exact .inl ⟨h2, by simp⟩
    · rcases wipeE_at h2 with ⟨h3, h4⟩ | ⟨h3, h4⟩
      · exact .inl ⟨h3, by simp [h4]⟩
      · exact .inr ⟨by simp [h3, Ne.symm hne], h4⟩
theorem wipeE_out {env : Env} {i : Nat} : ∀ {vs : List Nat}, i ∉ vs → (wipeE env vs)[i]? = env[i]?
  | [], _ => rfl
  | v :: vs, h => by
    have h1 : v ≠ i := fun e => h (by rw [e]; exact List.mem_cons_self)
    have h2 : i ∉ vs := fun m => h (List.mem_cons_of_mem _ m)
    unfold wipeE
    rw [set_get_ne h1, wipeE_out h2]
theorem free_at {own : List Nat} {env : Env} (h : free_ own env = true) {i : Nat} (hi : i ∈ own) {b : Bool} {xs : List D} (e : env[i]? = some (Sl.ow b xs)) : False := by
  have := List.all_eq_true.mp h i hi
  rw [e] at this
  simp [isOw] at this
section
variable {g : Gc} {φ : Fc} {F F' : Hp} {σ σ' : L2.St} {H H' : Hp} {env e : Env} {own : List Nat}
def fcE (σ : L2.St) (env : Env) (H F : Hp) : Fc := ⟨ioE σ env, H, F⟩
theorem enterE_at {i : Nat} {s : Sl} (h : (enterE own env)[i]? = some s) : (s = .un) ∨ (i ∉ own ∧ ∃ t, env[i]? = some t ∧ s = t.mark) := by
  unfold enterE at h
  rw [List.getElem?_map, Option.map_eq_some_iff] at h
  obtain ⟨t, h1, h2⟩ := h
  rcases wipeE_at h1 with ⟨h3, h4⟩ | ⟨h3, h4⟩
  · subst h3
    exact .inl h2.symm
  · exact .inr ⟨h3, t, h4, h2.symm⟩
theorem Rel.enter (r : Rel g φ F σ H env) (hf : free_ own env = true) : Rel g (fcE σ env H F) F (L2.wipe σ own) H (enterE own env) := by
  have wo : ∀ {i : Nat}, i ∉ own → (L2.wipe σ own)[i]? = σ[i]? := fun h => L2.wipe_out h
  refine ⟨r.ex, Same.refl _, fun b o e => .inl e, fun b o e _ => e, by unfold enterE; rw [List.length_map, wipeE_length, L2.wipe_length]; exact r.len, fun i d e => ?_, fun i b xs e => ?_, fun i j b c xs ys a e1 e2 e3 e4 => ?_, fun p hp => ?_⟩
  · rcases enterE_at e with h | ⟨h, t, h1, h2⟩
    · cases h
    · cases t with
      | va d' =>
        cases h2
        obtain ⟨v, q1, q2⟩ := r.va i d h1
        exact ⟨v, by rw [wo h]; exact q1, q2⟩
      | un => cases h2
      | ow b xs => cases h2
  · rcases enterE_at e with h | ⟨h, t, h1, h2⟩
    · cases h
    · cases t with
      | va d' => cases h2
      | un => cases h2
      | ow b' xs' =>
        cases h2
        obtain ⟨a, vs, q1, q2, q3, q4, q5⟩ := r.ow i b' xs h1
        exact ⟨a, vs, by rw [wo h]; exact q1, q2, q3, q4, (fun z => by cases z), fun _ => (mem_ioE (p := (i, a))).mpr ⟨q1, b', xs, h1⟩⟩
  · rcases enterE_at e1 with h | ⟨h, t, h1, h2⟩
    · cases h
    · rcases enterE_at e2 with h' | ⟨h', t', h1', h2'⟩
      · cases h'
      · cases t with
        | va d' => cases h2
        | un => cases h2
        | ow b1 xs1 =>
          cases t' with
          | va d' => cases h2'
          | un => cases h2'
          | ow b2 xs2 =>
            rw [wo h] at e3
            rw [wo h'] at e4
            exact r.dj i j b1 b2 xs1 xs2 a h1 h1' e3 e4
  · obtain ⟨h1, b, xs, h2⟩ := mem_ioE.mp (show p ∈ ioE σ env from hp)
    have hn : p.1 ∉ own := fun z => free_at hf z h2
    refine ⟨by rw [wo hn]; exact h1, xs, ?_⟩
    unfold enterE
    rw [List.getElem?_map, wipeE_out hn, h2]
    all_goals rfl
theorem backE_at {i : Nat} {s : Sl} (h : (backE env e)[i]? = some s) : ∃ s0 s1, env[i]? = some s0 ∧ e[i]? = some s1 ∧ s = s0.back s1 := by
  unfold backE at h
  rw [List.getElem?_zipWith] at h
  cases h1 : env[i]? with
  | none => simp [h1] at h
  | some s0 =>
    cases h2 : e[i]? with
    | none => simp [h1, h2] at h
    | some s1 =>
      simp [h1, h2] at h
      exact ⟨s0, s1, rfl, rfl, h.symm⟩
theorem wipe_same {i : Nat} (h : L2.wipe σ' own = L2.wipe σ own) (hi : i ∉ own) : σ'[i]? = σ[i]? := by
  rw [← L2.wipe_out hi, h, L2.wipe_out hi]
theorem Rel.exit (r : Rel g φ F σ H env) (hf : free_ own env = true) (q : Rel g (fcE σ env H F) F' σ' H' e) (hw : L2.wipe σ' own = L2.wipe σ own) (s : Same F F') : Rel g φ F' σ H' (backE env e) := by
  have hl : e.length = env.length := by
    have h1 := q.len
    have h2 := r.len
    have h3 := congrArg List.length hw
    rw [L2.wipe_length, L2.wipe_length] at h3
    omega
  have io : ∀ p ∈ ioE σ env, ∃ b xs, env[p.1]? = some (Sl.ow b xs) ∧ σ[p.1]? = some (some (V.ref p.2)) := fun p hp => by
    obtain ⟨h1, b, xs, h2⟩ := mem_ioE.mp hp
    exact ⟨b, xs, h2, h1⟩
  -- a list of one's own ahead is one behind
  have own_ : ∀ (i : Nat) (b : Bool) (xs : List D), env[i]? = some (Sl.ow b xs) → ∃ a ys, σ[i]? = some (some (V.ref a)) ∧ e[i]? = some (Sl.ow true ys) := fun i b xs h => by
    obtain ⟨a, vs, q1, _⟩ := r.ow i b xs h
    obtain ⟨_, ys, q2⟩ := q.ioh (i, a) (mem_ioE.mpr ⟨q1, b, xs, h⟩)
    exact ⟨a, ys, q1, q2⟩
  refine ⟨q.ex, r.ex0.trans s, fun b o h => ?_, fun b o h hb => ?_, by unfold backE; rw [List.length_zipWith, hl, Nat.min_self]; exact r.len, fun i d h => ?_, fun i b xs h => ?_, fun i j b c xs ys a e1 e2 e3 e4 => ?_, fun p hp => ?_⟩
  · rcases q.new b o h with h1 | h1
    · exact r.new b o h1
    · exact .inr (r.h0 h1)
  · refine q.fr b o (r.fr b o h hb) fun p hp z => ?_
    obtain ⟨b', xs, h1, h2⟩ := io p hp
    obtain ⟨a, us, m1, m2, m3, m4, m5, m6⟩ := r.ow p.1 b' xs h1
    rw [h2] at m1
    cases m1
    cases b' with
    | false =>
      rw [← z, m5 rfl] at h
      cases h
    | true => exact hb _ (m6 rfl) z
  · obtain ⟨s0, s1, h1, h2, h3⟩ := backE_at h
    cases s0 with
    | va d' =>
      cases h3
      obtain ⟨v, q1, q2⟩ := r.va i d h1
      exact ⟨v, q1, q2.mono s⟩
    | un => cases h3
    | ow b xs =>
      obtain ⟨a, ys, _, q2⟩ := own_ i b xs h1
      rw [q2] at h2
      cases h2
      cases h3
  · obtain ⟨s0, s1, h1, h2, h3⟩ := backE_at h
    cases s0 with
    | va d' => cases h3
    | un => cases h3
    | ow b' xs' =>
      obtain ⟨a, ys, q1, q2⟩ := own_ i b' xs' h1
      rw [q2] at h2
      cases h2
      cases h3
      have hi : i ∉ own := fun z => free_at hf z h1
      obtain ⟨a', vs, m1, m2, m3, m4, m5, m6⟩ := r.ow i b xs' h1
      rw [q1] at m1
      cases m1
      obtain ⟨a', us, n1, n2, n3, n4, _⟩ := q.ow i true xs q2
      rw [wipe_same hw hi, q1] at n1
      cases n1
      exact ⟨a, us, q1, n2, n3, n4, m5, m6⟩
  · have old : ∀ (i : Nat) (b : Bool) (xs : List D), (backE env e)[i]? = some (Sl.ow b xs) → ∃ (b' : Bool) (xs' : List D), env[i]? = some (Sl.ow b' xs') := fun i b xs h => by
      obtain ⟨s0, s1, h1, h2, h3⟩ := backE_at h
      cases s0 with
      | va d' => cases h3
      | un => cases h3
      | ow b' xs' => exact ⟨b', xs', h1⟩
    obtain ⟨b1, xs1, h1⟩ := old i b xs e1
    obtain ⟨b2, xs2, h2⟩ := old j c ys e2
    exact r.dj i j b1 b2 xs1 xs2 a h1 h2 e3 e4
  · obtain ⟨h1, xs, h2⟩ := r.ioh p hp
    refine ⟨h1, ?_⟩
    obtain ⟨a, ys, q1, q2⟩ := own_ p.1 true xs h2
    refine ⟨ys, ?_⟩
    unfold backE
    rw [List.getElem?_zipWith, h2, q2]
    all_goals rfl
end
/-- what goes on only where nothing is raised -/
def Re.nx {α β : Type} (r : Re α) (k : α → Env → Re β) : Re β := match r with
  | .ok a e => k a e
  | _ => .no
def lcF (own : List Nat) (tg : MG) (ts : MT) (elt : ME) : List D → Env → Re (List D)
  | [], env => .ok [] env
  | d :: ds, env => if free_ own env = true then
      match tg d (enterE own env) with
      | none => .no
      | some e1 => (ts e1).nx fun b e2 => if b = true then (elt e2).nx fun x e3 => (lcF own tg ts elt ds (backE env e3)).nx fun xs e4 => .ok (x :: xs) e4 else lcF own tg ts elt ds (backE env e2)
    else .no
def lLc (own : List Nat) (mi : ML) (tg : MG) (ts : MT) (elt : ME) : ML := fun env => (mi env).bind fun ds e => if ds.length ≤ line then lcF own tg ts elt ds e else .no
def tYesF : MT := fun e => .ok true e
/-- a clause's tests -/
def STs (g : Gc) (W : WX) (φ : Fc) (X : Cx) (es : List Expr) (m : MT) : Prop := ∀ F σ H env Q, Rel g φ F σ H env → PoT g W φ F σ Q (m env) → ∃ t, PTs X es t ∧ t σ H Q
def W0 : WX := fun _ _ _ _ => False
section
variable {g : Gc} {W : WX} {φ : Fc} {X : Cx} {k : Nat} {F F' H : Hp} {σ : L2.St}
theorem sts_nil : STs g W φ X [] tYesF := fun F σ H env Q hr hp => ⟨_, pts_nil, hp _ _ (Same.refl _) hr⟩
theorem sts_one {c : Expr} {m : MT} (h : ST g W φ X c m) : STs g W φ X [c] m := fun F σ H env Q hr hp => ⟨_, pts_one w_pt, h F σ H env Q hr hp⟩
/-- the context of a comprehension's block -/
theorem Cok.blk (c : Cok g X W k) (s : Shared) (H : Hp) (scope : Scope) (cenv : PySem.Env) (fp : List Addr) : Cok g (X.blk s H scope cenv fp) W0 k := ⟨c.K, c.calm, c.nd, takes0, c.rm, PassesOwn.never⟩
theorem lcF_exc {own : List Nat} {tg : MG} {ts : MT} {elt : ME} {c : Str} {v : D} {e : Env} : ∀ (ds : List D) (env : Env), lcF own tg ts elt ds env ≠ .exc c v e
  | [], env => by simp [lcF]
  | d :: ds, env => by
    unfold lcF
    split
    · split
      · simp
      · rename_i e1 _
        cases ts e1 with
        | ok b e2 =>
          simp only [Re.nx]
          split
          · cases elt e2 with
            | ok x e3 =>
              simp only
              cases lcF own tg ts elt ds (backE env e3) <;> simp
            | _ => simp
          · exact lcF_exc ds _
        | _ => simp [Re.nx]
    · simp
theorem wipe_eq {vs ws : List Nat} {σ σ' : L2.St} (hw : ∀ i ∈ ws, i ∈ vs) (o : Off ws (L2.wipe σ vs) σ') : L2.wipe σ' vs = L2.wipe σ vs := by
  apply List.ext_getElem?
  intro i
  by_cases hi : i ∈ vs
  · have z : ∀ (τ : L2.St) (us : List Nat), i ∈ us → (L2.wipe τ us)[i]? = if i < τ.length then some none else none := fun τ us => by
      induction us with
      | nil => intro h; cases h
      | cons u us ih =>
        intro h
        show ((L2.wipe τ us).set u none)[i]? = _
        rw [List.getElem?_set, L2.wipe_length]
        by_cases hu : u = i
        · rw [if_pos hu, hu]
        · rw [if_neg hu]
          exact ih (by
            rcases List.mem_cons.mp h with q | q
            · exact absurd q.symm hu
            · exact q)
    rw [z σ' vs hi, z σ vs hi, o.1, L2.wipe_length]
  · rw [L2.wipe_out hi, o.2 i fun q => hi (hw i q)]
theorem il {r : Re (List D)} {k : List D → Env → Re (List D)} {Q : VK} {Q1 : It → Hp → Prop} (hp : PoL g W φ F σ Q (r.bind k))
    (h : ∀ ds e1 J H1 F1, Same F F1 → Rel g φ F1 σ H1 e1 → Walks g J F1 ds → PoL g W φ F1 σ Q (k ds e1) → Q1 J H1) : PoI g W φ F σ Q1 r := by
  cases r with
  | ok x e1 => exact fun v H1 F1 a b c => h x e1 v H1 F1 a b c (hp.mono a)
  | exc c v e' => exact hp
  | no => exact hp
theorem sl_lc_ {ws : List Nat} {elt tg iter : Expr} {ifs : List Expr} {scope : Scope} {own : List (Str × Nat)} {mi : ML} {mg : MG} {mt : MT} {me : ME} (c : Cok g X W k) (hi : SI g W φ X tg iter mi) (ok : BlkOk X.N X.env.scope scope own)
    (hg : ∀ (s : Shared) (H : Hp) (C : Addr) (cl : List (Str × Addr)) (fp : List Addr) (φ : Fc), SG g φ (X.blk s H scope (compEnvC scope cl C X.env) fp) ws tg mg) (hws : ∀ i ∈ ws, i ∈ own.map (·.2))
    (ht : ∀ (s : Shared) (H : Hp) (C : Addr) (cl : List (Str × Addr)) (fp : List Addr) (φ : Fc), STs g W0 φ (X.blk s H scope (compEnvC scope cl C X.env) fp) ifs mt)
    (he : ∀ (s : Shared) (H : Hp) (C : Addr) (cl : List (Str × Addr)) (fp : List Addr) (φ : Fc), SE g W0 φ (X.blk s H scope (compEnvC scope cl C X.env) fp) elt me)
    (hs : ∀ x, foldedSetIterable iter X.env x = pure x := by intro _; rfl) :
    ∀ F σ H env Q, Rel g φ F σ H env → PoL g W φ F σ Q (lLc (own.map (·.2)) mi mg mt me env) →
      ∃ t, PI X tg iter (wIt X tg iter) ∧ (∃ gg tt te, (∀ (s : Shared) (H : Hp) (C : Addr) (cl : List (Str × Addr)) (fp : List Addr), PG (X.blk s H scope (compEnvC scope cl C X.env) fp) tg gg) ∧
        (∀ (s : Shared) (H : Hp) (C : Addr) (cl : List (Str × Addr)) (fp : List Addr), PTs (X.blk s H scope (compEnvC scope cl C X.env) fp) ifs tt) ∧
        (∀ (s : Shared) (H : Hp) (C : Addr) (cl : List (Str × Addr)) (fp : List Addr), PE (X.blk s H scope (compEnvC scope cl C X.env) fp) elt te) ∧ t = tLc (wIt X tg iter) gg tt te (own.map (·.2))) ∧ t σ H Q := by
  intro F σ H env Q hr hp
  refine ⟨_, w_pi, ⟨fun v σ H Q => ∀ (s : Shared) (H' : Hp) (C : Addr) (cl : List (Str × Addr)) (fp : List Addr), wG (X.blk s H' scope (compEnvC scope cl C X.env) fp) tg v σ H Q,
    fun σ H Q => ∀ (s : Shared) (H' : Hp) (C : Addr) (cl : List (Str × Addr)) (fp : List Addr), ∃ t, PTs (X.blk s H' scope (compEnvC scope cl C X.env) fp) ifs t ∧ t σ H Q,
    fun σ H Q => ∀ (s : Shared) (H' : Hp) (C : Addr) (cl : List (Str × Addr)) (fp : List Addr), wE (X.blk s H' scope (compEnvC scope cl C X.env) fp) elt σ H Q,
    fun s H C cl fp => ⟨fun pins s1 σ H1 v u Q I r h => w_pg.run pins s1 σ H1 v u Q I r (h s H C cl fp)⟩,
    fun s H C cl fp => ⟨fun pins s1 σ H1 Q I h => by obtain ⟨t, h1, h2⟩ := h s H C cl fp; exact h1.run pins s1 σ H1 Q I h2⟩,
    fun s H C cl fp => ⟨fun pins s1 σ H1 Q I h => w_pe.run pins s1 σ H1 Q I (h s H C cl fp)⟩, rfl⟩, ?_⟩
  refine hi F σ H env _ hr (il hp fun ds e1 J H1 F1 s1 r1 w1 hp1 => ?_)
  generalize own.map (·.2) = vs at hp1 hws ⊢
  by_cases hz : ds.length ≤ line
  · rw [if_pos hz] at hp1
    intro p hp0
    -- what is wished of the rest, once acc is made
    let Rest : Hp → Nat → Env → List D → Prop := fun F2 i env2 acc =>
      PoL g W φ F2 σ Q ((lcF vs mg mt me (ds.drop i) env2).nx fun xs e => .ok (acc ++ xs) e)
    refine ⟨fun i m H2 => ∃ F2 env2 acc accd, Same F1 F2 ∧ Rel g φ F2 σ H2 env2 ∧ H2 p = some (.lst acc) ∧ F2 p = none ∧ φ.H0 p = none ∧ NotOwn σ env2 p ∧ Reps g F2 acc accd ∧ Rest F2 i env2 accd ∧ accd.length ≤ i ∧ m = ds.length - i,
      ⟨ds.length, F1, e1, [], [], Same.refl _, r1.loose hp0, upd_same, r1.ex.free hp0, r1.h0 hp0, r1.freshOwn hp0, .nil, ?_, Nat.le_refl _, rfl⟩, ?_⟩
    · show PoL g W φ F1 σ Q ((lcF vs mg mt me ds e1).nx fun xs e => .ok ([] ++ xs) e)
      cases hq : lcF vs mg mt me ds e1 with
      | ok xs e => rw [hq] at hp1; exact hp1
      | exc c v e => exact absurd hq (lcF_exc _ _)
      | no => rw [hq] at hp1; exact hp1
    rintro i m H2 ⟨F2, env2, acc, accd, s2, r2, hpa, hpF, hp00, hpo, ra, rest, hlen, rfl⟩
    obtain ⟨wgo, wstop⟩ := w1 φ F2 σ H2 env2 i s2 r2
    by_cases hl : i < ds.length
    · have ed : ds.drop i = ds[i] :: ds.drop (i + 1) := List.drop_eq_getElem_cons hl
      have rest' : PoL g W φ F2 σ Q ((lcF vs mg mt me (ds[i] :: ds.drop (i + 1)) env2).nx fun xs e => .ok (accd ++ xs) e) := by
        have := rest
        simp only [Rest] at this
        rw [ed] at this
        exact this
      obtain ⟨go, yl⟩ := wgo ds[i] (List.getElem?_eq_getElem hl)
      refine .inr ⟨go, fun H' => ∃ F3 env3 acc accd, Same F1 F3 ∧ Rel g φ F3 σ H' env3 ∧ H' p = some (.lst acc) ∧ F3 p = none ∧ φ.H0 p = none ∧ NotOwn σ env3 p ∧ Reps g F3 acc accd ∧ Rest F3 (i + 1) env3 accd ∧ accd.length ≤ i + 1,
        fun H' ⟨F3, env3, acc, accd, a1, a2, a3, a4, a5, a6, a7, a8, a9⟩ => ⟨_, by omega, F3, env3, acc, accd, a1, a2, a3, a4, a5, a6, a7, a8, a9, rfl⟩, fun x H' hy => ?_⟩
      obtain ⟨F3, s3, sH, nw, r3, p3⟩ := yl x H' hy
      -- the new list stands through the iterator's step
      have hpa' : H' p = some (.lst acc) := sH _ _ hpa
      have hpF' : F3 p = none := by
        cases ef : F3 p with
        | none => rfl
        | some o =>
          rcases nw p o ef with h | h
          · rw [hpF] at h; cases h
          · rw [hpa] at h; cases h
      unfold lcF at rest'
      by_cases hf : free_ vs env2 = true
      · rw [if_pos hf] at rest'
        have r4 := r3.enter hf
        cases et : mg ds[i] (enterE vs env2) with
        | none => rw [et] at rest'; exact rest'.elim
        | some e1' =>
          rw [et] at rest'
          simp only at rest'
          intro s5 H5 C5 cl5 fp5
          refine hg s5 H5 C5 cl5 fp5 (fcE σ env2 H' F3) F3 _ H' _ x ds[i] e1' _ r4 p3 et fun σ4 o4 r5 => ?_
          have hw := wipe_eq hws o4
          refine ⟨hw, ?_⟩
          intro s6 H6 C6 cl6 fp6
          cases em : mt e1' with
          | exc c v e => rw [em] at rest'; exact rest'.elim
          | no => rw [em] at rest'; exact rest'.elim
          | ok b e2 =>
            rw [em] at rest'
            simp only [Re.nx] at rest'
            refine ht s6 H6 C6 cl6 fp6 (fcE σ env2 H' F3) F3 σ4 H' e1' _ r5 ?_
            rw [em]
            intro H7 F7 s7 r7
            -- back in the def
            have back : ∀ {H8 F8 : Hp} {e8 : Env}, Same F7 F8 → Rel g (fcE σ env2 H' F3) F8 σ4 H8 e8 → Rel g φ F8 σ H8 (backE env2 e8) ∧ H8 p = some (.lst acc) ∧ F8 p = none ∧ NotOwn σ (backE env2 e8) p := fun {H8 F8 e8} s8 r8 => by
              refine ⟨r3.exit hf r8 hw (s7.trans s8), ?_, ?_, ?_⟩
              · refine r8.fr p _ hpa' fun q hq z => ?_
                obtain ⟨h1, b', xs', h2⟩ := mem_ioE.mp (show q ∈ ioE σ env2 from hq)
                exact hpo q.1 b' xs' q.2 h2 h1 z
              · cases ef : F8 p with
                | none => rfl
                | some o =>
                  rcases r8.new p o ef with h | h
                  · have h' : F3 p = some o := h
                    rw [hpF'] at h'; cases h'
                  · have h' : H' p = none := h
                    rw [hpa'] at h'; cases h'
              · intro j b' xs' a h1 h2
                obtain ⟨s0, s1, k1, k2, k3⟩ := backE_at h1
                cases s0 with
                | va d' => cases k3
                | un => cases k3
                | ow b0 xs0 => exact hpo j b0 xs0 a k1 h2
            cases b with
            | false =>
              refine iteF ?_
              simp only [Bool.false_eq_true, if_false] at rest'
              obtain ⟨q1, q2, q3, q4⟩ := back (Same.refl _) r7
              exact ⟨F7, _, acc, accd, s2.trans (s3.trans s7), q1, q2, q3, hp00, q4, ra.mono (s3.trans s7), PoL.mono (s3.trans s7) rest', by omega⟩
            | true =>
              refine iteT ?_
              simp only [if_true] at rest'
              intro s9 H9 C9 cl9 fp9
              cases ee' : me e2 with
              | exc c v e => rw [ee'] at rest'; exact rest'.elim
              | no => rw [ee'] at rest'; exact rest'.elim
              | ok xd e3 =>
                rw [ee'] at rest'
                simp only at rest'
                refine he s9 H9 C9 cl9 fp9 (fcE σ env2 H' F3) F7 σ4 H7 e2 _ r7 ?_
                rw [ee']
                intro y H8 F8 s8 r8 py
                obtain ⟨q1, q2, q3, q4⟩ := back s8 r8
                have ra' := ra.mono (s3.trans (s7.trans s8))
                have hal := ra.len
                refine ⟨acc, q2, by rw [← line_eq]; omega, F8, _, acc ++ [y], accd ++ [xd], s2.trans (s3.trans (s7.trans s8)), q1.mut q3 hp00 q4, upd_same, q3, hp00, q4, ra'.append (.cons py .nil), ?_, by simp; omega⟩
                refine PoL.mono (s3.trans (s7.trans s8)) ?_
                show PoL g W φ F2 σ Q ((lcF vs mg mt me (ds.drop (i + 1)) (backE env2 e3)).nx fun xs e => .ok ((accd ++ [xd]) ++ xs) e)
                cases el : lcF vs mg mt me (ds.drop (i + 1)) (backE env2 e3) with
                | ok xs e4 =>
                  rw [el] at rest'
                  simp only [Re.nx, List.append_assoc, List.singleton_append]
                  exact rest'
                | exc c v e => exact absurd el (lcF_exc _ _)
                | no => rw [el] at rest'; exact rest'
      · rw [if_neg hf] at rest'
        exact rest'.elim
    · have ed : ds.drop i = [] := List.drop_eq_nil_of_le (by omega)
      have rest' : PoL g W φ F2 σ Q (.ok (accd ++ []) env2) := by
        have := rest
        simp only [Rest] at this
        rw [ed] at this
        exact this
      rw [List.append_nil] at rest'
      exact .inl ⟨wstop (by omega), rest' p acc H2 F2 (Same.refl _) r2 hpa hpF hp00 hpo ra⟩
  · rw [if_neg hz] at hp1
    exact hp1.elim
theorem sl_lc {ws : List Nat} {elt tg iter : Expr} {ifs : List Expr} {scope : Scope} {own : List (Str × Nat)} {pos : Pos} {mi : ML} {mg : MG} {mt : MT} {me : ME} (c : Cok g X W k) (hi : SI g W φ X tg iter mi) (ok : BlkOk X.N X.env.scope scope own)
    (hg : ∀ (s : Shared) (H : Hp) (C : Addr) (cl : List (Str × Addr)) (fp : List Addr) (φ : Fc), SG g φ (X.blk s H scope (compEnvC scope cl C X.env) fp) ws tg mg) (hws : ∀ i ∈ ws, i ∈ own.map (·.2))
    (ht : ∀ (s : Shared) (H : Hp) (C : Addr) (cl : List (Str × Addr)) (fp : List Addr) (φ : Fc), STs g W0 φ (X.blk s H scope (compEnvC scope cl C X.env) fp) ifs mt)
    (he : ∀ (s : Shared) (H : Hp) (C : Addr) (cl : List (Str × Addr)) (fp : List Addr) (φ : Fc), SE g W0 φ (X.blk s H scope (compEnvC scope cl C X.env) fp) elt me)
    (hs : ∀ x, foldedSetIterable iter X.env x = pure x := by intro _; rfl) : SL g W φ X (.ListComp elt [⟨tg, iter, ifs, 0⟩] scope pos) (lLc (own.map (·.2)) mi mg mt me) := by
  intro F σ H env Q hr hp
  obtain ⟨t, h1, ⟨gg, tt, te, h2, h3, h4, rfl⟩, h5⟩ := sl_lc_ c hi ok hg hws ht he hs F σ H env Q hr hp
  exact ⟨_, pe_lc c.calm c.nd h1 ok h2 h3 h4 hs, h5⟩
/-- y = [..] on one line -/
theorem ss_setLc {i : Nat} {y : Str} {py : Pos} {ws : List Nat} {elt tg iter : Expr} {ifs : List Expr} {scope : Scope} {own : List (Str × Nat)} {pos spos : Pos} {mi : ML} {mg : MG} {mt : MT} {me : ME} (c : Cok g X W k) (hi : SI g W φ X tg iter mi) (ok : BlkOk X.N X.env.scope scope own)
    (hg : ∀ (s : Shared) (H : Hp) (C : Addr) (cl : List (Str × Addr)) (fp : List Addr) (φ : Fc), SG g φ (X.blk s H scope (compEnvC scope cl C X.env) fp) ws tg mg) (hws : ∀ i ∈ ws, i ∈ own.map (·.2))
    (ht : ∀ (s : Shared) (H : Hp) (C : Addr) (cl : List (Str × Addr)) (fp : List Addr) (φ : Fc), STs g W0 φ (X.blk s H scope (compEnvC scope cl C X.env) fp) ifs mt)
    (he : ∀ (s : Shared) (H : Hp) (C : Addr) (cl : List (Str × Addr)) (fp : List Addr) (φ : Fc), SE g W0 φ (X.blk s H scope (compEnvC scope cl C X.env) fp) elt me)
    (hy : X.N[i]? = some y := by rfl) (hyl : X.env.scope.names.lookup y = some .local := by rfl) (hsw : swapsWith (.ListComp elt [⟨tg, iter, ifs, 0⟩] scope pos) (some (.Name y py)) spos.line X.env = pure true := by exact sw_true rfl rfl rfl (by decide +kernel))
    (hs : ∀ x, foldedSetIterable iter X.env x = pure x := by intro _; rfl) : SS g W φ X (.Assign [.Name y py] (.ListComp elt [⟨tg, iter, ifs, 0⟩] scope pos) spos) (mSet i (mL (lLc (own.map (·.2)) mi mg mt me))) := by
  intro F σ H env En hr hp
  have hp' : PoL g W φ F σ (fun x H1 => gName i x σ H1 En.nx) (lLc (own.map (·.2)) mi mg mt me env) := by
    unfold mSet mL at hp
    cases e1 : lLc (own.map (·.2)) mi mg mt me env with
    | exc c v e' => rw [e1] at hp; exact hp
    | no => rw [e1] at hp; exact hp
    | ok xs e' =>
      rw [e1] at hp
      intro p vs H' F' s1 r1 h1 h2 h3 h4 h5
      obtain ⟨s2, r2⟩ := r1.settle h1 h2 h3 h4
      have hp2 : PoS g W φ F En (match putG i (.lst xs) e' with | some e1 => .nx e1 | none => .no) := hp
      cases e2 : putG i (.lst xs) e' with
      | none => rw [e2] at hp2; exact hp2.elim
      | some e3 =>
        rw [e2] at hp2
        obtain ⟨s, q1, q2, rfl⟩ := putG_ok e2
        exact hp2 _ _ _ (s1.trans s2) (r2.setVa q1 q2 (.mkLst upd_same (h5.mono s2)))
  obtain ⟨t, h1, ⟨gg, tt, te, h2, h3, h4, rfl⟩, h5⟩ := sl_lc_ c hi ok hg hws ht he hs F σ H env _ hr hp'
  exact ⟨_, ps_setLc c.calm c.nd hy hyl hsw h1 ok h2 h3 h4 hs, h5⟩
end
end Mp
set_option Elab.async false
set_option linter.all false
set_option maxRecDepth 100000
namespace Mp
open PySem PySem.Spec PyProof.Rows L2

/-! ## names for what the generator prints -/
def vOf (m : ME) : MV := fun env => (m env).bind fun d e1 => .ok (.va d) e1
def mNotV (m : ME) : ME := fun env => ((m env).bind asB).bind fun b e => .ok (.bl (!b)) e
def mTest (m : ME) : MT := fun env => (m env).bind asB
def mNext : MS := fun e => .nx e
def mBreak : MS := fun e => .br e
def mCont : MS := fun e => .ct e
def mDrop (m : ME) : MS := fun env => (m env).flow fun _ e1 => .nx e1
def mRet (m : ME) : MS := fun env => (m env).flow fun d e1 => .rt d e1
def mRetN : MS := fun e => .rt .non e
def negF : D → Option D
  | .int i => some (.int (-i))
  | _ => none
/-- a cut of a list or a tuple -/
def cutF (lo hi : Option Int) : D → Option D
  | .tup xs => some (.tup ((xs.drop (HT.sIx xs.length 0 lo)).take (HT.sIx xs.length xs.length hi - HT.sIx xs.length 0 lo)))
  | .lst xs => some (.lst ((xs.drop (HT.sIx xs.length 0 lo)).take (HT.sIx xs.length xs.length hi - HT.sIx xs.length 0 lo)))
  | .rol xs => some (.lst ((xs.drop (HT.sIx xs.length 0 lo)).take (HT.sIx xs.length xs.length hi - HT.sIx xs.length 0 lo)))
  | _ => none
def mCut (ma : MV) (ml mh : MO) : ME := fun env => (ma env).bind fun x e1 => (ml e1).bind fun lo e2 => (mh e2).bind fun hi e3 => use1 (cutF lo hi) x e3
section
variable {g : Gc} {W : WX} {φ : Fc} {X : Cx} {k : Nat}
theorem sv_of {e : Expr} {m : ME} (h : SE g W φ X e m) : SV g W φ X e (vOf m) := SV.of h
theorem se_neg {a : Expr} {m : MV} {pos : Pos} (h : SV g W φ X a m) : SE g W φ X (.UnaryOp .USub a pos) (mUn negF m) := by
  intro F σ H env Q hr hp
  refine ⟨_, pe_un un_neg w_pe, ?_⟩
  refine h F σ H env _ hr (ve hp fun x e1 v H1 F1 s1 r1 p1 hp1 => ?_)
  obtain ⟨d, z, g1, hf, hp2⟩ := use1_ok hp1
  have q := p1.get r1 g1
  cases d <;> simp only [negF, reduceCtorEq, Option.some.injEq] at hf
  subst hf
  rw [q.int]
  exact ⟨_, rfl, hp2 _ _ _ (Same.refl _) r1 (.int _)⟩
theorem se_cut {a : Expr} {lo hi : Option Expr} {ma : MV} {ml mh : MO} {p2 pos : Pos} (hK : X.K = g.K) (ha : SV g W φ X a ma) (hl : SO g W φ X lo ml) (hh : SO g W φ X hi mh) : SE g W φ X (.Subscript a (.Slice lo hi none p2) pos) (mCut ma ml mh) := by
  intro F σ H env Q hr hp
  refine ⟨_, pe_slice (SlR.or L2.sl_list sl_tupA) w_pe w_po w_po, ?_⟩
  refine ha F σ H env _ hr (ve hp fun x e1 v H1 F1 s1 r1 p1 hp1 => hl F1 σ H1 e1 _ r1 (oe hp1 fun l e2 H2 F2 s2 r2 hp2 => hh F2 σ H2 e2 _ r2 (oe hp2 fun h e3 H3 F3 s3 r3 hp3 => ?_)))
  obtain ⟨d, z, g1, hf, hp4⟩ := use1_ok hp3
  have q := ((p1.mono s2).mono s3).get r3 g1
  cases d <;> simp only [cutF, reduceCtorEq, Option.some.injEq] at hf
  case tup xs =>
    subst hf
    have q0 := q.tupR
    obtain ⟨b, vs, rfl, h1, h2⟩ := q.tup r3.ex
    refine .inr ⟨b, vs, rfl, hK ▸ h1, fun hw => ?_, fun hw p hn => ?_⟩
    · rw [h2.len] at hw
      have e : ∀ {n : Nat} {ys : List D}, n = ys.length → List.take (n - 0) (List.drop 0 ys) = ys := fun {n ys} e => by
        rw [e, Nat.sub_zero, List.drop_zero, List.take_length]
      rw [hw.1, hw.2, e rfl] at hp4
      exact hp4 _ _ _ (Same.refl _) r3 q0
    · obtain ⟨s4, r4⟩ := r3.laid (o := .tup (cutV vs l h)) hn
      refine hp4 _ _ _ s4 r4 (.mkTup upd_same (Reps.mono s4 ?_))
      unfold cutV
      rw [h2.len]
      exact (h2.drop _).take _
  case lst xs =>
    subst hf
    obtain ⟨b, vs, rfl, h1, h2⟩ := q.lst r3.ex
    refine .inl ⟨b, vs, rfl, SqL.of h1, fun p hn => ?_⟩
    obtain ⟨s4, r4⟩ := r3.laid (o := .lst (cutV vs l h)) hn
    refine hp4 _ _ _ s4 r4 (.mkLst upd_same (Reps.mono s4 ?_))
    unfold cutV
    rw [h2.len]
    exact (h2.drop _).take _
  case rol xs =>
    subst hf
    obtain ⟨b, vs, rfl, h1, h2⟩ := q.rol r3.ex
    refine .inl ⟨b, vs, rfl, hK ▸ h1, fun p hn => ?_⟩
    obtain ⟨s4, r4⟩ := r3.laid (o := .lst (cutV vs l h)) hn
    refine hp4 _ _ _ s4 r4 (.mkLst upd_same (Reps.mono s4 ?_))
    unfold cutV
    rw [h2.len]
    exact (h2.drop _).take _
end
/-- the def st stands under the module's name x -/
structure FnAt (g : Gc) (mg : Str → Option Value) (x qual : Str) (st : Stmt) (ps : List Str) : Prop where
  ex : ∃ (f : Addr) (fd : FuncData), Fun g.K x qual st f fd ∧ mg x = some (.ref f) ∧ Binds g.K fd ps []
section
variable {P : Program} {w : World} {mg : Str → Option Value} {base : Heap} {g : Gc} {k : Nat}
theorem has_of {x qual : Str} {st : Stmt} {N ps : List Str} {body : MS} (A : FnAt g mg x qual st ps) (S : FnScope N ps (defScope st)) (hl : ps.length ≤ N.length)
    (hbody : ∀ {f : Addr} (cdv : Value) (A : Around) (outer : List PySem.Env) (s : Shared) (H : Hp) (E : XK) (φ : Fc), Cok g (cxOf (L2.CX P w) P w g.K mg base N qual (defScope st) f cdv A outer s H E) (fun cls d _ H => E cls d H) k →
      SB g (fun cls d _ H => E cls d H) φ (cxOf (L2.CX P w) P w g.K mg base N qual (defScope st) f cdv A outer s H E) (defBody st) body) :
    Has P w mg base g (k + 1) x (fnOf ps.length N.length body) := by
  obtain ⟨f, fd, Fu, hm, hb⟩ := A.ex
  exact ⟨f, fd, ps, def_ok Fu S hl (hbody (f := f)), hm, Fu.kp, hb⟩
theorem has_no {x qual : Str} {st : Stmt} {ps : List Str} (A : FnAt g mg x qual st ps) : Has P w mg base g k x (fun _ => .no) := by
  obtain ⟨f, fd, Fu, hm, hb⟩ := A.ex
  exact ⟨f, fd, ps, ⟨fun vs H Q E h => by obtain ⟨F, args, r, h⟩ := h; exact h.elim, fun A outer s H args us vs Q E hr he hb hv h => by obtain ⟨F, args, r, h⟩ := h; exact h.elim⟩, hm, Fu.kp, hb⟩
end
end Mp
set_option Elab.async false
set_option linter.all false
set_option maxRecDepth 100000
set_option maxHeartbeats 4000000
/-! exceptions of the program's own, over Exception: made by their own __init__, raised, caught, read -/
namespace Mp
open PySem PySem.Spec PyProof.Rows L2

abbrev exT : List Value := [.type "Exception", .type "BaseException", .type "object"]
/-- what the written part says of such a class -/
structure ExC (K : PySem.W.Frag) (C : Addr) (fld : Str) : Prop where
  md : PySem.W.excInitIn K C exT "Exception.__new__" = true
  ov : PySem.W.excOver K C exT = true
  hd : PySem.W.hasDictIn K C = true
  tk : PySem.W.takerIn K C fld = some none
  sa : PySem.W.findIn K (.ref C) "__setattr__" = some (some (.builtin "object.__setattr__"))
  ga : PySem.W.findIn K (.ref C) "__getattribute__" = some (some (.builtin "BaseException.__getattribute__"))
  gg : PySem.W.findIn K (.ref C) "__getattr__" = some none
  no : PySem.W.findIn K (.ref C) fld = some none
  ex : PySem.W.subIn K (.ref C) (.type "BaseException") = some true
  ty : PySem.W.typeIn K (.ref C) = some (.type "type")
  kp : PySem.W.keepIn K (.ref C) = true
section
variable {X : Cx} {pins : List (Addr × Obj)} {σ : L2.St} {H : Hp} {s : Shared} {a C dx : Addr} {f : Str} {y : V} {u : Value} {Q : Unit → Shared → Prop} {E : Value → Shared → Prop} {A : Around}
/-- the store's own part, at library level -/
theorem lay_field {prog : Program} {w : World} {R : Result → Shared → Prop} {hp : Heap} {g : Array GenState} {d : Drawn} {t : Nat} {os : OsState} {K : PySem.W.Frag} {tk : Tok} {v : Value} {fv : Array Value} (Z : ExC K C f) (KI : K.In hp)
    (hx : hp.get? a = some { cls := .ref C, data := .fields fv })
    (fin : ∀ h' tk' dx, (∀ b o, b ≠ a → hp.get? b = some o → h'.get? b = some o) → hp.objs.size ≤ dx → dx ≠ a → h'.get? a = some { cls := .ref C, dict := some dx, data := .fields fv } →
      h'.Ns1 dx (fun y => if y = f then some v else none) → R (.ok (.ret .none)) ⟨h', g, d, tk', os⟩) :
    codeAny (model prog w) A (.call (.builtin "object.__setattr__") ⟨[.ref a, .str f tk, v], []⟩) R ⟨hp, g, d, t, os⟩ := by
  have hlt : a ≠ hp.objs.size := Nat.ne_of_lt (Heap.lt_size hx)
  refine PySem.W.osa_openX (s := ⟨hp, g, d, t, os⟩) (od := none) PySem.F.store_Exception KI ⟨hx, rfl, rfl, trivial⟩ Z.ov Z.tk fun b => ?_
  obtain ⟨cd, hcd, hd⟩ := PySem.W.any_some Z.hd
  have lk : PySem.W.Looks (model prog w) hp (classData C) cd := PySem.W.looks_clsIn KI hcd
  obtain ⟨c1, c2, c3, c4, c5, c6, c7, c8, c9, c10, c11⟩ := cd
  simp only at hd
  subst hd
  cases b <;>
  · unfold Builtin.ObjectAttr.storeInOwnDict Builtin.ObjectAttr.ownDictForStores
    repeat (first | with_reducible refine PySem.HandSPX.store_in_new ?_ ?_ | with_reducible refine wpAny_loadPart_at hx ?_ | with_reducible refine lk.at ?_ | wp_step)
    · exact ⟨_, #[], _, (Heap.get?_update_ne _ _ _ _ hlt.symm).trans (Heap.get?_push_at rfl rfl), rfl, fun e he => absurd he (by simp), fun _ => rfl⟩
    · intro h2 tk2 ns2 sb2
      have up : (hp.push { cls := .type "dict", data := .dict #[] }).get? a = some { cls := .ref C, data := .fields fv } := Heap.get?_push_of_some _ hx
      refine fin h2 tk2 hp.objs.size (fun q o hq ho => ?_) (Nat.le_refl _) hlt.symm ?_ ns2
      · exact (sb2.2 q (Nat.ne_of_lt (Heap.lt_size ho))).trans ((Heap.get?_update_ne _ _ _ _ hq).trans (Heap.get?_push_of_some _ ho))
      · exact (sb2.2 a hlt).trans (Heap.get?_update_self _ up rfl)
/-- self.f = y on an exception that has no dict yet -/
theorem first_field (Z : ExC X.K C f) (I : Inv X pins σ H s) (e : H a = some (exo a C none)) (ry : RelV y u)
    (go : ∀ dx s', H dx = none → dx ≠ a → Inv X pins σ (upd (upd H dx (exd dx [(f, y)])) a (exo a C (some dx))) s' → Q () s') : wpAny (model X.prog X.w) A (setAttr (.ref a) f u) Q E s := by
  obtain ⟨t1, ho⟩ := exo_at I.hok e
  obtain ⟨hp, g, d, t, os⟩ := s
  refine PySem.W.set_plain I.kIn (ox := { cls := .ref C, dict := none, data := .fields #[.ref t1, .none, .none, .none, .bool false, .none] }) (od := none) ⟨ho, rfl, rfl, trivial⟩ Z.sa ?_
  refine lay_field Z I.kIn ho fun h2 tk2 dx keep dn dne hx hn => ?_
  have hnd : H dx = none := I.hok.fresh dn
  have young : ∀ {b : Addr} {o : Obj}, hp.get? b = some o → b ≠ dx := fun {b o} q => Nat.ne_of_lt (Nat.lt_of_lt_of_le (Heap.lt_size q) dn)
  have other : ∀ {b : Addr}, H b = none → b ≠ a := fun {b} n z => by
    rw [z, e] at n
    cases n
  have U : Un X.fs [] H (upd (upd H dx (exd dx [(f, y)])) a (exo a C (some dx))) hp h2 := {
    keep := fun b o q n _ _ => keep b o (other n) q
    slot := fun b o q n _ _ => ⟨o.slots, keep b o (other n) q⟩
    free := fun b o q n _ => by
      rw [upd_ne (other n), upd_ne (young q)]
      exact n
    there := fun b o q _ => by
      by_cases hb : b = a
      · exact ⟨_, by rw [hb]; exact hx⟩
      · exact ⟨o, keep b o hb q⟩
    tups := fun b xs q => by
      rw [upd_ne (at_ne e q exo_tup), upd_ne (ne_of_none q hnd)]
      exact q
    frzs := fun b o v q => by
      rw [upd_ne (at_ne e q exo_frz), upd_ne (ne_of_none q hnd)]
      exact q
    tbls := fun b ps q => ⟨#[], by rw [upd_ne (at_ne e q exo_tbl), upd_ne (ne_of_none q hnd), q]; simp⟩ }
  refine go dx _ hnd dne (I.un (t' := tk2) U fun b o q => ?_)
  by_cases hb : b = a
  · subst hb
    rw [upd_same] at q
    cases q
    exact exo_ok hx
  · rw [upd_ne hb] at q
    by_cases hd : b = dx
    · subst hd
      rw [upd_same] at q
      cases q
      exact exd_ok hn (relO_put (fs := []) ry fun _ => True.intro)
    · rw [upd_ne hd] at q
      refine (I.hok b o q).stay (fun c v hc z => keep c v ?_ z) (fun c hc => ?_) fun c xs hc => ?_
      · rcases hc with hc | hc
        · rw [hc]
          exact hb
        · exact at_ne e hc exo_own
      · rw [upd_ne (at_ne e hc exo_own), upd_ne (ne_of_none hc hnd)]
        exact hc
      · rw [upd_ne (at_ne e hc exo_tup), upd_ne (ne_of_none hc hnd)]
        exact hc
/-- Exception.__init__(self, ..) -/
theorem base_init {us : List Value} {Q : Value → Shared → Prop} (Z : ExC X.K C f) (I : Inv X pins σ H s) (e : H a = some (exo a C none)) (hl : us.length ≤ sizeLine) (go : ∀ s', Inv X pins σ H s' → Q .none s') :
    wpAny (model X.prog X.w) A (call (.builtin "Exception.__init__") (.ref a :: us)) Q E s := by
  obtain ⟨_, _, _, _, _, _, _, _, _, _, _, _, _, _, _, _, hC, hT⟩ := PySem.W.excInit_of I.kIn Z.md
  obtain ⟨t1, ho⟩ := exo_at I.hok e
  obtain ⟨hp, g, d, t, os⟩ := s
  refine wpAny_call (PySem.HandSPX.init_base PySem.F.excBase_Exception hT hC ho hl fun h2 t2 keep hx => ?_)
  have J := I.write (t' := t) (x := a) (e := a) (o := exo a C none) (by rw [e]; exact True.intro) (.inl rfl) keep ⟨_, hx⟩ (exo_ok hx)
  have same : upd H a (exo a C none) = H := by
    funext b
    by_cases hb : b = a
    · rw [hb, upd_same, e]
    · rw [upd_ne hb]
  rw [same] at J
  exact go _ J
end
/-- what the written part says of the base class, read as a name -/
structure BaseT (K : PySem.W.Frag) (mg : Str → Option Value) (x : Str) (B : Addr) (mc : Value) : Prop where
  g : mg x = some (.ref B)
  sp : PySem.W.specialIn K (.ref B) "__getattribute__" = some (some (.builtin "type.__getattribute__"))
  rd : PySem.W.readsIn K B mc = true
  fi : PySem.W.findCls K (.ref B) mc "__init__" = some (.val (.builtin "Exception.__init__"))
section
variable {X : Cx} {e : Expr} {es : List Expr} {ta : TA} {p1 p2 pos : Pos} {x : Str} {B : Addr} {mc : Value}
/-- B.__init__(self, ..), B a class of the text right below Exception -/
theorem pe_binit {pl : Sem Bool} (hg : Gl X x) (Y : BaseT X.K X.mg x B mc) (ha : PA X (e :: es) ta) (hd : (x == ("__debug__" : Str)) = false := by decide)
    (hc : eval (.Call (.Attribute (.Name x p1) "__init__" p2) (e :: es) [] pos) X.env = (do
      let ov ← eval (.Name x p1) X.env
      standAt p2.atName
      let (f, first) ← holding [ov] (getMethod ov "__init__" pl)
      callWith pos f first (backTo pos (starEach (e :: es) X.env)) (backToKw pos (keywordEach [] X.env))) := by rfl)
    (he : starEach (e :: es) X.env = (false, eval e X.env) :: starEach es X.env := by rfl) (hpl : (backTo pos (starEach es X.env)).any (·.1) = false := by rfl) :
    PE X (.Call (.Attribute (.Name x p1) "__init__" p2) (e :: es) [] pos) (fun σ H Q => ta σ H fun vs H1 => ∃ (a C : Addr) (ws : List V) (fld : Str), vs = .ref a :: ws ∧ ws.length ≤ 1000 ∧ ExC X.K C fld ∧ H1 a = some (exo a C none) ∧ Q .non H1) := by
  refine ⟨fun pins s σ H Q I h => ?_⟩
  refine PySem.W.methodCall_KW (ld_glob I hg Y.g ?_ hd) hc
  refine PySem.W.method_cls I.kIn Y.sp (PySem.W.cls_value I.kIn Y.rd Y.fi (by decide +kernel) ?_)
  have I0 : Inv X pins σ H { s with toks := s.toks + 1 } := I.tok _
  show wpAny _ _ (callWith pos (Value.builtin "Exception.__init__") [] (backTo pos (starEach (e :: es) X.env)) []) _ _ _
  refine PyProof.Rows.callWith_method1 (thn (ha.run pos pins _ σ H _ I0 h) fun us s1 ⟨vs, H1, I1, r1, a, C, ws, fld, ev, hl, T, ea, q⟩ => ?_) he hpl
  subst ev
  cases r1 with
  | @cons _ u0 _ ur ra rw' =>
    obtain rfl : u0 = Value.ref a := ra
    have hlen : ur.length ≤ sizeLine := by
      rw [← Paired.length rw', sizeLine_eq]
      omega
    exact base_init T I1 ea hlen fun s' J => ⟨.non, H1, J, rfl, q⟩
end

/-! ### its own __init__ -/
def Fmt (v : V) : Prop := (∃ i : Int, v = .int i ∧ i.natAbs.log2 < 1000) ∨ ∃ y : Str, v = .str y ∧ y.length ≤ 1000
def fmtF : D → Bool
  | .int i => decide (i.natAbs.log2 < 1000)
  | .str y => decide (y.length ≤ 1000)
  | _ => false
theorem Rep.fmt {g : Gc} {F : Hp} {v : V} {d : D} (h : Rep g F v d) (e : fmtF d = true) : Fmt v := by
  cases h <;> simp only [fmtF, Bool.false_eq_true, decide_eq_true_eq] at e
  · exact .inl ⟨_, rfl, e⟩
  · exact .inr ⟨_, rfl, e⟩
/-- the promise of such an __init__ -/
def spEx (K : PySem.W.Frag) (fld : Str) : Sp := fun vs H Q _ => ∃ (a C : Addr) (v : V), vs = [.ref a, v] ∧ ExC K C fld ∧ H a = some (exo a C none) ∧ Fmt v ∧
  ∀ dx, H dx = none → dx ≠ a → Q .non (upd (upd H dx (exd dx [(fld, v)])) a (exo a C (some dx)))
section
variable {X : Cx} {o e : Expr} {to te : TE} {f : Str} {p p' pos : Pos}
theorem ps_first (ho : PE X o to) (he : PE X e te) (hs : swapsWith e (some (.Attribute o f p')) pos.line X.env = pure false := by rfl) :
    PS X (.Assign [.Attribute o f p'] e pos) (fun D σ H => te σ H fun y H1 => to σ H1 fun x H2 => ∃ a C : Addr, x = .ref a ∧ ExC X.K C f ∧ H2 a = some (exo a C none) ∧ ∀ dx, H2 dx = none → dx ≠ a → D.nx σ (upd (upd H2 dx (exd dx [(f, y)])) a (exo a C (some dx)))) := by
  refine ⟨fun pins s σ H D I h => ?_⟩
  refine plainObj_wpAny_Assign_Attribute (thn (he.run pins s σ H _ I h) fun v s1 ⟨y, H1, I1, r1, q1⟩ => thn (ho.run pins s1 σ H1 _ I1 q1) fun u s2 ⟨x, H2, I2, r2, a, C, ex, T, ea, q⟩ => ?_) hs
  subst ex
  obtain rfl : u = Value.ref a := r2
  exact first_field T I2 ea r1 fun dx s' n ne J => ⟨σ, _, J, q dx n ne⟩
/-- the text of an exception: a beginning and the value -/
theorem fmt_parts {pre : Str} {v : V} (hv : Fmt v) (hp : pre.length ≤ 1000) {σ : L2.St} {H : Hp} {i : Nat} (hs : σ[i]? = some (some v)) {Q : Str → Hp → Prop} (q : ∀ z, Q z H) : tJs [tC (.str pre), tFmt (tVar i)] Str.empty σ H Q := by
  have se : (Str.empty ++ pre).length ≤ 1000 := by
    rw [Str.length_append]
    have : Str.empty.length = 0 := rfl
    omega
  have line : sizeLine = 16777216 := sizeLine_eq
  refine ⟨pre, rfl, by omega, v, hs, ?_⟩
  rcases hv with ⟨j, rfl, hj⟩ | ⟨y, rfl, hy⟩
  · refine .inr ⟨j, rfl, by omega, _, rfl, ?_, q _⟩
    have hl : ((toString j : String) : Str).length ≤ 1001 := by
      have := int_text_length_le (a := j) (k := 1000) (by decide) hj
      show (Str.ofString (toString j)).length ≤ 1001
      rw [PySem.ofString_length]
      exact this
    rw [Str.length_append]
    omega
  · refine .inl ⟨y, rfl, by omega, y, rfl, ?_, q _⟩
    rw [Str.length_append]
    omega
end
/-! ### C(e): a new exception -/
def tMkE (fld : Str) (C : Addr) (ta : TA) : L2.St → Hp → XK → Prop := fun σ H Q => ta σ H fun vs H1 => ∃ v, vs = [v] ∧ Fmt v ∧ ∀ d H2, H1 d = none → H2 d = some (.xd [(fld, v)]) → (∀ b o, H1 b = some o → H2 b = some o) → (∀ b o, H2 b = some o → b ≠ d → H1 b = some o) → Q (.ref C) (some d) H2
section
variable {X : Cx} {e : Expr} {ta : TA} {fld x : Str} {C fI : Addr} {k : Nat} {fd : FuncData} {ps : List Str} {p pos : Pos}
theorem pmk_ex {CX : CXT} (Z : ExC X.K C fld) (iC : PySem.W.findIn X.K (.ref C) "__init__" = some (some (.ref fI))) (tI : PySem.W.typeIn X.K (.ref fI) = some (.type "function"))
    (F1 : FnOk X.prog X.w X.K X.mg X.base CX k fI fd ps (spEx X.K fld)) (hr : Room (k + 1) X.A) (hb : Binds X.K fd ps []) (hx : Passes CX X (fun _ _ _ => False)) (hg : Gl X x) (hm : X.mg x = some (.ref C)) (ha : PA X [e] ta)
    (hdb : (x == ("__debug__" : Str)) = false := by decide) (he : starEach (e :: []) X.env = (false, eval e X.env) :: starEach [] X.env := by rfl) (hpl : (backTo pos (starEach [] X.env)).any (·.1) = false := by rfl) :
    PMk X (.Call (.Name x p) [e] [] pos) (tMkE fld C ta) := by
  intro pins s σ H Q I h
  refine wpAny_Call_Name_kw (ld_glob I hg hm ?_ hdb)
  refine PySem.W.callWith_K (h₀ := X.base) I.ok.mod.kin Z.kp (thn (ha.run pos pins s σ H _ I h) fun us s1 ⟨vs, H1, I1, r1, v, ev, hv, q1⟩ => ⟨I1.kIn, ?_⟩) he hpl
  subst ev
  show wpAny _ _ (call (.ref C) us) _ _ _
  obtain ⟨_, _, _, _, _, _, _, _, _, _, _, _, _, _, _, _, hC, hT⟩ := PySem.W.excInit_of I1.kIn Z.md
  have hus : us.length ≤ sizeLine := by
    rw [← Paired.length r1, sizeLine_eq]
    exact (by decide : 1 ≤ 16777216)
  obtain ⟨hp, g, dr, tk, os⟩ := s1
  have young : hp.objs.size ≤ hp.objs.size + 1 := Nat.le_succ _
  have hn : H1 (hp.objs.size + 1) = none := I1.hok.fresh young
  have kk : ∀ b o, hp.get? b = some o → ((hp.push (PySem.W.kdv_tup us)).push (PySem.HandSPX.excO C hp.objs.size)).get? b = some o := fun b o e => Heap.get?_push_of_some _ (Heap.get?_push_of_some _ e)
  have hget : ((hp.push (PySem.W.kdv_tup us)).push (PySem.HandSPX.excO C hp.objs.size)).get? (hp.objs.size + 1) = some (PySem.HandSPX.excO C hp.objs.size) := by heap_get
  have I2 : Inv X pins σ (upd H1 (hp.objs.size + 1) (exo (hp.objs.size + 1) C none)) ⟨(hp.push (PySem.W.kdv_tup us)).push (PySem.HandSPX.excO C hp.objs.size), g, dr, tk, os⟩ :=
    I1.laid (t' := tk) (a := hp.objs.size + 1) (o := exo (hp.objs.size + 1) C none) (h' := (hp.push (PySem.W.kdv_tup us)).push (PySem.HandSPX.excO C hp.objs.size)) kk young (exo_ok hget)
  have r2 : Vals [V.ref (hp.objs.size + 1), v] (Value.ref (hp.objs.size + 1) :: us) := .cons rfl r1
  have wish : spEx X.K fld [V.ref (hp.objs.size + 1), v] (upd H1 (hp.objs.size + 1) (exo (hp.objs.size + 1) C none))
      (fun u H2 => u = .non ∧ ∃ d : Addr, H1 d = none ∧ d ≠ hp.objs.size + 1 ∧ H2 = upd (upd (upd H1 (hp.objs.size + 1) (exo (hp.objs.size + 1) C none)) d (exd d [(fld, v)])) (hp.objs.size + 1) (exo (hp.objs.size + 1) C (some d))) (fun _ _ _ => False) :=
    ⟨hp.objs.size + 1, C, v, rfl, Z, upd_same, hv, fun d hd hdz => ⟨rfl, d, by rw [upd_ne hdz] at hd; exact hd, hdz, rfl⟩⟩
  have hl : (Value.ref (hp.objs.size + 1) :: us).length = ps.length := by
    have e := r2.length
    rw [F1.len _ _ _ _ wish] at e
    exact e.symm
  have bd := hb ⟨(hp.push (PySem.W.kdv_tup us)).push (PySem.HandSPX.excO C hp.objs.size), g, dr, tk, os⟩ (Value.ref (hp.objs.size + 1) :: us) I2.kIn (by rw [List.append_nil]; exact hl)
  rw [List.append_nil] at bd
  have run := F1.run _ X.stack _ _ ⟨Value.ref (hp.objs.size + 1) :: us, []⟩ (Value.ref (hp.objs.size + 1) :: us) _ _ (fun _ _ _ => False) (hr.make C us []) (I2.env0.make C us []) bd r2 wish
  refine wpAny_call (PySem.HandSPX.call_own PySem.F.excBase_Exception hT hC (PySem.W.looks_findIn I1.kIn iC) (fun self => PySem.W.bind_fn I1.kIn self tI) hus (codeAny_mono run fun r s' hq' => ?_))
  cases r with
  | error er => exact hx pins σ _ _ er s' I2 hq'
  | ok fl =>
    cases fl with
    | ret u =>
      obtain ⟨w', H2, os2, bare2, un2, hok2, rv, ev, d, hd1, hdz, eH⟩ := hq'
      subst ev
      obtain ⟨h2, g2, d2, t2, os'⟩ := s'
      have ea : H2 (hp.objs.size + 1) = some (exo (hp.objs.size + 1) C (some d)) := by rw [eH, upd_same]
      have ed : H2 d = some (exd d [(fld, v)]) := by rw [eH, upd_ne hdz, upd_same]
      refine ⟨rv, mk_end (raises_own Z.ex Z.ty) I1 young kk un2 hok2 os2 bare2 ea ed hd1 ?_⟩
      refine q1 d _ hd1 upd_same (fun b o e => ?_) fun b o e hb => ?_
      · rw [upd_ne (ne_of_none e hd1), del_ne (ne_of_none e hn), eH, upd_ne (ne_of_none e hn), upd_ne (ne_of_none e hd1), upd_ne (ne_of_none e hn)]
        exact e
      · rw [upd_ne hb] at e
        have hbz : b ≠ hp.objs.size + 1 := fun q => by
          rw [q, del_same] at e
          cases e
        rw [del_ne hbz, eH, upd_ne hbz, upd_ne hb, upd_ne hbz] at e
        exact e
    | next => exact False.elim hq'
    | brk => exact False.elim hq'
    | cont => exact False.elim hq'
end
end Mp
set_option Elab.async false
set_option linter.all false
set_option maxRecDepth 100000
set_option maxHeartbeats 4000000
/-! raise, try .. except .. as -/
namespace Mp
open PySem PySem.Spec PyProof.Rows L2

section
variable {g : Gc} {W : WX} {φ : Fc} {X : Cx} {k : Nat} {F F' : Hp} {σ : L2.St} {H H' : Hp} {env : Env}
/-- the heap has grown, nothing is settled -/
theorem Rel.more (r : Rel g φ F σ H env) (h : ∀ b o, H b = some o → H' b = some o) : Rel g φ F σ H' env :=
  ⟨fun b o e => h b o (r.ex b o e), r.ex0, r.new, fun b o e hb => h b o (r.fr b o e hb), r.len, r.va,
    fun i b xs e => let ⟨a, vs, h1, h2, h3⟩ := r.ow i b xs e; ⟨a, vs, h1, h a _ h2, h3⟩, r.dj, r.ioh⟩
/-- .. and something is settled -/
theorem Rel.grow (r : Rel g φ F σ H env) (s : Same F F') (e : Same F' H') (n : ∀ b o, F' b = some o → F b = some o ∨ H b = none) (h : ∀ b o, H b = some o → H' b = some o) : Rel g φ F' σ H' env := by
  refine ⟨e, r.ex0.trans s, fun b o q => ?_, fun b o q hb => h b o (r.fr b o q hb), r.len, fun i d q => ?_, fun i b xs q => ?_, r.dj, r.ioh⟩
  · rcases n b o q with z | z
    · exact r.new b o z
    · exact .inr (r.h0 z)
  · obtain ⟨v, h1, h2⟩ := r.va i d q
    exact ⟨v, h1, h2.mono s⟩
  · obtain ⟨a, vs, h1, h2, h3, h4, h5⟩ := r.ow i b xs q
    refine ⟨a, vs, h1, h a _ h2, ?_, h4.mono s, h5⟩
    cases z : F' a with
    | none => rfl
    | some o =>
      rcases n a o z with z | z
      · rw [h3] at z
        cases z
      · rw [h2] at z
        cases z

/-! ### raise -/
def mRaise (cn : Str) (m : ME) : MS := fun env => (m env).flow fun d e => if fmtF d = true then .exc cn d e else .no
/-- the class cn of the text: an exception over Exception with one attribute -/
structure HasX (P : Program) (w : World) (mg : Str → Option Value) (base : Heap) (g : Gc) (k : Nat) (cn : Str) : Prop where
  ex : ∃ (C fI : Addr) (fd : FuncData) (ps : List Str) (fld : Str), ExC g.K C fld ∧ PySem.W.findIn g.K (.ref C) "__init__" = some (some (.ref fI)) ∧ PySem.W.typeIn g.K (.ref fI) = some (.type "function") ∧
    FnOk P w g.K mg base (L2.CX P w) k fI fd ps (spEx g.K fld) ∧ Binds g.K fd ps [] ∧ mg cn = some (.ref C) ∧ g.xc cn = some (C, fld)
theorem ss_raise {cn : Str} {kk : Nat} {e : Expr} {m : ME} {p cpos pos : Pos} (c : Cok g X W k) (h : HasX X.prog X.w X.mg X.base g kk cn) (hk : kk + 1 ≤ k) (hg : Gl X cn) (ha : SE g W φ X e m)
    (hdb : (cn == ("__debug__" : Str)) = false := by decide) (he : starEach (e :: []) X.env = (false, eval e X.env) :: starEach [] X.env := by rfl) (hpl : (backTo cpos (starEach [] X.env)).any (·.1) = false := by rfl) :
    SS g W φ X (.Raise (some (.Call (.Name cn p) [e] [] cpos)) none pos) (mRaise cn m) := by
  intro F σ H env En hr hp
  obtain ⟨C, fI, fd, ps, fld, Z, iC, tI, Fo, hb, hm, hx⟩ := h.ex
  rw [← c.K] at Z iC tI Fo hb
  refine ⟨_, ps_raise c.calm c.tk (pmk_ex Z iC tI Fo (c.rm.mono hk) hb passL hg hm w_pa hdb he hpl), ?_⟩
  refine sa_cons (SV.of ha) sa_nil he F σ H env _ hr ?_
  unfold mRaise at hp
  cases e1 : m env with
  | no => rw [e1] at hp; exact hp.elim
  | exc c2 v2 e2 => rw [e1] at hp; simp only [aCons, e1, Re.bind]; exact hp
  | ok d e2 =>
    rw [e1] at hp
    simp only [aCons, aNil, e1, Re.bind]
    have hp : PoS g W φ F En (if fmtF d = true then .exc cn d e2 else .no) := hp
    by_cases hf : fmtF d = true
    · rw [if_pos hf] at hp
      intro vs H1 F1 s1 r1 p1
      have hl := p1.len
      match vs, hl with
      | [v], _ =>
        have rv : Rep g F1 v d := p1.at_ 0 v (.va d) rfl rfl
        refine ⟨v, rfl, rv.fmt hf, fun dd H2 hn h2 h3 h4 => ?_⟩
        exact hp C fld dd v σ H2 F1 hx s1 (r1.more h3) h2 rv
    · rw [if_neg hf] at hp
      exact hp.elim

/-! ### try: body, except x as n: return f(n.at) -/
/-- n.fld, n the exception that the suite holds -/
theorem pe_held {a C : Addr} {oe : Obj} {cls : Value} {d : Option Addr} {pn : List (Addr × Obj)} {e : Expr} {te : TE} {fld : Str} {pos : Pos} (Z : ExC X.K C fld) (hz : Zc cls d oe) (hf : ∃ vs, oe.data = .fields vs) (he : PE (X.suite a ((a, oe) :: pn)) e te)
    (hb : attributeBase e fld X.env (eval e X.env) = eval e X.env) :
    PE (X.suite a ((a, oe) :: pn)) (.Attribute e fld pos) (fun σ H Q => te σ H fun x H1 => x = .ref a ∧ cls = .ref C ∧ ∃ (dd : Addr) (v : V), d = some dd ∧ H1 dd = some (.xd [(fld, v)]) ∧ Q v H1) := by
  refine ⟨fun pins s σ H Q I h => attr_of hb (thn (he.run pins s σ H _ I h) fun u s1 z => ?_)⟩
  obtain ⟨x, H1, I1, rx, rfl, rfl, dd, v, rfl, ea, q⟩ := z
  obtain rfl : u = Value.ref a := rx
  obtain ⟨vs, hd⟩ := hf
  have pin := (I1.pin (a, oe) (List.mem_append_left _ List.mem_cons_self)).1
  obtain ⟨mA, hns, hr⟩ := (show ObjOk X.prog X.w H1 s1.heap dd (.xd [(fld, v)]) from I1.hok dd _ ea)
  obtain ⟨od, ho, hl⟩ := lookIn_ns hns
  have l : List.lookup fld [(fld, v)] = some v := by simp [List.lookup]
  obtain ⟨y, hy, ry⟩ := RelO.some_of (v := v) (o := mA fld) (l ▸ hr fld)
  refine HandSPX.exc_get I1.kIn ⟨pin, hz.1, ?_, hz.2 ▸ ho⟩ Z.ga Z.gg Z.ex (PySem.W.findObj_own Z.hd Z.no rfl ((hl _).trans (congrArg some hy))) (handed_of ry) ⟨v, H1, I1.tok _, ry, q⟩
  unfold PySem.W.notCls
  rw [hd] <;> rfl
/-- does a clause for the class take an exception of the class, and with which attribute -/
structure Catch (g : Gc) (C : Value) (f : Str) (sub : Str → Option Bool) : Prop where
  ok : ∀ c' C' fld b, g.xc c' = some (C', fld) → sub c' = some b → PySem.W.exmOne g.K (.ref C') C = some b ∧ (b = true → fld = f ∧ ExC g.K C' f)
/-- try: body, except x as n: return n.f -/
def mTryAt (i : Nat) (sub : Str → Option Bool) (mb : MS) : MS := fun env => match mb env with
  | .exc c v e => match sub c with
    | some true => if i < e.length then .rt v e else .no
    | some false => .exc c v e
    | none => .no
  | r => r
theorem ss_tryAt {i : Nat} {x n f : Str} {C : Value} {sub : Str → Option Bool} {body : List Stmt} {mb : MS} {np npos fpos rpos pos' pos : Pos} (c : Cok g X W k) (hs : X.stack = X.env :: X.outer) (hf : X.env.frame = some X.env.locals)
    (K : Catch g C f sub) (hi : X.N[i]? = some n) (hln : X.env.kindOf n = some .local) (hc : Names X x C)
    (hb : ∀ (W' : WX) (pn : List (Addr × Obj)) (xe : Value → Shared → Prop), Cok g (X.tr pn xe) W' k → SB g W' φ (X.tr pn xe) body mb)
    (hab : attributeBase (.Name n npos) f X.env (eval (.Name n npos) X.env) = eval (.Name n npos) X.env := by rfl) (hd : (n == ("__debug__" : Str)) = false := by decide) (hcd : (n == ("__classdict__" : Str)) = false := by decide) :
    SS g W φ X (.Try body [.ExceptHandler (some (.Name x np)) (some n) [.Return (some (.Attribute (.Name n npos) f fpos)) rpos] pos'] [] [] pos) (mTryAt i sub mb) := by
  intro F σ H env En hr hp
  refine ⟨_, ps_try_as (Wout := W) (c := C) (i := i)
    (tb := fun W' => fun D σ H => ∀ pn xe, Takes (X.tr pn xe) W' → PassesOwn (model X.prog X.w) X.A X.env xe → wB (X.tr pn xe) body D σ H)
    (ts := fun a cls d => fun D σ H => ∃ (C' dd : Addr) (v : V), cls = .ref C' ∧ d = some dd ∧ ExC X.K C' f ∧ σ[i]? = some (some (.ref a)) ∧ H dd = some (.xd [(f, v)]) ∧ D.rt v H)
    hs hf c.nd hi hln hc c.tk (fun W' pn xe tk po => ⟨fun pins s σ H D I h => w_pb.run pins s σ H D I (h pn xe tk po)⟩)
    (fun a oe cls d pn hz hfl => ⟨fun pins s σ H D I h => ?_⟩), ?_⟩
  · obtain ⟨C', dd, v, rfl, rfl, Z, h1, h2, h3⟩ := h
    refine (pss_one (ps_ret (pe_held (pn := pn) Z hz hfl (pe_var (i := i) hi (.inl hln) hd hcd) hab))).run pins s σ H D I ?_
    exact ⟨.ref a, h1, rfl, rfl, dd, v, rfl, h2, h3⟩
  · intro pn xe tk po
    refine hb _ pn xe ⟨c.K, c.calm, c.nd, tk, c.rm, po⟩ F σ H env En hr ?_
    unfold mTryAt at hp
    cases e1 : mb env with
    | nx e2 => rw [e1] at hp; exact hp
    | rt d e2 => rw [e1] at hp; exact hp
    | br e2 => rw [e1] at hp; exact hp
    | ct e2 => rw [e1] at hp; exact hp
    | no => rw [e1] at hp; exact hp
    | exc cn v e2 =>
      rw [e1] at hp
      simp only at hp
      intro C' fld dd vv σ' H' F' hx s1 r1 h1 h2
      cases e3 : sub cn with
      | none => rw [e3] at hp; exact hp.elim
      | some b =>
        rw [e3] at hp
        obtain ⟨k1, k2⟩ := K.ok cn C' fld b hx e3
        refine ⟨b, c.K ▸ k1, fun hb1 a ha => ?_, fun hb1 => ?_⟩
        · subst hb1
          obtain ⟨rfl, Z⟩ := k2 rfl
          have hp : PoS g W φ F En (if i < e2.length then .rt v e2 else .no) := hp
          by_cases hlt : i < e2.length
          · rw [if_pos hlt] at hp
            exact ⟨C', dd, vv, rfl, rfl, c.K ▸ Z, set_get (r1.len ▸ hlt), h1, hp vv σ' H' F' s1 r1 h2⟩
          · rw [if_neg hlt] at hp
            exact hp.elim
        · subst hb1
          exact hp C' fld dd vv σ' H' F' hx s1 r1 h1 h2
end
end Mp
set_option Elab.async false
set_option linter.all false
set_option maxRecDepth 100000
set_option maxHeartbeats 4000000
/-! classes of the program: their __init__, attributes, properties, == -/
namespace Mp
open PySem PySem.Spec PyProof.Rows L2

def isOwS : Sl → Bool
  | .ow _ _ => true
  | _ => false
def noOw (e : Env) : Bool := e.all fun s => !isOwS s
theorem noOw_at {e : Env} (h : noOw e = true) {i : Nat} {b : Bool} {xs : List D} (q : e[i]? = some (Sl.ow b xs)) : False := by
  have := List.all_eq_true.mp h _ (List.mem_of_getElem? q)
  simp [isOwS] at this

section
variable {g : Gc} {W : WX} {φ : Fc} {X : Cx} {k : Nat} {F F' : Hp} {σ : L2.St} {H H' : Hp} {env : Env}
/-- nothing is one's own: the frame may begin anew -/
theorem Rel.fresh (hx : Same F H) (hl : σ.length = env.length) (hv : ∀ (i : Nat) (d : D), env[i]? = some (Sl.va d) → ∃ v, σ[i]? = some (some v) ∧ Rep g F v d) (hn : noOw env = true) : Rel g ⟨[], H, F⟩ F σ H env :=
  ⟨hx, Same.refl _, fun b o e => .inl e, fun b o e _ => e, hl, hv, fun i b xs e => (noOw_at hn e).elim, fun i j b c xs ys a e => (noOw_at hn e).elim, fun p hp => by cases hp⟩

theorem putF_new {f : Str} {v : V} : ∀ {ns : List Str} {vs : List V}, f ∉ ns → ns.length = vs.length → putF f v (ns.zip vs) = (ns ++ [f]).zip (vs ++ [v])
  | [], [], _, _ => rfl
  | [], _ :: _, _, h => by simp at h
  | _ :: _, [], _, h => by simp at h
  | n :: ns, w :: vs, hn, hl => by
    have ih := putF_new (f := f) (v := v) (ns := ns) (vs := vs) (fun h => hn (List.mem_cons_of_mem _ h)) (by simpa using hl)
    have ne : ¬ n = f := fun z => hn (z ▸ List.mem_cons_self)
    show (if n = f then _ else (n, w) :: putF f v (ns.zip vs)) = _
    rw [if_neg ne, ih]
    rfl
theorem lookup_zip {f : Str} : ∀ {ns : List Str} {vs : List V} {i : Nat} {v : V}, ns[i]? = some f → ns.Nodup → ns.length = vs.length → vs[i]? = some v → (ns.zip vs).lookup f = some v
  | [], _, i, _, h, _, _, _ => by simp at h
  | _ :: _, [], _, _, _, _, h, _ => by simp at h
  | n :: ns, w :: vs, i, v, h, hn, hl, hv => by
    cases i with
    | zero =>
      simp only [List.getElem?_cons_zero, Option.some.injEq] at h hv
      subst h hv
      simp [List.zip_cons_cons, List.lookup]
    | succ i =>
      simp only [List.getElem?_cons_succ] at h hv
      have ne : (f == n) = false := by
        refine beq_eq_false_iff_ne.mpr fun z => ?_
        rw [z] at h
        exact (List.nodup_cons.mp hn).1 (List.mem_of_getElem? h)
      simp only [List.zip_cons_cons, List.lookup, ne]
      exact lookup_zip h (List.nodup_cons.mp hn).2 (by simpa using hl) hv

/-! ### the stores at the end of an __init__ -/
/-- what a class of the text is, as far as its own attributes go -/
structure ClO (g : Gc) (cn : Str) (C : Addr) (ns : List Str) : Prop where
  cl : g.cl cn = some (C, ns)
  cls : Cls g.K C
  nd : ns.Nodup
  no : ∀ f ∈ ns, NoAttr g.K C f
  le : ns.length < 1000
/-- self.f = e, .. -/
inductive Stores (g : Gc) (X : Cx) : List Stmt → List (Str × ME) → Prop
  | nil : Stores g X [] []
  | cons {y f : Str} {e : Expr} {m : ME} {p p' pos : Pos} {body : List Stmt} {l : List (Str × ME)} (he : ∀ φ, SE g W0 φ X e m) (hs : swapsWith e (some (.Attribute (.Name y p) f p')) pos.line X.env = pure false)
      (hN : X.N[0]? = some y) (hv : Vis X.env.scope y) (hd : (y == ("__debug__" : Str)) = false) (hcd : (y == ("__classdict__" : Str)) = false) (r : Stores g X body l) : Stores g X (.Assign [.Attribute (.Name y p) f p'] e pos :: body) ((f, m) :: l)
def stF : List (Str × ME) → Env → Option (List D)
  | [], _ => some []
  | (_, m) :: l, env => if noOw env = true then match m env with
    | .ok d e' => (stF l e').map (d :: ·)
    | _ => none
    else none
theorem stores_ok {C x dx : Addr} {cn : Str} {ns : List Str} (hK : X.K = g.K) (c : ClO g cn C ns) : ∀ {body : List Stmt} {l : List (Str × ME)}, Stores g X body l → ∀ {done : List Str} {vs : List V} {ds : List D} {fs : List D} {En : Ends} {F : Hp} {σ : L2.St} {H : Hp} {env : Env},
    ns = done ++ l.map (·.1) → Same F H → σ.length = env.length → (∀ (i : Nat) (d : D), env[i]? = some (Sl.va d) → ∃ v, σ[i]? = some (some v) ∧ Rep g F v d) → σ[0]? = some (some (.ref x)) → H x = some (.ins C dx (done.zip vs)) → F x = none →
    done.length = vs.length → Reps g F vs ds → stF l env = some fs →
    (∀ H' F' us σ', Same F F' → Same F' H' → (∀ b o, F' b = some o → F b = some o ∨ H b = none) → (∀ b o, H b = some o → b ≠ x → H' b = some o) → H' x = some (.ins C dx (ns.zip us)) → F' x = none → ns.length = us.length → Reps g F' us (ds ++ fs) → En.nx σ' H') →
    wB X body En σ H := by
  intro body l hst
  induction hst with
  | nil =>
    intro done vs ds fs En F σ H env en hx hl hv h0 hH hF hd hr hs q
    simp only [stF, Option.some.injEq] at hs
    subst hs
    simp only [List.map_nil, List.append_nil] at en
    subst en
    refine ⟨_, pss_nil, q H F vs σ (Same.refl _) hx (fun b o e => .inl e) (fun b o e _ => e) hH hF hd ?_⟩
    rw [List.append_nil]
    exact hr
  | @cons y f e m p p' pos body l he hsw hN hvis hdb hcd r ih =>
    intro done vs ds fs En F σ H env en hx hl hv h0 hH hF hd hr hs q
    simp only [stF] at hs
    by_cases hn : noOw env = true
    · rw [if_pos hn] at hs
      cases em : m env with
      | no => simp only [em, reduceCtorEq] at hs
      | exc c2 v2 e2 => simp only [em, reduceCtorEq] at hs
      | ok d e' =>
        simp only [em, Option.map_eq_some_iff] at hs
        obtain ⟨fs', hs1, hs2⟩ := hs
        subst hs2
        refine ⟨_, pss_cons (ps_fld (pe_var (i := 0) hN hvis hdb hcd) w_pe hsw) w_pb, ?_⟩
        refine he ⟨[], H, F⟩ F σ H env _ (Rel.fresh hx hl hv hn) ?_
        rw [em]
        intro v H1 F1 s1 r1 p1
        have hx1 : H1 x = some (.ins C dx (done.zip vs)) := r1.fr x _ hH fun p hp => by cases hp
        have hF1 : F1 x = none := by
          cases z : F1 x with
          | none => rfl
          | some o =>
            rcases r1.new x o z with z | z
            · have z' : F x = some o := z
              rw [hF] at z'
              cases z'
            · have z' : H x = none := z
              rw [hH] at z'
              cases z'
        have hfn : f ∈ ns := by
          rw [en]
          simp
        have hfd : f ∉ done := fun z => by
          have nd := c.nd
          rw [en] at nd
          exact (List.nodup_append.mp nd).2.2 f z f (by simp) rfl
        have len : done.length < 1000 := by
          have := c.le
          rw [en, List.length_append] at this
          omega
        refine ⟨.ref x, h0, x, C, dx, done.zip vs, rfl, hx1, hK ▸ c.cls, hK ▸ c.no f hfn, by rw [List.length_zip]; omega, ?_⟩
        rw [putF_new hfd hd]
        refine ih (done := done ++ [f]) (vs := vs ++ [v]) (ds := ds ++ [d]) (F := F1) (env := e') (by rw [en]; simp) (fun b o z => ?_) r1.len r1.va h0 upd_same hF1 (by simp [hd]) ((hr.mono s1).append (.cons p1 .nil)) hs1 fun H' F' us σ' a1 a2 a3 a4 a5 a6 a7 a8 => ?_
        · rw [upd_ne (fun w => by rw [w, hF1] at z; cases z)]
          exact r1.ex b o z
        · refine q H' F' us σ' (s1.trans a1) a2 (fun b o z => ?_) (fun b o z hb => ?_) a5 a6 a7 (by simpa using a8)
          · rcases a3 b o z with z | z
            · rcases r1.new b o z with z | z
              · exact .inl z
              · exact .inr z
            · by_cases hb : b = x
              · subst hb
                rw [upd_same] at z
                cases z
              · rw [upd_ne hb] at z
                cases zz : H b with
                | none => exact .inr rfl
                | some o2 =>
                  rw [r1.fr b o2 zz fun p hp => by cases hp] at z
                  cases z
          · refine a4 b o ?_ hb
            rw [upd_ne hb]
            exact r1.fr b o z fun p hp => by cases hp
    · rw [if_neg hn] at hs
      cases hs
end
/-! ### its promise -/
inductive IR where
  | ok (fs : List D) | exc (c : Str) (v : D) | no
def spInit (g : Gc) (C : Addr) (ns : List Str) (fi : List D → IR) : Sp := fun vs H Q E => ∃ (F : Hp) (x dx : Addr) (vs' : List V) (ds : List D), vs = .ref x :: vs' ∧ H x = some (.ins C dx []) ∧ F x = none ∧ Same F H ∧ Reps g F vs' ds ∧
  match fi ds with
  | .ok fs => ∀ H' F' us, Same F F' → Same F' H' → (∀ b o, F' b = some o → F b = some o ∨ H b = none) → (∀ b o, H b = some o → b ≠ x → H' b = some o) → H' x = some (.ins C dx (ns.zip us)) → F' x = none → ns.length = us.length → Reps g F' us fs → Q .non H'
  | .exc c v => ∀ Cx fld dd vv H' F', g.xc c = some (Cx, fld) → Same F F' → Same F' H' → (∀ b o, F' b = some o → F b = some o ∨ H b = none) → (∀ b o, H b = some o → H' b = some o) → H' dd = some (.xd [(fld, vv)]) → Rep g F' vv v → E (.ref Cx) (some dd) H'
  | .no => False
/-- the run of an __init__: statements, then stores; x the object's place, n how many names -/
def runInit (np n : Nat) (pre : MS) (l : List (Str × ME)) (x : Addr) (ds : List D) : IR := if ds.length + 1 = np then
    match pre (.va (.adr x) :: ds.map .va ++ List.replicate (n - np) .un) with
    | .nx e => match e with
      | .va (.adr y) :: e' => if y = x then (match stF l (.va (.adr y) :: e') with
        | some fs => .ok fs
        | none => .no) else .no
      | _ => .no
    | .exc c v _ => .exc c v
    | _ => .no
  else .no

section
variable (g : Gc) (W : WX) (φ : Fc)
/-- statements, then the stores l -/
def IBody (X : Cx) (body : List Stmt) (m : MS) (l : List (Str × ME)) : Prop := ∀ F σ H env En, Rel g φ F σ H env →
  PoS g W φ F { En with nx := fun σ' H' => ∀ rest, Stores g X rest l → wB X rest En σ' H' } (m env) → wB X body En σ H
end
section
variable {g : Gc} {W : WX} {φ : Fc} {X : Cx} {k : Nat}
theorem ib_st {r : List Stmt} {l : List (Str × ME)} (h : Stores g X r l) : IBody g W φ X r (fun e => .nx e) l := fun F σ H env En hr hp => hp σ H F (Same.refl _) hr r h
theorem ib_cons {s : Stmt} {r : List Stmt} {m n : MS} {l : List (Str × ME)} (h : SS g W φ X s m) (t : IBody g W φ X r n l) : IBody g W φ X (s :: r) (mSeq m n) l := by
  intro F σ H env En hr hp
  refine ⟨_, pss_cons w_ps w_pb, h F σ H env _ hr ?_⟩
  unfold mSeq at hp
  cases e : m env with
  | nx e1 =>
    rw [e] at hp
    exact fun σ' H' F' s1 r1 => t F' σ' H' e1 En r1 (PoS.mono s1 hp)
  | rt d e1 => rw [e] at hp; exact hp
  | br e1 => rw [e] at hp; exact hp
  | ct e1 => rw [e] at hp; exact hp
  | exc c v e1 => rw [e] at hp; exact hp
  | no => rw [e] at hp; exact hp
theorem init_ok {P : Program} {w : World} {mg : Str → Option Value} {base : Heap} {nm qual cn : Str} {st : Stmt} {f C : Addr} {fd : FuncData} {N ps ns : List Str} {pre : MS} {l : List (Str × ME)} {fi : List D → IR} (Fu : Fun g.K nm qual st f fd) (S : FnScope N ps (defScope st)) (hl : ps.length ≤ N.length)
    (co : ClO g cn C ns) (hns : ns = l.map (·.1)) (hfi : ∀ x ds, runInit ps.length N.length pre l x ds = fi ds)
    (hbody : ∀ (cdv : Value) (A : Around) (outer : List PySem.Env) (s : Shared) (H : Hp) (E : XK) (φ : Fc), Cok g (cxOf (L2.CX P w) P w g.K mg base N qual (defScope st) f cdv A outer s H E) (fun cls d _ H => E cls d H) k →
      IBody g (fun cls d _ H => E cls d H) φ (cxOf (L2.CX P w) P w g.K mg base N qual (defScope st) f cdv A outer s H E) (defBody st) pre l) :
    FnOk P w g.K mg base (L2.CX P w) (k + 1) f fd ps (spInit g C ns fi) := by
  refine Fu.okX S (fun vs H Q E h => ?_) (fun cdv A outer s H vs Q E hr h => ?_)
  · obtain ⟨F, x, dx, vs', ds, rfl, hx, hF, hS, hR, h⟩ := h
    rw [← hfi x ds] at h
    unfold runInit at h
    by_cases hz : ds.length + 1 = ps.length
    · rw [List.length_cons, hR.len, hz]
    · rw [if_neg hz] at h
      exact h.elim
  · obtain ⟨F, x, dx, vs', ds, rfl, hx, hF, hS, hR, h⟩ := h
    rw [← hfi x ds] at h
    unfold runInit at h
    by_cases hz : ds.length + 1 = ps.length
    · rw [if_pos hz] at h
      have c : Cok g (cxOf (L2.CX P w) P w g.K mg base N qual (defScope st) f cdv A outer s H E) (fun cls d _ H => E cls d H) k := ⟨rfl, rfl, S.nd, takes_of rfl rfl rfl rfl, hr, passes_of rfl⟩
      have hlen : (V.ref x :: vs').length = ps.length := by rw [List.length_cons, hR.len, hz]
      have r1 : Rel g ⟨[], H, F⟩ F ((V.ref x :: vs').map some) H (.va (.adr x) :: ds.map .va) := by
        refine Rel.fresh hS (by simp [hR.len]) (fun i d e => ?_) ?_
        · cases i with
          | zero =>
            simp only [List.getElem?_cons_zero, Option.some.injEq, Sl.va.injEq] at e
            subst e
            exact ⟨.ref x, rfl, .adr x⟩
          | succ i =>
            simp only [List.getElem?_cons_succ, List.getElem?_map, Option.map_eq_some_iff, Sl.va.injEq, exists_eq_right] at e
            obtain ⟨v, q1, q2⟩ := hR.get e
            exact ⟨v, by simp [q1], q2⟩
        · unfold noOw
          rw [List.all_eq_true]
          intro q hq
          rcases List.mem_cons.mp hq with hq | hq
          · rw [hq]
            rfl
          · obtain ⟨d, _, rfl⟩ := List.mem_map.mp hq
            rfl
      have r0 := r1.start (N := N) (n := N.length) rfl (by omega)
      rw [hlen] at r0
      obtain ⟨t, h1, h2⟩ := hbody cdv A outer s H E ⟨[], H, F⟩ c F (L2.start N (.ref x :: vs')) H _ { nx := fun _ H' => Q .non H', rt := Q } r0 (by
        cases hb : pre (.va (.adr x) :: ds.map .va ++ List.replicate (N.length - ps.length) Sl.un) with
        | no => rw [hb] at h; exact h.elim
        | br e => rw [hb] at h; exact h.elim
        | ct e => rw [hb] at h; exact h.elim
        | rt d e => rw [hb] at h; exact h.elim
        | exc cn v e =>
          rw [hb] at h
          exact fun C' fld dd vv σ' H' F' q1 q2 q3 q4 q5 => h C' fld dd vv H' F' q1 q2 q3.ex (fun b o z => q3.new b o z) (fun b o z => q3.fr b o z fun p hp => by cases hp) q4 q5
        | nx e =>
          rw [hb] at h
          simp only at h
          match e, h with
          | .va (.adr y) :: e', h =>
            simp only at h
            by_cases hy : y = x
            · subst hy
              rw [if_pos rfl] at h
              cases hs : stF l (.va (.adr y) :: e') with
              | none => rw [hs] at h; exact h.elim
              | some fs =>
                rw [hs] at h
                intro σ' H' F' s1 r2 rest hrest
                obtain ⟨v0, z1, z2⟩ := r2.va 0 (.adr y) rfl
                have ev : v0 = .ref y := by cases z2; rfl
                subst ev
                have hx2 : H' y = some (.ins C dx []) := r2.fr y _ hx fun p hp => by cases hp
                have hF2 : F' y = none := by
                  cases z : F' y with
                  | none => rfl
                  | some o =>
                    rcases r2.new y o z with z | z
                    · have z' : F y = some o := z
                      rw [hF] at z'
                      cases z'
                    · have z' : H y = none := z
                      rw [hx] at z'
                      cases z'
                refine stores_ok c.K co hrest (done := []) (vs := []) (ds := []) (fs := fs) (by simpa using hns) r2.ex r2.len r2.va z1 hx2 hF2 rfl .nil hs fun H3 F3 us σ3 a1 a2 a3 a4 a5 a6 a7 a8 => ?_
                refine h H3 F3 us (s1.trans a1) a2 (fun b o z => ?_) (fun b o z hb => a4 b o (r2.fr b o z fun p hp => by cases hp) hb) a5 a6 a7 a8
                rcases a3 b o z with z | z
                · exact r2.new b o z
                · right
                  cases zz : H b with
                  | none => rfl
                  | some o2 =>
                    rw [r2.fr b o2 zz fun p hp => by cases hp] at z
                    cases z
            · rw [if_neg hy] at h
              exact h.elim)
      exact ⟨t, h1, h2⟩
    · rw [if_neg hz] at h
      exact h.elim
end

/-! ### C(e, ..) -/
structure HasMk (P : Program) (w : World) (mg : Str → Option Value) (base : Heap) (g : Gc) (k : Nat) (cn : Str) (fi : List D → IR) : Prop where
  ex : ∃ (C fI : Addr) (fd : FuncData) (ps ns : List Str), Mk g.K C fI ∧ FnOk P w g.K mg base (L2.CX P w) k fI fd ps (spInit g C ns fi) ∧ Binds g.K fd ps [] ∧ mg cn = some (.ref C) ∧ g.cl cn = some (C, ns)
def makeF (cn : Str) (fi : List D → IR) (as : List Av) (e : Env) : Re D := match vals as with
  | none => .no
  | some ds => match fi ds with
    | .ok fs => .ok (.obj cn fs) e
    | .exc c v => .exc c v e
    | .no => .no
def mMake (cn : Str) (fi : List D → IR) (m : MA) : ME := fun env => (m env).bind fun as e => makeF cn fi as e
section
variable {g : Gc} {W : WX} {φ : Fc} {X : Cx} {k : Nat} {F F' : Hp} {σ : L2.St} {H H' : Hp} {env : Env}
theorem run_makeS {CX : CXT} {pins : List (Addr × Obj)} {s : Shared} {Q : VK} {us : List Value} {vs : List V} {C f : Addr} {fd : FuncData} {ps : List Str} {sp : Sp} {E : L2.St → XK} (M : Mk X.K C f) (Fo : FnOk X.prog X.w X.K X.mg X.base CX k f fd ps sp) (hr : Room (k + 1) X.A) (hb : Binds X.K fd ps [])
    (hx : PassesAt CX X σ (E σ)) (I : Inv X pins σ H s) (r : Vals vs us) (h : ∀ x dx, H x = none → H dx = none → dx ≠ x → sp (.ref x :: vs) (upd (upd H dx (.own x)) x (.ins C dx [])) (fun v H2 => v = .non ∧ Q (.ref x) H2) (E σ)) :
    wpAny (model X.prog X.w) X.A (call (.ref C) us) (EP X pins σ Q) X.xe s := by
  have w := h (s.heap.objs.size + 1) s.heap.objs.size (I.hok.fresh (Nat.le_succ _)) (I.hok.fresh (Nat.le_refl _)) (Nat.ne_of_lt (Nat.lt_succ_self _))
  have J := Inv.made (C := C) I
  have rr : Vals (V.ref (s.heap.objs.size + 1) :: vs) (Value.ref (s.heap.objs.size + 1) :: us) := .cons rfl r
  have n : (Value.ref (s.heap.objs.size + 1) :: us).length = ps.length := rr.length.symm.trans (Fo.len _ _ _ _ w)
  have bd := hb _ (Value.ref (s.heap.objs.size + 1) :: us) J.kIn (by rw [List.append_nil]; exact n)
  rw [List.append_nil] at bd
  have run := Fo.run _ X.stack _ _ ⟨Value.ref (s.heap.objs.size + 1) :: us, []⟩ (Value.ref (s.heap.objs.size + 1) :: us) _ _ (E σ) (hr.make C us []) (J.env0.make C us []) bd rr w
  refine wpAny_call (make_map (f := f) I.kIn M.makes M.init (beq_iff_eq.mp M.fn) (codeAny_mono run fun q s' hq => ?_))
  match q, hq with
  | .error e, hq => exact hx pins _ _ e s' J hq
  | .ok (.ret u), hq =>
    obtain ⟨v, H', I3, rv, ev, q3⟩ := J.after hq
    subst ev
    exact ⟨rv, V.ref (s.heap.objs.size + 1), H', I3, rfl, q3⟩
theorem pe_makeS {CX : CXT} {C f : Addr} {fd : FuncData} {ps : List Str} {sp : Sp} {E : L2.St → XK} {x : Str} {p pos : Pos} {e : Expr} {es : List Expr} {t : TA} (M : Mk X.K C f) (Fo : FnOk X.prog X.w X.K X.mg X.base CX k f fd ps sp) (hr : Room (k + 1) X.A) (hg : Gl X x) (hm : X.mg x = some (.ref C))
    (hb : Binds X.K fd ps []) (hx : ∀ σ, PassesAt CX X σ (E σ)) (ha : PA X (e :: es) t) (hdb : (x == ("__debug__" : Str)) = false) (he : starEach (e :: es) X.env = (false, eval e X.env) :: starEach es X.env) (hpl : (backTo pos (starEach es X.env)).any (·.1) = false) :
    PE X (.Call (.Name x p) (e :: es) [] pos) (fun σ H Q => t σ H fun vs H1 => ∀ x dx, H1 x = none → H1 dx = none → dx ≠ x → sp (.ref x :: vs) (upd (upd H1 dx (.own x)) x (.ins C dx [])) (fun v H2 => v = .non ∧ Q (.ref x) H2) (E σ)) :=
  ⟨fun pins s σ H Q I h => wpAny_Call_Name_kw (ld_glob I hg hm (PySem.W.callWith_K (h₀ := X.base) I.ok.mod.kin M.kp (thn (ha.run pos pins s σ H _ I h) fun us s1 z => by
    obtain ⟨vs, H1, I1, r, q⟩ := z
    exact ⟨I1.kIn, run_makeS M Fo hr hb (hx σ) I1 r q⟩) he hpl) hdb)⟩
theorem se_make {cn : Str} {kk : Nat} {fi : List D → IR} {e : Expr} {es : List Expr} {m : MA} {p pos : Pos} (c : Cok g X W k) (h : HasMk X.prog X.w X.mg X.base g kk cn fi) (hk : kk + 1 ≤ k) (hg : Gl X cn) (ha : SA g W φ X (e :: es) m)
    (hdb : (cn == ("__debug__" : Str)) = false := by decide) (he : starEach (e :: es) X.env = (false, eval e X.env) :: starEach es X.env := by rfl) (hpl : (backTo pos (starEach es X.env)).any (·.1) = false := by rfl) :
    SE g W φ X (.Call (.Name cn p) (e :: es) [] pos) (mMake cn fi m) := by
  intro F σ H env Q hr hp
  obtain ⟨C, fI, fd, ps, ns, M, Fo, hb, hm, hcl⟩ := h.ex
  rw [← c.K] at M Fo hb
  refine ⟨_, pe_makeS M Fo (c.rm.mono hk) hg hm hb (fun σ => passAt c.tk σ) w_pa hdb he hpl, ?_⟩
  refine ha F σ H env _ hr (ae hp fun as e1 vs H1 F1 s1 r1 p1 hp1 => ?_)
  intro x dx hx hdx hne
  unfold makeF at hp1
  cases hv : vals as with
  | none => simp only [hv] at hp1; exact hp1.elim
  | some ds =>
    simp only [hv] at hp1
    have hF1 : F1 x = none := r1.ex.free hx
    have old : ∀ b o, H1 b = some o → (upd (upd H1 dx (.own x)) x (.ins C dx [])) b = some o := fun b o z => by
      rw [upd_ne (ne_of_none z hx), upd_ne (ne_of_none z hdx)]
      exact z
    have back : ∀ b, (upd (upd H1 dx (.own x)) x (.ins C dx [])) b = none → H1 b = none := fun b z => by
      cases zz : H1 b with
      | none => rfl
      | some o =>
        rw [old b o zz] at z
        cases z
    refine ⟨F1, x, dx, vs, ds, rfl, upd_same, hF1, fun b o z => old b o (r1.ex b o z), p1.vals hv, ?_⟩
    cases hf : fi ds with
    | no => simp only [hf] at hp1; exact hp1.elim
    | exc c2 v =>
      simp only [hf] at hp1
      exact fun Cx fld dd vv H' F' q1 q2 q3 q4 q5 q6 q7 => hp1 Cx fld dd vv σ H' F' q1 q2 (r1.grow q2 q3 (fun b o z => (q4 b o z).imp id (back b)) fun b o z => q5 b o (old b o z)) q6 q7
    | ok fs =>
      simp only [hf] at hp1
      intro H' F' us q1 q2 q3 q4 q5 q6 q7 q8
      refine ⟨rfl, ?_⟩
      have xo : ∀ b o, H1 b = some o → b ≠ x := fun b o z => ne_of_none z hx
      have r2 : Rel g φ F' σ H' e1 := r1.grow q1 q2 (fun b o z => (q3 b o z).imp id (back b)) fun b o z => q4 b o (old b o z) (xo b o z)
      have s2 : Same F' (upd F' x (.ins C dx (ns.zip us))) := same_new q6
      have r3 : Rel g φ (upd F' x (.ins C dx (ns.zip us))) σ H' e1 := by
        refine r1.grow (q1.trans s2) (fun b o z => ?_) (fun b o z => ?_) fun b o z => q4 b o (old b o z) (xo b o z)
        · by_cases hbx : b = x
          · subst hbx
            rw [upd_same] at z
            cases z
            exact q5
          · rw [upd_ne hbx] at z
            exact q2 b o z
        · by_cases hbx : b = x
          · subst hbx
            exact .inr hx
          · rw [upd_ne hbx] at z
            exact (q3 b o z).imp id (back b)
      exact hp1 (.ref x) H' _ (q1.trans s2) r3 (.obj x cn C dx ns us fs hcl upd_same q7 (Reps.mono s2 q8).len (Reps.mono s2 q8).at_)
end
end Mp
set_option Elab.async false
set_option linter.all false
set_option maxRecDepth 100000
set_option maxHeartbeats 4000000
/-! attributes, properties, own ==, isinstance, and more of the built-ins -/
namespace Mp
open PySem PySem.Spec PyProof.Rows L2

section
variable {g : Gc} {W : WX} {φ : Fc} {X : Cx} {k : Nat} {F F' : Hp} {σ : L2.St} {H H' : Hp} {env : Env}
/-- e.f, the i-th attribute of an instance of the class cn -/
def attF (cn : Str) (i : Nat) : D → Option D
  | .obj c fs => if c = cn then fs[i]? else none
  | _ => none
def mAtt (cn : Str) (i : Nat) (m : ME) : ME := fun env => (m env).bind fun d e => match attF cn i d with
  | some z => .ok z e
  | none => .no
theorem att_of {cn : Str} {i : Nat} {C : Addr} {ns : List Str} {f : Str} (co : ClO g cn C ns) (hf : ns[i]? = some f) {v : V} {d z : D} (r : Rep g F v d) (e : attF cn i d = some z) :
    ∃ a dx us u, v = .ref a ∧ F a = some (.ins C dx us) ∧ us.lookup f = some u ∧ Rep g F u z := by
  cases d <;> simp only [attF, reduceCtorEq] at e
  rename_i c fs
  by_cases hc : c = cn
  · subst hc
    rw [if_pos rfl] at e
    cases r with
    | obj a c C' dx ns' vs ds hc h hn hl hi =>
      rw [co.cl] at hc
      cases hc
      obtain ⟨u, q1, q2⟩ := (Reps.mk hl hi).get e
      exact ⟨a, dx, _, u, rfl, h, lookup_zip hf co.nd hn q1, q2⟩
  · rw [if_neg hc] at e
    cases e
/-- self.f -/
theorem se_fld {cn : Str} {i : Nat} {C : Addr} {ns : List Str} {f : Str} {e : Expr} {m : ME} {pos : Pos} (hK : X.K = g.K) (co : ClO g cn C ns) (hf : ns[i]? = some f) (h : SE g W φ X e m) (hb : attributeBase e f X.env (eval e X.env) = eval e X.env := by rfl) : SE g W φ X (.Attribute e f pos) (mAtt cn i m) := by
  intro F σ H env Q hr hp
  refine ⟨_, pe_fld w_pe hb, h F σ H env _ hr (ee hp fun d e1 v H1 F1 s1 r1 p1 hp1 => ?_)⟩
  cases ez : attF cn i d with
  | none => simp only [ez] at hp1; exact hp1.elim
  | some z =>
    simp only [ez] at hp1
    obtain ⟨a, dx, us, u, rfl, h1, h2, h3⟩ := att_of co hf p1 ez
    exact ⟨a, C, dx, us, u, rfl, r1.ex _ _ h1, hK ▸ co.cls, hK ▸ co.no f (List.mem_of_getElem? hf), h2, hp1 u H1 F1 (Same.refl _) r1 h3⟩
/-- the class cn has the property pn for its i-th attribute -/
structure HasPr (P : Program) (w : World) (mg : Str → Option Value) (base : Heap) (g : Gc) (k : Nat) (cn pn : Str) (i : Nat) : Prop where
  ex : ∃ (C p fG : Addr) (fd : FuncData) (ns : List Str) (f : Str), ClO g cn C ns ∧ ns[i]? = some f ∧ PropOf g.K C pn p fG ∧ FnOk P w g.K mg base (L2.CX P w) k fG fd ["self"] (getSp C f) ∧ Binds g.K fd ["self"] []
theorem se_prop {cn pn : Str} {i kk : Nat} {e : Expr} {m : ME} {pos : Pos} (c : Cok g X W k) (hq : HasPr X.prog X.w X.mg X.base g kk cn pn i) (hk : kk + 1 ≤ k) (h : SE g W φ X e m) (hb : attributeBase e pn X.env (eval e X.env) = eval e X.env := by rfl) :
    SE g W φ X (.Attribute e pn pos) (mAtt cn i m) := by
  intro F σ H env Q hr hp
  obtain ⟨C, p, fG, fd, ns, f, co, hf, pr, Fo, hbd⟩ := hq.ex
  have cls := co.cls
  rw [← c.K] at pr Fo hbd cls
  refine ⟨_, pe_prop w_pe cls pr Fo (c.rm.mono hk) hbd .nil (passL (X := X.nox)) hb, h F σ H env _ hr (ee hp fun d e1 v H1 F1 s1 r1 p1 hp1 => ?_)⟩
  cases ez : attF cn i d with
  | none => simp only [ez] at hp1; exact hp1.elim
  | some z =>
    simp only [ez] at hp1
    obtain ⟨a, dx, us, u, rfl, h1, h2, h3⟩ := att_of co hf p1 ez
    exact ⟨a, dx, us, rfl, r1.ex _ _ h1, a, dx, us, u, rfl, r1.ex _ _ h1, h2, hp1 u H1 F1 (Same.refl _) r1 h3⟩
/-- .. by the text of its getter -/
theorem has_pr {P : Program} {w : World} {mg : Str → Option Value} {base : Heap} {cn pn qual f : Str} {i : Nat} {C p fG : Addr} {ns : List Str} {st : Stmt} {fd : FuncData} {N : List Str} {p1 p2 p3 : Pos} (co : ClO g cn C ns) (hf : ns[i]? = some f) (pr : PropOf g.K C pn p fG) (Fu : Fun g.K pn qual st fG fd)
    (S : FnScope N ["self"] (defScope st)) (hN : N[0]? = some ("self" : Str)) (hbd : Binds g.K fd ["self"] []) (hv : Vis (defScope st) "self") (hb : defBody st = [.Return (some (.Attribute (.Name "self" p1) f p2)) p3]) : HasPr P w mg base g (k + 1) cn pn i := by
  refine ⟨C, p, fG, fd, ns, f, co, hf, pr, Fu.okX S (fun vs H Q E h => ?_) (fun cdv A outer s H vs Q E hr h => ?_), hbd⟩
  · obtain ⟨a, dx, fs, v, e, _⟩ := h
    rw [e]
    rfl
  · obtain ⟨a, dx, fs, v, e, ea, l, q⟩ := h
    subst e
    rw [hb]
    exact ⟨_, pss_one (ps_ret (pe_fld (pe_var (i := 0) hN hv) rfl)), .ref a, rfl, a, C, dx, fs, v, rfl, ea, co.cls, co.no f (List.mem_of_getElem? hf), l, q⟩

/-! ### == of two instances, by the class's own __eq__ -/
structure HasEq (P : Program) (w : World) (mg : Str → Option Value) (base : Heap) (g : Gc) (k : Nat) (cn : Str) (fn : Fn) : Prop where
  ex : ∃ (C f : Addr) (fd : FuncData) (ps ns : List Str), g.cl cn = some (C, ns) ∧ PySem.W.findIn g.K (.ref C) "__eq__" = some (some (.ref f)) ∧ PySem.W.isFn g.K (.ref f) = true ∧ FnOk P w g.K mg base (L2.CX P w) k f fd ps (spOf g fn) ∧ Binds g.K fd ps []
theorem op_ownI {C f : Addr} {fd : FuncData} {ps : List Str} {sp : Sp} (hs : PySem.W.findIn X.K (.ref C) "__eq__" = some (some (.ref f))) (hf : PySem.W.isFn X.K (.ref f) = true) (Fo : FnOk X.prog X.w X.K X.mg X.base (L2.CX X.prog X.w) k f fd ps sp) (hr : Room k X.A) (hb : Binds X.K fd ps []) :
    OpR X (compareOp .Eq) (fun x y H Q => ∃ a b dx dy fs gs, x = .ref a ∧ y = .ref b ∧ H a = some (.ins C dx fs) ∧ H b = some (.ins C dy gs) ∧ sp [x, y] H Q E0) := by
  intro pins s σ H x y v u Q I rx ry ⟨a, b, dx, dy, fs, gs, ex, ey, ha, hb', q⟩
  subst ex ey
  obtain rfl : v = Value.ref a := rx
  obtain rfl : u = Value.ref b := ry
  obtain ⟨_, O, _⟩ := ins_get I.hok ha
  obtain ⟨_, O', _⟩ := ins_get I.hok hb'
  obtain ⟨_, J, _⟩ := O.look
  obtain ⟨_, J', _⟩ := O'.look
  obtain ⟨_, fr⟩ := I.fr
  show wpAny _ _ (richCompare .Eq _ _) _ _ _
  refine PySem.W.cmp_K (op := .Eq) (tb := .ref C) hr.units0 fr I.ok.mod.kin J J'.type (by simp [PySem.W.notFirst]) hs hf ?_
  refine thn (run_fn (us := [.ref a, .ref b]) (vs := [.ref a, .ref b]) (dvs := []) (ds := []) (E := E0) Fo hr hb .nil passL I (.cons rfl (.cons rfl .nil)) q) fun w s' z => ?_
  obtain ⟨v', H', I', rv, qv⟩ := z
  exact SlX.cmpback rv ⟨v', H', I', rv, qv⟩
def eqOwn (cn : Str) (fn : Fn) : D → D → Option D
  | .obj c fs, .obj c' gs => if c = cn ∧ c' = cn then (match fn [.va (.obj c fs), .va (.obj c' gs)] with
    | .ok (.bl b) outs => if outs.length = 2 then some (.bl b) else none
    | _ => none) else none
  | _, _ => none
theorem op_eqOwn {cn : Str} {fn : Fn} {kk : Nat} (c : Cok g X W k) (h : HasEq X.prog X.w X.mg X.base g kk cn fn) (hk : kk ≤ k) : OpS g φ (wO X (compareOp .Eq)) (eqOwn cn fn) := by
  intro F σ H env v u x y z Q hr hx hy hf hq
  obtain ⟨C, f, fd, ps, ns, hcl, hs, hfn, Fo, hb⟩ := h.ex
  rw [← c.K] at hs hfn Fo hb
  refine ⟨_, op_ownI hs hfn Fo (c.rm.mono hk) hb, ?_⟩
  cases x <;> cases y <;> simp only [eqOwn, reduceCtorEq] at hf
  rename_i c1 fs c2 gs
  by_cases hcc : c1 = cn ∧ c2 = cn
  · rw [if_pos hcc] at hf
    obtain ⟨rfl, rfl⟩ := hcc
    have px : Rep g F v (.obj c2 fs) := by
      cases hx with
      | of hx => exact hx
    have py : Rep g F u (.obj c2 gs) := by
      cases hy with
      | of hy => exact hy
    have pp := px
    have qq := py
    cases px with
    | obj a c3 C1 dx ns1 vs ds hc1 h1 hn1 hl1 hi1 =>
      cases py with
      | obj b c4 C2 dy ns2 ws es hc2 h2 hn2 hl2 hi2 =>
        rw [hcl] at hc1 hc2
        cases hc1
        cases hc2
        refine ⟨a, b, dx, dy, _, _, rfl, rfl, hr.ex _ _ h1, hr.ex _ _ h2, ?_⟩
        cases hfo : fn [.va (.obj c2 fs), .va (.obj c2 gs)] with
        | no => rw [hfo] at hf; cases hf
        | exc c5 v5 o5 => rw [hfo] at hf; cases hf
        | ok d outs =>
          rw [hfo] at hf
          have pv : AvsR g F σ [V.ref a, V.ref b] [.va (.obj c2 fs), .va (.obj c2 gs)] := .cons pp (.cons qq .nil)
          refine sp_call (W := W0) hr pv ?_
          have ea : argsOf env [.va (.obj c2 fs), .va (.obj c2 gs)] = some [.va (.obj c2 fs), .va (.obj c2 gs)] := rfl
          unfold callF
          rw [if_pos (show (ixs [Av.va (.obj c2 fs), .va (.obj c2 gs)]).Nodup from List.nodup_nil), ea]
          simp only [hfo]
          cases d <;> simp only [reduceCtorEq] at hf
          rename_i bb
          by_cases hl : outs.length = 2
          · rw [if_pos hl] at hf
            cases hf
            match outs, hl with
            | [o1, o2], _ =>
              show PoE g W0 φ F σ Q (.ok (.bl bb) env)
              exact fun r H' F' s1 r1 p1 => hq r H' F' s1 r1 p1
          · rw [if_neg hl] at hf
            cases hf
  · rw [if_neg hcc] at hf
    cases hf
/-- a comparison that may call -/
theorem se_cmpS {op : CmpOp} {f : D → D → Option D} {a b : Expr} {ma mb : MV} {pos : Pos} (ho : OpS g φ (wO X (compareOp op)) f) (ha : SV g W φ X a ma) (hb : SV g W φ X b mb) (hm : behindInMarks op b = false := by first | exact nomark _ | rfl) :
    SE g W φ X (.Compare a [op] [b] pos) (mBin f ma mb) := by
  intro F σ H env Q hr hp
  refine ⟨_, pe_cmpR w_op w_pe w_pe hm, ?_⟩
  refine ha F σ H env _ hr (ve hp fun x e1 v H1 F1 s1 r1 p1 hp1 => hb F1 σ H1 e1 _ r1 (ve hp1 fun y e2 u H2 F2 s2 r2 p2 hp2 => ?_))
  obtain ⟨d, d', z, g1, g2, hf, hp3⟩ := use2_ok hp2
  exact ho F2 σ H2 e2 v u d d' z Q r2 ((p1.mono s2).get r2 g1) (p2.get r2 g2) hf hp3
theorem st_cmpS {op : CmpOp} {f : D → D → Option D} {a b : Expr} {ma mb : MV} {pos : Pos} (ho : OpS g φ (wO X (compareOp op)) f) (ha : SV g W φ X a ma) (hb : SV g W φ X b mb) (hm : behindInMarks op b = false := by first | exact nomark _ | rfl) :
    ST g W φ X (.Compare a [op] [b] pos) (fun env => (mBin f ma mb env).bind asB) := by
  intro F σ H env Q hr hp
  refine ⟨_, pt_cmpR w_op w_pe w_pe hm, ?_⟩
  have e0 : ∀ {α β γ : Type} (r : Re α) (k : α → Env → Re β) (k2 : β → Env → Re γ), (r.bind k).bind k2 = r.bind fun a e => (k a e).bind k2 := fun r k k2 => by cases r <;> rfl
  have hp : PoT g W φ F σ Q ((mBin f ma mb env).bind asB) := hp
  unfold mBin at hp
  rw [e0] at hp
  refine ha F σ H env _ hr (vt hp fun x e1 v H1 F1 s1 r1 p1 hp1 => ?_)
  rw [e0] at hp1
  refine hb F1 σ H1 e1 _ r1 (vt hp1 fun y e2 u H2 F2 s2 r2 p2 hp2 => ?_)
  unfold use2 at hp2
  cases g1 : x.get e2 with
  | none => rw [g1] at hp2; exact hp2.elim
  | some d =>
    cases g2 : y.get e2 with
    | none => rw [g1, g2] at hp2; exact hp2.elim
    | some d' =>
      rw [g1, g2] at hp2
      cases hf : f d d' with
      | none => simp only [hf] at hp2; exact hp2.elim
      | some z =>
        simp only [hf] at hp2
        refine ho F2 σ H2 e2 v u d d' z _ r2 ((p1.mono s2).get r2 g1) (p2.get r2 g2) hf fun r H3 F3 s3 r3 p3 => ?_
        cases z with
        | bl bb =>
          cases p3
          exact ⟨bb, rfl, hp2 _ _ s3 r3⟩
        | _ => exact hp2.elim
end
end Mp
set_option Elab.async false
set_option linter.all false
set_option maxRecDepth 100000
set_option maxHeartbeats 4000000
/-! isinstance with own classes and tuples of types, all, any, max, min, in, zip, enumerate, moved lists -/
namespace Mp
open PySem PySem.Spec PyProof.Rows L2

section
variable {g : Gc} {W : WX} {φ : Fc} {X : Cx} {k : Nat} {F F' : Hp} {σ : L2.St} {H H' : Hp} {env : Env}
/-! ### isinstance(x, C), C of the text -/
def isClF (cn : Str) : List D → Option D
  | [x, .cls c] => if c = cn then (match x with
    | .obj c' _ => some (.bl (decide (c' = cn)))
    | x => match tyName x with
      | some _ => some (.bl false)
      | none => none) else none
  | _ => none
/-- what the text says of the class and of the others -/
structure HasIs (g : Gc) (cn : Str) : Prop where
  ex : ∃ (C : Addr) (ns : List Str), g.cl cn = some (C, ns) ∧ (∀ t ∈ ["NoneType", "bool", "int", "str", "tuple", "list"], PySem.W.kitOne g.K (.type t) (.ref C) = some false) ∧
    ∀ c' C' ns', g.cl c' = some (C', ns') → Cls g.K C' ∧ PySem.W.findIn g.K (.ref C') "__class__" = some (some (.builtin "object.__class__")) ∧ PySem.W.mroIn g.K C' (.type "object") = some true ∧ PySem.W.kitOne g.K (.ref C') (.ref C) = some (decide (c' = cn))
  hn : PySem.W.specialIn g.K (.builtin "object.__class__") "__get__" = some (some (.builtin "getset_descriptor.__get__"))
  tk : PySem.W.takesIn g.K (.builtin "object.__class__") = some true
theorem tyName_mem {d : D} {t : String} (h : tyName d = some t) : t ∈ ["NoneType", "bool", "int", "str", "tuple", "list"] := by
  cases d <;> simp only [tyName, reduceCtorEq, Option.some.injEq] at h <;> subst h <;> decide
theorem ca_isCl {cn : Str} (hK : X.K = g.K) (h : HasIs g cn) : CaS g φ (wC X (.builtin "isinstance")) (isClF cn) := by
  intro F σ H env vs ds z Q hr hx hf hq
  obtain ⟨C, ns, hcl, hty, hob⟩ := h.ex
  cases hx with
  | nil => simp [isClF] at hf
  | @cons v d vs ds hv t =>
    cases t with
    | nil => simp [isClF] at hf
    | @cons v2 d2 vs ds h2 t =>
      cases t with
      | cons h3 t3 => cases d2 <;> simp [isClF] at hf
      | nil =>
        cases d2 <;> simp only [isClF, reduceCtorEq] at hf
        rename_i c
        by_cases hc : c = cn
        · subst hc
          rw [if_pos rfl] at hf
          have e2 : v2 = .ref C := by
            cases h2 with
            | of h2 =>
              cases h2 with
              | cls c C' ns' hc' =>
                rw [hcl] at hc'
                cases hc'
                rfl
          subst e2
          have other : ∀ t, tyName d = some t → z = .bl false → wC X (.builtin "isinstance") [v, .ref C] H Q := fun t e ez => by
            subst ez
            exact ⟨_, call_isi, v, .ref C, .type t, .ref C, false, rfl, .own C, hK ▸ hv.ty hr.ex e, hK ▸ hty t (tyName_mem e), hq _ _ _ (Same.refl _) hr (.bl false)⟩
          cases d with
          | obj c' fs =>
            simp only [Option.some.injEq] at hf
            subst hf
            cases hv with
            | of hv =>
              cases hv with
              | obj a c' C' dx ns' ws ds' hc' h1 hn1 hl1 hi1 =>
                obtain ⟨k1, k2, k3, k4⟩ := hob c' C' ns' hc'
                refine ⟨_, call_isi, .ref a, .ref C, .ref C', .ref C, _, rfl, .own C, .base (.ins (hr.ex _ _ h1) (hK ▸ k1) (hK ▸ k2) (hK ▸ h.hn) (hK ▸ h.tk) (hK ▸ k3)), hK ▸ k4, ?_⟩
                exact hq _ _ _ (Same.refl _) hr (.bl _)
          | _ =>
            simp only [tyName, Option.some.injEq, reduceCtorEq] at hf <;> exact other _ rfl hf.symm
        · rw [if_neg hc] at hf
          cases hf
/-! ### isinstance(x, (T, ..)) -/
def kitBs (t : String) : List String → Option Bool
  | [] => some false
  | n :: ns => match kitB t n, kitBs t ns with
    | some true, _ => some true
    | some false, some b => some b
    | _, _ => none
theorem kitBs_ok {K : PySem.W.Frag} {t : String} : ∀ {ns : List String} {b : Bool}, kitBs t ns = some b → PySem.W.kitAny K (.type t) (ns.map Value.type) = some b
  | [], b, h => by
    cases h
    rfl
  | n :: ns, b, h => by
    simp only [kitBs] at h
    cases e : kitB t n with
    | none => simp [e] at h
    | some b1 =>
      cases b1 with
      | true =>
        simp only [e, Option.some.injEq] at h
        subst h
        exact kitAny_cons (r := true) (kit_ty e) (fun z => by cases z) (fun _ => rfl)
      | false =>
        cases e2 : kitBs t ns with
        | none => simp [e, e2] at h
        | some b2 =>
          simp only [e, e2, Option.some.injEq] at h
          subst h
          exact kitAny_cons (kit_ty e) (fun _ => kitBs_ok e2) (fun z => by cases z)
def isTsF (ns : List String) (x : D) : Option D := match tyName x with
  | some t => (kitBs t ns).map D.bl
  | none => none
/-- the types' names, as an argument list -/
inductive Tys (X : Cx) : List Expr → List String → Prop
  | nil : Tys X [] []
  | cons {x : Str} {n : String} {p : Pos} {es : List Expr} {ns : List String} (hg : Gl X x) (hm : X.mg x = none) (hv : bootBuiltins x = some (.type n)) (hn : x ≠ "__name__") (hd : (x == ("__debug__" : Str)) = false)
      (hs : starEach (Expr.Name x p :: es) X.env = (false, eval (.Name x p) X.env) :: starEach es X.env) (r : Tys X es ns) : Tys X (.Name x p :: es) (n :: ns)
theorem tys_pa {es : List Expr} {ns : List String} (h : Tys X es ns) : PA X es (fun σ H Q => Q (ns.map V.ty) H) := by
  induction h with
  | nil => exact pa_nil
  | cons hg hm hv hn hd hs r ih => exact pa_cons (pe_bltn (v := .ty _) hg hm hv rfl hn hd) ih hs
theorem tys_paired : ∀ (ns : List String), Paired ClsV (ns.map V.ty) (ns.map Value.type)
  | [] => .nil
  | n :: ns => .cons (.ty n) (tys_paired ns)
theorem se_isTs {a : Expr} {ts : List Expr} {ns : List String} {m : MV} {x1 : Nat} {tp p pos : Pos} (hK : X.K = g.K) (ha : SV g W φ X a m) (ht : Tys X ts ns) (hg : Gl X "isinstance") (hm : X.mg "isinstance" = none) (hl : ns.length ≤ line)
    (hs : starEach (a :: [.Tuple ts x1 tp]) X.env = (false, eval a X.env) :: starEach [.Tuple ts x1 tp] X.env := by rfl) (hs2 : starEach (Expr.Tuple ts x1 tp :: []) X.env = (false, eval (.Tuple ts x1 tp) X.env) :: starEach [] X.env := by rfl)
    (hpl : (backTo pos (starEach [.Tuple ts x1 tp] X.env)).any (·.1) = false := by rfl) :
    SE g W φ X (.Call (.Name "isinstance" p) [a, .Tuple ts x1 tp] [] pos) (mUn (isTsF ns) m) := by
  intro F σ H env Q hr hp
  refine ⟨_, pe_callB call_isiT hg hm (by decide +kernel) (pa_cons w_pe (pa_cons (pe_tup (tys_pa ht)) pa_nil hs2) hs) (by decide) (by decide) hs hpl, ?_⟩
  refine ha F σ H env _ hr (ve hp fun x e1 v H1 F1 s1 r1 p1 hp1 => ?_)
  obtain ⟨d, z, g1, hf, hp2⟩ := use1_ok hp1
  refine ⟨by rw [List.length_map, ← line_eq]; exact hl, fun p hn => ?_⟩
  obtain ⟨s2, r2⟩ := r1.laid (o := .tup (ns.map V.ty)) hn
  unfold isTsF at hf
  cases e : tyName d with
  | none => simp [e] at hf
  | some t =>
    simp only [e, Option.map_eq_some_iff] at hf
    obtain ⟨b, hb, rfl⟩ := hf
    exact ⟨v, p, ns.map V.ty, .type t, ns.map Value.type, b, rfl, upd_same, tys_paired ns, hK ▸ ((p1.mono s2).get r2 g1).ty r2.ex e, kitBs_ok hb, hp2 _ _ _ s2 r2 (.bl b)⟩

/-! ### all, any; max, min of a list -/
def boolsOf : List D → Option (List Bool)
  | [] => some []
  | .bl b :: ds => (boolsOf ds).map (b :: ·)
  | _ :: _ => none
theorem boolsOf_ok : ∀ {ds : List D} {bs : List Bool} {vs : List V}, boolsOf ds = some bs → Reps g F vs ds → vs = bs.map V.bl
  | [], bs, vs, e, r => by
    cases e
    have := r.len
    match vs, this with
    | [], _ => rfl
  | d :: ds, bs, vs, e, r => by
    match vs, r with
    | [], r => have := r.len; simp at this
    | v :: vs, r =>
      cases d <;> simp only [boolsOf, reduceCtorEq, Option.map_eq_some_iff] at e
      obtain ⟨bs', e1, e2⟩ := e
      subst e2
      have h := r.head
      cases h
      rw [boolsOf_ok e1 r.tail]
      rfl
def allF : List D → Option D
  | [.lst xs] => (boolsOf xs).map fun bs => .bl (bs.all id)
  | _ => none
def anyF : List D → Option D
  | [.lst xs] => (boolsOf xs).map fun bs => .bl (bs.any id)
  | _ => none
theorem ca_all (hK : X.K = g.K) (hc : X.calm = true) : CaS g φ (wC X (.builtin "all")) allF := by
  intro F σ H env vs ds z Q hr hx hf hq
  cases hx with
  | nil => simp [allF] at hf
  | @cons v d vs ds hv t =>
    cases t with
    | cons _ _ => cases d <;> simp [allF] at hf
    | nil =>
      cases d <;> simp only [allF, reduceCtorEq, Option.map_eq_some_iff] at hf
      obtain ⟨bs, h1, rfl⟩ := hf
      obtain ⟨a, ws, rfl, h2, h3⟩ := hv.lst hr.ex
      have e := boolsOf_ok h1 h3
      subst e
      exact ⟨_, cr_all hc, a, bs, rfl, SqL.of h2, hq _ _ _ (Same.refl _) hr (.bl _)⟩
theorem ca_any (hK : X.K = g.K) (hc : X.calm = true) : CaS g φ (wC X (.builtin "any")) anyF := by
  intro F σ H env vs ds z Q hr hx hf hq
  cases hx with
  | nil => simp [anyF] at hf
  | @cons v d vs ds hv t =>
    cases t with
    | cons _ _ => cases d <;> simp [anyF] at hf
    | nil =>
      cases d <;> simp only [anyF, reduceCtorEq, Option.map_eq_some_iff] at hf
      obtain ⟨bs, h1, rfl⟩ := hf
      obtain ⟨a, ws, rfl, h2, h3⟩ := hv.lst hr.ex
      have e := boolsOf_ok h1 h3
      subst e
      exact ⟨_, cr_any hc, a, bs, rfl, SqL.of h2, hq _ _ _ (Same.refl _) hr (.bl _)⟩
/-! ### a list of one's own, given away -/
def mMove (i : Nat) : ME := fun env => match env[i]? with
  | some (.ow false xs) => .ok (.lst xs) (env.set i .un)
  | some (.va d) => .ok d env
  | _ => .no
theorem se_move (i : Nat) {x : Str} {p : Pos} (hN : X.N[i]? = some x := by rfl) (hv : Vis X.env.scope x := by first | exact Or.inl rfl | exact Or.inr (Or.inl rfl) | exact Or.inr (Or.inr rfl))
    (hd : (x == ("__debug__" : Str)) = false := by decide) (hcd : (x == ("__classdict__" : Str)) = false := by decide) : SE g W φ X (.Name x p) (mMove i) := by
  intro F σ H env Q hr hp
  unfold mMove at hp
  cases e : env[i]? with
  | none => rw [e] at hp; exact hp.elim
  | some s =>
    cases s with
    | un => rw [e] at hp; exact hp.elim
    | va d =>
      rw [e] at hp
      obtain ⟨v, h1, h2⟩ := hr.va i d e
      exact ⟨_, pe_var hN hv hd hcd, v, h1, hp v H F (Same.refl _) hr h2⟩
    | ow b xs =>
      cases b with
      | true => rw [e] at hp; exact hp.elim
      | false =>
        rw [e] at hp
        obtain ⟨a, vs, h1, h2, h3, h4⟩ := hr.give e
        exact ⟨_, pe_var hN hv hd hcd, .ref a, h1, hp (.ref a) H _ h2 h3 h4⟩
/-! ### zip, enumerate -/
def lZip (m : MA) : ML := fun env => (m env).bind fun as e => match vals as with
  | some [.tup xs, .tup ys] => .ok (List.zipWith (fun x y => D.tup [x, y]) xs ys) e
  | some [.lst xs, .lst ys] => .ok (List.zipWith (fun x y => D.tup [x, y]) xs ys) e
  | _ => .no
def pairsFrom : Nat → List D → List D
  | _, [] => []
  | n, d :: ds => .tup [.int (n : Nat), d] :: pairsFrom (n + 1) ds
def lEnum (m : MA) : ML := fun env => (m env).bind fun as e => match vals as with
  | some [.tup xs] => .ok (pairsFrom 0 xs) e
  | some [.lst xs] => .ok (pairsFrom 0 xs) e
  | _ => .no
theorem pairsFrom_at : ∀ {ds : List D} {n i : Nat}, (pairsFrom n ds)[i]? = (ds[i]?).map fun d => D.tup [.int ((n + i : Nat) : Int), d]
  | [], n, i => by simp [pairsFrom]
  | d :: ds, n, i => by
    cases i with
    | zero => simp [pairsFrom]
    | succ i =>
      simp only [pairsFrom, List.getElem?_cons_succ]
      rw [pairsFrom_at, show n + 1 + i = n + (i + 1) by omega]
theorem pairsFrom_length : ∀ {ds : List D} {n : Nat}, (pairsFrom n ds).length = ds.length
  | [], _ => rfl
  | _ :: ds, n => by simp [pairsFrom, pairsFrom_length]
theorem zip_at {xs ys : List D} {i : Nat} {d : D} (e : (List.zipWith (fun x y => D.tup [x, y]) xs ys)[i]? = some d) : ∃ x y, xs[i]? = some x ∧ ys[i]? = some y ∧ d = .tup [x, y] := by
  rw [List.getElem?_zipWith] at e
  cases h1 : xs[i]? with
  | none => simp [h1] at e
  | some x =>
    cases h2 : ys[i]? with
    | none => simp [h1, h2] at e
    | some y =>
      simp only [h1, h2, Option.some.injEq] at e
      exact ⟨x, y, rfl, rfl, e.symm⟩
theorem laid_pair {H' : Hp} {p : Addr} {u v : V} {x y : D} (r1 : Rel g φ F σ H env) (hn : H p = none) (hu : Rep g F u x) (hv : Rep g F v y) (eH : H' = upd H p (.tup [u, v])) :
    ∃ F2, Same F F2 ∧ Same H H' ∧ (∀ b o, F2 b = some o → F b = some o ∨ H b = none) ∧ Rel g φ F2 σ H' env ∧ Rep g F2 (.ref p) (.tup [x, y]) := by
  obtain ⟨s2, r2⟩ := r1.laid (o := .tup [u, v]) hn
  subst eH
  refine ⟨_, s2, same_new hn, fun b o z => ?_, r2, .mkTup upd_same (.cons (hu.mono s2) (.cons (hv.mono s2) .nil))⟩
  by_cases hb : b = p
  · subst hb
    exact .inr hn
  · rw [upd_ne hb] at z
    exact .inl z
theorem walks_zipL {a b : Addr} {us vs : List V} {xs ys : List D} (h1 : SqL g.K F a us) (h2 : SqL g.K F b vs) (q1 : Reps g F us xs) (q2 : Reps g F vs ys) : Walks g (L2.Itz g.K a b) F (List.zipWith (fun x y => D.tup [x, y]) xs ys) := by
  intro φ F1 σ H env i s1 r1
  have k1 : SqL g.K H a us := (s1.trans r1.ex).seq h1
  have k2 : SqL g.K H b vs := (s1.trans r1.ex).seq h2
  refine ⟨fun d e => ?_, fun e => ⟨us, vs, k1, k2, ?_⟩⟩
  · obtain ⟨x, y, e1, e2, rfl⟩ := zip_at e
    obtain ⟨u, m1, m2⟩ := q1.get e1
    obtain ⟨v, m3, m4⟩ := q2.get e2
    refine ⟨⟨us, vs, u, v, k1, k2, m1, m3⟩, fun w H' yl => ?_⟩
    obtain ⟨T, u', v', rfl, hn, eH, z1, z2⟩ := yl
    have t1 := (z1 us k1).symm.trans m1
    have t2 := (z2 vs k2).symm.trans m3
    cases t1
    cases t2
    exact laid_pair r1 hn (m2.mono s1) (m4.mono s1) eH
  · rw [List.length_zipWith] at e
    rw [q1.len, q2.len]
    omega
theorem walks_zipT {a b : Addr} {us vs : List V} {xs ys : List D} (h1 : SqT g.K F a us) (h2 : SqT g.K F b vs) (q1 : Reps g F us xs) (q2 : Reps g F vs ys) : Walks g (RZ.ItzT g.K a b) F (List.zipWith (fun x y => D.tup [x, y]) xs ys) := by
  intro φ F1 σ H env i s1 r1
  have k1 : SqT g.K H a us := same_t (s1.trans r1.ex) h1
  have k2 : SqT g.K H b vs := same_t (s1.trans r1.ex) h2
  refine ⟨fun d e => ?_, fun e => ⟨us, vs, k1, k2, ?_⟩⟩
  · obtain ⟨x, y, e1, e2, rfl⟩ := zip_at e
    obtain ⟨u, m1, m2⟩ := q1.get e1
    obtain ⟨v, m3, m4⟩ := q2.get e2
    refine ⟨⟨us, vs, u, v, k1, k2, m1, m3⟩, fun w H' yl => ?_⟩
    obtain ⟨T, u', v', rfl, hn, eH, z1, z2⟩ := yl
    have t1 := (z1 us k1).symm.trans m1
    have t2 := (z2 vs k2).symm.trans m3
    cases t1
    cases t2
    exact laid_pair r1 hn (m2.mono s1) (m4.mono s1) eH
  · rw [List.length_zipWith] at e
    rw [q1.len, q2.len]
    omega
theorem ai {r : Re (List Av)} {kk : List Av → Env → Re (List D)} {Q : It → Hp → Prop} {Q1 : List V → Hp → Prop} (hp : PoI g W φ F σ Q (r.bind kk))
    (h : ∀ x e1 vs H1 F1, Same F F1 → Rel g φ F1 σ H1 e1 → AvsR g F1 σ vs x → PoI g W φ F1 σ Q (kk x e1) → Q1 vs H1) : PoA g W φ F σ Q1 r := by
  cases r with
  | ok x e1 => exact fun v H1 F1 a b c => h x e1 v H1 F1 a b c (hp.mono a)
  | exc c v e' => exact hp
  | no => exact hp
theorem si_zip {e e2 : Expr} {elts : List Expr} {n : Nat} {m : MA} {p pos tpos : Pos} (hK : X.K = g.K) (ha : SA g W φ X [e, e2] m) (hg : Gl X "zip") (hm : X.mg "zip" = none)
    (hs : starEach [e, e2] X.env = (false, eval e X.env) :: starEach [e2] X.env := by rfl) (hpl : (backTo pos (starEach [e2] X.env)).any (·.1) = false := by rfl) : SI g W φ X (.Tuple elts n tpos) (.Call (.Name "zip" p) [e, e2] [] pos) (lZip m) := by
  intro F σ H env R hr hp
  refine ⟨_, RZ.pi_zipA hg hm w_pa hs hpl, ha F σ H env _ hr (ai hp fun as e1 vs H1 F1 s1 r1 p1 hp1 => ?_)⟩
  have key : ∀ (d1 d2 : D), vals as = some [d1, d2] → ∃ v1 v2, vs = [v1, v2] ∧ Rep g F1 v1 d1 ∧ Rep g F1 v2 d2 := fun d1 d2 hv => by
    have q := p1.vals hv
    have := q.len
    match vs, this with
    | [v1, v2], _ => exact ⟨v1, v2, rfl, q.head, q.tail.head⟩
  split at hp1
  · rename_i xs ys hv
    obtain ⟨v1, v2, rfl, k1, k2⟩ := key _ _ hv
    cases k1 with
    | tup a us xs' h1 hl1 hi1 =>
      cases k2 with
      | tup b ws ys' h2 hl2 hi2 =>
        exact ⟨a, b, us, ws, rfl, .inr ⟨hK ▸ same_t r1.ex h1, hK ▸ same_t r1.ex h2, hp1 _ _ _ (Same.refl _) r1 (hK ▸ walks_zipT h1 h2 ⟨hl1, hi1⟩ ⟨hl2, hi2⟩)⟩⟩
  · rename_i xs ys hv
    obtain ⟨v1, v2, rfl, k1, k2⟩ := key _ _ hv
    cases k1 with
    | lst a us xs' h1 hl1 hi1 =>
      cases k2 with
      | lst b ws ys' h2 hl2 hi2 =>
        exact ⟨a, b, us, ws, rfl, .inl ⟨SqL.of (r1.ex _ _ h1), SqL.of (r1.ex _ _ h2), hp1 _ _ _ (Same.refl _) r1 (hK ▸ walks_zipL (SqL.of h1) (SqL.of h2) ⟨hl1, hi1⟩ ⟨hl2, hi2⟩)⟩⟩
  · exact hp1.elim
end
end Mp
set_option Elab.async false
set_option linter.all false
set_option maxRecDepth 100000
set_option maxHeartbeats 4000000
/-! enumerate of a tuple -/
namespace Mp
open PySem PySem.Spec PyProof.Rows L2
/-- the tuple at a, each item in a new pair -/
def Iet (K : PySem.W.Frag) (a : Addr) : It where
  go i H := ∃ (xs : List V) (x : V), SqT K H a xs ∧ xs[i]? = some x
  yld i H v H' := ∃ (T : Addr) (x : V), v = .ref T ∧ H T = none ∧ H' = upd H T (.tup [.int (i : Nat), x]) ∧ ∀ xs, SqT K H a xs → xs[i]? = some x
  stop i H := ∃ xs : List V, SqT K H a xs ∧ xs.length ≤ i
theorem pair_mem {b e it : Addr} (h : b ∈ [e, it]) : b = e ∨ b = it := by simpa using h
theorem turn_enumT {P : Program} {w : World} {K : PySem.W.Frag} {elts : List Expr} {kk : Nat} {tpos : Pos} (a e it : Addr) :
    Turn P w K (.Tuple elts kk tpos) (Iet K a) [e, it] e (fun i h => (∃ old, IsEnum h e it ((i : Nat) : Int) old) ∧ h.IsTupleIter it a i ∧ e ≠ it ∧ e ≠ a ∧ a ≠ it) where
  mem := List.mem_cons_self
  obj i h st b hb := by
    obtain ⟨⟨old, he⟩, ⟨o, ho, _, hd⟩, _⟩ := st
    rcases pair_mem hb with z | z <;> subst z
    · exact ⟨_, he, fun v q => by cases q⟩
    · exact ⟨o, ho, fun v q => by rw [hd] at q; cases q⟩
  keep i h h' st k := by
    obtain ⟨⟨old, he⟩, hi, ne⟩ := st
    exact ⟨⟨old, k e List.mem_cons_self _ he⟩, hi.at fun o q => k it (by simp) o q, ne⟩
  item := by
    intro X hP hw hK hc i pins s σ H E I hf st hg
    subst hP hw hK
    obtain ⟨⟨old, he⟩, hit, n1, n2, n3⟩ := st
    obtain ⟨xs, x, hq, hx⟩ := hg
    obtain ⟨its, rv, p, _⟩ := I.tuple hq
    obtain ⟨u, hu, ru⟩ := rv.get hx
    have hpt : s.heap.IsTuple a its.toArray := p
    have le : e < s.heap.objs.size := Heap.lt_size he
    have li : it < s.heap.objs.size := by
      obtain ⟨_, q, _⟩ := hit
      exact Heap.lt_size q
    have hlt : i < its.toArray.size := by
      have := lt_of_get hu
      simpa using this
    have hu2 : its.toArray[i]? = some u := by simpa using hu
    refine wpAny_pyNext_enum_itemD (Draws.tuple (A := X.A.in1) (I.ok.hd hc) it a n3 its.toArray) he ⟨hit, hpt⟩ hlt n1 (by simp [n1, n2]) fun y h' tk hy ho hst hT hsz hk => ?_
    have ey : y = u := Option.some.inj (hy.symm.trans hu2)
    subst ey
    refine ⟨_, rfl, wpAny_letOwnedTupleGo_enum (s := { s with heap := h', toks := tk + 1 }) ho fun h'' he' sb => ?_⟩
    have other : ∀ b, b ≠ e → ∀ o, h'.get? b = some o → h''.get? b = some o := fun b hb o q => (sb.2 b hb).trans q
    have hT2 := other _ (Nat.ne_of_gt le) _ hT
    have I1 : Inv X pins σ (upd H s.heap.objs.size (.tup [.int (i : Nat), x])) { s with heap := h'', toks := tk + 1 } := by
      refine I.turnedNew (ch := [e, it]) (fun b ob hb q => ?_) hf (Nat.le_refl _) ⟨(show 2 ≤ sizeLine from by decide), [.int i tk, y], .cons ⟨_, rfl⟩ (.cons ru .nil), ⟨_, hT2, rfl, _, rfl⟩⟩
      have nb : b ≠ e ∧ b ≠ it := by
        constructor
        · intro z
          exact hb (by simp [z])
        · intro z
          exact hb (by simp [z])
      exact other b nb.1 _ (hk b ob nb.1 nb.2 q)
    refine ⟨.ref s.heap.objs.size, _, I1, rfl, ⟨_, x, rfl, I.hok.fresh (Nat.le_refl _), rfl, fun ys hy => ?_⟩, ⟨⟨y, ?_⟩, hst.1.at fun o q => other it (Ne.symm n1) o q, n1, n2, n3⟩, fun b hb => ?_⟩
    · rw [I.tuple_inj hy hq]
      exact hx
    · have e1 : ((i + 1 : Nat) : Int) = (i : Int) + 1 := by omega
      rw [e1]
      exact he'
    · have hb' : b ≠ s.heap.objs.size := by
        rcases pair_mem hb with z | z <;> subst z
        · exact Nat.ne_of_lt le
        · exact Nat.ne_of_lt li
      rw [upd_ne hb']
      exact (hf b hb).1
  done := by
    intro X hP hw hK hc i pins s σ H E I hf st hg
    subst hP hw hK
    obtain ⟨⟨old, he⟩, hit, n1, n2, n3⟩ := st
    obtain ⟨xs, hq, hx⟩ := hg
    obtain ⟨its, rv, p, _⟩ := I.tuple hq
    have hpt : s.heap.IsTuple a its.toArray := p
    obtain ⟨f0, f1, f2, f3, f4, f5⟩ := hf it (by simp)
    have hnone : its.toArray[i]? = none := by
      have := rv.length
      simp
      omega
    have dr : Draws X.prog X.w X.A.in1 it [it, a] i (fun _ _ => False) (fun j h => j = i ∧ h.IsTupleIter it a i ∧ h.IsTuple a its.toArray) := {
      live := fun _ _ st => let ⟨o, ho, _⟩ := st.2.1; ⟨o, ho⟩
      frame := fun _ _ _ st k => ⟨st.1, st.2.1.at fun o q => k it (by simp) o q, st.2.2.at fun o q => k a (by simp) o q⟩
      item := fun j s Q E hj st _ => absurd st.1 (Nat.ne_of_lt hj)
      done := fun s Q E st hE => wpAny_nextOf_tuple_end (I.ok.hd hc) st.2.1 st.2.2 hnone hE }
    exact wpAny_pyNext_enum_endD dr he ⟨rfl, hit, hpt⟩ fun h' eb => ⟨rfl, I.turned (t' := s.toks) (fun b o hb q => eb b o hb q) f0 f1 f3 f4 f5⟩
  self A i s Q E st h := by
    obtain ⟨⟨_, he⟩, _⟩ := st
    exact wpAny_pyIter_enum he h

theorem meets_enumT (l : Addr) (items : Array Value) (n : Nat) (dct : Option Addr) (sl : Array (Option Value)) :
    Meets (Builtin.«enumerate.__new__» ⟨[.type "enumerate", .ref l], []⟩) (fun _ R s => s.heap.get? l = some { cls := .type "tuple", dict := dct, data := .seq items n, slots := sl } ∧
      R (.ok (.ret (.ref (s.heap.push { cls := .type "tuple_iterator", data := .fields #[.ref l, .int 0 0] }).objs.size)))
        { s with heap := (s.heap.push { cls := .type "tuple_iterator", data := .fields #[.ref l, .int 0 0] }).push { cls := .type "enumerate", data := .fields #[.none, .bool false, .ref s.heap.objs.size, rawInt 0, .none, .none] } }) :=
  .of_wp fun prog w A R s h => by
    obtain ⟨hp, g, d, tk, os⟩ := s
    obtain ⟨hl, h⟩ := h
    have known := sub_enumerate
    have tup : Heap.IsTuple (Shared.heap ⟨hp, g, d, tk, os⟩) l items := ⟨_, hl, rfl, n, rfl⟩
    wp_walk using wpAny_loadPart' hl
    refine wpAny_stack_any fun st => wpAny_pure ?_
    split
    · rename_i c _ _ _ _ _
      cases (c == Value.type "enumerate")
      all_goals
        wp_walk using wpAny_loadPart' hl, wpAny_pyIter_tuple tup
        exact ⟨_, rfl, h⟩
    · wp_walk using wpAny_loadPart' hl, wpAny_pyIter_tuple tup
      exact ⟨_, rfl, h⟩
theorem call_enumT {prog : Program} {w : World} {A : Around} {E : Value → Shared → Prop} {s : Shared} {l : Addr} {items : Array Value} {Q : Value → Shared → Prop} (tup : s.heap.IsTuple l items)
    (h : ∀ h', IsEnum h' (s.heap.objs.size + 1) s.heap.objs.size 0 .none → h'.IsTupleIter s.heap.objs.size l 0 → (∀ b o, s.heap.get? b = some o → h'.get? b = some o) → Q (.ref (s.heap.objs.size + 1)) { s with heap := h' }) :
    wpAny (model prog w) A (call (.type "enumerate") [.ref l]) Q E s := by
  obtain ⟨⟨c, dct, dt, sl⟩, hl, hc, n, hd⟩ := tup
  obtain rfl : c = .type "tuple" := hc
  obtain rfl : dt = .seq items n := hd
  refine callType_new F.called_enumerate (by decide) (F.typeCall_enumerate_1 _) (F.newCall_enumerate_1 _) (fun obj => F.args_object_init_2 obj _) F.entry_enumerate_new (meets_enumT l items n dct sl) ⟨hl, ?_⟩
  have z : (s.heap.push { cls := .type "tuple_iterator", data := .fields #[.ref l, .int 0 0] }).objs.size = s.heap.objs.size + 1 := Heap.size_push ..
  have top := Heap.get?_push_size (s.heap.push { cls := .type "tuple_iterator", data := .fields #[.ref l, .int 0 0] }) (o := { cls := .type "enumerate", data := .fields #[.none, .bool false, .ref s.heap.objs.size, rawInt 0, .none, .none] }) rfl
  show _ ∧ _
  rw [z] at top ⊢
  exact ⟨⟨_, top, rfl⟩, h _ top ⟨_, Heap.get?_push_of_some _ (Heap.get?_push_size _ rfl), rfl, rfl⟩ fun b o q => Heap.get?_push_of_some _ (Heap.get?_push_of_some _ q)⟩
def iEnumT (K : PySem.W.Frag) (ta : TA) : TI := fun σ H R => ta σ H fun vs H1 => ∃ a xs, vs = [.ref a] ∧ SqT K H1 a xs ∧ R (Iet K a) H1
theorem pi_enumT {X : Cx} {e : Expr} {ta : TA} {p pos tpos : Pos} {elts : List Expr} {kk : Nat} (hg : Gl X "enumerate") (hm : X.mg "enumerate" = none) (ha : PA X [e] ta) (hs : starEach [e] X.env = [(false, eval e X.env)]) :
    PI X (.Tuple elts kk tpos) (.Call (.Name "enumerate" p) [e] [] pos) (iEnumT X.K ta) := by
  refine ⟨fun pins s σ H R I h => Call_ (ld_blt I hg hm boot_enumerate (PyProof.Rows.callWith_type1 (thn (ha.run pos pins s σ H _ I h) fun us s1 z => ?_) hs rfl))⟩
  obtain ⟨vs, H1, I1, r1, a, xs, ex, hq, q⟩ := z
  subst ex
  cases r1 with
  | cons r rr =>
    cases rr
    cases r
    obtain ⟨its, rv, p', _⟩ := I1.tuple hq
    have tup : s1.heap.IsTuple a its.toArray := p'
    have la : a < s1.heap.objs.size := by
      obtain ⟨_, q, _⟩ := tup
      exact Heap.lt_size q
    refine call_enumT tup fun h' he hit hk => wpAny_pyIter_enum he ?_
    have I2 : Inv X pins σ H1 { s1 with heap := h' } := I1.kept (t' := s1.toks) hk
    refine ⟨s1.heap.objs.size + 1, [s1.heap.objs.size + 1, s1.heap.objs.size], _, _, H1, rfl, I2, turn_enumT a (s1.heap.objs.size + 1) s1.heap.objs.size, ⟨⟨.none, he⟩, hit, Nat.succ_ne_self _, Nat.ne_of_gt (Nat.lt_succ_of_lt la), Nat.ne_of_lt la⟩, fun b hb => ?_, q⟩
    have hle : s1.heap.objs.size ≤ b := by
      rcases pair_mem hb with z | z <;> subst z
      · exact Nat.le_succ _
      · exact Nat.le_refl _
    exact I1.fpOk hle (I1.hok.fresh hle)
section
variable {g : Gc} {W : WX} {φ : Fc} {X : Cx} {k : Nat} {F F' : Hp} {σ : L2.St} {H H' : Hp} {env : Env}
theorem walks_enumL {a : Addr} {us : List V} {xs : List D} (h1 : SqL g.K F a us) (q1 : Reps g F us xs) : Walks g (Ite g.K a) F (pairsFrom 0 xs) := by
  intro φ F1 σ H env i s1 r1
  have k1 : SqL g.K H a us := (s1.trans r1.ex).seq h1
  refine ⟨fun d e => ?_, fun e => ⟨us, k1, ?_⟩⟩
  · rw [pairsFrom_at, Option.map_eq_some_iff] at e
    obtain ⟨x, e1, rfl⟩ := e
    obtain ⟨u, m1, m2⟩ := q1.get e1
    refine ⟨⟨us, u, k1, m1⟩, fun w H' yl => ?_⟩
    obtain ⟨T, u', rfl, hn, eH, z1⟩ := yl
    have t1 := (z1 us k1).symm.trans m1
    cases t1
    rw [Nat.zero_add]
    exact laid_pair r1 hn (.int _) (m2.mono s1) eH
  · rw [pairsFrom_length] at e
    rw [q1.len]
    exact e
theorem walks_enumT {a : Addr} {us : List V} {xs : List D} (h1 : SqT g.K F a us) (q1 : Reps g F us xs) : Walks g (Iet g.K a) F (pairsFrom 0 xs) := by
  intro φ F1 σ H env i s1 r1
  have k1 : SqT g.K H a us := same_t (s1.trans r1.ex) h1
  refine ⟨fun d e => ?_, fun e => ⟨us, k1, ?_⟩⟩
  · rw [pairsFrom_at, Option.map_eq_some_iff] at e
    obtain ⟨x, e1, rfl⟩ := e
    obtain ⟨u, m1, m2⟩ := q1.get e1
    refine ⟨⟨us, u, k1, m1⟩, fun w H' yl => ?_⟩
    obtain ⟨T, u', rfl, hn, eH, z1⟩ := yl
    have t1 := (z1 us k1).symm.trans m1
    cases t1
    rw [Nat.zero_add]
    exact laid_pair r1 hn (.int _) (m2.mono s1) eH
  · rw [pairsFrom_length] at e
    rw [q1.len]
    exact e
theorem si_enum {e : Expr} {elts : List Expr} {n : Nat} {m : MA} {p pos tpos : Pos} (hK : X.K = g.K) (ha : SA g W φ X [e] m) (hg : Gl X "enumerate") (hm : X.mg "enumerate" = none)
    (hs : starEach [e] X.env = [(false, eval e X.env)] := by rfl) : SI g W φ X (.Tuple elts n tpos) (.Call (.Name "enumerate" p) [e] [] pos) (lEnum m) := by
  intro F σ H env R hr hp
  -- which kind of sequence it is, the data tells
  unfold lEnum at hp
  cases e1 : m env with
  | no => rw [e1] at hp; exact hp.elim
  | exc c v e' =>
    rw [e1] at hp
    refine ⟨_, pi_enum hg hm w_pa hs, ha F σ H env _ hr ?_⟩
    rw [e1]
    exact hp
  | ok as e' =>
    rw [e1] at hp
    have hp : PoI g W φ F σ R (match vals as with
      | some [.tup xs] => .ok (pairsFrom 0 xs) e'
      | some [.lst xs] => .ok (pairsFrom 0 xs) e'
      | _ => .no) := hp
    have key : ∀ (d1 : D) (vs : List V) (F1 : Hp), vals as = some [d1] → AvsR g F1 σ vs as → ∃ v1, vs = [v1] ∧ Rep g F1 v1 d1 := fun d1 vs F1 hv p1 => by
      have q := p1.vals hv
      have := q.len
      match vs, this with
      | [v1], _ => exact ⟨v1, rfl, q.head⟩
    split at hp
    · rename_i xs hv
      refine ⟨_, pi_enumT hg hm w_pa hs, ha F σ H env _ hr ?_⟩
      rw [e1]
      intro vs H1 F1 s1 r1 p1
      obtain ⟨v1, rfl, k1⟩ := key _ _ _ hv p1
      cases k1 with
      | tup a us xs' h1 hl1 hi1 => exact ⟨a, us, rfl, hK ▸ same_t r1.ex h1, hp _ _ _ s1 r1 (hK ▸ walks_enumT h1 ⟨hl1, hi1⟩)⟩
    · rename_i xs hv
      refine ⟨_, pi_enum hg hm w_pa hs, ha F σ H env _ hr ?_⟩
      rw [e1]
      intro vs H1 F1 s1 r1 p1
      obtain ⟨v1, rfl, k1⟩ := key _ _ _ hv p1
      cases k1 with
      | lst a us xs' h1 hl1 hi1 => exact ⟨a, us, rfl, SqL.of (r1.ex _ _ h1), hp _ _ _ s1 r1 (hK ▸ walks_enumL (SqL.of h1) ⟨hl1, hi1⟩)⟩
    · exact hp.elim
/-! ### max, min of a list of numbers -/
def intsOf : List D → Option (List Int)
  | [] => some []
  | .int i :: ds => (intsOf ds).map (i :: ·)
  | _ :: _ => none
theorem intsOf_ok : ∀ {ds : List D} {is : List Int} {vs : List V}, intsOf ds = some is → Reps g F vs ds → vs = is.map V.int
  | [], is, vs, e, r => by
    cases e
    have := r.len
    match vs, this with
    | [], _ => rfl
  | d :: ds, is, vs, e, r => by
    match vs, r with
    | [], r => have := r.len; simp at this
    | v :: vs, r =>
      cases d <;> simp only [intsOf, reduceCtorEq, Option.map_eq_some_iff] at e
      obtain ⟨is', e1, e2⟩ := e
      subst e2
      have h := r.head
      cases h
      rw [intsOf_ok e1 r.tail]
      rfl
def bigOf : List Int → Option Int
  | [] => none
  | i :: is => some (is.foldl max i)
theorem foldl_max : ∀ (is : List Int) (i : Int), i ≤ is.foldl max i ∧ (∀ j ∈ is, j ≤ is.foldl max i) ∧ (is.foldl max i = i ∨ is.foldl max i ∈ is)
  | [], i => ⟨Int.le_refl _, (fun _ h => by cases h), .inl rfl⟩
  | j :: is, i => by
    obtain ⟨h1, h2, h3⟩ := foldl_max is (max i j)
    refine ⟨Int.le_trans (Int.le_max_left _ _) h1, fun q hq => ?_, ?_⟩
    · rcases List.mem_cons.mp hq with rfl | hq
      · exact Int.le_trans (Int.le_max_right _ _) h1
      · exact h2 q hq
    · rcases h3 with h3 | h3
      · rcases Int.le_total i j with z | z
        · right
          rw [show List.foldl max i (j :: is) = j from h3.trans (Int.max_eq_right z)]
          exact List.mem_cons_self
        · exact .inl (h3.trans (Int.max_eq_left z))
      · exact .inr (List.mem_cons_of_mem _ h3)
def maxLF : List D → Option D
  | [.lst xs] => match intsOf xs with
    | some is => (bigOf is).map D.int
    | none => none
  | _ => none
theorem ca_maxL (hK : X.K = g.K) (hc : X.calm = true) : CaS g φ (wC X (.builtin "max")) maxLF := by
  intro F σ H env vs ds z Q hr hx hf hq
  cases hx with
  | nil => simp [maxLF] at hf
  | @cons v d vs ds hv t =>
    cases t with
    | cons _ _ => cases d <;> simp [maxLF] at hf
    | nil =>
      cases d <;> simp only [maxLF, reduceCtorEq] at hf
      rename_i xs
      cases e1 : intsOf xs with
      | none => simp [e1] at hf
      | some is =>
        simp only [e1] at hf
        obtain ⟨a, ws, rfl, h2, h3⟩ := hv.lst hr.ex
        have e := intsOf_ok e1 h3
        subst e
        match is, hf with
        | i :: is, hf =>
          have ez : z = .int (is.foldl max i) := (Option.some.inj hf).symm
          subst ez
          refine ⟨_, cr_max hc, a, i :: is, rfl, SqL.of h2, by simp, fun m hm hle => ?_⟩
          obtain ⟨k1, k2, k3⟩ := foldl_max is i
          have em : m = is.foldl max i := by
            refine Int.le_antisymm ?_ (hle _ ?_)
            · rcases List.mem_cons.mp hm with rfl | hm
              · exact k1
              · exact k2 m hm
            · rcases k3 with k3 | k3
              · rw [k3]
                exact List.mem_cons_self
              · exact List.mem_cons_of_mem _ k3
          rw [em]
          exact hq _ _ _ (Same.refl _) hr (.int _)
/-! ### x in a list or tuple of plain values -/
def flatD : D → Bool
  | .non => true
  | .bl _ => true
  | .int _ => true
  | .str _ => true
  | _ => false
def eqD : D → D → Bool
  | .non, .non => true
  | .bl a, .bl b => a == b
  | .bl a, .int b => (if a then 1 else 0) == b
  | .int a, .bl b => a == (if b then 1 else 0)
  | .int a, .int b => a == b
  | .str a, .str b => a == b
  | _, _ => false
def inF (neg : Bool) (x y : D) : Option D := match seqF y with
  | some ys => if flatD x = true ∧ ys.all flatD = true then some (.bl (if neg = true then !(ys.any fun y => eqD y x) else ys.any fun y => eqD y x)) else none
  | none => none
theorem flat_rep {v : V} {d : D} (r : Rep g F v d) (h : flatD d = true) : flatV v = true := by
  cases r <;> first | rfl | (simp [flatD] at h)
theorem eq_rep {v u : V} {d e : D} (r : Rep g F v d) (r2 : Rep g F u e) (h : flatD d = true) (h2 : flatD e = true) : eqV v u = eqD d e := by
  cases r <;> cases r2 <;> first | rfl | (simp [flatD] at h) | (simp [flatD] at h2)
theorem flats_rep : ∀ {vs : List V} {ds : List D}, Reps g F vs ds → ds.all flatD = true → vs.all flatV = true
  | [], _, _, _ => rfl
  | v :: vs, [], r, _ => by have := r.len; simp at this
  | v :: vs, d :: ds, r, h => by
    rw [List.all_cons, Bool.and_eq_true] at h ⊢
    exact ⟨flat_rep r.head h.1, flats_rep r.tail h.2⟩
theorem in_rep {u : V} {e : D} (r2 : Rep g F u e) (h2 : flatD e = true) : ∀ {vs : List V} {ds : List D}, Reps g F vs ds → ds.all flatD = true → inV u vs = ds.any fun y => eqD y e
  | [], [], _, _ => rfl
  | [], _ :: _, r, _ => by have := r.len; simp at this
  | v :: vs, [], r, _ => by have := r.len; simp at this
  | v :: vs, d :: ds, r, h => by
    rw [List.all_cons, Bool.and_eq_true] at h
    have ih := in_rep r2 h2 r.tail h.2
    unfold inV at ih ⊢
    rw [List.any_cons, List.any_cons, ih, eq_rep r.head r2 h.1 h2]
theorem RepH.flat {v : V} {d : D} (h : RepH g F H v d) (e : flatD d = true) : Rep g F v d := by
  cases h with
  | of h => exact h
  | ow _ _ => simp [flatD] at e
theorem RepH.seq {v : V} {d : D} {xs : List D} (s : Same F H) (h : RepH g F H v d) (e : seqF d = some xs) : ∃ a vs, v = .ref a ∧ (SqL g.K H a vs ∨ SqT g.K H a vs) ∧ Reps g F vs xs := by
  cases d <;> simp only [seqF, reduceCtorEq, Option.some.injEq] at e <;> subst e
  · obtain ⟨a, vs, h1, h2, h3⟩ := h.tup s
    exact ⟨a, vs, h1, .inr h2, h3⟩
  · obtain ⟨a, vs, h1, h2, h3⟩ := h.lst s
    exact ⟨a, vs, h1, .inl (SqL.of h2), h3⟩
  · obtain ⟨a, vs, h1, h2, h3⟩ := h.rol s
    exact ⟨a, vs, h1, .inl h2, h3⟩
theorem op_in_ (hK : X.K = g.K) : OpS g φ (wO X (compareOp .In)) (inF false) := by
  intro F σ H env v u x y z Q hr hx hy hf hq
  unfold inF at hf
  cases e : seqF y with
  | none => simp [e] at hf
  | some ys =>
    simp only [e] at hf
    by_cases hc : flatD x = true ∧ ys.all flatD = true
    · rw [if_pos hc] at hf
      obtain ⟨a, vs, rfl, h1, h2⟩ := hy.seq hr.ex e
      have px := hx.flat hc.1
      have ei := in_rep px hc.1 h2 hc.2
      refine ⟨_, op_in_seq, a, vs, rfl, hK ▸ h1, flat_rep px hc.1, flats_rep h2 hc.2, ?_⟩
      have ez := (Option.some.inj hf).symm
      subst ez
      rw [ei]
      exact hq _ _ _ (Same.refl _) hr (.bl _)
    · rw [if_neg hc] at hf
      cases hf
end
end Mp
set_option Elab.async false
set_option linter.all false
set_option maxRecDepth 100000
set_option maxHeartbeats 4000000
/-! calls with every argument by its name, in the parameters' order -/
namespace Mp
open PySem PySem.Spec PyProof.Rows L2
def KwB (K : PySem.W.Frag) (fd : FuncData) (ps : List Str) : Prop := ∀ (s : Shared) (ws : List Value), K.In s.heap → ws.length = ps.length → BindsTo s fd ⟨[], ps.zip ws⟩ (ps.zip ws)
/-- .. with a value ahead (the new object) -/
def KwB1 (K : PySem.W.Frag) (fd : FuncData) (q : Str) (ps : List Str) : Prop := ∀ (s : Shared) (u : Value) (ws : List Value), K.In s.heap → ws.length = ps.length → BindsTo s fd ⟨[u], ps.zip ws⟩ ((q :: ps).zip (u :: ws))
structure HasK (P : Program) (w : World) (mg : Str → Option Value) (base : Heap) (g : Gc) (k : Nat) (x : Str) (ps : List Str) (fn : Fn) : Prop where
  ex : ∃ (f : Addr) (fd : FuncData), FnOk P w g.K mg base (L2.CX P w) k f fd ps (spOf g fn) ∧ mg x = some (.ref f) ∧ PySem.W.keepIn g.K (.ref f) = true ∧ KwB g.K fd ps
structure HasMkK (P : Program) (w : World) (mg : Str → Option Value) (base : Heap) (g : Gc) (k : Nat) (cn : Str) (ps : List Str) (fi : List D → IR) : Prop where
  ex : ∃ (C fI : Addr) (fd : FuncData) (q : Str) (ns : List Str), Mk g.K C fI ∧ FnOk P w g.K mg base (L2.CX P w) k fI fd (q :: ps) (spInit g C ns fi) ∧ KwB1 g.K fd q ps ∧ mg cn = some (.ref C) ∧ g.cl cn = some (C, ns)
section
variable {g : Gc} {W : WX} {φ : Fc} {X : Cx} {k : Nat} {F F' : Hp} {σ : L2.St} {H H' : Hp} {env : Env}
def SKw (g : Gc) (W : WX) (φ : Fc) (X : Cx) (kws : List Keyword) (m : MA) : Prop := ∀ F σ H env Q, Rel g φ F σ H env → PoA g W φ F σ Q (m env) → ∃ t, PK X kws t ∧ t σ H Q
def wK (X : Cx) (kws : List Keyword) : TA := fun σ H Q => ∃ t, PK X kws t ∧ t σ H Q
theorem w_pk {kws : List Keyword} : PK X kws (wK X kws) := ⟨fun pos pins s σ H Q I ⟨_, h, q⟩ => h.run pos pins s σ H Q I q⟩
theorem sk_nil : SKw g W φ X [] aNil := fun F σ H env Q hr hp => ⟨_, pk_nil, hp [] H F (Same.refl _) hr .nil⟩
theorem sk_cons {nm : Option Str} {e : Expr} {kpos : Pos} {kws : List Keyword} {m : MV} {n : MA} (h : SV g W φ X e m) (t : SKw g W φ X kws n) : SKw g W φ X (⟨nm, e, kpos⟩ :: kws) (aCons m n) := by
  intro F σ H env Q hr hp
  refine ⟨_, pk_cons w_pe w_pk, ?_⟩
  have hp : PoA g W φ F σ Q ((m env).bind fun a e => (n e).bind fun as e2 => .ok (a :: as) e2) := hp
  cases e1 : m env with
  | no => rw [e1] at hp; exact hp.elim
  | exc c v e' => rw [e1] at hp; exact h F σ H env _ hr (by rw [e1]; exact hp)
  | ok a e1' =>
    rw [e1] at hp
    refine h F σ H env _ hr ?_
    rw [e1]
    intro v H1 F1 s1 r1 p1
    have hp1 : PoA g W φ F1 σ Q ((n e1').bind fun as e2 => .ok (a :: as) e2) := PoA.mono s1 hp
    exact t F1 σ H1 e1' _ r1 (aa hp1 fun as e2 vs H2 F2 s2 r2 p2 hp2 => hp2 (v :: vs) H2 F2 (Same.refl _) r2 (.cons (p1.mono s2) p2))
theorem pe_kw0 {CX : CXT} {x : Str} {p pos : Pos} {f : Addr} {fd : FuncData} {ps : List Str} {sp : Sp} {E : L2.St → XK} {kws : List Keyword} {t : TA} (Fo : FnOk X.prog X.w X.K X.mg X.base CX k f fd ps sp) (hr : Room k X.A) (hg : Gl X x) (hm : X.mg x = some (.ref f)) (hk : PySem.W.keepIn X.K (.ref f) = true) (hb : KwB X.K fd ps)
    (hx : ∀ σ, PassesAt CX X σ (E σ)) (hkw : PK X kws t) (hall : (backToKw pos (keywordEach kws X.env)).all (·.1.isSome) = true) (hks : (backToKw pos (keywordEach kws X.env)).filterMap (·.1) = ps) (hdb : (x == ("__debug__" : Str)) = false)
    (hpl : ((backTo pos (starEach [] X.env)).any (·.1) || (backToKw pos (keywordEach kws X.env)).any (·.1.isNone)) = false) : PE X (.Call (.Name x p) [] kws pos) (fun σ H Q => t σ H fun vs H1 => sp vs H1 Q (E σ)) := by
  refine ⟨fun pins s σ H Q I h => wpAny_Call_Name_kw (ld_glob I hg hm (PySem.W.callWith_KW0 (h₀ := X.base) I.ok.mod.kin hk hall (thn (hkw.run pos pins s σ H _ I h) fun ws s2 z => ?_) hpl) hdb)⟩
  obtain ⟨vs, H2, I2, rz, q⟩ := z
  refine ⟨I2.kIn, ?_⟩
  rw [hks]
  have n : ws.length = ps.length := rz.length.symm.trans (Fo.len _ _ _ _ q)
  refine wpAny_call (codeAny_mono (Fo.run X.A X.stack s2 H2 ⟨[], ps.zip ws⟩ ws vs Q (E σ) hr I2.env0 (hb s2 ws I2.kIn n) rz q) fun r s' hq => ?_)
  match r, hq with
  | .error e, hq => exact hx σ pins H2 s2 e s' I2 hq
  | .ok (.ret u), hq => exact I2.after hq
theorem se_fnK {x : Str} {ps : List Str} {kk : Nat} {fn : Fn} {kws : List Keyword} {m : MA} {p pos : Pos} (c : Cok g X W k) (h : HasK X.prog X.w X.mg X.base g kk x ps fn) (hk : kk ≤ k) (hg : Gl X x) (ha : SKw g W φ X kws m)
    (hall : (backToKw pos (keywordEach kws X.env)).all (·.1.isSome) = true := by rfl) (hks : (backToKw pos (keywordEach kws X.env)).filterMap (·.1) = ps := by rfl) (hdb : (x == ("__debug__" : Str)) = false := by decide)
    (hpl : ((backTo pos (starEach [] X.env)).any (·.1) || (backToKw pos (keywordEach kws X.env)).any (·.1.isNone)) = false := by rfl) : SE g W φ X (.Call (.Name x p) [] kws pos) (mFn fn m) := by
  intro F σ H env Q hr hp
  obtain ⟨f, fd, Fo, hm, hkp, hb⟩ := h.ex
  rw [← c.K] at Fo hkp hb
  refine ⟨_, pe_kw0 Fo (c.rm.mono hk) hg hm hkp hb (fun σ => passAt c.tk σ) w_pk hall hks hdb hpl, ?_⟩
  exact ha F σ H env _ hr (ae hp fun as e1 vs H1 F1 s1 r1 p1 hp1 => sp_call r1 p1 hp1)
end
end Mp
set_option Elab.async false
set_option linter.all false
set_option maxRecDepth 100000
set_option maxHeartbeats 4000000
/-! classes and exceptions of the text, joined -/
namespace Mp
open PySem PySem.Spec PyProof.Rows L2
section
variable {P : Program} {w : World} {mg : Str → Option Value} {base : Heap} {g : Gc} {k : Nat}
/-- the class cn with its __init__ -/
structure ClAt (g : Gc) (mg : Str → Option Value) (cn : Str) (C : Addr) (ns : List Str) (st : Stmt) (q : Str) (qual : Str) (ps : List Str) (fI : Addr) (fd : FuncData) : Prop where
  co : ClO g cn C ns
  mkd : Mk g.K C fI
  gl : mg cn = some (.ref C)
  fn : Fun g.K "__init__" qual st fI fd
  bi : Binds g.K fd (q :: ps) []
  kw : KwB1 g.K fd q ps
theorem has_mk {cn q qual : Str} {C fI : Addr} {ns ps N : List Str} {st : Stmt} {fd : FuncData} {pre : MS} {l : List (Str × ME)} {fi : List D → IR} (A : ClAt g mg cn C ns st q qual ps fI fd) (S : FnScope N (q :: ps) (defScope st)) (hl : (q :: ps).length ≤ N.length) (hns : ns = l.map (·.1))
    (hfi : ∀ x ds, runInit (q :: ps).length N.length pre l x ds = fi ds)
    (hbody : ∀ (cdv : Value) (A : Around) (outer : List PySem.Env) (s : Shared) (H : Hp) (E : XK) (φ : Fc), Cok g (cxOf (L2.CX P w) P w g.K mg base N qual (defScope st) fI cdv A outer s H E) (fun cls d _ H => E cls d H) k →
      IBody g (fun cls d _ H => E cls d H) φ (cxOf (L2.CX P w) P w g.K mg base N qual (defScope st) fI cdv A outer s H E) (defBody st) pre l) :
    HasMk P w mg base g (k + 1) cn fi ∧ HasMkK P w mg base g (k + 1) cn ps fi := by
  have Fo := init_ok A.fn S hl A.co hns hfi hbody
  exact ⟨⟨C, fI, fd, q :: ps, ns, A.mkd, Fo, A.bi, A.gl, A.co.cl⟩, ⟨C, fI, fd, q, ns, A.mkd, Fo, A.kw, A.gl, A.co.cl⟩⟩
theorem has_eq {cn qual : Str} {C f : Addr} {ns ps N : List Str} {st : Stmt} {fd : FuncData} {body : MS} (hcl : g.cl cn = some (C, ns)) (hs : PySem.W.findIn g.K (.ref C) "__eq__" = some (some (.ref f))) (hf : PySem.W.isFn g.K (.ref f) = true) (Fu : Fun g.K "__eq__" qual st f fd) (hb : Binds g.K fd ps [])
    (S : FnScope N ps (defScope st)) (hl : ps.length ≤ N.length)
    (hbody : ∀ (cdv : Value) (A : Around) (outer : List PySem.Env) (s : Shared) (H : Hp) (E : XK) (φ : Fc), Cok g (cxOf (L2.CX P w) P w g.K mg base N qual (defScope st) f cdv A outer s H E) (fun cls d _ H => E cls d H) k →
      SB g (fun cls d _ H => E cls d H) φ (cxOf (L2.CX P w) P w g.K mg base N qual (defScope st) f cdv A outer s H E) (defBody st) body) :
    HasEq P w mg base g (k + 1) cn (fnOf ps.length N.length body) := ⟨C, f, fd, ps, ns, hcl, hs, hf, def_ok Fu S hl hbody, hb⟩
/-- a def by keywords -/
theorem has_k {x qual : Str} {st : Stmt} {N ps : List Str} {f : Addr} {fd : FuncData} {body : MS} (Fu : Fun g.K x qual st f fd) (hm : mg x = some (.ref f)) (hb : KwB g.K fd ps) (S : FnScope N ps (defScope st)) (hl : ps.length ≤ N.length)
    (hbody : ∀ (cdv : Value) (A : Around) (outer : List PySem.Env) (s : Shared) (H : Hp) (E : XK) (φ : Fc), Cok g (cxOf (L2.CX P w) P w g.K mg base N qual (defScope st) f cdv A outer s H E) (fun cls d _ H => E cls d H) k →
      SB g (fun cls d _ H => E cls d H) φ (cxOf (L2.CX P w) P w g.K mg base N qual (defScope st) f cdv A outer s H E) (defBody st) body) :
    HasK P w mg base g (k + 1) x ps (fnOf ps.length N.length body) := ⟨f, fd, def_ok Fu S hl hbody, hm, Fu.kp, hb⟩
/-- what an except clause takes -/
theorem exm_of {K : PySem.W.Frag} {S S' : Addr} {b : Bool} (h1 : PySem.W.subIn K (.ref S) (.type "BaseException") = some true) (h2 : PySem.W.isClsIn K S = true) (h3 : PySem.W.typeIn K (.ref S) = some (.type "type")) (h4 : PySem.W.subIn K (.ref S') (.ref S) = some b) : PySem.W.exmOne K (.ref S') (.ref S) = some b := by
  unfold PySem.W.exmOne PySem.W.kitCls
  have e : (PySem.W.clsIn K S).isSome = true := h2
  simp [h1, h3, h4, e, PySem.W.kitMeta]
theorem kit_of_sub {K : PySem.W.Frag} {S : Addr} {t : Value} {b : Bool} (h2 : PySem.W.isClsIn K S = true) (h3 : PySem.W.typeIn K (.ref S) = some (.type "type")) (h4 : PySem.W.subIn K t (.ref S) = some b) (hn : (t == Value.ref S) = true → b = true) : PySem.W.kitOne K t (.ref S) = some b := by
  unfold PySem.W.kitOne PySem.W.kitCls
  have e : (PySem.W.clsIn K S).isSome = true := h2
  by_cases z : (t == Value.ref S) = true
  · rw [if_pos z, hn z]
  · rw [if_neg z]
    simp [h3, h4, e]
end

section
variable {K : PySem.W.Frag} {S S' : Addr} {t : String} {b : Bool}
theorem kit_typ (h2 : PySem.W.isClsIn K S = true) (h3 : PySem.W.typeIn K (.ref S) = some (.type "type")) (h4 : PySem.W.subIn K (.type t) (.ref S) = some b) : PySem.W.kitOne K (.type t) (.ref S) = some b :=
  kit_of_sub h2 h3 h4 fun z => absurd (beq_iff_eq.mp z) (fun q => by cases q)
theorem kit_ref (h2 : PySem.W.isClsIn K S = true) (h3 : PySem.W.typeIn K (.ref S) = some (.type "type")) (hs : PySem.W.subIn K (.ref S) (.ref S) = some true) (h4 : PySem.W.subIn K (.ref S') (.ref S) = some b) : PySem.W.kitOne K (.ref S') (.ref S) = some b :=
  kit_of_sub h2 h3 h4 fun z => by
    cases beq_iff_eq.mp z
    rw [hs] at h4
    cases h4
    rfl
end
/-- a law's promise -/
def spLaw (K : PySem.W.Frag) : Sp := fun vs H Q _ => ∃ (a : Addr) (ns : List Int), vs = [.ref a] ∧ SqL K H a (ns.map V.int) ∧ ns.length ≤ 63 ∧ ∀ H', Q (.bl true) H'
theorem law_of {P : Program} {w : World} {mg : Str → Option Value} {base : Heap} {g : Gc} {k : Nat} {f : Addr} {fd : FuncData} {fn : Fn} {x : Str} (F : FnOk P w g.K mg base (L2.CX P w) k f fd [x] (spOf g fn))
    (h : ∀ ns : List Int, ns.length ≤ 63 → ∃ outs, fn [.va (.rol (ns.map D.int))] = .ok (.bl true) outs) : FnOk P w g.K mg base (L2.CX P w) k f fd [x] (spLaw g.K) := by
  refine F.imp fun vs H Q E q => ?_
  obtain ⟨a, ns, rfl, hS, hl, q⟩ := q
  obtain ⟨outs, e⟩ := h ns hl
  refine ⟨H, [.va (.rol (ns.map D.int))], Rel.fresh (Same.refl _) rfl (fun i d z => ?_) (by simp [noOw, isOwS]), ?_⟩
  · cases i with
    | zero =>
      simp only [List.getElem?_cons_zero, Option.some.injEq, Sl.va.injEq] at z
      subst z
      refine ⟨.ref a, rfl, .rol a _ _ hS (by simp) fun i v d h1 h2 => ?_⟩
      rw [List.getElem?_map, Option.map_eq_some_iff] at h1 h2
      obtain ⟨x1, e1, rfl⟩ := h1
      obtain ⟨x2, e2, rfl⟩ := h2
      rw [e1] at e2
      cases e2
      exact .int _
    | succ i => simp at z
  · rw [e]
    intro v H' F' _ _ r
    cases r
    exact q H'
/-! ### tuple(range(n)) -/
def mTupRange (m : ME) : ME := fun env => (m env).bind fun d e => match d with
  | .int j => if -(2 ^ 62) ≤ j ∧ j ≤ 16777216 then .ok (.tup ((List.range j.toNat).map fun (i : Nat) => D.int (i : Int))) e else .no
  | _ => .no
section
variable {g : Gc} {W : WX} {φ : Fc} {X : Cx} {k : Nat}
theorem reps_range (g : Gc) (F : Hp) (j : Int) : Reps g F (rgV 0 j) ((List.range j.toNat).map fun (i : Nat) => D.int (i : Int)) := by
  unfold rgV
  rw [Int.sub_zero]
  refine ⟨by simp, fun i v d a b => ?_⟩
  rw [List.getElem?_map, Option.map_eq_some_iff] at a b
  obtain ⟨x, a1, rfl⟩ := a
  obtain ⟨y, b1, rfl⟩ := b
  rw [a1] at b1
  cases b1
  rw [Int.zero_add]
  exact .int _
theorem se_tupRange {a : Expr} {m : ME} {p p2 pos pos2 : Pos} (c : Cok g X W k) (h : SE g W φ X a m) (hg : Gl X "tuple") (hm : X.mg "tuple" = none) (hg2 : Gl X "range") (hm2 : X.mg "range" = none)
    (na2 : starEach [a] X.env = (false, eval a X.env) :: starEach [] X.env := by rfl) (na : starEach [.Call (.Name "range" p2) [a] [] pos2] X.env = (false, eval (.Call (.Name "range" p2) [a] [] pos2) X.env) :: starEach [] X.env := by rfl) :
    SE g W φ X (.Call (.Name "tuple" p) [.Call (.Name "range" p2) [a] [] pos2] [] pos) (mTupRange m) := by
  intro F σ H env Q hr hp
  refine ⟨_, pe_tupRg c.calm hg hm (prg_1 hg2 hm2 w_pe na2) na, ?_⟩
  refine h F σ H env _ hr (ee hp fun d e1 v H1 F1 s1 r1 p1 hp1 => ?_)
  cases d with
  | int j =>
    cases p1
    by_cases hz : -(2 ^ 62) ≤ j ∧ j ≤ 16777216
    · simp only [hz, and_self, if_true] at hp1
      refine ⟨j, rfl, ⟨by decide, by decide, hz.1, by omega, by omega⟩, fun q hq => ?_⟩
      obtain ⟨s2, r2⟩ := r1.laid (o := .tup (rgV 0 j)) hq
      exact hp1 _ _ _ s2 r2 (.mkTup upd_same (reps_range g _ j))
    · simp only [hz, if_false] at hp1
      exact hp1.elim
  | _ => exact hp1.elim
theorem Cok.w0 (c : Cok g X W k) : Cok g X W0 k := ⟨c.K, c.calm, c.nd, takes0, c.rm, c.po⟩
end
end Mp
set_option Elab.async false
set_option linter.all false
set_option maxRecDepth 100000
/-! the denotations, for simp -/
namespace Mp
open PySem PySem.Spec PyProof.Rows L2
section
variable {α β : Type}
@[simp] theorem Re.bind_ok (a : α) (e : Env) (k : α → Env → Re β) : (Re.ok a e).bind k = k a e := rfl
@[simp] theorem Re.bind_exc (c : Str) (v : D) (e : Env) (k : α → Env → Re β) : (Re.exc c v e : Re α).bind k = .exc c v e := rfl
@[simp] theorem Re.bind_no (k : α → Env → Re β) : (Re.no : Re α).bind k = .no := rfl
@[simp] theorem Re.nx_ok (a : α) (e : Env) (k : α → Env → Re β) : (Re.ok a e).nx k = k a e := rfl
@[simp] theorem Re.flow_ok (a : α) (e : Env) (k : α → Env → Fl) : (Re.ok a e).flow k = k a e := rfl
@[simp] theorem Re.flow_exc (c : Str) (v : D) (e : Env) (k : α → Env → Fl) : (Re.exc c v e : Re α).flow k = .exc c v e := rfl
@[simp] theorem Re.flow_no (k : α → Env → Fl) : (Re.no : Re α).flow k = .no := rfl
@[simp] theorem Fl.seq_nx (e : Env) (k : Env → Fl) : (Fl.nx e).seq k = k e := rfl
@[simp] theorem Fl.seq_rt (d : D) (e : Env) (k : Env → Fl) : (Fl.rt d e).seq k = .rt d e := rfl
@[simp] theorem Fl.seq_br (e : Env) (k : Env → Fl) : (Fl.br e).seq k = .br e := rfl
@[simp] theorem Fl.seq_ct (e : Env) (k : Env → Fl) : (Fl.ct e).seq k = .ct e := rfl
@[simp] theorem Fl.seq_exc (c : Str) (v : D) (e : Env) (k : Env → Fl) : (Fl.exc c v e).seq k = .exc c v e := rfl
@[simp] theorem Fl.seq_no (k : Env → Fl) : Fl.no.seq k = .no := rfl
@[simp] theorem mVar_s (i : Nat) (env : Env) : mVar i env = match env[i]? with
  | some (.va d) => .ok d env
  | _ => .no := rfl
@[simp] theorem mOwn_s (i : Nat) (env : Env) : mOwn i env = match env[i]? with
  | some (.ow _ _) => .ok (.ix i) env
  | some (.va d) => .ok (.va d) env
  | _ => .no := rfl
@[simp] theorem mC_s (d : D) (env : Env) : mC d env = .ok d env := rfl
@[simp] theorem vOf_s (m : ME) (env : Env) : vOf m env = (m env).bind fun d e1 => .ok (.va d) e1 := rfl
@[simp] theorem mBin_s (f : D → D → Option β) (ma mb : MV) (env : Env) : mBin f ma mb env = (ma env).bind fun x e1 => (mb e1).bind fun y e2 => use2 f x y e2 := rfl
@[simp] theorem mUn_s (f : D → Option β) (ma : MV) (env : Env) : mUn f ma env = (ma env).bind fun x e1 => use1 f x e1 := rfl
@[simp] theorem use1_s (f : D → Option β) (d : D) (e : Env) : use1 f (.va d) e = match f d with
  | some z => .ok z e
  | none => .no := rfl
@[simp] theorem use1_i (f : D → Option β) (i : Nat) (e : Env) : use1 f (.ix i) e = match (Av.ix i).get e with
  | some d => match f d with
    | some z => .ok z e
    | none => .no
  | none => .no := rfl
@[simp] theorem use2_s (f : D → D → Option β) (x y : Av) (e : Env) : use2 f x y e = match x.get e, y.get e with
  | some d, some d' => match f d d' with
    | some z => .ok z e
    | none => .no
  | _, _ => .no := rfl
@[simp] theorem Av.get_va (e : Env) (d : D) : (Av.va d).get e = some d := rfl
@[simp] theorem Av.get_ix (e : Env) (i : Nat) : (Av.ix i).get e = match e[i]? with
  | some (.ow _ xs) => some (.lst xs)
  | _ => none := rfl
@[simp] theorem gets_nil (e : Env) : gets e [] = some [] := rfl
@[simp] theorem gets_cons (e : Env) (a : Av) (as : List Av) : gets e (a :: as) = match a.get e, gets e as with
  | some d, some ds => some (d :: ds)
  | _, _ => none := rfl
@[simp] theorem vals_nil : vals [] = some [] := rfl
@[simp] theorem use_s (f : List D → Option β) (as : List Av) (e : Env) : use f as e = match gets e as with
  | some ds => match f ds with
    | some z => .ok z e
    | none => .no
  | none => .no := rfl
@[simp] theorem mCall_s (f : List D → Option D) (m : MA) (env : Env) : mCall f m env = (m env).bind fun as e => use f as e := rfl
@[simp] theorem aNil_s (env : Env) : aNil env = .ok [] env := rfl
@[simp] theorem aCons_s (m : MV) (n : MA) (env : Env) : aCons m n env = (m env).bind fun a e => (n e).bind fun as e2 => .ok (a :: as) e2 := rfl
@[simp] theorem mTup_s (m : MA) (env : Env) : mTup m env = (m env).bind fun as e => match vals as with
  | some ds => if ds.length ≤ line then .ok (.tup ds) e else .no
  | none => .no := rfl
@[simp] theorem lLst_s (m : MA) (env : Env) : lLst m env = (m env).bind fun as e => match vals as with
  | some ds => if ds.length ≤ line then .ok ds e else .no
  | none => .no := rfl
@[simp] theorem mL_s (m : ML) (env : Env) : mL m env = (m env).bind fun xs e => .ok (.lst xs) e := rfl
@[simp] theorem lLc_s (own : List Nat) (mi : ML) (tg : MG) (ts : MT) (elt : ME) (env : Env) : lLc own mi tg ts elt env = (mi env).bind fun ds e => if ds.length ≤ line then lcF own tg ts elt ds e else .no := rfl
@[simp] theorem mIf_s (c : MT) (m n : ME) (env : Env) : mIf c m n env = (c env).bind fun b e => if b = true then m e else n e := rfl
@[simp] theorem mAndV_s (m n : ME) (env : Env) : mAndV m n env = ((m env).bind asB).bind fun b e => if b = true then n e else .ok (.bl false) e := rfl
@[simp] theorem mOrV_s (m n : ME) (env : Env) : mOrV m n env = ((m env).bind asB).bind fun b e => if b = true then .ok (.bl true) e else n e := rfl
@[simp] theorem asB_bl (b : Bool) (e : Env) : asB (.bl b) e = .ok b e := rfl
@[simp] theorem mNotV_s (m : ME) (env : Env) : mNotV m env = ((m env).bind asB).bind fun b e => .ok (.bl (!b)) e := rfl
@[simp] theorem mTest_s (m : ME) (env : Env) : mTest m env = (m env).bind asB := rfl
@[simp] theorem mNot_s (m : MT) (env : Env) : mNot m env = (m env).bind fun b e => .ok (!b) e := rfl
@[simp] theorem mAnd_s (m n : MT) (env : Env) : mAnd m n env = (m env).bind fun b e => if b = true then n e else .ok false e := rfl
@[simp] theorem mOr_s (m n : MT) (env : Env) : mOr m n env = (m env).bind fun b e => if b = true then .ok true e else n e := rfl
@[simp] theorem bl_ok (b : Bool) (e : Env) : bl (.ok b e) = .ok (.bl b) e := rfl
@[simp] theorem mChain_s (f f' : D → D → Option Bool) (ma mb mc : MV) (env : Env) : mChain f f' ma mb mc env = (ma env).bind fun x e1 => (mb e1).bind fun y e2 => (use2 f x y e2).bind fun b e3 => if b = true then (mc e3).bind fun z e4 => use2 f' y z e4 else .ok false e3 := rfl
@[simp] theorem mSeq_s (a b : MS) (env : Env) : mSeq a b env = (a env).seq b := rfl
@[simp] theorem mIfS_s (c : MT) (a b : MS) (env : Env) : mIfS c a b env = (c env).flow fun t e => if t = true then a e else b e := rfl
@[simp] theorem mSet_s (i : Nat) (m : ME) (env : Env) : mSet i m env = (m env).flow fun d e => match putG i d e with
  | some e1 => .nx e1
  | none => .no := rfl
@[simp] theorem mSetO_s (i : Nat) (m : ML) (env : Env) : mSetO i m env = (m env).flow fun xs e => ownG i xs e := rfl
@[simp] theorem mAsg_s (mg : MG) (m : ME) (env : Env) : mAsg mg m env = (m env).flow fun d e => match mg d e with
  | some e1 => .nx e1
  | none => .no := rfl
@[simp] theorem mRet_s (m : ME) (env : Env) : mRet m env = (m env).flow fun d e1 => .rt d e1 := rfl
@[simp] theorem mRetN_s (env : Env) : mRetN env = .rt .non env := rfl
@[simp] theorem mNext_s (env : Env) : mNext env = .nx env := rfl
@[simp] theorem mBreak_s (env : Env) : mBreak env = .br env := rfl
@[simp] theorem mCont_s (env : Env) : mCont env = .ct env := rfl
@[simp] theorem mDrop_s (m : ME) (env : Env) : mDrop m env = (m env).flow fun _ e1 => .nx e1 := rfl
@[simp] theorem mFor_s (mi : ML) (tg : MG) (body : MS) (env : Env) : mFor mi tg body env = (mi env).flow fun ds e => forF tg body ds e := rfl
@[simp] theorem lSeq_s (m : ME) (env : Env) : lSeq m env = (m env).bind fun d e => match seqF d with
  | some xs => .ok xs e
  | none => .no := rfl
@[simp] theorem mFn_s (fn : Fn) (m : MA) (env : Env) : mFn fn m env = (m env).bind fun as e => callF fn as e := rfl
@[simp] theorem mMake_s (cn : Str) (fi : List D → IR) (m : MA) (env : Env) : mMake cn fi m env = (m env).bind fun as e => makeF cn fi as e := rfl
@[simp] theorem mRaise_s (cn : Str) (m : ME) (env : Env) : mRaise cn m env = (m env).flow fun d e => if fmtF d = true then .exc cn d e else .no := rfl
@[simp] theorem putG_s (i : Nat) (d : D) (env : Env) : putG i d env = match env[i]? with
  | some (.ow _ _) => none
  | some _ => some (env.set i (.va d))
  | none => none := rfl
@[simp] theorem mMove_s (i : Nat) (env : Env) : mMove i env = match env[i]? with
  | some (.ow false xs) => .ok (.lst xs) (env.set i .un)
  | some (.va d) => .ok d env
  | _ => .no := rfl
end

@[simp] theorem addF_i (i j : Int) : addF (.int i) (.int j) = some (.int (i + j)) := rfl
@[simp] theorem subF_i (i j : Int) : subF (.int i) (.int j) = some (.int (i - j)) := rfl
@[simp] theorem mulF_i (i j : Int) : mulF (.int i) (.int j) = if (-(2 ^ 64) < i ∧ i < 2 ^ 64) ∨ (-(2 ^ 64) < j ∧ j < 2 ^ 64) then some (.int (i * j)) else none := rfl
@[simp] theorem modF_i (i j : Int) : modF (.int i) (.int j) = if 0 < j then some (.int (i % j)) else none := rfl
@[simp] theorem fdivF_i (i j : Int) : fdivF (.int i) (.int j) = if 0 < j ∧ j < 1073741824 then some (.int (i / j)) else none := rfl
@[simp] theorem ltF_i (i j : Int) : ltF (.int i) (.int j) = some (decide (i < j)) := rfl
@[simp] theorem leF_i (i j : Int) : leF (.int i) (.int j) = some (decide (i ≤ j)) := rfl
@[simp] theorem gtF_i (i j : Int) : gtF (.int i) (.int j) = some (decide (j < i)) := rfl
@[simp] theorem geF_i (i j : Int) : geF (.int i) (.int j) = some (decide (j ≤ i)) := rfl
@[simp] theorem intF_i (i : Int) : intF [.int i] = some (.int i) := rfl
@[simp] theorem minF_i (i j : Int) : minF [.int i, .int j] = some (.int (if j < i then j else i)) := rfl
@[simp] theorem lenF_l (xs : List D) : lenF [.lst xs] = some (.int xs.length) := rfl
@[simp] theorem lenF_t (xs : List D) : lenF [.tup xs] = some (.int xs.length) := rfl
@[simp] theorem tupF_l (xs : List D) : tupF [.lst xs] = some (.tup xs) := rfl
@[simp] theorem tupF_t (xs : List D) : tupF [.tup xs] = some (.tup xs) := rfl
@[simp] theorem atF_l (xs : List D) (i : Int) : atF (.lst xs) (.int i) = atI xs i := rfl
@[simp] theorem atF_t (xs : List D) (i : Int) : atF (.tup xs) (.int i) = atI xs i := rfl
@[simp] theorem seqF_l (xs : List D) : seqF (.lst xs) = some xs := rfl
@[simp] theorem seqF_t (xs : List D) : seqF (.tup xs) = some xs := rfl
@[simp] theorem seqF_r (xs : List D) : seqF (.rol xs) = some xs := rfl
@[simp] theorem vals_va (d : D) (as : List Av) : vals (.va d :: as) = (vals as).map (d :: ·) := rfl
theorem eqF_int (i j : Int) : eqF (.int i) (.int j) = some (decide (i = j)) := by
  have h : ∀ k : Int, SeqAt.shaped (.int k) = true := fun k => by rfl
  simp only [eqF, toPy, h, and_self, if_true, PyData.eqv, Option.some.injEq]
  by_cases e : i = j
  · simp [e]
  · simp [e]
theorem neF_int (i j : Int) : neF (.int i) (.int j) = some (!decide (i = j)) := by
  simp [neF, eqF_int]
def iL (l : List Int) : List D := l.map D.int
@[simp] theorem iL_length (l : List Int) : (iL l).length = l.length := List.length_map _
@[simp] theorem iL_snoc (l : List Int) (x : Int) : iL l ++ [.int x] = iL (l ++ [x]) := by simp [iL]
theorem iL_nil : ([] : List D) = iL [] := rfl
theorem iL_cons (x : Int) (l : List Int) : iL (x :: l) = .int x :: iL l := rfl
theorem mem_iL {d : D} {l : List Int} (h : d ∈ iL l) : ∃ i ∈ l, d = .int i := by
  obtain ⟨i, h1, h2⟩ := List.mem_map.mp h
  exact ⟨i, h1, h2.symm⟩
theorem atI_ints (row : List Int) (i : Int) (h0 : 0 ≤ i) (h1 : i < row.length) : atI (iL row) i = some (.int (row.getD i.toNat 0)) := by
  have hn : i.toNat < row.length := by omega
  unfold atI ixN
  rw [if_pos h0, if_pos (by simpa using h1)]
  simp [iL, List.getElem?_map, List.getElem?_eq_getElem hn, List.getD_eq_getElem?_getD]
theorem line_ok {n : Nat} (h : n ≤ 1000) : n ≤ line := Nat.le_trans h (by decide)
/-- a loop that keeps P -/
theorem forF_inv {tg : MG} {body : MS} (P : Env → Prop) : ∀ (ds : List D), (∀ d ∈ ds, ∀ e, P e → ∃ e1, tg d e = some e1 ∧ ∃ e2, (body e1 = .nx e2 ∨ body e1 = .br e2) ∧ P e2) → ∀ e, P e → ∃ e', forF tg body ds e = .nx e' ∧ P e'
  | [], _, e, he => ⟨e, rfl, he⟩
  | d :: ds, h, e, he => by
    obtain ⟨e1, h1, e2, h2, h3⟩ := h d List.mem_cons_self e he
    rcases h2 with h2 | h2
    · obtain ⟨e', h4, h5⟩ := forF_inv P ds (fun d hd => h d (List.mem_cons_of_mem _ hd)) e2 h3
      exact ⟨e', by simp only [forF, h1, h2]; exact h4, h5⟩
    · exact ⟨e2, by simp only [forF, h1, h2], h3⟩
/-- .. counted: P tells how many turns may come -/
theorem forF_invN {tg : MG} {body : MS} (P : Nat → Env → Prop) (hm : ∀ k e, P (k + 1) e → P k e) : ∀ (ds : List D), (∀ d ∈ ds, ∀ k e, P (k + 1) e → ∃ e1, tg d e = some e1 ∧ ∃ e2, (body e1 = .nx e2 ∨ body e1 = .br e2) ∧ P k e2) → ∀ n e, P (ds.length + n) e → ∃ e', forF tg body ds e = .nx e' ∧ P n e'
  | [], _, n, e, he => ⟨e, rfl, by simpa using he⟩
  | d :: ds, h, n, e, he => by
    have he' : P (ds.length + n + 1) e := by
      rw [List.length_cons, show ds.length + 1 + n = ds.length + n + 1 by omega] at he
      exact he
    obtain ⟨e1, h1, e2, h2, h3⟩ := h d List.mem_cons_self _ e he'
    rcases h2 with h2 | h2
    · obtain ⟨e', h4, h5⟩ := forF_invN P hm ds (fun d hd => h d (List.mem_cons_of_mem _ hd)) n e2 h3
      exact ⟨e', by simp only [forF, h1, h2]; exact h4, h5⟩
    · have down : ∀ j e, P (j + n) e → P n e := fun j => by
        induction j with
        | zero => intro e q; simpa using q
        | succ j ih => intro e q; exact ih e (hm _ _ (by rw [show j + 1 + n = j + n + 1 by omega] at q; exact q))
      exact ⟨e2, by simp only [forF, h1, h2], down _ _ h3⟩
/-- a slot that is no list of one's own -/
inductive Fr : Sl → Prop
  | un : Fr .un
  | va (d : D) : Fr (.va d)
end Mp
namespace Mp
open PySem PySem.Spec PyProof.Rows L2
theorem Fr.mark {s : Sl} (h : Fr s) : s.mark = s := by cases h <;> rfl
theorem Fr.back {s t : Sl} (h : Fr s) : s.back t = s := by cases h <;> rfl
theorem Fr.isOw {s : Sl} (h : Fr s) : Mp.isOw (some s) = false := by cases h <;> rfl
theorem Fr.put {s : Sl} (h : Fr s) (d : D) (e : Env) (i : Nat) (hi : e[i]? = some s) : putG i d e = some (e.set i (.va d)) := by
  cases h <;> simp [hi]
@[simp] theorem back_va (d : D) (s : Sl) : (Sl.va d).back s = .va d := rfl
@[simp] theorem back_un (s : Sl) : Sl.un.back s = .un := rfl
@[simp] theorem back_ow (b c : Bool) (xs ys : List D) : (Sl.ow b xs).back (.ow c ys) = .ow b ys := rfl
@[simp] theorem mark_va (d : D) : (Sl.va d).mark = .va d := rfl
@[simp] theorem mark_un : Sl.un.mark = .un := rfl
@[simp] theorem mark_ow (b : Bool) (xs : List D) : (Sl.ow b xs).mark = .ow true xs := rfl
end Mp
set_option Elab.async false
set_option linter.all false
set_option maxRecDepth 100000
set_option maxHeartbeats 4000000
/-! try with several clauses that bind one name -/
namespace Mp
open PySem PySem.Spec PyProof.Rows L2
abbrev SuT := Addr → Value → Option Addr → TS
/-- the ends of a suite whose name goes -/
def Ends.drop (D : Ends) (i : Nat) : Ends := { nx := fun σ' H' => D.nx (σ'.set i none) H', rt := D.rt, bk := fun σ' H' => D.bk (σ'.set i none) H', ct := fun σ' H' => D.ct (σ'.set i none) H' }
/-- what the clauses wish, in their order -/
def wClauses (K : PySem.W.Frag) (i : Nat) (Wout : WX) (D : Ends) : List (Value × SuT) → WX
  | [] => Wout
  | q :: r => fun cls d σ H => ∃ b, PySem.W.exmOne K cls q.1 = some b ∧ (b = false → wClauses K i Wout D r cls d σ H) ∧ (b = true → ∀ a, H a = none → q.2 a cls d (Ends.drop D i) (σ.set i (some (.ref a))) H)
/-- the clauses of the text -/
inductive Clauses (X : Cx) (n : Str) : List ExceptHandler → List (Value × SuT) → Prop
  | nil : Clauses X n [] []
  | cons {x : Str} {c : Value} {ts : SuT} {b₀ : Stmt} {su : List Stmt} {np p' : Pos} {hs : List ExceptHandler} {l : List (Value × SuT)} (nm : Names X x c)
      (ok : ∀ (a : Addr) (oe : Obj) (cls : Value) (d : Option Addr) (pn : List (Addr × Obj)), Zc cls d oe → (∃ vs, oe.data = .fields vs) → PSs (X.suite a ((a, oe) :: pn)) (b₀ :: su) (ts a cls d)) (r : Clauses X n hs l) :
      Clauses X n (.ExceptHandler (some (.Name x np)) (some n) (b₀ :: su) p' :: hs) ((c, ts) :: l)
section
variable {X : Cx} {n : Str} {i : Nat} {body : List Stmt} {h₀ : ExceptHandler} {hs : List ExceptHandler} {l : List (Value × SuT)} {pos : Pos} {tb : WX → TS} {Wout : WX}
theorem SP.ofTr {pins : List (Addr × Obj)} {xe : Value → Shared → Prop} {D : Ends} {f : Flow} {s : Shared} (ok : X.Ok) (h : SP (X.tr (X.pn ++ pins) xe) [] D f s) : SP X pins D f s := by
  match f, h with
  | .next, ⟨σ, H, J, q⟩ => exact ⟨σ, H, J.ofTry ok, q⟩
  | .brk, ⟨σ, H, J, q⟩ => exact ⟨σ, H, J.ofTry ok, q⟩
  | .cont, ⟨σ, H, J, q⟩ => exact ⟨σ, H, J.ofTry ok, q⟩
  | .ret u, ⟨v, σ, H, J, r, q⟩ => exact ⟨v, σ, H, J.ofTry ok, r, q⟩
/-- the end of a suite: the name goes, the frame is the outer one's again -/
theorem suite_end {pins : List (Addr × Obj)} {a : Addr} {oe : Obj} {D : Ends} {f : Flow} {s : Shared} {p' : Pos} (ok : X.Ok) (hN : X.N.Nodup) (hi : X.N[i]? = some n) (hln : X.env.kindOf n = some .local) (h : SP (X.suite a ((a, oe) :: (X.pn ++ pins))) [] (Ends.drop D i) f s) :
    wpAny (model X.prog X.w) X.A (do bindName X.env n .none; unbindBehindTheSuite X.env n p') (fun _ s' => SP X pins D f s') X.xe s := by
  match f, h with
  | .next, ⟨σ, H, J, q⟩ => exact gone_ok (J.unsuite ok) hN hi hln fun s' J' => ⟨_, _, J', q⟩
  | .brk, ⟨σ, H, J, q⟩ => exact gone_ok (J.unsuite ok) hN hi hln fun s' J' => ⟨_, _, J', q⟩
  | .cont, ⟨σ, H, J, q⟩ => exact gone_ok (J.unsuite ok) hN hi hln fun s' J' => ⟨_, _, J', q⟩
  | .ret u, ⟨v, σ, H, J, r, q⟩ => exact gone_ok (J.unsuite ok) hN hi hln fun s' J' => ⟨_, _, _, J', r, q⟩
theorem ps_clauses (hst : X.stack = X.env :: X.outer) (hf : X.env.frame = some X.env.locals) (hN : X.N.Nodup) (hi : X.N[i]? = some n) (hln : X.env.kindOf n = some .local) (tk : Takes X Wout)
    (hb : ∀ (W : WX) (pn : List (Addr × Obj)) (xe : Value → Shared → Prop), Takes (X.tr pn xe) W → PassesOwn (model X.prog X.w) X.A X.env xe → PSs (X.tr pn xe) body (tb W))
    (hc : Clauses X n (h₀ :: hs) l) : PS X (.Try body (h₀ :: hs) [] [] pos) (fun D σ H => tb (wClauses X.K i Wout D l) D σ H) := by
  refine ⟨fun pins s σ H D I h => wpAny_Try_except ?_⟩
  have ok := I.ok
  have hfr : X.A.frames = some (X.env :: X.outer) := ok.frames.trans (congrArg some hst)
  refine wpAny_mono ((hb (wClauses X.K i Wout D l) (X.pn ++ pins) _ (fun u s' z => ?_) PassesOwn.looking).run [] s σ H D (I.toTry _) h) (fun f s1 z => ?_) fun _ _ z => z
  · obtain ⟨a, B, sI, _, σ', H', cls, d, rfl, J', nb, up, sky, na, os, ag, w⟩ := z
    have J : Inv X pins σ' H' sI := J'.ofTry ok
    refine Sky.land Zc.steady hfr hf (hst ▸ sky) fun h3 fl up3 => ?_
    have J3 : Inv X pins σ' H' { s' with heap := h3 } := J.landed nb fl.1 (up.trans up3) os ag
    obtain ⟨oe, vs, he, hz, hd⟩ := fl.there
    have away : a ∉ frs (X.env :: X.outer) := fun hm => by
      obtain ⟨_, o, e, nf⟩ := fl.2.2.1.mem hm
      rw [he] at e
      cases e
      exact nf _ hd
    have nL : a ≠ X.env.locals := fun z => away (List.mem_filterMap.mpr ⟨X.env, List.mem_cons_self, z ▸ hf⟩)
    have nF : a ∉ X.fs := fun hm => by
      obtain ⟨e, he, q⟩ := List.mem_filterMap.mp hm
      exact away (List.mem_filterMap.mpr ⟨e, List.mem_cons_of_mem _ he, q⟩)
    have S3 := J3.suite he hd na nL nF
    clear hb h
    suffices go : ∀ {hs' : List ExceptHandler} {l' : List (Value × SuT)}, Clauses X n hs' l' → wClauses X.K i Wout D l' cls d σ' H' → wpAny (model X.prog X.w) X.A (handleBy (.ref a) X.env hs') (SP X pins D) X.xe { s' with heap := h3 } from go hc w
    intro hs' l' hk
    induction hk with
    | nil =>
      intro w
      refine wpAny_handleBy_nil ?_
      obtain ⟨_, _, _, _, _, T, _, _, e0, _, d0, v1, _⟩ := id fl
      unfold PySem.passOn
      refine wpAny_bind (wpAny_field e0 d0 v1 ?_)
      rw [if_neg (show ¬ ((Value.ref T == Value.none) = true) from by simp)]
      have last : wpAny (model X.prog X.w) X.A (setFlight (.ref a) X.env.frame) (fun _ s4 => wpAny (model X.prog X.w) X.A (throw (.ref a) : Sem Flow) (SP X pins D) X.xe s4) X.xe { s' with heap := h3 } := by
        rw [hf]
        refine HandSPX.setFlight_upZ fl fun h4 hh up4 => wpAny_throw (tk _ _ ⟨a, B, sI, pins, σ', H', cls, d, rfl, J, nb, (up.trans up3).trans up4, .inr (.inr (hst ▸ hh)), na, os, ag, w⟩)
      first
        | exact wpAny_bind (wpAny_pure (wpAny_bind last))
        | exact wpAny_bind last
    | @cons x c ts b₀ su np p' hs2 l2 nm ok2 r ih =>
      intro w
      obtain ⟨b, hb1, hno, hyes⟩ := w
      refine wpAny_handleBy_cons (codeAny_handlers_test ?_) (by intro q; cases q)
      have LT : PySem.W.Looks (model X.prog X.w) h3 (typeOf (.ref a)) cls := fun A Q E s k q => wpAny_typeOf_ref (k _ _ he) (by rw [hz.1]; exact q)
      have LM := PySem.W.exm_one (M := model X.prog X.w) J3.kIn LT hb1
      have cls_ : ∀ {Q : Value → Shared → Prop} {E : Value → Shared → Prop}, Q c { s' with heap := h3 } → wpAny (model X.prog X.w) (X.A.mark (some (.ref a))) (eval (.Name x np) X.env) Q E { s' with heap := h3 } := fun {Q E} q => by
        obtain ⟨hg, hdb, hm | ⟨hm, hv, hn⟩⟩ := nm
        · exact ld_glob (X := X.suite a ((a, oe) :: (X.pn ++ pins))) S3 hg hm q hdb
        · exact ld_blt (X := X.suite a ((a, oe) :: (X.pn ++ pins))) S3 hg hm hv q hn hdb
      refine cls_ (LM.here ?_)
      cases b with
      | false => exact ih (hno rfl)
      | true =>
        refine codeAny_handlers_suite_as (HandSPX.lands_againZ fl fun h4 fl4 up4 => ?_)
        obtain ⟨oe4, vs4, he4, hz4, hd4⟩ := fl4.there
        have S4 := (J.landed nb fl4.1 ((up.trans up3).trans up4) os ag : Inv X pins σ' H' { s' with heap := h4 }).suite he4 hd4 na nL nF
        refine store_ok (X := X.suite a ((a, oe4) :: (X.pn ++ pins))) (v := .ref a) S4 hN hi (.inl hln) rfl (fun s5 S5 => ?_) (.inr hln)
        exact wpAny_mono ((ok2 a oe4 cls d (X.pn ++ pins) hz4 ⟨_, hd4⟩).run [] s5 _ H' _ S5 (hyes rfl a na)) (fun f s6 z => suite_end ok hN hi hln z) fun _ _ z => z.elim
  · have z' := SP.ofTr ok z
    match f, z' with
    | .next, z' => exact wpAny_execs_nil z'
    | .brk, z' => exact z'
    | .cont, z' => exact z'
    | .ret u, z' => exact z'
end

/-! ### .. each of which returns (tag, n.f) -/
structure Cl where
  sub : Str → Option Bool
  f : Str
  tag : Str
def tsTag (K : PySem.W.Frag) (i : Nat) (f tag : Str) : SuT := fun a cls d D σ H => ∃ (C' dd : Addr) (v : V), cls = .ref C' ∧ d = some dd ∧ ExC K C' f ∧ σ[i]? = some (some (.ref a)) ∧ H dd = some (.xd [(f, v)]) ∧ ∀ p, H p = none → D.rt (.ref p) (upd H p (.tup [.str tag, v]))
inductive SCl (g : Gc) (X : Cx) (i : Nat) (n : Str) : List ExceptHandler → List Cl → List (Value × SuT) → Prop
  | nil : SCl g X i n [] [] []
  | cons {x f tag : Str} {C : Value} {sub : Str → Option Bool} {np p1 p2 p3 p4 p5 p6 : Pos} {j x1 : Nat} {hs : List ExceptHandler} {l : List Cl} {l' : List (Value × SuT)} (K : Catch g C f sub) (hc : Names X x C)
      (hab : attributeBase (.Name n p2) f X.env (eval (.Name n p2) X.env) = eval (.Name n p2) X.env)
      (h1 : starEach (Expr.Constant (.str tag) j p1 :: [.Attribute (.Name n p2) f p3]) X.env = (false, eval (.Constant (.str tag) j p1) X.env) :: starEach [.Attribute (.Name n p2) f p3] X.env)
      (h2 : starEach (Expr.Attribute (.Name n p2) f p3 :: []) X.env = (false, eval (.Attribute (.Name n p2) f p3) X.env) :: starEach [] X.env) (r : SCl g X i n hs l l') :
      SCl g X i n (.ExceptHandler (some (.Name x np)) (some n) [.Return (some (.Tuple [.Constant (.str tag) j p1, .Attribute (.Name n p2) f p3] x1 p4)) p5] p6 :: hs) (⟨sub, f, tag⟩ :: l) ((C, tsTag X.K i f tag) :: l')
def clF (i : Nat) (c : Str) (v : D) (e : Env) : List Cl → Fl
  | [] => .exc c v e
  | q :: r => match q.sub c with
    | some true => if i < e.length then .rt (.tup [.str q.tag, v]) e else .no
    | some false => clF i c v e r
    | none => .no
def mTryCl (i : Nat) (cl : List Cl) (mb : MS) : MS := fun env => match mb env with
  | .exc c v e => clF i c v e cl
  | r => r
section
variable {g : Gc} {W : WX} {φ : Fc} {X : Cx} {k : Nat}
theorem scl_clauses {i : Nat} {n : Str} (hi : X.N[i]? = some n) (hln : X.env.kindOf n = some .local) (hd : (n == ("__debug__" : Str)) = false) (hcd : (n == ("__classdict__" : Str)) = false) {hs : List ExceptHandler} {cl : List Cl} {l : List (Value × SuT)} (h : SCl g X i n hs cl l) : Clauses X n hs l := by
  induction h with
  | nil => exact .nil
  | cons K hc hab h1 h2 r ih =>
    refine .cons hc (fun a oe cls d pn hz hfl => ⟨fun pins s σ H D I w => ?_⟩) ih
    obtain ⟨C', dd, v, rfl, rfl, Z, q1, q2, q3⟩ := w
    refine (pss_one (ps_ret (pe_tup (pa_cons pe_str (pa_cons (pe_held (pn := pn) Z hz hfl (pe_var (i := i) hi (.inl hln) hd hcd) hab) pa_nil h2) h1)))).run pins s σ H D I ?_
    exact ⟨.ref a, q1, rfl, rfl, dd, v, rfl, q2, by rw [sizeLine_eq]; exact (by decide : 2 ≤ 16777216), q3⟩
theorem scl_wish {i : Nat} {n : Str} {En : Ends} {F : Hp} {c : Str} {v : D} {e : Env} (hK : X.K = g.K) {hs : List ExceptHandler} {cl : List Cl} {l : List (Value × SuT)} (h : SCl g X i n hs cl l) (hp : PoS g W φ F En (clF i c v e cl)) : XP g (wClauses X.K i W En l) φ F c v e := by
  induction h with
  | nil => exact hp
  | @cons x f tag C sub np p1 p2 p3 p4 p5 p6 j x1 hs l l' K hc hab h1 h2 r ih =>
    intro C' fld dd vv σ' H' F' hx s1 r1 q1 q2
    unfold clF at hp
    cases es : sub c with
    | none => simp only [es] at hp; exact hp.elim
    | some b =>
      obtain ⟨k1, k2⟩ := K.ok c C' fld b hx es
      refine ⟨b, hK ▸ k1, fun hb => ?_, fun hb a ha => ?_⟩
      · subst hb
        simp only [es] at hp
        exact ih hp C' fld dd vv σ' H' F' hx s1 r1 q1 q2
      · subst hb
        obtain ⟨rfl, Z⟩ := k2 rfl
        simp only [es] at hp
        by_cases hlt : i < e.length
        · rw [if_pos hlt] at hp
          refine ⟨C', dd, vv, rfl, rfl, hK ▸ Z, set_get (r1.len ▸ hlt), q1, fun p hn => ?_⟩
          obtain ⟨s2, r2⟩ := r1.laid (o := .tup [.str tag, vv]) hn
          exact hp (.ref p) σ' _ _ (s1.trans s2) r2 (.mkTup upd_same (.cons (.str tag) (.cons (q2.mono s2) .nil)))
        · rw [if_neg hlt] at hp
          exact hp.elim
theorem ss_tryCl {i : Nat} {n : Str} {h₀ : ExceptHandler} {hs : List ExceptHandler} {cl : List Cl} {l : List (Value × SuT)} {body : List Stmt} {mb : MS} {pos : Pos} (c : Cok g X W k) (hst : X.stack = X.env :: X.outer) (hf : X.env.frame = some X.env.locals)
    (h : SCl g X i n (h₀ :: hs) cl l) (hi : X.N[i]? = some n) (hln : X.env.kindOf n = some .local)
    (hb : ∀ (W' : WX) (pn : List (Addr × Obj)) (xe : Value → Shared → Prop), Cok g (X.tr pn xe) W' k → SB g W' φ (X.tr pn xe) body mb)
    (hd : (n == ("__debug__" : Str)) = false := by decide) (hcd : (n == ("__classdict__" : Str)) = false := by decide) : SS g W φ X (.Try body (h₀ :: hs) [] [] pos) (mTryCl i cl mb) := by
  intro F σ H env En hr hp
  refine ⟨_, ps_clauses (Wout := W) (i := i) (tb := fun W' => fun D σ H => ∀ pn xe, Takes (X.tr pn xe) W' → PassesOwn (model X.prog X.w) X.A X.env xe → wB (X.tr pn xe) body D σ H)
    hst hf c.nd hi hln c.tk (fun W' pn xe tk po => ⟨fun pins s σ H D I h => w_pb.run pins s σ H D I (h pn xe tk po)⟩) (scl_clauses hi hln hd hcd h), ?_⟩
  intro pn xe tk po
  refine hb _ pn xe ⟨c.K, c.calm, c.nd, tk, c.rm, po⟩ F σ H env En hr ?_
  unfold mTryCl at hp
  cases e1 : mb env with
  | nx e2 => rw [e1] at hp; exact hp
  | rt d e2 => rw [e1] at hp; exact hp
  | br e2 => rw [e1] at hp; exact hp
  | ct e2 => rw [e1] at hp; exact hp
  | no => rw [e1] at hp; exact hp
  | exc cn v e2 =>
    rw [e1] at hp
    exact scl_wish c.K h hp
end

/-! ### C(k = v, ..) -/
section
variable {g : Gc} {W : WX} {φ : Fc} {X : Cx} {k : Nat} {σ : L2.St}
theorem run_makeKw {CX : CXT} {pins : List (Addr × Obj)} {H : Hp} {s : Shared} {Q : VK} {ws : List Value} {vs : List V} {C f : Addr} {fd : FuncData} {q : Str} {ps : List Str} {sp : Sp} {E : L2.St → XK} (M : Mk X.K C f) (Fo : FnOk X.prog X.w X.K X.mg X.base CX k f fd (q :: ps) sp) (hr : Room (k + 1) X.A) (hb : KwB1 X.K fd q ps)
    (hx : PassesAt CX X σ (E σ)) (I : Inv X pins σ H s) (r : Vals vs ws) (h : ∀ x dx, H x = none → H dx = none → dx ≠ x → sp (.ref x :: vs) (upd (upd H dx (.own x)) x (.ins C dx [])) (fun v H2 => v = .non ∧ Q (.ref x) H2) (E σ)) :
    wpAny (model X.prog X.w) X.A (call (.ref C) [] (ps.zip ws)) (EP X pins σ Q) X.xe s := by
  have w := h (s.heap.objs.size + 1) s.heap.objs.size (I.hok.fresh (Nat.le_succ _)) (I.hok.fresh (Nat.le_refl _)) (Nat.ne_of_lt (Nat.lt_succ_self _))
  have J := Inv.made (C := C) I
  have rr : Vals (V.ref (s.heap.objs.size + 1) :: vs) (Value.ref (s.heap.objs.size + 1) :: ws) := .cons rfl r
  have n : ws.length = ps.length := by
    have := rr.length.symm.trans (Fo.len _ _ _ _ w)
    simpa using this
  have bd := hb _ (Value.ref (s.heap.objs.size + 1)) ws J.kIn n
  have run := Fo.run _ X.stack _ _ ⟨[Value.ref (s.heap.objs.size + 1)], ps.zip ws⟩ (Value.ref (s.heap.objs.size + 1) :: ws) _ _ (E σ) (hr.make C [] (ps.zip ws)) (J.env0.make C [] (ps.zip ws)) bd rr w
  refine wpAny_call (make_map (f := f) I.kIn M.makes M.init (beq_iff_eq.mp M.fn) (codeAny_mono run fun z s' hz => ?_))
  match z, hz with
  | .error e, hz => exact hx pins _ _ e s' J hz
  | .ok (.ret u), hz =>
    obtain ⟨v, H', I3, rv, ev, q3⟩ := J.after hz
    subst ev
    exact ⟨rv, V.ref (s.heap.objs.size + 1), H', I3, rfl, q3⟩
theorem pe_makeKw {CX : CXT} {C f : Addr} {fd : FuncData} {q : Str} {ps : List Str} {sp : Sp} {E : L2.St → XK} {x : Str} {p pos : Pos} {kws : List Keyword} {t : TA} (M : Mk X.K C f) (Fo : FnOk X.prog X.w X.K X.mg X.base CX k f fd (q :: ps) sp) (hr : Room (k + 1) X.A) (hg : Gl X x) (hm : X.mg x = some (.ref C))
    (hb : KwB1 X.K fd q ps) (hx : ∀ σ, PassesAt CX X σ (E σ)) (hkw : PK X kws t) (hall : (backToKw pos (keywordEach kws X.env)).all (·.1.isSome) = true) (hks : (backToKw pos (keywordEach kws X.env)).filterMap (·.1) = ps) (hdb : (x == ("__debug__" : Str)) = false)
    (hpl : ((backTo pos (starEach [] X.env)).any (·.1) || (backToKw pos (keywordEach kws X.env)).any (·.1.isNone)) = false) :
    PE X (.Call (.Name x p) [] kws pos) (fun σ H Q => t σ H fun vs H1 => ∀ x dx, H1 x = none → H1 dx = none → dx ≠ x → sp (.ref x :: vs) (upd (upd H1 dx (.own x)) x (.ins C dx [])) (fun v H2 => v = .non ∧ Q (.ref x) H2) (E σ)) := by
  refine ⟨fun pins s σ H Q I h => wpAny_Call_Name_kw (ld_glob I hg hm (PySem.W.callWith_KW0 (h₀ := X.base) I.ok.mod.kin M.kp hall (thn (hkw.run pos pins s σ H _ I h) fun ws s2 z => ?_) hpl) hdb)⟩
  obtain ⟨vs, H2, I2, rz, q2⟩ := z
  refine ⟨I2.kIn, ?_⟩
  rw [hks]
  exact run_makeKw M Fo hr hb (hx σ) I2 rz q2
/-- from a constructor's promise to the caller's wish -/
theorem make_sp {cn : Str} {fi : List D → IR} {C : Addr} {ns : List Str} {F1 H1 : Hp} {Q : VK} {as : List Av} {e1 : Env} {vs : List V} (hcl : g.cl cn = some (C, ns)) (r1 : Rel g φ F1 σ H1 e1) (p1 : AvsR g F1 σ vs as) (hp1 : PoE g W φ F1 σ Q (makeF cn fi as e1)) :
    ∀ x dx, H1 x = none → H1 dx = none → dx ≠ x → spInit g C ns fi (.ref x :: vs) (upd (upd H1 dx (.own x)) x (.ins C dx [])) (fun v H2 => v = .non ∧ Q (.ref x) H2) (L2.WE W σ) := by
  intro x dx hx hdx hne
  unfold makeF at hp1
  cases hv : vals as with
  | none => simp only [hv] at hp1; exact hp1.elim
  | some ds =>
    simp only [hv] at hp1
    have hF1 : F1 x = none := r1.ex.free hx
    have old : ∀ b o, H1 b = some o → (upd (upd H1 dx (.own x)) x (.ins C dx [])) b = some o := fun b o z => by
      rw [upd_ne (ne_of_none z hx), upd_ne (ne_of_none z hdx)]
      exact z
    have back : ∀ b, (upd (upd H1 dx (.own x)) x (.ins C dx [])) b = none → H1 b = none := fun b z => by
      cases zz : H1 b with
      | none => rfl
      | some o =>
        rw [old b o zz] at z
        cases z
    refine ⟨F1, x, dx, vs, ds, rfl, upd_same, hF1, fun b o z => old b o (r1.ex b o z), p1.vals hv, ?_⟩
    cases hf : fi ds with
    | no => simp only [hf] at hp1; exact hp1.elim
    | exc c2 v =>
      simp only [hf] at hp1
      exact fun Cx fld dd vv H' F' q1 q2 q3 q4 q5 q6 q7 => hp1 Cx fld dd vv σ H' F' q1 q2 (r1.grow q2 q3 (fun b o z => (q4 b o z).imp id (back b)) fun b o z => q5 b o (old b o z)) q6 q7
    | ok fs =>
      simp only [hf] at hp1
      intro H' F' us q1 q2 q3 q4 q5 q6 q7 q8
      refine ⟨rfl, ?_⟩
      have xo : ∀ b o, H1 b = some o → b ≠ x := fun b o z => ne_of_none z hx
      have s2 : Same F' (upd F' x (.ins C dx (ns.zip us))) := same_new q6
      have r3 : Rel g φ (upd F' x (.ins C dx (ns.zip us))) σ H' e1 := by
        refine r1.grow (q1.trans s2) (fun b o z => ?_) (fun b o z => ?_) fun b o z => q4 b o (old b o z) (xo b o z)
        · by_cases hbx : b = x
          · subst hbx
            rw [upd_same] at z
            cases z
            exact q5
          · rw [upd_ne hbx] at z
            exact q2 b o z
        · by_cases hbx : b = x
          · subst hbx
            exact .inr hx
          · rw [upd_ne hbx] at z
            exact (q3 b o z).imp id (back b)
      exact hp1 (.ref x) H' _ (q1.trans s2) r3 (.obj x cn C dx ns us fs hcl upd_same q7 (Reps.mono s2 q8).len (Reps.mono s2 q8).at_)
theorem se_makeK {cn : Str} {ps : List Str} {kk : Nat} {fi : List D → IR} {kws : List Keyword} {m : MA} {p pos : Pos} (c : Cok g X W k) (h : HasMkK X.prog X.w X.mg X.base g kk cn ps fi) (hk : kk + 1 ≤ k) (hg : Gl X cn) (ha : SKw g W φ X kws m)
    (hall : (backToKw pos (keywordEach kws X.env)).all (·.1.isSome) = true := by rfl) (hks : (backToKw pos (keywordEach kws X.env)).filterMap (·.1) = ps := by rfl) (hdb : (cn == ("__debug__" : Str)) = false := by decide)
    (hpl : ((backTo pos (starEach [] X.env)).any (·.1) || (backToKw pos (keywordEach kws X.env)).any (·.1.isNone)) = false := by rfl) : SE g W φ X (.Call (.Name cn p) [] kws pos) (mMake cn fi m) := by
  intro F σ H env Q hr hp
  obtain ⟨C, fI, fd, q, ns, M, Fo, hb, hm, hcl⟩ := h.ex
  rw [← c.K] at M Fo hb
  refine ⟨_, pe_makeKw M Fo (c.rm.mono hk) hg hm hb (fun σ => passAt c.tk σ) w_pk hall hks hdb hpl, ?_⟩
  refine ha F σ H env _ hr (ae hp fun as e1 vs H1 F1 s1 r1 p1 hp1 => ?_)
  exact make_sp hcl r1 p1 hp1
end
end Mp
set_option Elab.async false
set_option linter.all false
set_option maxRecDepth 100000
set_option maxHeartbeats 4000000
/-! sorted(numbers), <= of tuples of numbers -/
namespace Mp
open PySem PySem.Spec PyProof.Rows L2
/-- the sorted list -/
def insI (x : Int) : List Int → List Int
  | [] => [x]
  | y :: l => if x ≤ y then x :: y :: l else y :: insI x l
def sortI : List Int → List Int
  | [] => []
  | x :: l => insI x (sortI l)
theorem insI_perm (x : Int) : ∀ l : List Int, (insI x l).Perm (x :: l)
  | [] => .refl _
  | y :: l => by
    unfold insI
    by_cases h : x ≤ y
    · rw [if_pos h]
    · rw [if_neg h]
      exact ((insI_perm x l).cons y).trans (List.Perm.swap x y l)
theorem sortI_perm : ∀ l : List Int, (sortI l).Perm l
  | [] => .refl _
  | x :: l => (insI_perm x (sortI l)).trans ((sortI_perm l).cons x)
theorem insI_sorted (x : Int) : ∀ l : List Int, l.Pairwise (· ≤ ·) → (insI x l).Pairwise (· ≤ ·)
  | [], _ => by simp [insI]
  | y :: l, h => by
    unfold insI
    obtain ⟨h1, h2⟩ := List.pairwise_cons.mp h
    by_cases hx : x ≤ y
    · rw [if_pos hx]
      refine List.pairwise_cons.mpr ⟨fun z hz => ?_, h⟩
      rcases List.mem_cons.mp hz with rfl | hz
      · exact hx
      · exact Int.le_trans hx (h1 z hz)
    · rw [if_neg hx]
      refine List.pairwise_cons.mpr ⟨fun z hz => ?_, insI_sorted x l h2⟩
      rcases List.mem_cons.mp ((insI_perm x l).mem_iff.mp hz) with rfl | hz
      · omega
      · exact h1 z hz
theorem sortI_sorted : ∀ l : List Int, (sortI l).Pairwise (· ≤ ·)
  | [] => .nil
  | x :: l => insI_sorted x _ (sortI_sorted l)
theorem sorted_one : ∀ {l m : List Int}, l.Perm m → l.Pairwise (· ≤ ·) → m.Pairwise (· ≤ ·) → l = m
  | [], m, h, _, _ => (List.nil_perm.mp h).symm
  | x :: l, [], h, _, _ => by cases List.perm_nil.mp h
  | x :: l, y :: m, h, h1, h2 => by
    obtain ⟨a1, a2⟩ := List.pairwise_cons.mp h1
    obtain ⟨b1, b2⟩ := List.pairwise_cons.mp h2
    have xy : x = y := by
      rcases List.mem_cons.mp (h.mem_iff.mp (List.mem_cons_self (a := x))) with e | e
      · exact e
      · rcases List.mem_cons.mp (h.mem_iff.mpr (List.mem_cons_self (a := y))) with e2 | e2
        · exact e2.symm
        · exact Int.le_antisymm (a1 y e2) (b1 x e)
    subst xy
    rw [sorted_one (List.Perm.cons_inv h) a2 b2]
def sortF : List D → Option D
  | [.lst xs] => (intsOf xs).map fun is => .lst ((sortI is).map D.int)
  | _ => none
section
variable {g : Gc} {W : WX} {φ : Fc} {X : Cx} {k : Nat}
theorem reps_ints (g : Gc) (F : Hp) (is : List Int) : Reps g F (is.map V.int) (is.map D.int) := ⟨by simp, fun i v d a b => by
  rw [List.getElem?_map, Option.map_eq_some_iff] at a b
  obtain ⟨x, a1, rfl⟩ := a
  obtain ⟨y, b1, rfl⟩ := b
  rw [a1] at b1
  cases b1
  exact .int _⟩
theorem ca_sort (hK : X.K = g.K) : CaS g φ (wC X (.builtin "sorted")) sortF := by
  intro F σ H env vs ds z Q hr hx hf hq
  cases hx with
  | nil => simp [sortF] at hf
  | @cons v d vs ds hv t =>
    cases t with
    | cons _ _ => cases d <;> simp [sortF] at hf
    | nil =>
      cases d <;> simp only [sortF, reduceCtorEq, Option.map_eq_some_iff] at hf
      obtain ⟨is, h1, rfl⟩ := hf
      obtain ⟨a, ws, rfl, h2, h3⟩ := hv.lst hr.ex
      have e := intsOf_ok h1 h3
      subst e
      refine ⟨_, cr_sortedI, a, is, rfl, SqL.of h2, fun ns' p hp hs hn => ?_⟩
      have en : ns' = sortI is := sorted_one (hp.trans (sortI_perm is).symm) hs (sortI_sorted is)
      subst en
      obtain ⟨s2, r2⟩ := hr.laid (o := .lst ((sortI is).map V.int)) hn
      exact hq _ _ _ s2 r2 (.mkLst upd_same (reps_ints g _ _))
/-- x <= y: numbers, or tuples of numbers -/
def leTF : D → D → Option Bool
  | .int i, .int j => some (decide (i ≤ j))
  | .tup xs, .tup ys => match intsOf xs, intsOf ys with
    | some ns, some ms => some (Ob.lexAt (fun j => decide (ns.getD j 0 = ms.getD j 0)) (fun j => decide (ns.getD j 0 ≤ ms.getD j 0)) (decide (ns.length ≤ ms.length)) 0 (min ns.length ms.length))
    | _, _ => none
  | _, _ => none
theorem op_leT_ (hK : X.K = g.K) (rm : Room k X.A) : OpB g φ (wO X (compareOp .LtE)) leTF := by
  intro F σ H env v u x y z Q hr hx hy hf hq
  cases x <;> cases y <;> simp only [leTF, reduceCtorEq, Option.some.injEq] at hf
  · subst hf
    rw [hx.int, hy.int]
    exact ⟨_, op_le, _, _, rfl, rfl, hq⟩
  · rename_i xs ys
    cases e1 : intsOf xs with
    | none => simp [e1] at hf
    | some ns =>
      cases e2 : intsOf ys with
      | none => simp [e1, e2] at hf
      | some ms =>
        simp only [e1, e2, Option.some.injEq] at hf
        subst hf
        obtain ⟨a, vs, rfl, h1, h2⟩ := hx.tup hr.ex
        obtain ⟨b, ws, rfl, h3, h4⟩ := hy.tup hr.ex
        have q1 := intsOf_ok e1 h2
        have q2 := intsOf_ok e2 h4
        subst q1 q2
        exact ⟨_, op_leT (Nat.lt_of_le_of_lt (Nat.le_add_right _ _) rm.units), a, b, ns, ms, rfl, rfl, hK ▸ h1, hK ▸ h3, hq⟩
end
end Mp
set_option Elab.async false
set_option linter.all false
set_option maxRecDepth 100000
set_option maxHeartbeats 4000000
/-! x not in a list or tuple of plain values; [.. for .. in .. for .. in ..] -/
namespace Mp
open PySem PySem.Spec PyProof.Rows L2
section
variable {g : Gc} {W : WX} {φ : Fc} {X : Cx} {k : Nat}
theorem op_notin_ (hK : X.K = g.K) : OpS g φ (wO X (compareOp .NotIn)) (inF true) := by
  intro F σ H env v u x y z Q hr hx hy hf hq
  unfold inF at hf
  cases e : seqF y with
  | none => simp [e] at hf
  | some ys =>
    simp only [e] at hf
    by_cases hc : flatD x = true ∧ ys.all flatD = true
    · rw [if_pos hc] at hf
      obtain ⟨a, vs, rfl, h1, h2⟩ := hy.seq hr.ex e
      have px := hx.flat hc.1
      have ei := in_rep px hc.1 h2 hc.2
      refine ⟨_, op_notIn_seq, a, vs, rfl, hK ▸ h1, flat_rep px hc.1, flats_rep h2 hc.2, ?_⟩
      have ez := (Option.some.inj hf).symm
      subst ez
      rw [ei]
      exact hq _ _ _ (Same.refl _) hr (.bl _)
    · rw [if_neg hc] at hf
      cases hf
end
end Mp
set_option Elab.async false
set_option linter.all false
set_option maxRecDepth 100000
set_option maxHeartbeats 4000000
/-! [elt for tg in iter for tg1 in iter1] -/
namespace Mp
open PySem PySem.Spec PyProof.Rows L2
def allT (e : Env) : Bool := e.all fun s => match s with
  | .ow false _ => false
  | _ => true
def lcI (vs1 : List Nat) (tg1 : MG) (elt : ME) : List D → Env → Re (List D)
  | [], e => .ok [] e
  | d :: ds, e => match tg1 d e with
    | none => .no
    | some e1 => (elt e1).nx fun x e2 => if (free_ vs1 e2 && allT e2) = true then (lcI vs1 tg1 elt ds (wipeE e2 vs1)).nx fun xs e3 => .ok (x :: xs) e3 else .no
def lcO (own vs1 : List Nat) (tg : MG) (mi1 : ML) (tg1 : MG) (elt : ME) : List D → Env → Re (List D)
  | [], env => .ok [] env
  | d :: ds, env => if free_ own env = true then
      match tg d (enterE own env) with
      | none => .no
      | some e1 => (mi1 e1).nx fun ds1 e2 => if (free_ vs1 e2 && allT e2) = true then (lcI vs1 tg1 elt ds1 (wipeE e2 vs1)).nx fun xs e3 => (lcO own vs1 tg mi1 tg1 elt ds (backE env e3)).nx fun ys e4 => .ok (xs ++ ys) e4 else .no
    else .no
def lLc2 (own vs1 : List Nat) (mi : ML) (tg : MG) (mi1 : ML) (tg1 : MG) (elt : ME) : ML := fun env => (mi env).bind fun ds e => (lcO own vs1 tg mi1 tg1 elt ds e).nx fun xs e1 => if xs.length ≤ line then .ok xs e1 else .no
section
variable {g : Gc} {W : WX} {φ : Fc} {X : Cx} {k : Nat} {F F0 : Hp} {σ σ3 : L2.St} {H H0 H9 : Hp} {e ev ev' : Env} {vs1 : List Nat} {p : Addr}
theorem allT_at (h : allT e = true) {i : Nat} {xs : List D} (q : e[i]? = some (Sl.ow false xs)) : False := by
  have := List.all_eq_true.mp h _ (List.mem_of_getElem? q)
  simp at this
/-- the frame of a turn of the inner loop -/
theorem Rel.inner (q : Rel g (fcE σ ev H0 F0) F σ3 H e) (hH : ∀ b, b ≠ p → H9 b = H b) (hF : F p = none) (hno : NotOwn σ ev p) (hio : ioE σ ev' = ioE σ ev) (hf : free_ vs1 e = true) (ht : allT e = true) :
    Rel g (fcE σ ev' H9 F) F (L2.wipe σ3 vs1) H9 (wipeE e vs1) := by
  have wo : ∀ {i : Nat}, i ∉ vs1 → (L2.wipe σ3 vs1)[i]? = σ3[i]? := fun h => L2.wipe_out h
  refine ⟨fun b o z => ?_, Same.refl _, fun b o z => .inl z, fun b o z _ => z, by rw [wipeE_length, L2.wipe_length]; exact q.len, fun i d z => ?_, fun i b xs z => ?_, fun i j b c xs ys a e1 e2 e3 e4 => ?_, fun r hr => ?_⟩
  · rw [hH b (fun w => by rw [w, hF] at z; cases z)]
    exact q.ex b o z
  · rcases wipeE_at z with ⟨h, _⟩ | ⟨h, h1⟩
    · cases h
    · obtain ⟨v, k1, k2⟩ := q.va i d h1
      exact ⟨v, by rw [wo h]; exact k1, k2⟩
  · rcases wipeE_at z with ⟨h, _⟩ | ⟨h, h1⟩
    · cases h
    · cases b with
      | false => exact (allT_at ht h1).elim
      | true =>
        obtain ⟨a, vs, k1, k2, k3, k4, k5, k6⟩ := q.ow i true xs h1
        have hm : (i, a) ∈ ioE σ ev := k6 rfl
        obtain ⟨m1, b', xs', m2⟩ := mem_ioE.mp hm
        have hap : a ≠ p := hno i b' xs' a m2 m1
        refine ⟨a, vs, by rw [wo h]; exact k1, by rw [hH a hap]; exact k2, k3, k4, (fun w => by cases w), fun _ => ?_⟩
        show (i, a) ∈ ioE σ ev'
        rw [hio]
        exact hm
  · rcases wipeE_at e1 with ⟨h, _⟩ | ⟨h, h1⟩
    · cases h
    · rcases wipeE_at e2 with ⟨h', _⟩ | ⟨h', h1'⟩
      · cases h'
      · rw [wo h] at e3
        rw [wo h'] at e4
        exact q.dj i j b c xs ys a h1 h1' e3 e4
  · have hr' : r ∈ ioE σ ev := by
      rw [← hio]
      exact hr
    obtain ⟨h1, xs, h2⟩ := q.ioh r hr'
    have hn : r.1 ∉ vs1 := fun z => free_at hf z h2
    exact ⟨by rw [wo hn]; exact h1, xs, by rw [wipeE_out hn]; exact h2⟩
theorem backE_back {env e1 e2 : Env} (h1 : e1.length = env.length) (hk : ∀ (i : Nat) b xs, env[i]? = some (Sl.ow b xs) → ∃ c ys, e2[i]? = some (Sl.ow c ys)) : backE (backE env e1) e2 = backE env e2 := by
  apply List.ext_getElem?
  intro i
  unfold backE
  simp only [List.getElem?_zipWith]
  cases a : env[i]? with
  | none => rfl
  | some s0 =>
    have hi : i < e1.length := by rw [h1]; exact lt_of_get a
    rw [List.getElem?_eq_getElem hi]
    cases s0 with
    | un => cases e2[i]? <;> rfl
    | va d => cases e2[i]? <;> rfl
    | ow b xs =>
      obtain ⟨c, ys, h⟩ := hk i b xs a
      rw [h]
      cases e1[i] <;> rfl
theorem backE_wipe {env e2 : Env} {own : List Nat} (hf : free_ own env = true) (hv : ∀ i ∈ vs1, i ∈ own) : backE env (wipeE e2 vs1) = backE env e2 := by
  apply List.ext_getElem?
  intro i
  unfold backE
  simp only [List.getElem?_zipWith]
  by_cases hi : i ∈ vs1
  · cases a : env[i]? with
    | none => rfl
    | some s0 =>
      cases s0 with
      | ow b xs => exact (free_at hf (hv i hi) a).elim
      | un =>
        by_cases hl : i < e2.length
        · rw [List.getElem?_eq_getElem hl, List.getElem?_eq_getElem (by rw [wipeE_length]; exact hl)]
          rfl
        · rw [List.getElem?_eq_none (show e2.length ≤ i by omega), List.getElem?_eq_none (show (wipeE e2 vs1).length ≤ i by rw [wipeE_length]; omega)]
      | va d =>
        by_cases hl : i < e2.length
        · rw [List.getElem?_eq_getElem hl, List.getElem?_eq_getElem (by rw [wipeE_length]; exact hl)]
          rfl
        · rw [List.getElem?_eq_none (show e2.length ≤ i by omega), List.getElem?_eq_none (show (wipeE e2 vs1).length ≤ i by rw [wipeE_length]; omega)]
  · rw [wipeE_out hi]
theorem free_back {env e1 : Env} {own : List Nat} (hf : free_ own env = true) : free_ own (backE env e1) = true := by
  unfold free_ at hf ⊢
  rw [List.all_eq_true] at hf ⊢
  intro i hi
  have h := hf i hi
  unfold backE
  rw [List.getElem?_zipWith]
  cases a : env[i]? with
  | none => rfl
  | some s0 =>
    cases s0 with
    | ow b xs =>
      rw [a] at h
      simp [Mp.isOw] at h
    | un => cases e1[i]? <;> rfl
    | va d => cases e1[i]? <;> rfl
theorem io_back {env e1 : Env} (h1 : e1.length = env.length) (hk : ∀ (i : Nat) b xs, env[i]? = some (Sl.ow b xs) → ∃ ys, e1[i]? = some (Sl.ow true ys)) : ioE σ (backE env e1) = ioE σ env := by
  have hl : (backE env e1).length = env.length := by
    unfold backE
    rw [List.length_zipWith, h1, Nat.min_self]
  unfold ioE
  rw [hl]
  congr 1
  funext i
  cases a : env[i]? with
  | none =>
    have : (backE env e1)[i]? = none := List.getElem?_eq_none (by rw [hl]; exact List.getElem?_eq_none_iff.mp a)
    rw [this]
  | some s0 =>
    have hi : i < e1.length := by rw [h1]; exact lt_of_get a
    have : (backE env e1)[i]? = some (s0.back e1[i]) := by
      unfold backE
      rw [List.getElem?_zipWith, a, List.getElem?_eq_getElem hi]
    rw [this]
    cases s0 with
    | un => rfl
    | va d => rfl
    | ow b xs =>
      obtain ⟨ys, hy⟩ := hk i b xs a
      rw [List.getElem?_eq_getElem hi] at hy
      rw [Option.some.inj hy]
      cases σ[i]? with
      | none => rfl
      | some o =>
        cases o with
        | none => rfl
        | some v => cases v <;> rfl
theorem wipe_up {vs : List Nat} {σ σ' : L2.St} (hv : ∀ i ∈ vs1, i ∈ vs) (h : L2.wipe σ' vs1 = L2.wipe σ vs1) : L2.wipe σ' vs = L2.wipe σ vs := by
  have hl : σ'.length = σ.length := by
    have := congrArg List.length h
    rwa [L2.wipe_length, L2.wipe_length] at this
  refine wipe_eq (ws := vs) (fun i hi => hi) ⟨hl.trans (L2.wipe_length σ vs).symm, fun i hi => ?_⟩
  have h1 : i ∉ vs1 := fun z => hi (hv i z)
  rw [L2.wipe_out hi, ← L2.wipe_out (σ := σ') h1, h, L2.wipe_out h1]
theorem lcI_exc {tg1 : MG} {elt : ME} {c : Str} {v : D} {e' : Env} : ∀ (ds : List D) (e : Env), lcI vs1 tg1 elt ds e ≠ .exc c v e'
  | [], e => by simp [lcI]
  | d :: ds, e => by
    unfold lcI
    cases tg1 d e with
    | none => simp
    | some e1 =>
      simp only
      cases elt e1 with
      | exc c v e => simp [Re.nx]
      | no => simp [Re.nx]
      | ok x e2 =>
        simp only [Re.nx]
        split
        · cases h : lcI vs1 tg1 elt ds (wipeE e2 vs1) <;> simp
        · simp
theorem lcO_exc {own : List Nat} {tg tg1 : MG} {mi1 : ML} {elt : ME} {c : Str} {v : D} {e' : Env} : ∀ (ds : List D) (e : Env), lcO own vs1 tg mi1 tg1 elt ds e ≠ .exc c v e'
  | [], e => by simp [lcO]
  | d :: ds, e => by
    unfold lcO
    split
    · cases tg d (enterE own e) with
      | none => simp
      | some e1 =>
        simp only
        cases mi1 e1 with
        | exc c v e => simp [Re.nx]
        | no => simp [Re.nx]
        | ok ds1 e2 =>
          simp only [Re.nx]
          split
          · cases h : lcI vs1 tg1 elt ds1 (wipeE e2 vs1) with
            | exc c v e => simp
            | no => simp
            | ok xs e3 =>
              simp only
              cases h2 : lcO own vs1 tg mi1 tg1 elt ds (backE e e3) <;> simp
          · simp
    · simp
theorem sl_lc2 {ws ws1 : List Nat} {elt tg iter tg1 iter1 : Expr} {scope : Scope} {own : List (Str × Nat)} {pos : Pos} {mi mi1 : ML} {mg mg1 : MG} {me : ME} (c : Cok g X W k) (hi : SI g W φ X tg iter mi) (ok : BlkOk X.N X.env.scope scope own) (hv : ∀ i ∈ vs1, i ∈ own.map (·.2))
    (hg : ∀ (s : Shared) (H : Hp) (C : Addr) (cl : List (Str × Addr)) (fp : List Addr) (φ : Fc), SG g φ (X.blk s H scope (compEnvC scope cl C X.env) fp) ws tg mg) (hws : ∀ i ∈ ws, i ∈ own.map (·.2))
    (hi1 : ∀ (s : Shared) (H : Hp) (C : Addr) (cl : List (Str × Addr)) (fp : List Addr) (φ : Fc), SI g W0 φ (X.blk s H scope (compEnvC scope cl C X.env) fp) tg1 iter1 mi1)
    (hg1 : ∀ (s : Shared) (H : Hp) (C : Addr) (cl : List (Str × Addr)) (fp : List Addr) (φ : Fc), SG g φ (X.blk s H scope (compEnvC scope cl C X.env) fp) ws1 tg1 mg1) (hws1 : ∀ i ∈ ws1, i ∈ vs1)
    (he : ∀ (s : Shared) (H : Hp) (C : Addr) (cl : List (Str × Addr)) (fp : List Addr) (φ : Fc), SE g W0 φ (X.blk s H scope (compEnvC scope cl C X.env) fp) elt me)
    (hs : ∀ x, foldedSetIterable iter X.env x = pure x := by intro _; rfl) (hs1 : ∀ env x, foldedSetIterable iter1 env x = pure x := by intro _ _; rfl) :
    SL g W φ X (.ListComp elt [⟨tg, iter, [], 0⟩, ⟨tg1, iter1, [], 0⟩] scope pos) (lLc2 (own.map (·.2)) vs1 mi mg mi1 mg1 me) := by
  intro F σ H env Q hr hp
  refine ⟨_, pe_lc2 (vs1 := vs1) (tt := tYes) (tt1 := tYes)
    (g := fun v σ H Q => ∀ (s : Shared) (H' : Hp) (C : Addr) (cl : List (Str × Addr)) (fp : List Addr), wG (X.blk s H' scope (compEnvC scope cl C X.env) fp) tg v σ H Q)
    (wi1 := fun σ H R => ∀ (s : Shared) (H' : Hp) (C : Addr) (cl : List (Str × Addr)) (fp : List Addr), wIt (X.blk s H' scope (compEnvC scope cl C X.env) fp) tg1 iter1 σ H R)
    (g1 := fun v σ H Q => ∀ (s : Shared) (H' : Hp) (C : Addr) (cl : List (Str × Addr)) (fp : List Addr), wG (X.blk s H' scope (compEnvC scope cl C X.env) fp) tg1 v σ H Q)
    (te := fun σ H Q => ∀ (s : Shared) (H' : Hp) (C : Addr) (cl : List (Str × Addr)) (fp : List Addr), wE (X.blk s H' scope (compEnvC scope cl C X.env) fp) elt σ H Q)
    c.calm c.nd w_pi ok hv (fun s H C cl fp => ⟨fun pins s1 σ H1 v u Q I r h => w_pg.run pins s1 σ H1 v u Q I r (h s H C cl fp)⟩) (fun _ _ _ _ _ => pts_nil)
    (fun s H C cl fp => ⟨fun pins s1 σ H1 R I h => w_pi.run pins s1 σ H1 R I (h s H C cl fp)⟩) (fun s H C cl fp => ⟨fun pins s1 σ H1 v u Q I r h => w_pg.run pins s1 σ H1 v u Q I r (h s H C cl fp)⟩) (fun _ _ _ _ _ => pts_nil)
    (fun s H C cl fp => ⟨fun pins s1 σ H1 Q I h => w_pe.run pins s1 σ H1 Q I (h s H C cl fp)⟩) hs hs1, ?_⟩
  refine hi F σ H env _ hr (il hp fun ds e1 J H1 F1 s1 r1 w1 hp1 => ?_)
  generalize own.map (·.2) = vs at hp1 hws hv ⊢
  intro p hp0
  let Rest : Hp → Nat → Env → List D → Prop := fun F2 i env2 acc =>
    PoL g W φ F2 σ Q ((lcO vs vs1 mg mi1 mg1 me (ds.drop i) env2).nx fun xs e => if (acc ++ xs).length ≤ line then .ok (acc ++ xs) e else .no)
  refine ⟨fun i m H2 => ∃ F2 env2 acc accd, Same F1 F2 ∧ Rel g φ F2 σ H2 env2 ∧ H2 p = some (.lst acc) ∧ F2 p = none ∧ φ.H0 p = none ∧ NotOwn σ env2 p ∧ Reps g F2 acc accd ∧ Rest F2 i env2 accd ∧ m = ds.length - i,
    ⟨ds.length, F1, e1, [], [], Same.refl _, r1.loose hp0, upd_same, r1.ex.free hp0, r1.h0 hp0, r1.freshOwn hp0, .nil, ?_, rfl⟩, ?_⟩
  · exact hp1
  rintro i m H2 ⟨F2, env2, acc, accd, s2, r2, hpa, hpF, hp00, hpo, ra, rest, rfl⟩
  obtain ⟨wgo, wstop⟩ := w1 φ F2 σ H2 env2 i s2 r2
  by_cases hl : i < ds.length
  · have ed : ds.drop i = ds[i] :: ds.drop (i + 1) := List.drop_eq_getElem_cons hl
    simp only [Rest] at rest
    rw [ed] at rest
    obtain ⟨go, yl⟩ := wgo ds[i] (List.getElem?_eq_getElem hl)
    refine .inr ⟨go, fun H' => ∃ F3 env3 acc accd, Same F1 F3 ∧ Rel g φ F3 σ H' env3 ∧ H' p = some (.lst acc) ∧ F3 p = none ∧ φ.H0 p = none ∧ NotOwn σ env3 p ∧ Reps g F3 acc accd ∧ Rest F3 (i + 1) env3 accd,
      fun H' ⟨F3, env3, acc, accd, a1, a2, a3, a4, a5, a6, a7, a8⟩ => ⟨_, by omega, F3, env3, acc, accd, a1, a2, a3, a4, a5, a6, a7, a8, rfl⟩, fun x H' hy => ?_⟩
    obtain ⟨F3, s3, sH, nw, r3, p3⟩ := yl x H' hy
    have hpa' : H' p = some (.lst acc) := sH _ _ hpa
    have hpF' : F3 p = none := by
      cases ef : F3 p with
      | none => rfl
      | some o =>
        rcases nw p o ef with h | h
        · rw [hpF] at h; cases h
        · rw [hpa] at h; cases h
    unfold lcO at rest
    by_cases hf : free_ vs env2 = true
    · rw [if_pos hf] at rest
      have r4 := r3.enter hf
      cases et : mg ds[i] (enterE vs env2) with
      | none => rw [et] at rest; exact rest.elim
      | some e1' =>
        rw [et] at rest
        simp only at rest
        intro s5 H5 C5 cl5 fp5
        refine hg s5 H5 C5 cl5 fp5 (fcE σ env2 H' F3) F3 _ H' _ x ds[i] e1' _ r4 p3 et fun σ4 o4 r5 => ?_
        have hw := wipe_eq hws o4
        refine ⟨hw, ?_⟩
        dsimp only [tYes]
        rw [if_pos rfl]
        intro s6 H6 C6 cl6 fp6
        refine hi1 s6 H6 C6 cl6 fp6 (fcE σ env2 H' F3) F3 σ4 H' e1' _ r5 ?_
        cases em : mi1 e1' with
        | exc c v e => rw [em] at rest; exact rest.elim
        | no => rw [em] at rest; exact rest.elim
        | ok ds1 e2 =>
          rw [em] at rest
          simp only [Re.nx] at rest
          intro J1 H4 F4 s4 r6 wk
          by_cases hft : (free_ vs1 e2 && allT e2) = true
          · rw [if_pos hft] at rest
            rw [Bool.and_eq_true] at hft
            -- what holds at the beginning of the inner loop
            have hl4 : σ4.length = σ.length := by
              have := congrArg List.length hw
              rwa [L2.wipe_length, L2.wipe_length] at this
            have le2 : e2.length = env2.length := by rw [← r6.len, hl4, r3.len]
            have ok4 : ∀ (q : Nat) b xs, env2[q]? = some (Sl.ow b xs) → ∃ ys, e2[q]? = some (Sl.ow true ys) := fun q b xs h => by
              obtain ⟨a, vs', k1, _⟩ := r3.ow q b xs h
              obtain ⟨_, ys, k2⟩ := r6.ioh (q, a) (mem_ioE.mpr ⟨k1, b, xs, h⟩)
              exact ⟨ys, k2⟩
            have hp4 : H4 p = some (.lst acc) := r6.fr p _ hpa' fun q hq z => by
              obtain ⟨h1, b', xs', h2⟩ := mem_ioE.mp (show q ∈ ioE σ env2 from hq)
              exact hpo q.1 b' xs' q.2 h2 h1 z
            have hF4 : F4 p = none := by
              cases ef : F4 p with
              | none => rfl
              | some o =>
                rcases r6.new p o ef with h | h
                · have h' : F3 p = some o := h
                  rw [hpF'] at h'; cases h'
                · have h' : H' p = none := h
                  rw [hpa'] at h'; cases h'
            have bw : ∀ e : Env, backE env2 (wipeE e vs1) = backE env2 e := fun e => backE_wipe hf hv
            have out4 : Rel g φ F4 σ H4 (backE env2 (wipeE e2 vs1)) := by
              rw [bw]
              exact r3.exit hf r6 hw s4
            have noBack : ∀ e : Env, NotOwn σ (backE env2 e) p := fun e j b' xs' a h1 h2 => by
              obtain ⟨s0, s1, k1, k2, k3⟩ := backE_at h1
              cases s0 with
              | va d' => cases k3
              | un => cases k3
              | ow b0 xs0 => exact hpo j b0 xs0 a k1 h2
            have io4 : ioE σ (backE env2 (wipeE e2 vs1)) = ioE σ env2 := by
              rw [bw]
              exact io_back le2 ok4
            have in4 : Rel g (fcE σ (backE env2 (wipeE e2 vs1)) H4 F4) F4 (L2.wipe σ4 vs1) H4 (wipeE e2 vs1) := Rel.inner (p := p) r6 (fun b _ => rfl) hF4 hpo io4 hft.1 hft.2
            let RestI : Hp → Nat → Env → List D → Prop := fun F2 j ej acc =>
              PoL g W φ F2 σ Q ((lcI vs1 mg1 me (ds1.drop j) ej).nx fun xs e3 => (lcO vs vs1 mg mi1 mg1 me (ds.drop (i + 1)) (backE env2 e3)).nx fun ys e4 => if (acc ++ (xs ++ ys)).length ≤ line then .ok (acc ++ (xs ++ ys)) e4 else .no)
            refine ⟨fun j m H => ∃ Fj ej acc accd, Same F4 Fj ∧ Rel g φ Fj σ H (backE env2 ej) ∧ Rel g (fcE σ (backE env2 ej) H Fj) Fj (L2.wipe σ4 vs1) H ej ∧ ej.length = env2.length ∧ ioE σ (backE env2 ej) = ioE σ env2 ∧ H p = some (.lst acc) ∧ Fj p = none ∧ Reps g Fj acc accd ∧ RestI Fj j ej accd ∧ m = ds1.length - j,
              ⟨ds1.length, F4, wipeE e2 vs1, acc, accd, Same.refl _, out4, in4, by rw [wipeE_length, le2], io4, hp4, hF4, ra.mono (s3.trans s4), ?_, rfl⟩, ?_⟩
            · refine PoL.mono (s3.trans s4) ?_
              show PoL g W φ F2 σ Q ((lcI vs1 mg1 me ds1 (wipeE e2 vs1)).nx fun xs e3 => (lcO vs vs1 mg mi1 mg1 me (ds.drop (i + 1)) (backE env2 e3)).nx fun ys e4 => if (accd ++ (xs ++ ys)).length ≤ line then .ok (accd ++ (xs ++ ys)) e4 else .no)
              cases hq : lcI vs1 mg1 me ds1 (wipeE e2 vs1) with
              | exc c v e => exact absurd hq (lcI_exc _ _)
              | no => rw [hq] at rest; exact rest.elim
              | ok xs e3 =>
                rw [hq] at rest
                simp only at rest
                simp only [Re.nx]
                cases hq2 : lcO vs vs1 mg mi1 mg1 me (ds.drop (i + 1)) (backE env2 e3) with
                | exc c v e => exact absurd hq2 (lcO_exc _ _)
                | no => rw [hq2] at rest; exact rest.elim
                | ok ys e4 =>
                  rw [hq2] at rest
                  exact rest
            rintro j m H5 ⟨Fj, ej, acc, accd, s5, ro, rin, lej, ioj, hpj, hFj, raj, restI, rfl⟩
            obtain ⟨wgo1, wstop1⟩ := wk (fcE σ (backE env2 ej) H5 Fj) Fj (L2.wipe σ4 vs1) H5 ej j s5 rin
            by_cases hl1 : j < ds1.length
            · have ed1 : ds1.drop j = ds1[j] :: ds1.drop (j + 1) := List.drop_eq_getElem_cons hl1
              simp only [RestI] at restI
              rw [ed1] at restI
              obtain ⟨go1, yl1⟩ := wgo1 ds1[j] (List.getElem?_eq_getElem hl1)
              refine .inr ⟨go1, fun H => ∃ Fj ej acc accd, Same F4 Fj ∧ Rel g φ Fj σ H (backE env2 ej) ∧ Rel g (fcE σ (backE env2 ej) H Fj) Fj (L2.wipe σ4 vs1) H ej ∧ ej.length = env2.length ∧ ioE σ (backE env2 ej) = ioE σ env2 ∧ H p = some (.lst acc) ∧ Fj p = none ∧ Reps g Fj acc accd ∧ RestI Fj (j + 1) ej accd,
                fun H ⟨Fj, ej, acc, accd, a1, a2, a3, a4, a5, a6, a7, a8, a9⟩ => ⟨_, by omega, Fj, ej, acc, accd, a1, a2, a3, a4, a5, a6, a7, a8, a9, rfl⟩, fun x H6 hy6 => ?_⟩
              obtain ⟨F6, s6', sH6, nw6, r7, p7⟩ := yl1 x H6 hy6
              unfold lcI at restI
              cases et1 : mg1 ds1[j] ej with
              | none => rw [et1] at restI; exact restI.elim
              | some e1'' =>
                rw [et1] at restI
                simp only at restI
                intro s8 H8' C8 cl8 fp8
                refine hg1 s8 H8' C8 cl8 fp8 (fcE σ (backE env2 ej) H5 Fj) F6 _ H6 _ x ds1[j] e1'' _ r7 p7 et1 fun σ7 o7 r8 => ?_
                have hw7 := wipe_eq hws1 o7
                refine ⟨hw7, ?_⟩
                dsimp only [tYes]
                rw [if_pos rfl]
                intro s9 H9' C9 cl9 fp9
                cases ee : me e1'' with
                | exc c v e => rw [ee] at restI; exact restI.elim
                | no => rw [ee] at restI; exact restI.elim
                | ok xd e9 =>
                  rw [ee] at restI
                  simp only [Re.nx] at restI
                  refine he s9 H9' C9 cl9 fp9 (fcE σ (backE env2 ej) H5 Fj) F6 σ7 H6 e1'' _ r8 ?_
                  rw [ee]
                  intro y H9 F9 s9' r9 py
                  by_cases hft9 : (free_ vs1 e9 && allT e9) = true
                  · rw [if_pos hft9] at restI
                    rw [Bool.and_eq_true] at hft9
                    have nb := noBack ej
                    have hp9 : H9 p = some (.lst acc) := r9.fr p _ hpj fun q hq z => by
                      obtain ⟨h1, b', xs', h2⟩ := mem_ioE.mp (show q ∈ ioE σ (backE env2 ej) from hq)
                      exact nb q.1 b' xs' q.2 h2 h1 z
                    have hF9 : F9 p = none := by
                      cases ef : F9 p with
                      | none => rfl
                      | some o =>
                        rcases r9.new p o ef with h | h
                        · have h' : Fj p = some o := h
                          rw [hFj] at h'; cases h'
                        · have h' : H5 p = none := h
                          rw [hpj] at h'; cases h'
                    have hw9 : L2.wipe σ7 vs = L2.wipe σ vs := by
                      refine (wipe_up hv (σ := L2.wipe σ4 vs1) ?_).trans ?_
                      · exact hw7.trans (wipe_eq (ws := []) (fun _ h => by cases h) ⟨rfl, fun _ _ => rfl⟩).symm
                      · refine Eq.trans ?_ hw
                        refine wipe_up hv ?_
                        exact wipe_eq (ws := []) (fun _ h => by cases h) ⟨rfl, fun _ _ => rfl⟩
                    have hl7 : σ7.length = σ.length := by
                      have := congrArg List.length hw9
                      rwa [L2.wipe_length, L2.wipe_length] at this
                    have le9 : e9.length = env2.length := by rw [← r9.len, hl7, r3.len]
                    have ok9 : ∀ (q : Nat) b xs, env2[q]? = some (Sl.ow b xs) → ∃ ys, e9[q]? = some (Sl.ow true ys) := fun q b xs h => by
                      obtain ⟨a, vs', k1, _⟩ := r3.ow q b xs h
                      have hm : (q, a) ∈ ioE σ (backE env2 ej) := by
                        rw [ioj]
                        exact mem_ioE.mpr ⟨k1, b, xs, h⟩
                      obtain ⟨_, ys, k2⟩ := r9.ioh (q, a) hm
                      exact ⟨ys, k2⟩
                    have e9b : backE (backE env2 ej) e9 = backE env2 e9 := backE_back lej fun q b xs h => let ⟨ys, z⟩ := ok9 q b xs h; ⟨true, ys, z⟩
                    have out9 : Rel g φ F9 σ H9 (backE env2 (wipeE e9 vs1)) := by
                      rw [bw, ← e9b]
                      exact ro.exit (free_back hf) r9 hw9 (s6'.trans s9')
                    have io9 : ioE σ (backE env2 (wipeE e9 vs1)) = ioE σ (backE env2 ej) := by
                      rw [bw, ioj]
                      exact io_back le9 ok9
                    have in9 : Rel g (fcE σ (backE env2 (wipeE e9 vs1)) (upd H9 p (.lst (acc ++ [y]))) F9) F9 (L2.wipe σ7 vs1) (upd H9 p (.lst (acc ++ [y]))) (wipeE e9 vs1) := Rel.inner (p := p) r9 (fun b hb => upd_ne hb) hF9 nb io9 hft9.1 hft9.2
                    have hw79 : L2.wipe σ7 vs1 = L2.wipe σ4 vs1 := hw7
                    rw [hw79] at in9
                    have len : acc.length < line ∧ PoL g W φ Fj σ Q ((lcI vs1 mg1 me (ds1.drop (j + 1)) (wipeE e9 vs1)).nx fun xs e3 => (lcO vs vs1 mg mi1 mg1 me (ds.drop (i + 1)) (backE env2 e3)).nx fun ys e4 => if ((accd ++ [xd]) ++ (xs ++ ys)).length ≤ line then .ok ((accd ++ [xd]) ++ (xs ++ ys)) e4 else .no) := by
                      cases hq : lcI vs1 mg1 me (ds1.drop (j + 1)) (wipeE e9 vs1) with
                      | exc c v e => exact absurd hq (lcI_exc _ _)
                      | no => rw [hq] at restI; exact restI.elim
                      | ok xs e3 =>
                        rw [hq] at restI
                        simp only at restI
                        simp only [Re.nx]
                        cases hq2 : lcO vs vs1 mg mi1 mg1 me (ds.drop (i + 1)) (backE env2 e3) with
                        | exc c v e => exact absurd hq2 (lcO_exc _ _)
                        | no => rw [hq2] at restI; exact restI.elim
                        | ok ys e4 =>
                          rw [hq2] at restI
                          simp only at restI
                          have el : (accd ++ [xd]) ++ (xs ++ ys) = accd ++ (xd :: xs ++ ys) := by simp
                          dsimp only
                          rw [el]
                          by_cases hz : (accd ++ (xd :: xs ++ ys)).length ≤ line
                          · refine ⟨?_, restI⟩
                            have := raj.len
                            simp at hz
                            omega
                          · rw [if_neg hz] at restI
                            exact restI.elim
                    refine ⟨acc, hp9, by rw [← line_eq]; exact len.1, F9, wipeE e9 vs1, acc ++ [y], accd ++ [xd], s5.trans (s6'.trans s9'), out9.mut hF9 hp00 (noBack _), in9, by rw [wipeE_length, le9], io9.trans ioj, upd_same, hF9, (raj.mono (s6'.trans s9')).append (.cons py .nil), PoL.mono (s6'.trans s9') len.2⟩
                  · rw [if_neg hft9] at restI
                    exact restI.elim
            · have ed1 : ds1.drop j = [] := List.drop_eq_nil_of_le (by omega)
              simp only [RestI] at restI
              rw [ed1] at restI
              refine .inl ⟨wstop1 (by omega), Fj, backE env2 ej, acc, accd, s2.trans (s3.trans (s4.trans s5)), ro, hpj, hFj, hp00, noBack ej, raj, ?_⟩
              exact restI
          · rw [if_neg hft] at rest
            exact rest.elim
    · rw [if_neg hf] at rest
      exact rest.elim
  · have ed : ds.drop i = [] := List.drop_eq_nil_of_le (by omega)
    simp only [Rest] at rest
    rw [ed] at rest
    have rest' : PoL g W φ F2 σ Q (if (accd ++ []).length ≤ line then .ok (accd ++ []) env2 else .no) := rest
    by_cases hz : (accd ++ []).length ≤ line
    · rw [if_pos hz, List.append_nil] at rest'
      exact .inl ⟨wstop (by omega), rest' p acc H2 F2 (Same.refl _) r2 hpa hpF hp00 hpo ra⟩
    · rw [if_neg hz] at rest'
      exact rest'.elim
end
end Mp
set_option Elab.async false
set_option linter.all false
set_option maxRecDepth 100000
set_option maxHeartbeats 4000000
/-! len(x) by the class's own __len__ -/
namespace Mp
open PySem PySem.Spec PyProof.Rows L2
structure HasLen (P : Program) (w : World) (mg : Str → Option Value) (base : Heap) (g : Gc) (k : Nat) (cn : Str) (fn : Fn) : Prop where
  ex : ∃ (C f : Addr) (fd : FuncData) (ps ns : List Str), g.cl cn = some (C, ns) ∧ PySem.W.findIn g.K (.ref C) "__len__" = some (some (.ref f)) ∧ PySem.W.isFn g.K (.ref f) = true ∧ FnOk P w g.K mg base (L2.CX P w) k f fd ps (spOf g fn) ∧ Binds g.K fd ps []
def lenOwn (cn : Str) (fn : Fn) : List D → Option D
  | [.obj c fs] => if c = cn then (match fn [.va (.obj c fs)] with
    | .ok (.int i) outs => if outs.length = 1 ∧ 0 ≤ i ∧ i ≤ 16777216 then some (.int i) else none
    | _ => none) else none
  | _ => none
section
variable {g : Gc} {W : WX} {φ : Fc} {X : Cx} {k : Nat}
theorem cr_lenOwn {C f : Addr} {fd : FuncData} {ps : List Str} {sp : Sp} (hs : PySem.W.findIn X.K (.ref C) "__len__" = some (some (.ref f))) (hf : PySem.W.isFn X.K (.ref f) = true) (Fo : FnOk X.prog X.w X.K X.mg X.base (L2.CX X.prog X.w) k f fd ps sp) (hr : Room (k + 1) X.A) (hb : Binds X.K fd ps []) :
    CallR X (.builtin "len") (fun xs H Q => ∃ a dx fs, xs = [.ref a] ∧ H a = some (.ins C dx fs) ∧ sp xs H (fun v H' => ∃ i : Int, v = .int i ∧ 0 ≤ i ∧ i ≤ 16777216 ∧ Q v H') E0) := by
  intro pins s σ H xs us Q I r ⟨a, dx, fs, ex, ha, q⟩
  subst ex
  cases r with
  | cons r rr =>
    cases rr
    cases r
    obtain ⟨_, O, _⟩ := ins_get I.hok ha
    obtain ⟨_, J, _⟩ := O.look
    obtain ⟨_, fr⟩ := I.fr
    have hl : ps.length = 1 := (Fo.len _ _ _ _ q).symm
    have bd := hb s [.ref a] I.kIn (by simpa using hl.symm)
    rw [List.append_nil] at bd
    refine PySem.W.len_K fr I.ok.mod.kin J hs hf (wpAny_call (codeAny_mono (Fo.run X.A.in1 X.stack s H ⟨[.ref a], []⟩ [.ref a] [.ref a] _ E0 hr.in1 I.env0.in1 bd (.cons rfl .nil) q) fun z s' hz => ?_))
    match z, hz with
    | .error e, hz => exact passL pins σ H s e s' I hz
    | .ok (.ret u), hz =>
      obtain ⟨v, H', I3, rv, i, ev, h0, h1, q3⟩ := I.after hz
      subst ev
      obtain ⟨t, rfl⟩ := (show ∃ t, u = Value.int i t from rv)
      exact ⟨⟨h0, by omega⟩, .int i, H', I3.tok _, ⟨_, rfl⟩, q3⟩
theorem ca_lenOwn {cn : Str} {fn : Fn} {kk : Nat} (c : Cok g X W k) (h : HasLen X.prog X.w X.mg X.base g kk cn fn) (hk : kk + 1 ≤ k) : CaS g φ (wC X (.builtin "len")) (lenOwn cn fn) := by
  intro F σ H env vs ds z Q hr hx hf hq
  obtain ⟨C, f, fd, ps, ns, hcl, hs, hfn, Fo, hb⟩ := h.ex
  rw [← c.K] at hs hfn Fo hb
  cases hx with
  | nil => simp [lenOwn] at hf
  | @cons v d vs ds hv t =>
    cases t with
    | cons _ _ => cases d <;> simp [lenOwn] at hf
    | nil =>
      cases d <;> simp only [lenOwn, reduceCtorEq] at hf
      rename_i c1 fs
      by_cases hc : c1 = cn
      · rw [if_pos hc] at hf
        subst hc
        have pv : Rep g F v (.obj c1 fs) := by
          cases hv with
          | of hv => exact hv
        have pp := pv
        cases pv with
        | obj a c3 C1 dx ns1 ws es hc1 h1 hn1 hl1 hi1 =>
          rw [hcl] at hc1
          cases hc1
          refine ⟨_, cr_lenOwn hs hfn Fo (c.rm.mono hk) hb, a, dx, _, rfl, hr.ex _ _ h1, ?_⟩
          cases hfo : fn [.va (.obj c1 fs)] with
          | no => rw [hfo] at hf; cases hf
          | exc c5 v5 o5 => rw [hfo] at hf; cases hf
          | ok d outs =>
            rw [hfo] at hf
            cases d <;> simp only [reduceCtorEq] at hf
            rename_i i
            by_cases hl : outs.length = 1 ∧ 0 ≤ i ∧ i ≤ 16777216
            · rw [if_pos hl] at hf
              cases hf
              refine sp_call (W := W0) (env := env) (as := [.va (.obj c1 fs)]) hr (.cons pp .nil) ?_
              have ea : argsOf env [.va (.obj c1 fs)] = some [.va (.obj c1 fs)] := rfl
              unfold callF
              rw [if_pos (show (ixs [Av.va (.obj c1 fs)]).Nodup from List.nodup_nil), ea]
              simp only [hfo]
              match outs, hl.1 with
              | [o1], _ =>
                show PoE g W0 φ F σ _ (.ok (.int i) env)
                intro r H' F' s1 r1 p1
                cases p1
                exact ⟨i, rfl, hl.2.1, hl.2.2, hq _ _ _ s1 r1 (.int i)⟩
            · rw [if_neg hl] at hf
              cases hf
      · rw [if_neg hc] at hf
        cases hf
end
end Mp
set_option Elab.async false
set_option linter.all false
set_option maxRecDepth 100000
set_option maxHeartbeats 4000000
/-! defs with a default at their end -/
namespace Mp
open PySem PySem.Spec PyProof.Rows L2
/-- the def under x, called with the arguments ds left out -/
structure HasD (P : Program) (w : World) (mg : Str → Option Value) (base : Heap) (g : Gc) (k : Nat) (x : Str) (ds : List D) (fn : Fn) : Prop where
  ex : ∃ (f : Addr) (fd : FuncData) (ps : List Str) (vs : List V) (us : List Value), FnOk P w g.K mg base (L2.CX P w) k f fd ps (spOf g fn) ∧ mg x = some (.ref f) ∧ PySem.W.keepIn g.K (.ref f) = true ∧ Vals vs us ∧ Binds g.K fd ps us ∧ ∀ F, Reps g F vs ds
def mFnD (fn : Fn) (ds : List D) (m : MA) : ME := fun env => (m env).bind fun as e => callF fn (as ++ ds.map Av.va) e
section
variable {g : Gc} {W : WX} {φ : Fc} {X : Cx} {k : Nat}
theorem avs_more {F : Hp} {σ : L2.St} : ∀ {vs ws : List V} {as : List Av} {ds : List D}, AvsR g F σ vs as → Reps g F ws ds → AvsR g F σ (vs ++ ws) (as ++ ds.map Av.va)
  | [], ws, [], ds, _, r => ⟨by simp [r.len], fun i v a h1 h2 => by
    simp only [List.nil_append] at h1 h2
    rw [List.getElem?_map, Option.map_eq_some_iff] at h2
    obtain ⟨d, h3, rfl⟩ := h2
    exact r.at_ i v d h1 h3⟩
  | [], _, _ :: _, _, h, _ => by have := h.len; simp at this
  | _ :: _, _, [], _, h, _ => by have := h.len; simp at this
  | v :: vs, ws, a :: as, ds, h, r => .cons h.head (avs_more h.tail r)
theorem se_fnD {x : Str} {kk : Nat} {ds : List D} {fn : Fn} {e : Expr} {es : List Expr} {m : MA} {p pos : Pos} (c : Cok g X W k) (h : HasD X.prog X.w X.mg X.base g kk x ds fn) (hk : kk ≤ k) (hg : Gl X x) (ha : SA g W φ X (e :: es) m)
    (hdb : (x == ("__debug__" : Str)) = false := by decide) (he : starEach (e :: es) X.env = (false, eval e X.env) :: starEach es X.env := by rfl) (hpl : (backTo pos (starEach es X.env)).any (·.1) = false := by rfl) :
    SE g W φ X (.Call (.Name x p) (e :: es) [] pos) (mFnD fn ds m) := by
  intro F σ H env Q hr hp
  obtain ⟨f, fd, ps, vs0, us0, Fo, hm, hkp, hd, hb, hv⟩ := h.ex
  rw [← c.K] at Fo hkp hb
  refine ⟨_, pe_callSD Fo (c.rm.mono hk) hg hm hkp hb hd (fun σ => passAt c.tk σ) w_pa hdb he hpl, ?_⟩
  refine ha F σ H env _ hr (ae hp fun as e1 vs H1 F1 s1 r1 p1 hp1 => ?_)
  exact sp_call r1 (avs_more p1 (hv F1)) hp1
theorem def_okD {P : Program} {w : World} {mg : Str → Option Value} {base : Heap} {x qual : Str} {st : Stmt} {f : Addr} {fd : FuncData} {N ps : List Str} {body : MS} {dvs : List V} (Fu : FunD g.K x qual (defArgs st) (defBody st) (defScope st) dvs [] f fd) (S : FnScope N ps (defScope st)) (hl : ps.length ≤ N.length)
    (hbody : ∀ (cdv : Value) (A : Around) (outer : List PySem.Env) (s : Shared) (H : Hp) (E : XK) (φ : Fc), Cok g (cxOf (L2.CX P w) P w g.K mg base N qual (defScope st) f cdv A outer s H E) (fun cls d _ H => E cls d H) k →
      SB g (fun cls d _ H => E cls d H) φ (cxOf (L2.CX P w) P w g.K mg base N qual (defScope st) f cdv A outer s H E) (defBody st) body) :
    FnOk P w g.K mg base (L2.CX P w) (k + 1) f fd ps (spOf g (fnOf ps.length N.length body)) := by
  refine Fu.ok S (fun vs H Q E h => ?_) (fun cdv A outer s H vs Q E hr h => ?_)
  · obtain ⟨F, args, r, h⟩ := h
    have hl2 : vs.length = args.length := by have := r.len; simpa using this
    unfold fnOf at h
    by_cases hz : args.length = ps.length
    · rw [hl2, hz]
    · rw [if_neg hz] at h
      exact h.elim
  · obtain ⟨F, args, r, h⟩ := h
    have hl2 : vs.length = args.length := by have := r.len; simpa using this
    unfold fnOf at h
    by_cases hz : args.length = ps.length
    · rw [if_pos hz] at h
      have c : Cok g (cxOf (L2.CX P w) P w g.K mg base N qual (defScope st) f cdv A outer s H E) (fun cls d _ H => E cls d H) k := ⟨rfl, rfl, S.nd, takes_of rfl rfl rfl rfl, hr, passes_of rfl⟩
      have r0 := r.start (N := N) (n := N.length) rfl (by omega)
      rw [hl2, hz] at r0
      obtain ⟨t, h1, h2⟩ := hbody cdv A outer s H E (fcOf vs args H F) c F (L2.start N vs) H _ { nx := fun _ H' => Q .non H', rt := Q } r0 (by
        have fit : ∀ {F' : Hp} {σ' : L2.St} {H' : Hp} {e' : Env}, Rel g (fcOf vs args H F) F' σ' H' e' → Rel g (fcOf vs args H F) F' (vs.map some) H' (outsOf ps.length e') := fun {F' σ' H' e'} q => q.leave (by omega)
        cases hb : body (args ++ List.replicate (N.length - ps.length) Sl.un) with
        | no => rw [hb] at h; exact h.elim
        | br e => rw [hb] at h; exact h.elim
        | ct e => rw [hb] at h; exact h.elim
        | nx e =>
          rw [hb] at h
          exact fun σ' H' F' s1 r1 => h .non H' F' s1 (fit r1) .non
        | rt d e =>
          rw [hb] at h
          exact fun v σ' H' F' s1 r1 p1 => h v H' F' s1 (fit r1) p1
        | exc c v e =>
          rw [hb] at h
          exact fun C fld dd vv σ' H' F' q1 q2 q3 q4 q5 => h C fld dd vv H' F' q1 q2 (fit q3) q4 q5)
      exact ⟨t, h1, h2⟩
    · rw [if_neg hz] at h
      exact h.elim
end
end Mp
set_option Elab.async false
set_option linter.all false
set_option maxRecDepth 100000
set_option maxHeartbeats 4000000
/-! own == with None or a tuple on its right; lists in lists that change once they were handed in -/
namespace Mp
open PySem PySem.Spec PyProof.Rows L2

/-! ### own == -/
/-- no built-in class lies below the class cn -/
structure HasSb (g : Gc) (cn : Str) : Prop where
  ex : ∃ (C : Addr) (ns : List Str), g.cl cn = some (C, ns) ∧ ∀ t ∈ ["NoneType", "bool", "int", "str", "tuple", "list"], PySem.W.subIn g.K (.type t) (.ref C) = some false
section
variable {g : Gc} {W : WX} {φ : Fc} {X : Cx} {k : Nat} {F F' : Hp} {σ : L2.St} {H H' : Hp} {env : Env}
theorem looks_tup {pins : List (Addr × Obj)} {s : Shared} {a : Addr} {ws : List V} (I : Inv X pins σ H s) (h : SqT X.K H a ws) : PySem.W.Looks (model X.prog X.w) s.heap (typeOf (.ref a)) (.type "tuple") := by
  have key : ∃ o, s.heap.get? a = some o ∧ o.cls = .type "tuple" := by
    rcases h with (h | ⟨ob, h⟩) | ⟨o, its, n, h, hc, _⟩
    · obtain ⟨_, _, _, o, h1, h2, _⟩ := (show ObjOk X.prog X.w H s.heap a (.tup ws) from I.hok a _ h)
      exact ⟨o, h1, h2⟩
    · obtain ⟨_, _, _, _, o, h1, h2, _⟩ := (show ObjOk X.prog X.w H s.heap a (.frz ob (.tup ws)) from I.hok a _ h)
      exact ⟨o, h1, h2⟩
    · exact ⟨o, I.kIn a o h, hc⟩
  obtain ⟨o, h1, h2⟩ := key
  exact fun A Q E s k q => wpAny_typeOf_ref (k _ _ h1) (by rw [h2]; exact q)
theorem looks_non {M : Model} {h : Heap} : PySem.W.Looks M h (typeOf .none) (.type "NoneType") := fun A Q E s k q => wpAny_pure q
inductive TyT (K : PySem.W.Frag) (H : Hp) : V → String → Prop
  | non : TyT K H .non "NoneType"
  | tup {a : Addr} {ws : List V} (h : SqT K H a ws) : TyT K H (.ref a) "tuple"
theorem op_ownT {C f : Addr} {fd : FuncData} {ps : List Str} {sp : Sp} (hs : PySem.W.findIn X.K (.ref C) "__eq__" = some (some (.ref f))) (hf : PySem.W.isFn X.K (.ref f) = true) (Fo : FnOk X.prog X.w X.K X.mg X.base (L2.CX X.prog X.w) k f fd ps sp) (hr : Room k X.A) (hb : Binds X.K fd ps []) :
    OpR X (compareOp .Eq) (fun x y H Q => ∃ a dx fs t, x = .ref a ∧ H a = some (.ins C dx fs) ∧ TyT X.K H y t ∧ PySem.W.subIn X.K (.type t) (.ref C) = some false ∧ sp [x, y] H Q E0) := by
  intro pins s σ H x y v u Q I rx ry ⟨a, dx, fs, t, ex, ha, ty, hsub, q⟩
  subst ex
  obtain rfl : v = Value.ref a := rx
  obtain ⟨_, O, _⟩ := ins_get I.hok ha
  obtain ⟨_, J, _⟩ := O.look
  obtain ⟨_, fr⟩ := I.fr
  have lk : PySem.W.Looks (model X.prog X.w) s.heap (typeOf u) (.type t) := by
    cases ty with
    | non =>
      obtain rfl : u = Value.none := ry
      exact looks_non
    | tup h =>
      obtain rfl : u = Value.ref _ := ry
      exact looks_tup I h
  show wpAny _ _ (richCompare .Eq _ _) _ _ _
  refine PySem.W.cmp_K (op := .Eq) (tb := .type t) hr.units0 fr I.ok.mod.kin J lk (by simp [PySem.W.notFirst, hsub]) hs hf ?_
  refine thn (run_fn (us := [.ref a, u]) (vs := [.ref a, y]) (dvs := []) (ds := []) (E := E0) Fo hr hb .nil passL I (.cons rfl (.cons ry .nil)) q) fun w s' z => ?_
  obtain ⟨v', H', I', rv, qv⟩ := z
  exact SlX.cmpback rv ⟨v', H', I', rv, qv⟩
def eqTs : D → Bool
  | .non => true
  | .tup _ => true
  | _ => false
def eqOwnT (cn : Str) (fn : Fn) : D → D → Option D
  | .obj c fs, y => if c = cn ∧ eqTs y = true then (match fn [.va (.obj c fs), .va y] with
    | .ok (.bl b) outs => if outs.length = 2 then some (.bl b) else none
    | _ => none) else none
  | _, _ => none
theorem op_eqOwnT {cn : Str} {fn : Fn} {kk : Nat} (c : Cok g X W k) (h : HasEq X.prog X.w X.mg X.base g kk cn fn) (hk : kk ≤ k) (hsb : HasSb g cn) : OpS g φ (wO X (compareOp .Eq)) (eqOwnT cn fn) := by
  intro F σ H env v u x y z Q hr hx hy hf hq
  obtain ⟨C, f, fd, ps, ns, hcl, hs, hfn, Fo, hb⟩ := h.ex
  obtain ⟨C2, ns2, hcl2, hsub⟩ := hsb.ex
  rw [hcl] at hcl2
  cases hcl2
  rw [← c.K] at hs hfn Fo hb hsub
  refine ⟨_, op_ownT hs hfn Fo (c.rm.mono hk) hb, ?_⟩
  cases x <;> simp only [eqOwnT, reduceCtorEq] at hf
  rename_i c1 fs
  by_cases hcc : c1 = cn ∧ eqTs y = true
  · rw [if_pos hcc] at hf
    obtain ⟨rfl, hyt⟩ := hcc
    have px : Rep g F v (.obj c1 fs) := by
      cases hx with
      | of hx => exact hx
    have py : Rep g F u y := by
      cases hy with
      | of hy => exact hy
      | ow h1 h2 => simp [eqTs] at hyt
    have ty : ∃ t, t ∈ ["NoneType", "bool", "int", "str", "tuple", "list"] ∧ TyT X.K H u t := by
      cases py <;> simp only [eqTs, Bool.false_eq_true] at hyt
      · exact ⟨_, by decide, .non⟩
      · rename_i a ws ds h0 hl hi
        exact ⟨_, by decide, .tup (c.K ▸ same_t hr.ex h0)⟩
    obtain ⟨t, ht, ty⟩ := ty
    have pp := px
    cases px with
    | obj a c3 C1 dx ns1 vs ds hc1 h1 hn1 hl1 hi1 =>
        rw [hcl] at hc1
        cases hc1
        refine ⟨a, dx, _, t, rfl, hr.ex _ _ h1, ty, hsub t ht, ?_⟩
        cases hfo : fn [.va (.obj c1 fs), .va y] with
        | no => rw [hfo] at hf; cases hf
        | exc c5 v5 o5 => rw [hfo] at hf; cases hf
        | ok d outs =>
          rw [hfo] at hf
          have pv : AvsR g F σ [V.ref a, u] [.va (.obj c1 fs), .va y] := .cons pp (.cons py .nil)
          refine sp_call (W := W0) hr pv ?_
          have ea : argsOf env [.va (.obj c1 fs), .va y] = some [.va (.obj c1 fs), .va y] := rfl
          unfold callF
          rw [if_pos (show (ixs [Av.va (.obj c1 fs), .va y]).Nodup from List.nodup_nil), ea]
          simp only [hfo]
          cases d <;> simp only [reduceCtorEq] at hf
          rename_i bb
          by_cases hl : outs.length = 2
          · rw [if_pos hl] at hf
            cases hf
            match outs, hl with
            | [o1, o2], _ =>
              show PoE g W0 φ F σ Q (.ok (.bl bb) env)
              exact fun r H' F' s1 r1 p1 => hq r H' F' s1 r1 p1
          · rw [if_neg hl] at hf
            cases hf
  · rw [if_neg hcc] at hf
    cases hf
end

theorem has_len {P : Program} {w : World} {mg : Str → Option Value} {base : Heap} {g : Gc} {k : Nat} {cn qual : Str} {C f : Addr} {ns ps N : List Str} {st : Stmt} {fd : FuncData} {body : MS} (hcl : g.cl cn = some (C, ns)) (hs : PySem.W.findIn g.K (.ref C) "__len__" = some (some (.ref f))) (hf : PySem.W.isFn g.K (.ref f) = true) (Fu : Fun g.K "__len__" qual st f fd) (hb : Binds g.K fd ps [])
    (S : FnScope N ps (defScope st)) (hl : ps.length ≤ N.length)
    (hbody : ∀ (cdv : Value) (A : Around) (outer : List PySem.Env) (s : Shared) (H : Hp) (E : XK) (φ : Fc), Cok g (cxOf (L2.CX P w) P w g.K mg base N qual (defScope st) f cdv A outer s H E) (fun cls d _ H => E cls d H) k →
      SB g (fun cls d _ H => E cls d H) φ (cxOf (L2.CX P w) P w g.K mg base N qual (defScope st) f cdv A outer s H E) (defBody st) body) :
    HasLen P w mg base g (k + 1) cn (fnOf ps.length N.length body) := ⟨C, f, fd, ps, ns, hcl, hs, hf, def_ok Fu S hl hbody, hb⟩

/-! ### a, b = a tuple or a list -/
def tupX (n : Nat) (m : MGs) : MG := fun d env => match d with
  | .tup ds => if ds.length = n then m ds env else none
  | .lst ds => if ds.length = n then m ds env else none
  | _ => none
theorem sg_tupX {g : Gc} {φ : Fc} {X : Cx} {ws : List Nat} {es : List Expr} {kk : Nat} {m : MGs} {n : Nat} {pos : Pos} (hK : X.K = g.K) (hc : X.calm = true) (h : SGs g φ X ws es m) (hn : (assignEach es X.env).length = n := by rfl) (hst : (assignEach es X.env).findIdx? (·.1) = none := by rfl) : SG g φ X ws (.Tuple es kk pos) (tupX n m) := by
  intro F σ H env v d env' Q hr hv hm hq
  cases d <;> simp only [tupX, reduceCtorEq] at hm
  · rename_i ds
    split at hm
    · rename_i hl
      cases hv with
      | tup a vs ds h1 h2 h3 =>
        exact ⟨_, pg_tup hc w_pgs hn hst, a, vs, rfl, hK ▸ same_t hr.ex h1, by rw [h2]; exact hl, h F σ H env vs ds env' Q hr ⟨h2, h3⟩ hm hq⟩
    · cases hm
  · rename_i ds
    split at hm
    · rename_i hl
      cases hv with
      | lst a vs ds h1 h2 h3 =>
        exact ⟨_, pg_lst hc w_pgs hn hst, a, vs, rfl, SqL.of (hr.ex _ _ h1), by rw [h2]; exact hl, h F σ H env vs ds env' Q hr ⟨h2, h3⟩ hm hq⟩
    · cases hm

/-! ### lists in lists that change -/
mutual
def noL : D → Bool
  | .non => true
  | .bl _ => true
  | .int _ => true
  | .str _ => true
  | .ty _ => true
  | .cls _ => true
  | .adr _ => true
  | .tup xs => noLs xs
  | .tpk xs => noLs xs
  | .kdt _ => true
  | .obj _ fs => noLs fs
  | .lst _ => false
  | .rol _ => false
def noLs : List D → Bool
  | [] => true
  | d :: ds => noL d && noLs ds
end
theorem noLs_at : ∀ {ds : List D} {i : Nat} {d : D}, noLs ds = true → ds[i]? = some d → noL d = true
  | [], i, d, _, e => by simp at e
  | x :: ds, 0, d, h, e => by
    simp only [noLs, Bool.and_eq_true] at h
    simp only [List.getElem?_cons_zero, Option.some.injEq] at e
    exact e ▸ h.1
  | x :: ds, i + 1, d, h, e => by
    simp only [noLs, Bool.and_eq_true] at h
    exact noLs_at h.2 (by simpa using e)
def isL : HO → Bool
  | .lst _ => true
  | _ => false
section
variable {g : Gc} {W : WX} {φ : Fc} {X : Cx} {k : Nat} {F F' : Hp} {σ : L2.St} {H H' : Hp} {env : Env}
theorem Rep.noList {v : V} {d : D} (h : Rep g F v d) (hd : noL d = true) (e : ∀ b o, F b = some o → isL o = false → F' b = some o) : Rep g F' v d := by
  induction h with
  | non => exact .non
  | bl b => exact .bl b
  | int i => exact .int i
  | str x => exact .str x
  | ty n => exact .ty n
  | adr a => exact .adr a
  | kdt a xs kvs h hl hi =>
    refine .kdt a xs kvs (e _ _ h rfl) hl fun i x p q r => ⟨(hi i x p q r).1, ?_, (hi i x p q r).2.2⟩
    rcases (hi i x p q r).2.1 with h | h
    · rcases h with h | ⟨o, h⟩
      · exact .inl (.inl (e _ _ h rfl))
      · exact .inl (.inr ⟨o, e _ _ h rfl⟩)
    · exact .inr h
  | cls c C ns hc => exact .cls c C ns hc
  | lst a vs ds h hl _ ih => simp [noL] at hd
  | rol a vs ds h hl _ ih => simp [noL] at hd
  | tup a vs ds h hl _ ih =>
    simp only [noL] at hd
    refine .tup a vs ds ?_ hl fun i v d p q => ih i v d p q (noLs_at hd q)
    rcases h with (h | ⟨o, h⟩) | h
    · exact .inl (.inl (e _ _ h rfl))
    · exact .inl (.inr ⟨o, e _ _ h rfl⟩)
    · exact .inr h
  | tpk a o vs ds h hc hdn hl _ ih =>
    simp only [noL] at hd
    exact .tpk a o vs ds (e _ _ h rfl) hc hdn hl fun i v d p q => ih i v d p q (noLs_at hd q)
  | obj a c C dx ns vs ds hc h hn hl _ ih =>
    simp only [noL] at hd
    exact .obj a c C dx ns vs ds hc (e _ _ h rfl) hn hl fun i v d p q => ih i v d p q (noLs_at hd q)
/-- of the slots only the values without lists -/
def weakS : Sl → Sl
  | .va d => if noL d = true then .va d else .un
  | _ => .un
theorem weakS_va (d : D) : weakS (.va d) = if noL d = true then .va d else .un := rfl
def weakE (env : Env) : Env := env.map weakS
def noLists (F : Hp) : Hp := fun b => match F b with
  | some (.lst _) => none
  | o => o
def andNew (F F2 : Hp) : Hp := fun b => match F b with
  | some o => some o
  | none => noLists F2 b
theorem noLists_some {b : Addr} {o : HO} (h : noLists F b = some o) : F b = some o ∧ isL o = false := by
  unfold noLists at h
  split at h
  · cases h
  · rename_i x hx
    refine ⟨h, ?_⟩
    cases o <;> first | rfl | exact (hx _ h).elim
theorem noLists_of {b : Addr} {o : HO} (h : F b = some o) (hl : isL o = false) : noLists F b = some o := by
  unfold noLists
  split
  · rename_i vs e
    rw [h] at e
    cases e
    cases hl
  · exact h
theorem Rel.weak (r : Rel g φ F σ H env) : Rel g ⟨[], H, noLists F⟩ (noLists F) σ H (weakE env) := by
  refine Rel.fresh (fun b o e => r.ex b o (noLists_some e).1) (by simp [weakE, r.len]) (fun i d e => ?_) ?_
  · unfold weakE at e
    rw [List.getElem?_map, Option.map_eq_some_iff] at e
    obtain ⟨s, h1, h2⟩ := e
    cases s with
    | un => cases h2
    | ow b xs => cases h2
    | va d' =>
      rw [weakS_va] at h2
      by_cases hd : noL d' = true
      · rw [if_pos hd] at h2
        cases h2
        obtain ⟨v, q1, q2⟩ := r.va i d h1
        exact ⟨v, q1, q2.noList hd fun b o p q => noLists_of p q⟩
      · rw [if_neg hd] at h2
        cases h2
  · unfold noOw weakE
    rw [List.all_eq_true]
    intro s hs
    obtain ⟨t, _, rfl⟩ := List.mem_map.mp hs
    cases t with
    | un => rfl
    | ow b xs => rfl
    | va d =>
      rw [weakS_va]
      by_cases hd : noL d = true
      · rw [if_pos hd]; rfl
      · rw [if_neg hd]; rfl
/-- back from there, with two slots stored, one list of those made there changed, and the list of the slot i -/
theorem Rel.unweak {F2 H2 : Hp} {e3 : Env} {σ2 : L2.St} {i j : Nat} {a b0 : Addr} {vs ws vs' ws' : List V} {v0 v1 : V} {d : D} (r : Rel g φ F σ H env) (r4 : Rel g ⟨[], H, noLists F⟩ F2 σ2 H2 e3) (eσ : σ2 = (σ.set i (some v0)).set j (some v1))
    (hi : isOw env[i]? = false) (hj : isOw env[j]? = false) (hij : i ≠ j) (hlj : j < env.length) (p1 : Rep g F2 v1 d) (hd : noL d = true) (ha : F2 a = some (.lst vs)) (hb : F2 b0 = some (.lst ws)) :
    Rel g φ (andNew F F2) σ2 (upd (upd H2 b0 (.lst ws')) a (.lst vs')) ((env.set i .un).set j (.va d)) := by
  have fresh : ∀ {c : Addr} {us : List V}, F2 c = some (.lst us) → H c = none := fun {c us} h => by
    rcases r4.new c _ h with z | z
    · exact absurd (noLists_some z).2 (by simp [isL])
    · exact z
  have hHa := fresh ha
  have hHb := fresh hb
  have keep : ∀ c o, H c = some o → H2 c = some o := fun c o z => r4.fr c o z fun p hp => by cases hp
  have old : ∀ c o, H c = some o → (upd (upd H2 b0 (.lst ws')) a (.lst vs')) c = some o := fun c o z => by
    rw [upd_ne (ne_of_none z hHa), upd_ne (ne_of_none z hHb)]
    exact keep c o z
  have sF : Same F (andNew F F2) := fun c o z => by
    unfold andNew
    rw [z]
  have inv : ∀ {c : Addr} {o : HO}, andNew F F2 c = some o → F c = some o ∨ (F c = none ∧ F2 c = some o ∧ isL o = false) := fun {c o} z => by
    unfold andNew at z
    cases hF : F c with
    | some o' =>
      rw [hF] at z
      exact .inl z
    | none =>
      rw [hF] at z
      obtain ⟨q1, q2⟩ := noLists_some z
      exact .inr ⟨rfl, q1, q2⟩
  have two : ∀ c o, F2 c = some o → isL o = false → andNew F F2 c = some o := fun c o z hz => by
    unfold andNew
    cases hF : F c with
    | none => exact noLists_of z hz
    | some o' =>
      have h1 := keep c o' (r.ex _ _ hF)
      rw [r4.ex c o z] at h1
      exact h1.symm
  have so : ∀ {kx : Nat} {s : Sl}, kx ≠ i → kx ≠ j → ((env.set i .un).set j (.va d))[kx]? = some s → env[kx]? = some s ∧ σ2[kx]? = σ[kx]? := fun {kx s} h1 h2 z => by
    rw [set_get_ne (Ne.symm h2), set_get_ne (Ne.symm h1)] at z
    refine ⟨z, ?_⟩
    rw [eσ, set_get_ne (Ne.symm h2), set_get_ne (Ne.symm h1)]
  have own : ∀ {kx : Nat} {b : Bool} {xs : List D}, ((env.set i .un).set j (.va d))[kx]? = some (.ow b xs) → env[kx]? = some (.ow b xs) ∧ σ2[kx]? = σ[kx]? := fun {kx b xs} z => by
    have h2 : kx ≠ j := fun q => by
      subst q
      rcases get_set z with ⟨_, z2, _⟩ | ⟨z2, _⟩
      · cases z2
      · exact z2 rfl
    have h1 : kx ≠ i := fun q => by
      subst q
      rw [set_get_ne (Ne.symm h2)] at z
      rcases get_set z with ⟨_, z2, _⟩ | ⟨z2, _⟩
      · cases z2
      · exact z2 rfl
    exact so h1 h2 z
  refine ⟨fun c o z => ?_, r.ex0.trans sF, fun c o z => ?_, fun c o z hc => old c o (r.fr c o z hc), by rw [eσ]; simp [r.len], fun kx d' z => ?_, fun kx b xs z => ?_, fun k1 k2 b c xs ys u z1 z2 z3 z4 => ?_, fun p hp => ?_⟩
  · rcases inv z with z | ⟨_, z, hz⟩
    · exact old c o (r.ex _ _ z)
    · have h1 := r4.ex c o z
      have hca : c ≠ a := fun q => by
        rw [q, ha] at z
        cases z
        cases hz
      have hcb : c ≠ b0 := fun q => by
        rw [q, hb] at z
        cases z
        cases hz
      rw [upd_ne hca, upd_ne hcb]
      exact h1
  · rcases inv z with z | ⟨z0, z, hz⟩
    · exact r.new c o z
    · rcases r4.new c o z with q | q
      · have := (noLists_some q).1
        rw [z0] at this
        cases this
      · exact .inr (r.h0 q)
  · by_cases hkj : kx = j
    · subst hkj
      rcases get_set z with ⟨_, z2, _⟩ | ⟨z2, _⟩
      · cases z2
        refine ⟨v1, ?_, p1.noList hd two⟩
        rw [eσ]
        exact set_get (by simp [r.len]; exact hlj)
      · exact absurd rfl z2
    · by_cases hki : kx = i
      · subst hki
        rw [set_get_ne (Ne.symm hkj)] at z
        rcases get_set z with ⟨_, z2, _⟩ | ⟨z2, _⟩
        · cases z2
        · exact absurd rfl z2
      · obtain ⟨q1, q2⟩ := so hki hkj z
        obtain ⟨v, h1, h2⟩ := r.va kx d' q1
        exact ⟨v, by rw [q2]; exact h1, h2.mono sF⟩
  · obtain ⟨q1, q2⟩ := own z
    obtain ⟨a', us, h1, h2, h3, h4, h5⟩ := r.ow kx b xs q1
    refine ⟨a', us, by rw [q2]; exact h1, old _ _ h2, ?_, h4.mono sF, h5⟩
    cases hz : andNew F F2 a' with
    | none => rfl
    | some o =>
      rcases inv hz with z0 | ⟨_, z0, hl⟩
      · rw [h3] at z0
        cases z0
      · have h6 := r4.ex _ _ z0
        rw [keep _ _ h2] at h6
        cases h6
        cases hl
  · obtain ⟨q1, q2⟩ := own z1
    obtain ⟨q3, q4⟩ := own z2
    exact r.dj k1 k2 b c xs ys u q1 q3 (q2 ▸ z3) (q4 ▸ z4)
  · obtain ⟨h1, xs, h2⟩ := r.ioh p hp
    have n1 : p.1 ≠ i := fun q => by
      rw [q] at h2
      rw [h2] at hi
      cases hi
    have n2 : p.1 ≠ j := fun q => by
      rw [q] at h2
      rw [h2] at hj
      cases hj
    refine ⟨?_, xs, ?_⟩
    · rw [eσ, set_get_ne (Ne.symm n2), set_get_ne (Ne.symm n1)]
      exact h1
    · rw [set_get_ne (Ne.symm n2), set_get_ne (Ne.symm n1)]
      exact h2

/-- a store to the slot i of what m gives -/
def SSet (g : Gc) (W : WX) (φ : Fc) (X : Cx) (st : Stmt) (i : Nat) (m : ME) : Prop := ∀ F σ H env (En : Ends), Rel g φ F σ H env → PoE g W φ F σ (fun x H1 => En.nx (σ.set i (some x)) H1) (m env) → wS X st En σ H
theorem sset_e {i : Nat} {x : Str} {e : Expr} {m : ME} {pos pos' : Pos} (c : Cok g X W k) (h : SE g W φ X e m) (hi : X.N[i]? = some x := by rfl) (hx : Loc X.env.scope x := by first | exact Or.inl rfl | exact Or.inr rfl)
    (hs : swapsWith e (some (.Name x pos')) pos.line X.env = pure false := by rfl) (hf : X.fn x = true ∨ X.env.scope.names.lookup x = some .local := by first | exact .inl rfl | exact .inr rfl | assumption) : SSet g W φ X (.Assign [.Name x pos'] e pos) i m :=
  fun F σ H env En hr hp => ⟨_, ps_set c.nd hi hx w_pe hs hf, h F σ H env _ hr hp⟩
theorem sset_lc {i : Nat} {y : Str} {py : Pos} {ws : List Nat} {elt tg iter : Expr} {ifs : List Expr} {scope : Scope} {own : List (Str × Nat)} {pos spos : Pos} {mi : ML} {mg : MG} {mt : MT} {me : ME} (c : Cok g X W k) (hi : SI g W φ X tg iter mi) (ok : BlkOk X.N X.env.scope scope own)
    (hg : ∀ (s : Shared) (H : Hp) (C : Addr) (cl : List (Str × Addr)) (fp : List Addr) (φ : Fc), SG g φ (X.blk s H scope (compEnvC scope cl C X.env) fp) ws tg mg) (hws : ∀ i ∈ ws, i ∈ own.map (·.2))
    (ht : ∀ (s : Shared) (H : Hp) (C : Addr) (cl : List (Str × Addr)) (fp : List Addr) (φ : Fc), STs g W0 φ (X.blk s H scope (compEnvC scope cl C X.env) fp) ifs mt)
    (he : ∀ (s : Shared) (H : Hp) (C : Addr) (cl : List (Str × Addr)) (fp : List Addr) (φ : Fc), SE g W0 φ (X.blk s H scope (compEnvC scope cl C X.env) fp) elt me)
    (hy : X.N[i]? = some y := by rfl) (hyl : X.env.scope.names.lookup y = some .local := by rfl) (hsw : swapsWith (.ListComp elt [⟨tg, iter, ifs, 0⟩] scope pos) (some (.Name y py)) spos.line X.env = pure true := by exact sw_true rfl rfl rfl (by decide +kernel))
    (hs : ∀ x, foldedSetIterable iter X.env x = pure x := by intro _; rfl) : SSet g W φ X (.Assign [.Name y py] (.ListComp elt [⟨tg, iter, ifs, 0⟩] scope pos) spos) i (mL (lLc (own.map (·.2)) mi mg mt me)) := by
  intro F σ H env En hr hp
  have hp' : PoL g W φ F σ (fun x H1 => gName i x σ H1 En.nx) (lLc (own.map (·.2)) mi mg mt me env) := by
    unfold mL at hp
    cases e1 : lLc (own.map (·.2)) mi mg mt me env with
    | exc c v e' => rw [e1] at hp; exact hp
    | no => rw [e1] at hp; exact hp
    | ok xs e' =>
      rw [e1] at hp
      intro p vs H' F' s1 r1 h1 h2 h3 h4 h5
      obtain ⟨s2, r2⟩ := r1.settle h1 h2 h3 h4
      exact hp _ _ _ (s1.trans s2) r2 (.mkLst upd_same (h5.mono s2))
  obtain ⟨t, h1, ⟨gg, tt, te, h2, h3, h4, rfl⟩, h5⟩ := sl_lc_ c hi ok hg hws ht he hs F σ H env _ hr hp'
  exact ⟨_, ps_setLc c.calm c.nd hy hyl hsw h1 ok h2 h3 h4 hs, h5⟩
/-- x = e0; y = e1; o[k] = e2; x.append(c): x is a list of lists made here, and isn't read behind -/
def mLoose (i j : Nat) (m0 m1 me mo mk : ME) (n : MS) : MS := fun env =>
  if isOw env[i]? = false ∧ isOw env[j]? = false ∧ i < env.length ∧ j < env.length ∧ i ≠ j then
    match m0 (weakE env) with
    | .ok (.lst xs) ea => match putG i (.lst xs) ea with
      | some eb => match m1 eb with
        | .ok d ec => match putG j d ec with
          | some ed => match me ed with
            | .ok z e1 => match mo e1 with
              | .ok (.lst ys) e2 => match mk e2 with
                | .ok (.int q) e3 => match ixN ys.length q, e3[i]? with
                  | some _, some (.va (.lst xs')) => if noL d = true ∧ xs'.length < line then n ((env.set i .un).set j (.va d)) else .no
                  | _, _ => .no
                | _ => .no
              | _ => .no
            | _ => .no
          | none => .no
        | _ => .no
      | none => .no
    | _ => .no
  else .no
theorem sb_loose {i j : Nat} {x y : Str} {s0 : Stmt} {e1 ez o ke : Expr} {cc : Int} {jj : Nat} {m0 m1 me mo mk : ME} {n : MS} {rest : List Stmt} {p p1 q1 q2 q3 cp spos apos cpos : Pos} (c : Cok g X W k)
    (h0 : ∀ φ, SSet g W φ X s0 i m0) (h1 : ∀ φ, SE g W φ X e1 m1) (hz : ∀ φ, SE g W φ X ez me) (ho : ∀ φ, SE g W φ X o mo) (hk : ∀ φ, SE g W φ X ke mk) (t : SB g W φ X rest n)
    (hi : X.N[i]? = some x := by rfl) 
    (hj : X.N[j]? = some y := by rfl) (hy : Loc X.env.scope y := by first | exact Or.inl rfl | exact Or.inr rfl) (hs1 : swapsWith e1 (some (.Name y p1)) q1.line X.env = pure false := by rfl) (hf1 : X.fn y = true ∨ X.env.scope.names.lookup y = some .local := by first | exact .inl rfl | exact .inr rfl | assumption)
    (hsw : swapsWithSole [.Subscript o ke spos] ez q2.line X.env = pure false := by rfl) (hw : swappedStores [.Subscript o ke spos] ez X.env = pure none := by rfl) (ha1 : (assignEach [.Subscript o ke spos] X.env).map (·.2) = [assign (.Subscript o ke spos) X.env] := by rfl)
    (ha : ∀ v, assign (.Subscript o ke spos) X.env v = (do
      let ov ← holding [v] (eval o X.env)
      let iv ← holding [v, ov] (eval ke X.env)
      standAt spos
      holding [v, ov, iv] (setItem ov iv v)
      release [v, ov, iv] []) := by intro _; rfl)
    (hv : Vis X.env.scope x := by first | exact Or.inl rfl | exact Or.inr (Or.inl rfl) | exact Or.inr (Or.inr rfl))
    (hd : (x == ("__debug__" : Str)) = false := by decide) (hcd : (x == ("__classdict__" : Str)) = false := by decide) (hs3 : starEach (Expr.Constant (.int cc) jj cp :: []) X.env = (false, eval (Expr.Constant (.int cc) jj cp) X.env) :: starEach [] X.env := by rfl)
    (hbase : attributeBase (.Name x p) "append" X.env (eval (.Name x p) X.env) = eval (.Name x p) X.env := by rfl)
    (hfew : ((backTo cpos (starEach (Expr.Constant (.int cc) jj cp :: []) X.env)).all (fun x => !x.1) && (backToKw cpos (keywordEach [] X.env)).all (fun x => x.1.isSome)
      && decide ((Expr.Constant (.int cc) jj cp :: []).length + ([] : List Keyword).length + (if ([] : List Keyword).isEmpty then 0 else 1) < 30)) = true := by rfl)
    (hline : (apos.endLine == cpos.line) = true := by rfl) (hplain : (backTo cpos (starEach [] X.env)).any (·.1) = false := by rfl)
    (hs4 : swapsWith (.Call (.Attribute (.Name x p) "append" apos) [Expr.Constant (.int cc) jj cp] [] cpos) none q3.line X.env = pure false := by rfl) :
    SB g W φ X (s0 :: .Assign [.Name y p1] e1 q1 :: .Assign [.Subscript o ke spos] ez q2 :: .Expr (.Call (.Attribute (.Name x p) "append" apos) [Expr.Constant (.int cc) jj cp] [] cpos) q3 :: rest) (mLoose i j m0 m1 me mo mk n) := by
  intro F σ H env En hr hp
  refine ⟨_, pss_cons w_ps (pss_cons (ps_set c.nd hj hy w_pe hs1 hf1) (pss_cons (ps_asg w_pe (pg_sub w_pe w_pe set_list ha) hsw hw ha1)
    (pss_cons (ps_expr (pe_bm PySem.F.plainAttrs_list PySem.F.slot_list_append PySem.F.type_list_append mt_append (pe_var hi hv hd hcd) (pa_cons pe_int pa_nil hs3) hbase hfew hline hs3 hplain) hs4) w_pb))), ?_⟩
  unfold mLoose at hp
  by_cases hc : isOw env[i]? = false ∧ isOw env[j]? = false ∧ i < env.length ∧ j < env.length ∧ i ≠ j
  · rw [if_pos hc] at hp
    obtain ⟨c1, c2, c3, c4, c5⟩ := hc
    refine h0 _ (noLists F) σ H (weakE env) _ hr.weak ?_
    cases em0 : m0 (weakE env) with
    | no => rw [em0] at hp; exact hp.elim
    | exc cx v e => rw [em0] at hp; exact hp.elim
    | ok d0 ea =>
      rw [em0] at hp
      cases d0 with
      | lst xs =>
        simp only at hp
        intro v0 H1 F1 s1 r1 p1
        cases eb0 : putG i (.lst xs) ea with
        | none => simp only [eb0] at hp; exact hp.elim
        | some eb =>
          simp only [eb0] at hp
          obtain ⟨sl, g1, g2, rfl⟩ := putG_ok eb0
          refine h1 _ F1 _ H1 _ _ (r1.setVa g1 g2 p1) ?_
          cases em1 : m1 (ea.set i (.va (.lst xs))) with
          | no => rw [em1] at hp; exact hp.elim
          | exc cx v e => rw [em1] at hp; exact hp.elim
          | ok d ec =>
            rw [em1] at hp
            simp only at hp
            intro v1 H2 F2 s2 r2 p2
            cases ed0 : putG j d ec with
            | none => simp only [ed0] at hp; exact hp.elim
            | some ed =>
              simp only [ed0] at hp
              obtain ⟨sl2, g3, g4, rfl⟩ := putG_ok ed0
              refine hz _ F2 _ H2 _ _ (r2.setVa g3 g4 p2) ?_
              cases eme : me (ec.set j (.va d)) with
              | no => rw [eme] at hp; exact hp.elim
              | exc cx v e => rw [eme] at hp; exact hp.elim
              | ok z e1 =>
                rw [eme] at hp
                simp only at hp
                intro vz H3 F3 s3 r3 p3
                refine ho _ F3 _ H3 _ _ r3 ?_
                cases emo : mo e1 with
                | no => rw [emo] at hp; exact hp.elim
                | exc cx v e => rw [emo] at hp; exact hp.elim
                | ok dl e2 =>
                  rw [emo] at hp
                  cases dl with
                  | lst ys =>
                    simp only at hp
                    intro vo H4 F4 s4 r4 p4
                    refine hk _ F4 _ H4 _ _ r4 ?_
                    cases emk : mk e2 with
                    | no => rw [emk] at hp; exact hp.elim
                    | exc cx v e => rw [emk] at hp; exact hp.elim
                    | ok dq e3 =>
                      rw [emk] at hp
                      cases dq with
                      | int q =>
                        simp only at hp
                        intro vq H5 F5 s5 r5 p5
                        cases hq : ixN ys.length q with
                        | none => simp only [hq] at hp; exact hp.elim
                        | some jx =>
                          simp only [hq] at hp
                          cases hsl : e3[i]? with
                          | none => simp only [hsl] at hp; exact hp.elim
                          | some sli =>
                            cases sli with
                            | un => simp only [hsl] at hp; exact hp.elim
                            | ow b zs => simp only [hsl] at hp; exact hp.elim
                            | va dl2 =>
                              cases dl2 with
                              | lst xs' =>
                                simp only [hsl] at hp
                                by_cases hfin : noL d = true ∧ xs'.length < line
                                · rw [if_pos hfin] at hp
                                  obtain ⟨k1, k2⟩ := hfin
                                  cases p5
                                  have p4' := p4.mono s5
                                  cases p4' with
                                  | lst b0 ws ds hb hlb hib =>
                                    obtain ⟨vi, m1', m2⟩ := r5.va i _ hsl
                                    cases m2 with
                                    | lst a vs ds ha0 hla hia =>
                                      have hj5 : ixN ws.length q = some jx := by rw [hlb]; exact hq
                                      refine ⟨b0, ws, q, jx, rfl, rfl, r5.ex _ _ hb, hj5, ?_⟩
                                      have hB : (upd H5 b0 (.lst (ws.set jx vz))) a = some (.lst (if a = b0 then ws.set jx vz else vs)) := by
                                        by_cases hab : a = b0
                                        · subst hab
                                          rw [upd_same, if_pos rfl]
                                        · rw [upd_ne hab, if_neg hab]
                                          exact r5.ex _ _ ha0
                                      have hlen : (if a = b0 then ws.set jx vz else vs).length < sizeLine := by
                                        by_cases hab : a = b0
                                        · rw [if_pos hab, List.length_set]
                                          subst hab
                                          rw [ha0] at hb
                                          cases hb
                                          rw [hla, ← line_eq]
                                          exact k2
                                        · rw [if_neg hab, hla, ← line_eq]
                                          exact k2
                                      refine ⟨.ref a, m1', .inl ⟨rfl, _, SqL.of hB⟩, ?_⟩
                                      refine ⟨a, _, .int cc, rfl, rfl, hB, hlen, ?_⟩
                                      refine t (andNew F F5) _ _ _ _ (Rel.unweak hr r5 rfl c1 c2 c5 c4 (p2.mono (s3.trans (s4.trans s5))) k1 ha0 hb) ?_
                                      exact PoS.mono (fun b o e => by unfold andNew; rw [e]) hp
                                · rw [if_neg hfin] at hp
                                  exact hp.elim
                              | _ => simp only [hsl] at hp; exact hp.elim
                      | _ => exact hp.elim
                  | _ => exact hp.elim
      | _ => exact hp.elim
  · rw [if_neg hc] at hp
    exact hp.elim
end
end Mp
set_option Elab.async false
set_option linter.all false
set_option maxRecDepth 100000
set_option maxHeartbeats 4000000
/-! sorted(x), x a list or a tuple of data that can be compared -/
namespace Mp
open PySem PySem.Spec PySem.Calls PyProof.Rows L2

section
variable {prog : Program} {w : World} {A : Around} {E : Value → Shared → Prop} {s : Shared}
/-- the empty list D takes the items of the tuple l -/
theorem take_tup {l D : Addr} {vs : List Value} {r : Value} {R : PySem.Fin → Shared → Prop} (t : IsTup s.heap l vs.toArray) (hD : s.heap.get? D = some (seqObj "list" #[] 0)) (hz : vs.length ≤ sizeLine)
    (k : R (.done (.ret r)) { s with heap := s.heap.update D (Obj.mapSeq (· ++ vs.toArray)) }) : wpAny (model prog w) A (Builtin.List.listExtendWith (.ref D) (.ref l) r) R E s := by
  rcases t with ⟨o, e, c, n, d⟩
  have tt : s.TypeIs (.ref l) "tuple" := ⟨o, e, c⟩
  unfold Builtin.List.listExtendWith
  apply wpAny_bind
  apply wpAny_typeOf tt
  have yes : (Builtin.List.listSameRef (.ref D) (.ref l) || Value.type "tuple" == Value.type "list" || Value.type "tuple" == Value.type "tuple") = true := by simp
  rw [if_pos yes]
  apply wpAny_bind
  apply listItems_at e d
  apply wpAny_bind
  apply listItems_at hD rfl
  rw [if_neg (show ¬ _ from by simp)]
  apply wpAny_bind
  apply listUpdate_at hD rfl (hsz := Nat.zero_le _) (hsz2 := by simp; omega)
  exact wpAny_pure k
/-- the items of a tuple, by way of a list of their own -/
theorem items_tup {l : Addr} {vs : List Value} {R : List Value → Shared → Prop} (t : IsTup s.heap l vs.toArray) (hz : vs.length ≤ sizeLine) (k : R vs { s with heap := (s.heap.push (seqObj "list" #[] 0)).update s.heap.objs.size (Obj.mapSeq (· ++ vs.toArray)) }) :
    wpAny (model prog w) A (collect (.ref l)) R E s := by
  have new : (s.heap.push (seqObj "list" #[] 0)).get? s.heap.objs.size = some (seqObj "list" #[] 0) := Heap.get?_push_size _ rfl
  have old : IsTup (s.heap.push (seqObj "list" #[] 0)) l vs.toArray := t.keeps fun b o e => Heap.get?_push_of_some _ e
  unfold collect
  apply wpAny_bind
  apply wpAny_runValue
  apply codeAny_builtin entry_proto_collect'
  change wpAny _ _ (newList [] >>= fun x => again (.builtin "list.__iadd__" ⟨[x, .ref l], []⟩)) _ _ _
  apply wpAny_bind
  refine wpAny_newList ?_ (Nat.zero_le _)
  apply wpAny_pure
  refine ⟨Code.quiet_builtin _ (by decide +kernel), ?_⟩
  apply codeAny_builtin entry_list_iadd'
  change wpAny _ _ (Builtin.List.listExtendWith (Value.ref s.heap.objs.size) (Value.ref l) (Value.ref s.heap.objs.size)) _ _ ⟨s.heap.push (seqObj "list" #[] 0), s.gens, s.drawn, s.toks, s.os⟩
  apply take_tup (s := ⟨s.heap.push (seqObj "list" #[] 0), s.gens, s.drawn, s.toks, s.os⟩) old new hz
  change wpAny _ A (load s.heap.objs.size >>= _) _ _ _
  apply wpAny_bind
  apply wpAny_load (get?_update_seq new _)
  have e : ((#[] : Array Value) ++ vs.toArray).toList = vs := by simp
  change wpAny _ _ (pure ((#[] : Array Value) ++ vs.toArray).toList) _ _ _
  rw [e]
  exact wpAny_pure k
/-- sorted(x), by what gives x's items and what sorts the new list -/
theorem sort_call {l : Addr} {vs : List Value} {Q : Value → Shared → Prop} (its : ∀ {R : List Value → Shared → Prop}, R vs { s with heap := (s.heap.push (seqObj "list" #[] 0)).update s.heap.objs.size (Obj.mapSeq (· ++ vs.toArray)) } → wpAny (model prog w) A.in1 (collect (.ref l)) R (fun e s' => E e s') s) (hz : vs.length ≤ sizeLine)
    (srt : ∀ E' : Value → Shared → Prop, wpAny (model prog w) A.in1.in1 (Builtin.«list.sort» ⟨[.ref (s.heap.objs.size + 1)], []⟩) (fun f s' => f = .done (.ret .none) ∧ Q (.ref (s.heap.objs.size + 1)) s') E' { s with heap := PySem.W.copyHeap s.heap vs }) :
    wpAny (model prog w) A (call (.builtin "sorted") [.ref l]) Q E s := by
  have place : ((s.heap.push (seqObj "list" #[] 0)).update s.heap.objs.size (Obj.mapSeq (· ++ vs.toArray))).objs.size = s.heap.objs.size + 1 := (Heap.size_update _ _ _).trans (size_push' _ _)
  apply call_function_entry_kw kind_sorted plain_sorted entry_sorted (args_sorted1 _)
  unfold Builtin.«sorted»
  apply wpAny_bind (m := checkCount "sorted" 1 1 _)
  apply wpAny_pure
  apply wpAny_bind
  apply its
  apply wpAny_bind
  refine wpAny_newList (hsz := hz) ?_
  change wpAny _ _ _ _ _ ⟨PySem.W.copyHeap s.heap vs, s.gens, s.drawn, s.toks, s.os⟩
  rw [place]
  apply wpAny_bind
  apply wpAny_holding
  refine wpAny_call_entry_kw slot_list_sort ⟨_, PySem.W.copyHeap_at s.heap vs, rfl⟩ entry_list_sort ?_ (args_list_sort _)
  change wpAny _ A.in1.in1 (Builtin.«list.sort» ⟨[Value.ref (s.heap.objs.size + 1)], []⟩) _ _ _
  refine wpAny_mono (srt _) ?_ fun _ _ z => z
  rintro f s' ⟨rfl, q⟩
  exact ⟨_, rfl, wpAny_pure ⟨_, rfl, q⟩⟩
end

/-! ### on data -/
def allAlikeB (ps : List PyData) : Bool := ps.all fun d => ps.all fun d' => PySem.W.alike d d'
def sortableB (ps : List PyData) : Bool := (ps.all fun d => match d with
    | .tuple (_ :: _) => true
    | _ => false) || ps.all fun d => match d with
    | .none => false
    | .tuple _ => false
    | _ => true
def depB (ps : List PyData) : Bool := ps.all fun d => decide (d.depth ≤ 60)
def sortL (xs : List D) (ps : List PyData) : List D := ((xs.zip ps).mergeSort (PySem.W.dataLe false fun b => b.2)).map (·.1)
def seqLT : D → Option (List D)
  | .lst xs => some xs
  | .tup xs => some xs
  | _ => none
def sortDF : List D → Option D
  | [d] => match seqLT d with
    | some xs => match toPys xs with
      | some ps => if (allAlikeB ps && (sortableB ps && depB ps)) = true then some (.lst (sortL xs ps)) else none
      | none => none
    | none => none
  | _ => none
section
variable {g : Gc} {W : WX} {φ : Fc} {X : Cx} {k : Nat} {F : Hp} {σ : L2.St} {H : Hp} {env : Env}
theorem toPys_len : ∀ {xs : List D} {ps : List PyData}, toPys xs = some ps → xs.length = ps.length
  | [], ps, h => by
    simp only [toPys, Option.some.injEq] at h
    subst h
    rfl
  | x :: xs, ps, h => by
    rw [toPys] at h
    cases e1 : toPy x with
    | none => simp [e1] at h
    | some p =>
      cases e2 : toPys xs with
      | none => simp [e1, e2] at h
      | some qs =>
        simp only [e1, e2, Option.some.injEq] at h
        subst h
        simp [toPys_len e2]
theorem each_of {pins : List (Addr × Obj)} {s : Shared} (I : Inv X pins σ H s) (hK : X.K = g.K) (sF : Same F H) : ∀ {vs : List V} {us : List Value} {xs : List D} {ps : List PyData}, Vals vs us → Reps g F vs xs → toPys xs = some ps →
    PySem.W.EachIs (fun u (b : D × PyData) => ∃ v, RelV v u ∧ Rep g F v b.1) us (xs.zip ps) ∧ PySem.W.EachIs (fun u (b : D × PyData) => ∃ as, Reads s.heap u b.2 as) us (xs.zip ps)
  | [], [], [], ps, _, _, h => by
    simp only [toPys, Option.some.injEq] at h
    subst h
    exact ⟨.nil, .nil⟩
  | [], _ :: _, _, _, h, _, _ => by cases h
  | _ :: _, [], _, _, h, _, _ => by cases h
  | [], [], _ :: _, _, _, r, _ => by have := r.len; simp at this
  | _ :: _, _ :: _, [], _, _, r, _ => by have := r.len; simp at this
  | v :: vs, u :: us, x :: xs, ps, hv, r, h => by
    rw [toPys] at h
    cases e1 : toPy x with
    | none => simp [e1] at h
    | some p =>
      cases e2 : toPys xs with
      | none => simp [e1, e2] at h
      | some qs =>
        simp only [e1, e2, Option.some.injEq] at h
        subst h
        cases hv with
        | cons h1 h2 =>
          obtain ⟨i1, i2⟩ := each_of I hK sF h2 r.tail e2
          have dp := Rep.dp sF x v p e1 r.head
          rw [← hK] at dp
          exact ⟨.cons ⟨v, h1, r.head⟩ i1, .cons (Dp.reads I p v u dp h1) i2⟩
theorem each_back : ∀ {us : List Value} {bs : List (D × PyData)}, PySem.W.EachIs (fun u (b : D × PyData) => ∃ v, RelV v u ∧ Rep g F v b.1) us bs → ∃ vs, Vals vs us ∧ Reps g F vs (bs.map (·.1))
  | _, _, .nil => ⟨[], .nil, .nil⟩
  | _, _, .cons h t => by
    obtain ⟨v, h1, h2⟩ := h
    obtain ⟨vs, h3, h4⟩ := each_back t
    exact ⟨v :: vs, .cons h1 h3, .cons h2 h4⟩
theorem alike_of {xs : List D} {ps : List PyData} (hl : xs.length = ps.length) (h : allAlikeB ps = true) : PySem.W.AllAlike ((xs.zip ps).map fun b => b.2) := by
  have e : (xs.zip ps).map (fun b => b.2) = ps := List.map_snd_zip (by omega)
  rw [e]
  intro d hd d' hd'
  exact List.all_eq_true.mp (List.all_eq_true.mp h d hd) d' hd'
theorem sortable_of {xs : List D} {ps : List PyData} (hl : xs.length = ps.length) (h : sortableB ps = true) : PySem.W.Sortable ((xs.zip ps).map fun b => b.2) := by
  have e : (xs.zip ps).map (fun b => b.2) = ps := List.map_snd_zip (by omega)
  rw [e]
  rcases Bool.or_eq_true_iff.mp h with h | h
  · left
    intro d hd
    have := List.all_eq_true.mp h d hd
    split at this
    · exact ⟨_, _, rfl⟩
    · cases this
  · right
    intro d hd
    have := List.all_eq_true.mp h d hd
    split at this
    · cases this
    · cases this
    · rename_i h1 h2
      exact ⟨h1, h2⟩
theorem run_sortD {pins : List (Addr × Obj)} {s : Shared} {Q : Value → Shared → Prop} {E : Value → Shared → Prop} {a : Addr} {ws : List V} {xs : List D} {ps : List PyData} (hK : X.K = g.K) (rm : Room k X.A) (I : Inv X pins σ H s) (sF : Same F H) (hs : SqL X.K H a ws ∨ SqT X.K H a ws) (r : Reps g F ws xs)
    (hp : toPys xs = some ps) (h1 : allAlikeB ps = true) (h2 : sortableB ps = true) (h3 : depB ps = true)
    (q : ∀ (ws' : List V) (out : List Value), Vals ws' out → out.length ≤ sizeLine → Reps g F ws' (sortL xs ps) → ∀ its, Q (.ref (s.heap.objs.size + 1)) { s with heap := sortedAll s.heap its (List.toArray out) }) :
    wpAny (model X.prog X.w) X.A (call (.builtin "sorted") [.ref a]) Q E s := by
  have hl := toPys_len hp
  have fin : ∀ its : List Value, Vals ws its → ws.length ≤ sizeLine → (∀ {Q : List Value → Shared → Prop}, Q its { s with heap := (s.heap.push (seqObj "list" #[] 0)).update s.heap.objs.size (Obj.mapSeq (· ++ its.toArray)) } → wpAny (model X.prog X.w) X.A.in1 (collect (.ref a)) Q (fun e s' => E e s') s) →
      wpAny (model X.prog X.w) X.A (call (.builtin "sorted") [.ref a]) Q E s := fun its rv hz hcol => by
    obtain ⟨e, er⟩ := each_of I hK sF rv r hp
    have hL : its.length ≤ sizeLine := by rw [← rv.length]; exact hz
    have er' : PySem.W.EachIs (fun u (b : D × PyData) => ∃ as, Reads (PySem.W.sortingHeap (PySem.W.copyHeap s.heap its) (s.heap.objs.size + 1) its) u b.2 as) its (xs.zip ps) := er.mono fun _ _ ⟨as, r⟩ => ⟨as, PyProof.Rows.Reads.keeps (fun _ _ => PySem.W.sorting_copy_old) r⟩
    have hu : ∀ b, b ∈ xs.zip ps → X.A.units + 2 + b.2.depth < cLine := fun b hb => by
      have := List.all_eq_true.mp h3 b.2 (List.of_mem_zip hb).2
      have d60 : b.2.depth ≤ 60 := of_decide_eq_true this
      have := rm.un
      omega
    refine sort_call hcol hL fun E' => ?_
    refine PySem.W.list_sort_vals (s := { s with heap := PySem.W.copyHeap s.heap its }) (PySem.W.copyHeap_at s.heap its) (PySem.W.SortsAt.data (s := { s with heap := PySem.W.sortingHeap (PySem.W.copyHeap s.heap its) (s.heap.objs.size + 1) its })
      (PySem.W.each_map (R := fun v d => ∃ as, Reads (PySem.W.sortingHeap (PySem.W.copyHeap s.heap its) (s.heap.objs.size + 1) its) v d as) (fun b : D × PyData => b.2) er') (alike_of hl h1) (sortable_of hl h2) (PySem.W.bound_map hu)) hL ⟨rfl, ?_⟩
    obtain ⟨ws', k1, k2⟩ := each_back (PySem.W.sortVals_data false e er' (alike_of hl h1))
    refine q ws' _ k1 ?_ k2 its
    rw [PySem.W.sortVals_length false rfl]
    exact hL
  rcases hs with hs | hs
  · obtain ⟨its, rv, pl, hz⟩ := I.list hs
    exact fin its rv hz fun {Q} h => collect_list pl.isList h (by rw [← rv.length]; exact hz)
  · obtain ⟨its, rv, pl, hz⟩ := I.tuple hs
    exact fin its rv hz fun {Q} h => items_tup pl (by rw [← rv.length]; exact hz) h
theorem ca_sortD (hK : X.K = g.K) (rm : Room k X.A) : CaS g φ (wC X (.builtin "sorted")) sortDF := by
  intro F σ H env vs ds z Q hr hx hf hq
  cases hx with
  | nil => simp [sortDF] at hf
  | @cons v d vs ds hv t =>
    cases t with
    | cons _ _ => simp [sortDF] at hf
    | nil =>
      simp only [sortDF] at hf
      cases e1 : seqLT d with
      | none => simp [e1] at hf
      | some xs =>
        simp only [e1] at hf
        cases e2 : toPys xs with
        | none => simp [e2] at hf
        | some ps =>
          simp only [e2] at hf
          by_cases hc : (allAlikeB ps && (sortableB ps && depB ps)) = true
          · rw [if_pos hc] at hf
            cases hf
            simp only [Bool.and_eq_true] at hc
            have key : ∃ a ws, v = .ref a ∧ (SqL g.K H a ws ∨ SqT g.K H a ws) ∧ Reps g F ws xs := by
              cases d <;> simp only [seqLT, reduceCtorEq, Option.some.injEq] at e1
              · subst e1
                obtain ⟨a, ws, q1, q2, q3⟩ := hv.tup hr.ex
                exact ⟨a, ws, q1, .inr q2, q3⟩
              · subst e1
                obtain ⟨a, ws, q1, q2, q3⟩ := hv.lst hr.ex
                exact ⟨a, ws, q1, .inl (SqL.of q2), q3⟩
            obtain ⟨a, ws, rfl, hs, rr⟩ := key
            refine ⟨fun vs' H' Q' => vs' = [.ref a] ∧ H' = H ∧ ∀ ws' p, Reps g F ws' (sortL xs ps) → H p = none → Q' (.ref p) (upd H p (.lst ws')), ?_, rfl, rfl, fun ws' p h1 h2 => ?_⟩
            · intro pins s σ2 H' xs' us Q' I rv ⟨ex, eH, q⟩
              subst ex eH
              rw [Vals.ref1 rv]
              refine run_sortD hK rm I hr.ex (hK ▸ hs) rr e2 hc.1 hc.2.1 hc.2.2 fun ws' out k1 k2 k3 its => ?_
              obtain ⟨ep, he'⟩ := PyProof.Rows.sortedAll_at s.heap its (List.toArray out)
              have hlen : ws'.length ≤ sizeLine := by rw [k1.length]; exact k2
              exact ⟨.ref _, upd H' (s.heap.objs.size + 1) (.lst ws'), I.laid (t' := s.toks) (fun _ _ => PyProof.Rows.sortedAll_old) (Nat.le_succ _) ⟨hlen, out, ep, k1, he'⟩, rfl, q ws' _ k3 (I.hok.fresh (Nat.le_succ _))⟩
            · obtain ⟨s2, r2⟩ := hr.laid (o := .lst ws') h2
              exact hq _ _ _ s2 r2 (.mkLst upd_same (h1.mono s2))
          · rw [if_neg hc] at hf
            cases hf
end
end Mp
set_option Elab.async false
set_option linter.all false
set_option maxRecDepth 100000
set_option maxHeartbeats 4000000
namespace Mp
open PySem PySem.Spec L2
/-! Sets of whole numbers, written as a comprehension of one `for`. -/
/-- what is wished of {elt for tg in iter}: `Wd i m H` stands ahead of turn i, `Aft` behind it -/
def tSI (w : World) (wi : TI) (g : TG) (te : TE) (vs : List Nat) : TE := fun σ H Q =>
  wi σ H fun J H1 => ∀ p : Addr, H1 p = none →
    ∃ Wd : Nat → Nat → Hp → Prop, (∃ m0, Wd 0 m0 (upd H1 p (SetO w p (fun _ => false) 0))) ∧
      ∀ i m G, Wd i m G → (J.stop i G ∧ Q (.ref p) G) ∨
        (J.go i G ∧ ∃ Aft : Hp → Prop, (∀ G', Aft G' → ∃ l, l < m ∧ Wd (i + 1) l G') ∧
          ∀ x G', J.yld i G x G' → g x (wipe σ vs) G' fun σ2 G2 => wipe σ2 vs = wipe σ vs ∧
            te σ2 G2 fun y G3 => ∃ k S n, y = .int k ∧ G3 p = some (SetO w p S n) ∧ n + 1 < scanBound ∧
              Aft (upd G3 p (SetO w p (fun j => S j || decide (j = k)) (if S k = true then n else n + 1))))

theorem sc_coreI {X : Cx} {pins : List (Addr × Obj)} {s : Shared} {σ : St} {H : Hp} {Q : VK} {elt tg iter : Expr} {scope : Scope} {own : List (Str × Nat)} {pos pos' : Pos} {wi : TI} {g : TG} {te : TE}
    (hc : X.calm = true) (hN : X.N.Nodup) (I : L2.Inv X pins σ H s) (hw : PI X tg iter wi) (ok : BlkOk X.N X.env.scope scope own)
    (hg : ∀ (s : Shared) (H : Hp) (C : Addr) (cl : List (Str × Addr)) (fp : List Addr), PG (X.blk s H scope (compEnvC scope cl C X.env) fp) tg g)
    (he : ∀ (s : Shared) (H : Hp) (C : Addr) (cl : List (Str × Addr)) (fp : List Addr), PE (X.blk s H scope (compEnvC scope cl C X.env) fp) elt te)
    (hs : ∀ x, foldedSetIterable iter X.env x = pure x) (t : tSI X.w wi g te (own.map (·.2)) σ H Q) :
    wpAny (model X.prog X.w) X.A (comprehension (elt.SetComp [⟨tg, iter, [], 0⟩] scope pos) scope X.env pos' (newSet (.type "set")) false (eval iter X.env)) (EP X pins σ Q) X.xe s := by
  refine wpAny_comprehension_free rfl hs (closure_ok fun y hy hf => ?_) ok.kind (fun y hy hl => by rw [ok.uniq y hy, hl]) ?_
  · rcases ok.free y hy hf with h | h
    · exact I.ok.has _ (.inl h)
    · exact I.ok.has _ (.inr h)
  refine thn (hw.run pins s σ H _ I t) fun v s1 h1 => thn h1 fun itv s2 h2 => ?_
  obtain ⟨it, fp, tn, J, H1, rfl, I2, T, t2, hfp, hR⟩ := h2
  refine PpSet.newSet_ok ?_
  generalize hD : s2.heap.objs.size = p
  have hp1 : H1 p = none := I2.hok.fresh (by omega)
  obtain ⟨Wd, ⟨m0, w0⟩, go⟩ := hR p hp1
  have I3 := I2.laid (h' := s2.heap.push { cls := Value.type "set", data := Data.set #[] 0 (SetTable.fresh 0 0 !X.w.params.followText "set-order") }) (a := p) (o := SetO X.w p (fun _ => false) 0) (t' := s2.toks) (fun b u hu => Heap.get?_push_of_some _ hu) (by omega) (setO_new (by rw [← hD]; exact setR_fresh X.w))
  generalize hs3 : ({ heap := s2.heap.push { cls := Value.type "set", data := Data.set #[] 0 (SetTable.fresh 0 0 !X.w.params.followText "set-order") }, gens := s2.gens, drawn := s2.drawn, toks := s2.toks, os := s2.os } : Shared) = s3 at I3 ⊢
  have hk3 : ∀ b u, s2.heap.get? b = some u → s3.heap.get? b = some u := fun b u hu => by rw [← hs3]; exact Heap.get?_push_of_some _ hu
  have hz3 : s3.heap.objs.size = s2.heap.objs.size + 1 := by rw [← hs3]; simp [Heap.push]
  have hf3 : ∀ b ∈ fp, FpOk X pins (upd H1 p (SetO X.w p (fun _ => false) 0)) b ∧ b < s3.heap.objs.size := fun b hb => by
    obtain ⟨o, ho, _⟩ := T.obj 0 _ t2 b hb
    have hlt := Heap.lt_size ho
    have hne : b ≠ p := by rw [← hD]; exact Nat.ne_of_lt hlt
    obtain ⟨q1, q2⟩ := hfp b hb
    exact ⟨⟨by rw [upd_ne hne]; exact q1, q2⟩, by rw [hz3]; exact Nat.lt_succ_of_lt hlt⟩
  refine newEnv_comp ?_
  have IB := block_start I3 ok hN hf3
  obtain ⟨s4, hs4⟩ : ∃ s4 : Shared, s4 = { heap := pushCells (s3.heap.push { cls := Value.type "dict", data := Data.dict #[] }) scope.names, gens := s3.gens, drawn := s3.drawn, toks := s3.toks, os := s3.os } := ⟨_, rfl⟩
  have t4 : tn 0 s4.heap := by
    rw [hs4]
    exact T.keep 0 _ _ t2 fun b hb o ho => pushCells_keeps _ _ _ _ (Heap.get?_push_of_some _ (hk3 b o ho))
  rw [← hs4] at IB ⊢
  obtain ⟨C, hC⟩ : ∃ C : Addr, C = s3.heap.objs.size := ⟨_, rfl⟩
  obtain ⟨cl, hcl⟩ : ∃ cl, cl = cellsFrom (s3.heap.objs.size + 1) scope.names (cloFrom X.env.cells scope.names []) := ⟨_, rfl⟩
  rw [← hcl, ← hC] at IB
  have hcenv : (fun (e : PySem.Env) => ({ scope := relabel scope X.env, locals := e.locals, globals := e.globals, cells := e.cells, qual := e.qual, func := e.func, code := e.code, frame := e.frame, builtins := e.builtins } : PySem.Env)) (newEnv scope s3.heap.objs.size X.env.globals (cellsFrom (s3.heap.objs.size + 1) scope.names (cloFrom X.env.cells scope.names [])) X.env.qual none Value.none (some X.env) builtinsNs) = compEnvC scope cl C X.env := by
    rw [hcl, hC]
    rfl
  clear hs4
  generalize own.map (·.2) = vs at go IB w0
  obtain ⟨H3, hH3⟩ : ∃ H3, H3 = upd H1 p (SetO X.w p (fun _ => false) 0) := ⟨_, rfl⟩
  rw [← hH3] at IB I3 w0 hf3
  obtain ⟨XB, hXB⟩ : ∃ XB, XB = X.blk s3 H3 scope (compEnvC scope cl C X.env) fp := ⟨_, rfl⟩
  have fpk : ∀ G : Hp, ∀ b ∈ fp, G b = none → FpOk (X.blk s3 H3 scope (compEnvC scope cl C X.env) fp) [] G b := fun G b hb hn =>
    ⟨hn, (IB.ok.exf b hb).1, IB.ok.exfs b hb, .inl hb, (IB.ok.exf b hb).2, fun q hq => by cases hq⟩
  have back : ∀ (G : Hp) (s5 : Shared), L2.Inv (X.blk s3 H3 scope (compEnvC scope cl C X.env) fp) [] (wipe σ vs) G s5 → Q (.ref p) G →
      compPost (model X.prog X.w) X.A X.xe none (EP X pins σ Q) (.ref p) C (.ok .next) s5 := fun G s5 I5 hq => by
    have IX : L2.Inv X pins σ G s5 := I3.call' I5.os I5.base I5.hok I5.bare fun b hb => (hf3 b hb).1.2.2.2.imp id fun q => ⟨(hf3 b hb).1.2.1, q⟩
    obtain ⟨m, hm, _⟩ := I5.loc
    obtain ⟨q1, q2, _, q4, q5, q6⟩ := I3.fpOk (H' := G) (b := C) (by rw [hC]; exact Nat.le_refl _) I5.free
    exact ⟨m, hm, fun h' hb => ⟨.ref p, G, IX.turned (it := C) (fun b o hne ho => by rw [hb.2 b hne]; exact ho) q1 q2 q4 q5 q6, rfl, hq⟩⟩
  have loop : codeAny (model X.prog X.w) X.A (Code.compLoop (elt.SetComp [⟨tg, iter, [], 0⟩] scope pos) 0 (.ref it) (.ref p) (compEnvC scope cl C X.env)) (compPost (model X.prog X.w) X.A X.xe none (EP X pins σ Q) (.ref p) C) s4 := by
    refine PpSet.compLoopS_any (fun m st => ∃ i G, L2.Inv (X.blk s3 H3 scope (compEnvC scope cl C X.env) fp) [] (wipe σ vs) G st ∧ tn i st.heap ∧ (∀ b ∈ fp, G b = none) ∧ Wd i m G) ?_ m0 ⟨0, H3, IB, t4, fun b hb => (hf3 b hb).1.1, w0⟩
    rintro m st ⟨i, G, IG, tG, fG, wd⟩
    rcases go i m G wd with ⟨hst, hq⟩ | ⟨hgo, Aft, aft, nxt⟩
    · refine thnF (T.done (X.blk s3 H3 scope (compEnvC scope cl C X.env) fp) rfl rfl rfl hc i [] st _ G (fun _ _ => False) IG (fun b hb => fpk G b hb (fG b hb)) tG hst) fun r s5 h5 => ?_
      obtain ⟨rfl, I5⟩ := h5
      exact back G s5 I5 hq
    · refine thnF (T.item (X.blk s3 H3 scope (compEnvC scope cl C X.env) fp) rfl rfl rfl hc i [] st _ G (fun _ _ => False) IG (fun b hb => fpk G b hb (fG b hb)) tG hgo) fun r s5 h5 => ?_
      obtain ⟨u, rfl, h5⟩ := h5
      refine thnF h5 fun _ s6 h6 => ?_
      obtain ⟨x, G', I6, rx, hy, t6, f6⟩ := h6
      have P6 := I6.pinned (fun b hb => fpk G' b hb (f6 b hb)) (T.obj _ _ t6)
      refine thnF ((hg s3 H3 C cl fp).run _ s6 _ G' x u _ P6 rx (nxt x G' hy)) fun _ s7 h7 => ?_
      obtain ⟨σ2, G2, I7, hw2, h7⟩ := h7
      refine wpAny_pure ?_
      rw [if_pos rfl]
      refine thnF ((he s3 H3 C cl fp).run _ s7 σ2 G2 _ I7 h7) fun y s8 h8 => ?_
      obtain ⟨yv, G3, I8, ry, k, S, n, rfl, hS, hn, haft⟩ := h8
      refine thnF (mt_sadd (X := X.blk s3 H3 scope (compEnvC scope cl C X.env) fp) _ s8 σ2 G3 (.ref p) [.int k] (.ref p) [y] (fun _ G4 => G4 = upd G3 p (SetO X.w p (fun j => S j || decide (j = k)) (if S k = true then n else n + 1))) I8 rfl (.cons ry .nil) ⟨p, k, S, n, rfl, rfl, hS, hn, rfl⟩) fun _ s9 h9 => ?_
      obtain ⟨_, G4, I9, _, rfl⟩ := h9
      obtain ⟨l, hl, wd'⟩ := aft _ haft
      have pin9 : ∀ b ∈ fp, ∀ o, s6.heap.get? b = some o → s9.heap.get? b = some o ∧ upd G3 p (SetO X.w p (fun j => S j || decide (j = k)) (if S k = true then n else n + 1)) b = none := fun b hb o ho => by
        have := I9.pin (b, o) (List.mem_append_right _ (List.mem_append_right _ (mem_pinsAt hb ho)))
        exact ⟨this.1, this.2.1⟩
      refine ⟨l, hl, i + 1, _, I9.unpinned.weak ?_ ?_, T.keep _ _ _ t6 fun b hb o ho => (pin9 b hb o ho).1, fun b hb => ?_, wd'⟩
      · rw [← hw2, wipe_length]
      · intro j v hv
        rw [← hw2] at hv
        exact (wipe_some hv).1
      · obtain ⟨o, ho, _⟩ := T.obj _ _ t6 b hb
        exact (pin9 b hb o ho).2
  have fin := PpSet.codeAny_compStart_set loop (T.self _ 0 _ _ _ t4 loop)
  rw [← hcenv] at fin
  rw [hC] at fin
  exact fin
theorem pe_scI {X : Cx} {elt tg iter : Expr} {scope : Scope} {own : List (Str × Nat)} {pos : Pos} {wi : TI} {g : TG} {te : TE}
    (hc : X.calm = true) (hN : X.N.Nodup) (hw : PI X tg iter wi) (ok : BlkOk X.N X.env.scope scope own)
    (hg : ∀ (s : Shared) (H : Hp) (C : Addr) (cl : List (Str × Addr)) (fp : List Addr), PG (X.blk s H scope (compEnvC scope cl C X.env) fp) tg g)
    (he : ∀ (s : Shared) (H : Hp) (C : Addr) (cl : List (Str × Addr)) (fp : List Addr), PE (X.blk s H scope (compEnvC scope cl C X.env) fp) elt te)
    (hs : ∀ x, foldedSetIterable iter X.env x = pure x := by intro _; rfl) :
    PE X (.SetComp elt [⟨tg, iter, [], 0⟩] scope pos) (tSI X.w wi g te (own.map (·.2))) :=
  ⟨fun pins s σ H Q I t => by rw [PpSet.eval_SetComp]; exact sc_coreI hc hN I hw ok hg he hs t⟩
end Mp
set_option Elab.async false
set_option linter.all false
set_option maxRecDepth 100000
set_option maxHeartbeats 4000000
/-! sorted({elt for tg in iter}), whole numbers -/
namespace Mp
open PySem PySem.Spec L2
/-- each number once -/
def dd : List Int → List Int
  | [] => []
  | k :: ks => if k ∈ ks then dd ks else k :: dd ks
theorem dd_mem : ∀ {ks : List Int} {j : Int}, j ∈ dd ks ↔ j ∈ ks
  | [], j => by simp [dd]
  | k :: ks, j => by
    unfold dd
    split
    · rename_i h
      rw [dd_mem, List.mem_cons]
      exact ⟨.inr, fun q => q.elim (fun z => z ▸ h) id⟩
    · rw [List.mem_cons, List.mem_cons, dd_mem]
theorem dd_nodup : ∀ {ks : List Int}, (dd ks).Nodup
  | [] => by simp [dd]
  | k :: ks => by
    unfold dd
    split
    · exact dd_nodup
    · rename_i h
      exact List.nodup_cons.mpr ⟨fun q => h (dd_mem.mp q), dd_nodup⟩
theorem dd_len : ∀ {ks : List Int}, (dd ks).length ≤ ks.length
  | [] => by simp [dd]
  | k :: ks => by
    have := @dd_len ks
    unfold dd
    split
    · simp; omega
    · simp; omega
/-- the sorted list of what stands in ks -/
def setI (ks : List Int) : List Int := sortI (dd ks)
theorem setI_uniq {ks ns : List Int} (h1 : ns.Pairwise (· < ·)) (h2 : ∀ j, j ∈ ns ↔ j ∈ ks) : ns = setI ks := by
  have hn : ns.Nodup := h1.imp fun h => Int.ne_of_lt h
  have hp : ns.Perm (dd ks) := (List.perm_ext_iff_of_nodup hn dd_nodup).mpr fun j => by rw [h2, dd_mem]
  exact sorted_one (hp.trans (sortI_perm _).symm) (h1.imp fun h => Int.le_of_lt h) (sortI_sorted _)
def ssF (acc : List Int) (xs : List D) (e : Env) : Re D := match intsOf xs with
  | some is => if (dd (is.reverse ++ acc)).length < 64 then .ok (.lst ((setI (is.reverse ++ acc)).map D.int)) e else .no
  | none => .no
def mSS (own : List Nat) (mi : ML) (tg : MG) (elt : ME) : ME := fun env => (mi env).bind fun ds e => if ds.length ≤ 4000 then (lcF own tg tYesF elt ds e).nx fun xs e' => ssF [] xs e' else .no
theorem ssF_cons {acc : List Int} {x : D} {xs : List D} {e : Env} (h : ssF acc (x :: xs) e ≠ .no) : ∃ k, x = .int k ∧ ssF acc (x :: xs) e = ssF (k :: acc) xs e := by
  cases x with
  | int k =>
    refine ⟨k, rfl, ?_⟩
    unfold ssF
    simp only [intsOf]
    cases intsOf xs with
    | none => rfl
    | some is => simp
  | _ => exact absurd (by simp [ssF, intsOf]) h
theorem ssF_nil {acc : List Int} {e : Env} : ssF acc [] e = if (dd acc).length < 64 then .ok (.lst ((setI acc).map D.int)) e else .no := rfl
section
variable {g : Gc} {W : WX} {φ : Fc} {X : Cx} {k : Nat}
theorem iE {F : Hp} {σ : L2.St} {r : Re (List D)} {k : List D → Env → Re D} {Q : VK} {Q1 : It → Hp → Prop} (hp : PoE g W φ F σ Q (r.bind k))
    (h : ∀ ds e1 J H1 F1, Same F F1 → Rel g φ F1 σ H1 e1 → Walks g J F1 ds → PoE g W φ F1 σ Q (k ds e1) → Q1 J H1) : PoI g W φ F σ Q1 r := by
  cases r with
  | ok x e1 => exact fun v H1 F1 a b c => h x e1 v H1 F1 a b c (PoE.mono a hp)
  | exc c v e' => exact hp
  | no => exact hp
theorem se_sortSet {x : Str} {ws : List Nat} {elt tg iter : Expr} {scope : Scope} {own : List (Str × Nat)} {p pos pos' : Pos} {mi : ML} {mg : MG} {me : ME} (c : Cok g X W k) (hi : SI g W φ X tg iter mi) (ok : BlkOk X.N X.env.scope scope own)
    (hg : ∀ (s : Shared) (H : Hp) (C : Addr) (cl : List (Str × Addr)) (fp : List Addr) (φ : Fc), SG g φ (X.blk s H scope (compEnvC scope cl C X.env) fp) ws tg mg) (hws : ∀ i ∈ ws, i ∈ own.map (·.2))
    (he : ∀ (s : Shared) (H : Hp) (C : Addr) (cl : List (Str × Addr)) (fp : List Addr) (φ : Fc), SE g W0 φ (X.blk s H scope (compEnvC scope cl C X.env) fp) elt me)
    (hgl : Gl X x) (hm : X.mg x = none) (hv : bootBuiltins x = some (.builtin "sorted"))
    (hs : ∀ x, foldedSetIterable iter X.env x = pure x := by intro _; rfl)
    (hn : x ≠ "__name__" := by decide) (hdb : (x == ("__debug__" : Str)) = false := by decide) :
    SE g W φ X (.Call (.Name x p) [.SetComp elt [⟨tg, iter, [], 0⟩] scope pos] [] pos') (mSS (own.map (·.2)) mi mg me) := by
  intro F σ H env Q hr hp
  refine ⟨_, pe_callB (cr_sortedSet c.calm) hgl hm hv (pa_cons (pe_scI
    (g := fun v σ H Q => ∀ (s : Shared) (H' : Hp) (C : Addr) (cl : List (Str × Addr)) (fp : List Addr), wG (X.blk s H' scope (compEnvC scope cl C X.env) fp) tg v σ H Q)
    (te := fun σ H Q => ∀ (s : Shared) (H' : Hp) (C : Addr) (cl : List (Str × Addr)) (fp : List Addr), wE (X.blk s H' scope (compEnvC scope cl C X.env) fp) elt σ H Q)
    c.calm c.nd w_pi ok (fun s H C cl fp => ⟨fun pins s1 σ H1 v u Q I r h => w_pg.run pins s1 σ H1 v u Q I r (h s H C cl fp)⟩)
    (fun s H C cl fp => ⟨fun pins s1 σ H1 Q I h => w_pe.run pins s1 σ H1 Q I (h s H C cl fp)⟩) hs) pa_nil) hn hdb, ?_⟩
  refine hi F σ H env _ hr (iE hp fun ds e1 J H1 F1 s1 r1 w1 hp1 => ?_)
  generalize own.map (·.2) = vs at hp1 hws ⊢
  by_cases hz : ds.length ≤ 4000
  · rw [if_pos hz] at hp1
    intro p hp0
    let Rest : Hp → Nat → Env → List Int → Prop := fun F2 i env2 acc =>
      PoE g W φ F2 σ Q ((lcF vs mg tYesF me (ds.drop i) env2).nx fun xs e => ssF acc xs e)
    refine ⟨fun i m H2 => ∃ F2 env2 acc, Same F1 F2 ∧ Rel g φ F2 σ H2 env2 ∧ H2 p = some (SetO X.w p (fun j => decide (j ∈ acc)) (dd acc).length) ∧ F2 p = none ∧ φ.H0 p = none ∧ NotOwn σ env2 p ∧ Rest F2 i env2 acc ∧ acc.length ≤ i ∧ m = ds.length - i,
      ⟨ds.length, F1, e1, [], Same.refl _, r1.loose hp0, ?_, r1.ex.free hp0, r1.h0 hp0, r1.freshOwn hp0, hp1, Nat.le_refl _, rfl⟩, ?_⟩
    · rw [upd_same]
      simp [dd]
    rintro i m H2 ⟨F2, env2, acc, s2, r2, hpa, hpF, hp00, hpo, rest, hlen, rfl⟩
    obtain ⟨wgo, wstop⟩ := w1 φ F2 σ H2 env2 i s2 r2
    by_cases hl : i < ds.length
    · have ed : ds.drop i = ds[i] :: ds.drop (i + 1) := List.drop_eq_getElem_cons hl
      have rest' : PoE g W φ F2 σ Q ((lcF vs mg tYesF me (ds[i] :: ds.drop (i + 1)) env2).nx fun xs e => ssF acc xs e) := by
        have := rest
        simp only [Rest] at this
        rw [ed] at this
        exact this
      obtain ⟨go, yl⟩ := wgo ds[i] (List.getElem?_eq_getElem hl)
      refine .inr ⟨go, fun H' => ∃ F3 env3 acc, Same F1 F3 ∧ Rel g φ F3 σ H' env3 ∧ H' p = some (SetO X.w p (fun j => decide (j ∈ acc)) (dd acc).length) ∧ F3 p = none ∧ φ.H0 p = none ∧ NotOwn σ env3 p ∧ Rest F3 (i + 1) env3 acc ∧ acc.length ≤ i + 1,
        fun H' ⟨F3, env3, acc, a1, a2, a3, a4, a5, a6, a8, a9⟩ => ⟨_, by omega, F3, env3, acc, a1, a2, a3, a4, a5, a6, a8, a9, rfl⟩, fun x H' hy => ?_⟩
      obtain ⟨F3, s3, sH, nw, r3, p3⟩ := yl x H' hy
      have hpa' : H' p = some (SetO X.w p (fun j => decide (j ∈ acc)) (dd acc).length) := sH _ _ hpa
      have hpF' : F3 p = none := by
        cases ef : F3 p with
        | none => rfl
        | some o =>
          rcases nw p o ef with h | h
          · rw [hpF] at h; cases h
          · rw [hpa] at h; cases h
      unfold lcF at rest'
      by_cases hf : free_ vs env2 = true
      · rw [if_pos hf] at rest'
        have r4 := r3.enter hf
        cases et : mg ds[i] (enterE vs env2) with
        | none => rw [et] at rest'; exact rest'.elim
        | some e1' =>
          rw [et] at rest'
          simp only [tYesF, Re.nx, if_true] at rest'
          intro s5 H5 C5 cl5 fp5
          refine hg s5 H5 C5 cl5 fp5 (fcE σ env2 H' F3) F3 _ H' _ x ds[i] e1' _ r4 p3 et fun σ4 o4 r5 => ?_
          have hw := wipe_eq hws o4
          refine ⟨hw, ?_⟩
          intro s9 H9 C9 cl9 fp9
          cases ee' : me e1' with
          | exc c v e => rw [ee'] at rest'; exact rest'.elim
          | no => rw [ee'] at rest'; exact rest'.elim
          | ok xd e3 =>
            rw [ee'] at rest'
            simp only at rest'
            refine he s9 H9 C9 cl9 fp9 (fcE σ env2 H' F3) F3 σ4 H' e1' _ r5 ?_
            rw [ee']
            intro y H8 F8 s8 r8 py
            have q1 : Rel g φ F8 σ H8 (backE env2 e3) := r3.exit hf r8 hw s8
            have q2 : H8 p = some (SetO X.w p (fun j => decide (j ∈ acc)) (dd acc).length) := by
              refine r8.fr p _ hpa' fun q hq z => ?_
              obtain ⟨h1, b', xs', h2⟩ := mem_ioE.mp (show q ∈ ioE σ env2 from hq)
              exact hpo q.1 b' xs' q.2 h2 h1 z
            have q3 : F8 p = none := by
              cases ef : F8 p with
              | none => rfl
              | some o =>
                rcases r8.new p o ef with h | h
                · have h' : F3 p = some o := h
                  rw [hpF'] at h'; cases h'
                · have h' : H' p = none := h
                  rw [hpa'] at h'; cases h'
            have q4 : NotOwn σ (backE env2 e3) p := by
              intro j b' xs' a h1 h2
              obtain ⟨s0, s1, k1, k2, k3⟩ := backE_at h1
              cases s0 with
              | va d' => cases k3
              | un => cases k3
              | ow b0 xs0 => exact hpo j b0 xs0 a k1 h2
            cases el : lcF vs mg tYesF me (ds.drop (i + 1)) (backE env2 e3) with
            | no => rw [el] at rest'; exact rest'.elim
            | exc c v e => exact absurd el (lcF_exc _ _)
            | ok xs e4 =>
              rw [el] at rest'
              simp only [Re.nx] at rest'
              obtain ⟨k, rfl, ek⟩ := ssF_cons (acc := acc) (x := xd) (xs := xs) (e := e4) (fun h => by rw [h] at rest'; exact rest')
              have hd := @dd_len acc
              refine ⟨k, _, _, (by cases py; rfl), q2, by show (dd acc).length + 1 < 4096; omega, F8, _, k :: acc, s2.trans (s3.trans s8), q1.mut q3 hp00 q4, ?_, q3, hp00, q4, ?_, by simp; omega⟩
              · rw [upd_same]
                congr 2
                · funext j
                  by_cases a : j ∈ acc <;> by_cases b : j = k <;> simp [a, b]
                · simp only [decide_eq_true_eq, dd]
                  split <;> simp
              · refine PoE.mono (s3.trans s8) ?_
                show PoE g W φ F2 σ Q ((lcF vs mg tYesF me (ds.drop (i + 1)) (backE env2 e3)).nx fun xs e => ssF (k :: acc) xs e)
                rw [el]
                simp only [Re.nx]
                rw [← ek]
                exact rest'
      · rw [if_neg hf] at rest'
        exact rest'.elim
    · have ed : ds.drop i = [] := List.drop_eq_nil_of_le (by omega)
      have rest' : PoE g W φ F2 σ Q (ssF acc [] env2) := by
        have := rest
        simp only [Rest] at this
        rw [ed] at this
        exact this
      rw [ssF_nil] at rest'
      refine .inl ⟨wstop (by omega), ?_⟩
      by_cases h64 : (dd acc).length < 64
      · rw [if_pos h64] at rest'
        refine ⟨p, _, _, rfl, hpa, h64, fun ns p' hs hm hl' hn' => ?_⟩
        have en : ns = setI acc := setI_uniq hs fun j => by rw [hm]; simp
        subst en
        obtain ⟨s3, r3⟩ := r2.laid (o := .lst ((setI acc).map V.int)) hn'
        exact rest' _ _ _ s3 r3 (.mkLst upd_same (reps_ints g _ _))
      · rw [if_neg h64] at rest'
        exact rest'.elim
  · rw [if_neg hz] at hp1
    exact hp1.elim
end
end Mp
set_option Elab.async false
set_option linter.all false
set_option maxRecDepth 100000
set_option maxHeartbeats 4000000
/-! t[::-1], t a tuple; x in t, t a tuple of data -/
namespace Mp
open PySem PySem.Spec L2
theorem fm_map {α β : Type} {f : α → Option β} {q : α → β} : ∀ {l : List α}, (∀ m ∈ l, f m = some (q m)) → l.filterMap f = l.map q
  | [], _ => rfl
  | m :: l, h => by
    rw [List.filterMap_cons, h m (List.mem_cons_self ..), List.map_cons, fm_map fun x hx => h x (List.mem_cons_of_mem _ hx)]
theorem back_pick (xs : Array Value) : (List.filterMap (fun m : Nat => xs[((xs.size : Int) - 1 + (m : Int) * (-1)).toNat]?) (List.range xs.size)).toArray = xs.toList.reverse.toArray := by
  congr 1
  apply List.ext_getElem?
  intro i
  have e : List.filterMap (fun m : Nat => xs[((xs.size : Int) - 1 + (m : Int) * (-1)).toNat]?) (List.range xs.size) = (List.range xs.size).map fun m => xs.toList.getD (xs.size - 1 - m) .none := by
    refine fm_map fun m hm => ?_
    have hm := List.mem_range.mp hm
    have e1 : ((xs.size : Int) - 1 + (m : Int) * (-1)).toNat = xs.size - 1 - m := by omega
    rw [e1]
    have h2 : xs.size - 1 - m < xs.size := by omega
    simp [List.getD, h2]
  rw [e]
  by_cases hi : i < xs.size
  · rw [List.getElem?_map, List.getElem?_range hi, List.getElem?_reverse (by simpa using hi)]
    have h2 : xs.size - 1 - i < xs.size := by omega
    simp [List.getD, h2]
  · rw [List.getElem?_eq_none (by simp; omega), List.getElem?_eq_none (by simp; omega)]
section
variable {prog : Program} {w : World} {A : Around} {E : Value → Shared → Prop} {s : Shared}
theorem slice_back {sl : Addr} {tk : Tok} {n : Nat} {Q : Int × Int × Nat → Shared → Prop} (h : s.heap.IsSliceOf sl .none .none (.int (-1) tk)) (q : Q ((n : Int) - 1, -1, n) s) :
    wpAny (model prog w) A (Builtin.Slice.sliceApplied (.ref sl) (pure ↑n)) Q E s := by
  obtain ⟨o, h1, _, h3⟩ := h
  unfold Builtin.Slice.sliceApplied Builtin.Slice.sliceFields
  refine wpAny_bind (wpAny_bind (wpAny_field h1 h3 rfl (wpAny_bind (wpAny_field h1 h3 rfl (wpAny_bind (wpAny_field h1 h3 rfl (wpAny_pure ?_)))))))
  refine wpAny_bind (HT.slicePart_ (IsPart.int (-1) tk) ?_)
  simp only [Option.getD_some]
  rw [if_neg (by decide)]
  refine wpAny_bind (PyProof.Rows.slicePart_none (wpAny_bind (PyProof.Rows.slicePart_none (wpAny_bind (wpAny_pure (wpAny_pure ?_))))))
  have e : Builtin.Slice.slicePlaces ((n : Int) - 1) (-1) (-1) = n := by
    unfold Builtin.Slice.slicePlaces
    simp
    split <;> omega
  simpa [Builtin.Slice.sliceAdjust, e] using q
theorem getItem_back {t sl : Addr} {items : Array Value} {tk : Tok} {Q : Value → Shared → Prop} (h : PyProof.Rows.IsTup s.heap t items) (hs : s.heap.IsSliceOf sl .none .none (.int (-1) tk)) (hz : items.size ≤ sizeLine)
    (q : Q (.ref s.heap.objs.size) { s with heap := s.heap.push { cls := Value.type "tuple", data := Data.seq items.toList.reverse.toArray } }) :
    wpAny (model prog w) A (getItem (.ref t) (.ref sl)) Q E s := by
  have ty : s.TypeIs (.ref sl) "slice" := by
    obtain ⟨o, h1, h2, _⟩ := hs
    exact ⟨o, h1, h2⟩
  refine wpAny_holding (wpAny_bind (wpAny_sequenceKey h.typeIs (by decide) (wpAny_bind (wpAny_callSpecial?_slot h.typeIs PyProof.Rows.slot_tuple_getitem (wpAny_call_entry PyProof.Rows.slot_tuple_getitem h.typeIs PyProof.Rows.entry_tuple_getitem ?_ (PyProof.Rows.args_tuple_getitem _ _))))))
  refine wpAny_bind (wpAny_pure ?_)
  refine wpAny_bind (PyProof.Rows.tupleItemsOf_ h (wpAny_bind (wpAny_typeOf ty ?_)))
  rw [if_pos (by decide)]
  refine wpAny_bind (slice_back hs ?_)
  dsimp only
  rw [if_neg (by simp), back_pick]
  refine wpAny_bind (wpAny_newObj_type (wpAny_pure ⟨_, rfl, wpAny_pure q⟩) ?_)
  show _ ≤ sizeLine
  simpa using hz
end
def tRevT (K : PySem.W.Frag) (te : TE) : TE := fun σ H Q => te σ H fun x G => ∃ a xs, x = .ref a ∧ SqT K G a xs ∧ ∀ p, G p = none → Q (.ref p) (upd G p (.tup xs.reverse))
theorem pe_revT {X : Cx} {e : Expr} {te : TE} {k : Nat} {p1 p2 p3 pos : Pos} (h : PE X e te) : PE X (.Subscript e (.Slice none none (some (.UnaryOp .USub (.Constant (.int 1) k p1) p2)) p3) pos) (tRevT X.K te) := by
  refine ⟨fun pins s σ H Q I t => PyProof.Rows.Subscript_ (thn (h.run pins s σ H _ I t) fun u s1 h1 => ?_)⟩
  obtain ⟨v, H1, I1, rv, a, xs, rfl, hT, q⟩ := h1
  cases rv
  refine wpAny_Slice (thn (po_none.run pins s1 σ H1 (fun o G => o = none ∧ G = H1) I1 ⟨rfl, rfl⟩) fun u1 s2 h2 => ?_)
  obtain ⟨o1, G1, I2, ip1, rfl, rfl⟩ := h2
  cases ip1
  refine thn (po_none.run pins s2 σ G1 (fun o G => o = none ∧ G = G1) I2 ⟨rfl, rfl⟩) fun u2 s3 h3 => ?_
  obtain ⟨o2, G2, I3, ip2, rfl, rfl⟩ := h3
  cases ip2
  refine thn ((po_some (pe_un un_neg pe_int)).run pins s3 σ G2 (fun o G => o = some (-1) ∧ G = G2) I3 ⟨1, rfl, -1, rfl, rfl, rfl⟩) fun u3 s4 h4 => ?_
  obtain ⟨o3, G3, I4, ip3, rfl, rfl⟩ := h4
  cases ip3
  rename_i tk
  have I5 := I4.kept (h' := s4.heap.push { cls := Value.type "slice", data := Data.fields #[.none, .none, .int (-1) tk] }) (t' := s4.toks) fun b u hu => Heap.get?_push_of_some _ hu
  obtain ⟨its, vi, it, hz⟩ := I5.tuple hT
  have hz' : its.toArray.size ≤ sizeLine := by rw [List.size_toArray, ← vi.length]; exact hz
  refine PyProof.Rows.tail_any it.typeIs PyProof.Rows.slot_tuple_getitem.lookup (getItem_back it (Heap.IsSliceOf.new _ _ _ _) hz' ?_) rfl
  refine ⟨.ref _, _, I5.laid (o := .tup xs.reverse) (t' := s4.toks) (fun b u hu => Heap.get?_push_of_some _ hu) (Nat.le_refl _) ?_, rfl, q _ (I5.hok.fresh (Nat.le_refl _))⟩
  exact ⟨by simpa [← vi.length] using hz, its.reverse, vi.reverse, _, Heap.get?_push_size (ho := rfl) .., rfl, _, rfl⟩
/-- x in t: data -/
def inTF (neg : Bool) (x y : D) : Option D := match inF neg x y with
  | some z => some z
  | none => match y with
    | .tup ys => match toPys ys, toPy x with
      | some ps, some d => if (PyData.canLayAll0 ps && (d.canLay0 && decide (d.depth ≤ 40))) = true then some (.bl ((ps.any fun z => z.eqv d) != neg)) else none
      | _, _ => none
    | _ => none
theorem op_in_data {X : Cx} (hu : X.A.units + 64 < cLine) : OpR X (compareOp .In) (fun x y H Q => ∃ d ds, Dp X.K H x d ∧ Dp X.K H y (.tuple ds) ∧ PyData.canLayAll0 ds = true ∧ d.canLay0 = true ∧ d.depth ≤ 40 ∧ Q (.bl (ds.any fun z => z.eqv d)) H) := by
  rintro pins s σ H x y v u Q I rv ru ⟨d, ds, h1, h2, h3, h4, h5, q⟩
  obtain ⟨as, r1⟩ := Dp.reads I d x v h1 rv
  obtain ⟨bs, r2⟩ := Dp.reads I _ y u h2 ru
  refine PySem.SeqAt.in_tuple_reads r2 r1 h3 h4 ?_ ⟨.bl _, H, I, rfl, q⟩
  have := Nat.min_le_right (PyData.depthAll ds) d.depth
  omega
section
variable {g : Gc} {W : WX} {φ : Fc} {X : Cx} {k : Nat}
theorem op_inT_ (hK : X.K = g.K) (rm : Room k X.A) : OpS g φ (wO X (compareOp .In)) (inTF false) := by
  intro F σ H env v u x y z Q hr hx hy hf hq
  unfold inTF at hf
  cases e0 : inF false x y with
  | some z' =>
    simp only [e0, Option.some.injEq] at hf
    subst hf
    exact op_in_ hK F σ H env v u x y _ Q hr hx hy e0 hq
  | none =>
    simp only [e0] at hf
    cases y <;> simp only [reduceCtorEq] at hf
    rename_i ys
    cases e1 : toPys ys with
    | none => simp [e1] at hf
    | some ps =>
      cases e2 : toPy x with
      | none => simp [e1, e2] at hf
      | some d =>
        simp only [e1, e2] at hf
        by_cases hc : (PyData.canLayAll0 ps && (d.canLay0 && decide (d.depth ≤ 40))) = true
        · rw [if_pos hc] at hf
          cases hf
          simp only [Bool.and_eq_true, decide_eq_true_eq] at hc
          refine ⟨_, op_in_data rm.units, d, ps, hK ▸ hx.dp hr.ex e2, hK ▸ hy.dp hr.ex (by simp [toPy, e1]), hc.1, hc.2.1, hc.2.2, ?_⟩
          refine hq _ H F (Same.refl _) hr ?_
          rw [Bool.bne_false]
          exact .bl _
        · rw [if_neg hc] at hf
          cases hf
/-- a[::-1], a a tuple -/
def mRev (m : ME) : ME := fun env => (m env).bind fun d e => match d with
  | .tup xs => .ok (.tup xs.reverse) e
  | _ => .no
theorem Reps.reverse {F : Hp} {vs : List V} {ds : List D} (h : Reps g F vs ds) : Reps g F vs.reverse ds.reverse := by
  have hl := h.len
  refine ⟨by simpa using hl, fun i v d h1 h2 => ?_⟩
  have hi : i < vs.length := by
    have := List.getElem?_eq_some_iff.mp h1
    obtain ⟨q, _⟩ := this
    simpa using q
  rw [List.getElem?_reverse hi] at h1
  rw [List.getElem?_reverse (by omega), ← hl] at h2
  exact h.at_ _ _ _ h1 h2
theorem se_rev {a : Expr} {m : ME} {j : Nat} {p1 p2 p3 pos : Pos} (hK : X.K = g.K) (ha : SE g W φ X a m) :
    SE g W φ X (.Subscript a (.Slice none none (some (.UnaryOp .USub (.Constant (.int 1) j p1) p2)) p3) pos) (mRev m) := by
  intro F σ H env Q hr hp
  refine ⟨_, pe_revT w_pe, ha F σ H env _ hr ?_⟩
  unfold mRev at hp
  cases e : m env with
  | exc c v e' => rw [e] at hp; exact hp
  | no => rw [e] at hp; exact hp
  | ok d e' =>
    rw [e] at hp
    cases d <;> try exact hp.elim
    rename_i xs
    intro v H1 F1 s1 r1 p1
    obtain ⟨a, vs, rfl, h1, h2⟩ := (RepH.of p1).tup r1.ex
    refine ⟨a, vs, rfl, hK ▸ h1, fun p hn => ?_⟩
    obtain ⟨s2, r2⟩ := r1.laid (o := .tup vs.reverse) hn
    exact hp _ _ _ (s1.trans s2) r2 (.mkTup upd_same ((Reps.reverse h2).mono s2))
end
end Mp
set_option Elab.async false
set_option linter.all false
set_option maxRecDepth 100000
set_option maxHeartbeats 4000000
/-! where a def with defaults stands -/
namespace Mp
open PySem PySem.Spec L2
structure FnAtD (g : Gc) (mg : Str → Option Value) (x qual : Str) (st : Stmt) (ps : List Str) (ds : List D) : Prop where
  ex : ∃ (f : Addr) (fd : FuncData) (vs : List V) (us : List Value), FunD g.K x qual (defArgs st) (defBody st) (defScope st) vs [] f fd ∧ mg x = some (.ref f) ∧ Binds g.K fd ps [] ∧ (Vals vs us ∧ Binds g.K fd ps us) ∧ ∀ F, Reps g F vs ds
section
variable {P : Program} {w : World} {mg : Str → Option Value} {base : Heap} {g : Gc} {k : Nat}
theorem has_ofD {x qual : Str} {st : Stmt} {N ps : List Str} {body : MS} {ds : List D} (A : FnAtD g mg x qual st ps ds) (S : FnScope N ps (defScope st)) (hl : ps.length ≤ N.length)
    (hbody : ∀ {f : Addr} (cdv : Value) (A : Around) (outer : List PySem.Env) (s : Shared) (H : Hp) (E : XK) (φ : Fc), Cok g (cxOf (L2.CX P w) P w g.K mg base N qual (defScope st) f cdv A outer s H E) (fun cls d _ H => E cls d H) k →
      SB g (fun cls d _ H => E cls d H) φ (cxOf (L2.CX P w) P w g.K mg base N qual (defScope st) f cdv A outer s H E) (defBody st) body) :
    Has P w mg base g (k + 1) x (fnOf ps.length N.length body) ∧ HasD P w mg base g (k + 1) x ds (fnOf ps.length N.length body) := by
  obtain ⟨f, fd, vs, us, Fu, hm, hb, ⟨hv, hd⟩, hr⟩ := A.ex
  have Fo := def_okD Fu S hl (hbody (f := f))
  exact ⟨⟨f, fd, ps, Fo, hm, Fu.kp, hb⟩, ⟨f, fd, ps, vs, us, Fo, hm, Fu.kp, hv, hd, hr⟩⟩
theorem fnAtD_int {x qual : Str} {st : Stmt} {ps : List Str} {f T : Addr} {n : Nat} {c : Int} {tk : Tok} {oc oc2 kV dc pm cd ct : Value} {od od2 an : Option Addr} {sl sl2 : Array (Option Value)} {nn : Nat}
    (hl : g.K.lookup f = some ⟨oc, od, .func (PySem.W.fnOf x qual (defArgs st) (defBody st) (defScope st) (.ref T) kV dc pm an cd ct), sl⟩) (hc : PySem.W.codeIn g.K cd qual = true) (hk : PySem.W.keepIn g.K (.ref f) = true)
    (hT : g.K.lookup T = some ⟨oc2, od2, .seq #[.int c tk] nn, sl2⟩) (hm : mg x = some (.ref f)) (hn : n + 1 = ps.length)
    (h0 : ∀ (s : Shared) (us : List Value), us.length = ps.length → BindsTo s (PySem.W.fnOf x qual (defArgs st) (defBody st) (defScope st) (.ref T) kV dc pm an cd ct) ⟨us, []⟩ (ps.zip us))
    (h1 : ∀ (T : Addr) (kV doc pm : Value) (an : Option Addr) (cdv ct : Value) (us its : List Value), us.length = n → its.length = 1 →
      ∃ k, bindArgs (PySem.W.fnOf x qual (defArgs st) (defBody st) (defScope st) (.ref T) kV doc pm an cdv ct) { pos := us } = seqItems? (.ref T) >>= k ∧ k (some its.toArray) = pure (ps.zip (us ++ List.drop 0 its))) :
    FnAtD g mg x qual st ps [.int c] := by
  have Fu : FunD g.K x qual (defArgs st) (defBody st) (defScope st) [.int c] [] f _ := ⟨⟨_, _, _, _, _, _, _, _, _, _, rfl, hl, hc, .inr ⟨by simp, T, _, [.int c tk], nn, rfl, hT, rfl, .cons ⟨_, rfl⟩ .nil⟩, .inl rfl⟩, hk⟩
  obtain ⟨us, hv, hb⟩ := Fu.binds1 (ps := ps) n 0 (by simp) (by simpa using hn) h1
  refine ⟨f, _, [.int c], us, Fu, hm, fun s us _ hl => ?_, ⟨hv, hb⟩, fun F => ⟨rfl, fun i v d a b => ?_⟩⟩
  · simp only [List.append_nil] at hl ⊢
    exact h0 s us hl
  · cases i with
    | zero =>
      cases a
      cases b
      exact .int _
    | succ i => simp at a
end
end Mp
set_option Elab.async false
set_option linter.all false
set_option maxRecDepth 100000
set_option maxHeartbeats 4000000
/-! a test that reads a list of one's own: it is lent as a settled one, all else stands still -/
namespace Mp
open PySem PySem.Spec L2
def onlyVa : Sl → Sl
  | .va d => .va d
  | _ => .un
def lendE (env : Env) (i : Nat) (xs : List D) : Env := (env.map onlyVa).set i (.va (.lst xs))
def mLend (i : Nat) (m : ME) : ME := fun env => match env[i]? with
  | some (.ow _ xs) => match m (lendE env i xs) with
    | .ok (.bl t) _ => .ok (.bl t) env
    | _ => .no
  | _ => .no
section
variable {g : Gc} {W : WX} {φ : Fc} {X : Cx} {k : Nat} {F F' : Hp} {σ : L2.St} {H H' : Hp} {env : Env}
theorem Rel.lend {i : Nat} {xs : List D} {a : Addr} {vs : List V} (r : Rel g φ F σ H env) (hs : σ[i]? = some (some (.ref a))) (ha : H a = some (.lst vs)) (hF : F a = none) (hv : Reps g F vs xs) :
    Rel g ⟨[], H, upd F a (.lst vs)⟩ (upd F a (.lst vs)) σ H (lendE env i xs) := by
  have sF : Same F (upd F a (.lst vs)) := same_new hF
  refine Rel.fresh (fun b o e => ?_) (by simp [lendE, r.len]) (fun j d e => ?_) ?_
  · by_cases hb : b = a
    · subst hb
      rw [upd_same] at e
      cases e
      exact ha
    · rw [upd_ne hb] at e
      exact r.ex b o e
  · unfold lendE at e
    by_cases hj : i = j
    · subst hj
      have hlen : i < (env.map onlyVa).length := by
        have := (List.getElem?_eq_some_iff.mp hs).1
        rw [r.len] at this
        simpa using this
      rw [List.getElem?_set_self hlen] at e
      cases e
      exact ⟨_, hs, .mkLst upd_same (hv.mono sF)⟩
    · rw [List.getElem?_set_ne hj, List.getElem?_map, Option.map_eq_some_iff] at e
      obtain ⟨s, h1, h2⟩ := e
      cases s with
      | un => cases h2
      | ow b xs => cases h2
      | va d' =>
        cases h2
        obtain ⟨v, q1, q2⟩ := r.va j d h1
        exact ⟨v, q1, q2.mono sF⟩
  · unfold noOw lendE
    rw [List.all_eq_true]
    intro s hs
    rcases List.mem_or_eq_of_mem_set hs with h | h
    · obtain ⟨t, _, rfl⟩ := List.mem_map.mp h
      cases t <;> rfl
    · subst h
      rfl
theorem Rel.unlend {F1 F2 : Hp} {e' : Env} (r : Rel g φ F σ H env) (r' : Rel g ⟨[], H, F1⟩ F2 σ H' e') : Rel g φ F σ H' env := by
  have keep : ∀ b o, H b = some o → H' b = some o := fun b o h => r'.fr b o h fun q hq => by cases hq
  exact ⟨fun b o e => keep _ _ (r.ex b o e), r.ex0, r.new, fun b o e hb => keep _ _ (r.fr b o e hb), r.len, r.va, fun i b xs e => by
    obtain ⟨a, vs, h1, h2, h3⟩ := r.ow i b xs e
    exact ⟨a, vs, h1, keep _ _ h2, h3⟩, r.dj, r.ioh⟩
theorem se_lend {i : Nat} {e : Expr} {m : ME} (h : ∀ φ, SE g W φ X e m) : SE g W φ X e (mLend i m) := by
  intro F σ H env Q hr hp
  unfold mLend at hp
  cases e0 : env[i]? with
  | none => rw [e0] at hp; exact hp.elim
  | some s =>
    rw [e0] at hp
    cases s with
    | un => exact hp.elim
    | va d => exact hp.elim
    | ow b xs =>
      obtain ⟨a, vs, h1, h2, h3, h4, _⟩ := hr.ow i b xs e0
      refine h _ _ σ H _ Q (hr.lend h1 h2 h3 h4) ?_
      simp only at hp
      cases em : m (lendE env i xs) with
      | no => rw [em] at hp; exact hp.elim
      | exc c v e' => rw [em] at hp; exact hp.elim
      | ok d e' =>
        rw [em] at hp
        cases d <;> try exact hp.elim
        rename_i t
        intro v H1 F1 s1 r1 p1
        cases p1
        exact hp _ _ _ (Same.refl _) (hr.unlend r1) (.bl t)
def mLendT (i : Nat) (m : MT) : MT := fun env => match env[i]? with
  | some (.ow _ xs) => match m (lendE env i xs) with
    | .ok t _ => .ok t env
    | _ => .no
  | _ => .no
theorem st_lend {i : Nat} {e : Expr} {m : MT} (h : ∀ φ, ST g W φ X e m) : ST g W φ X e (mLendT i m) := by
  intro F σ H env Q hr hp
  unfold mLendT at hp
  cases e0 : env[i]? with
  | none => rw [e0] at hp; exact hp.elim
  | some s =>
    rw [e0] at hp
    cases s with
    | un => exact hp.elim
    | va d => exact hp.elim
    | ow b xs =>
      obtain ⟨a, vs, h1, h2, h3, h4, _⟩ := hr.ow i b xs e0
      refine h _ _ σ H _ Q (hr.lend h1 h2 h3 h4) ?_
      simp only at hp
      cases em : m (lendE env i xs) with
      | no => rw [em] at hp; exact hp.elim
      | exc c v e' => rw [em] at hp; exact hp.elim
      | ok t e' =>
        rw [em] at hp
        intro H1 F1 s1 r1
        exact hp _ _ (Same.refl _) (hr.unlend r1)
end
end Mp
set_option Elab.async false
set_option linter.all false
set_option maxRecDepth 100000
set_option maxHeartbeats 4000000
/-! a def with one default, called with all or without the last -/
namespace Mp
open PySem PySem.Spec L2
theorem fnAtD_one {g : Gc} {mg : Str → Option Value} {x qual : Str} {st : Stmt} {ps : List Str} {f T : Addr} {n : Nat} {c : Int} {tk : Tok} {oc oc2 kV dc pm cd ct : Value} {od od2 an : Option Addr} {sl sl2 : Array (Option Value)} {nn : Nat}
    (hl : g.K.lookup f = some ⟨oc, od, .func (PySem.W.fnOf x qual (defArgs st) (defBody st) (defScope st) (.ref T) kV dc pm an cd ct), sl⟩) (hc : PySem.W.codeIn g.K cd qual = true) (hk : PySem.W.keepIn g.K (.ref f) = true)
    (hT : g.K.lookup T = some ⟨oc2, od2, .seq #[.int c tk] nn, sl2⟩) (hm : mg x = some (.ref f)) (hn : n + 1 = ps.length)
    (h0 : ∀ (T : Addr) (kV doc pm : Value) (an : Option Addr) (cdv ct : Value) (us its : List Value), us.length = ps.length → its.length = 1 →
      ∃ k, bindArgs (PySem.W.fnOf x qual (defArgs st) (defBody st) (defScope st) (.ref T) kV doc pm an cdv ct) { pos := us } = seqItems? (.ref T) >>= k ∧ k (some its.toArray) = pure (ps.zip (us ++ List.drop 1 its)))
    (h1 : ∀ (T : Addr) (kV doc pm : Value) (an : Option Addr) (cdv ct : Value) (us its : List Value), us.length = n → its.length = 1 →
      ∃ k, bindArgs (PySem.W.fnOf x qual (defArgs st) (defBody st) (defScope st) (.ref T) kV doc pm an cdv ct) { pos := us } = seqItems? (.ref T) >>= k ∧ k (some its.toArray) = pure (ps.zip (us ++ List.drop 0 its))) :
    FnAtD g mg x qual st ps [.int c] := by
  have Fu : FunD g.K x qual (defArgs st) (defBody st) (defScope st) [.int c] [] f _ := ⟨⟨_, _, _, _, _, _, _, _, _, _, rfl, hl, hc, .inr ⟨by simp, T, _, [.int c tk], nn, rfl, hT, rfl, .cons ⟨_, rfl⟩ .nil⟩, .inl rfl⟩, hk⟩
  obtain ⟨us, hv, hb⟩ := Fu.binds1 (ps := ps) n 0 (by simp) (by simpa using hn) h1
  obtain ⟨vs, hw, hb0⟩ := Fu.binds1 (ps := ps) ps.length 1 (by simp) (by simp) h0
  have hn0 : vs = [] := by
    have := hw.length
    simp at this
    exact List.eq_nil_of_length_eq_zero this.symm
  subst hn0
  refine ⟨f, _, [.int c], us, Fu, hm, hb0, ⟨hv, hb⟩, fun F => ⟨rfl, fun i v d a b => ?_⟩⟩
  cases i with
  | zero =>
    cases a
    cases b
    exact .int _
  | succ i => simp at a
end Mp
set_option Elab.async false
set_option linter.all false
set_option maxRecDepth 100000
set_option maxHeartbeats 4000000
/-! xs.count(y), xs a list of data -/
namespace Mp
open PySem PySem.Spec L2
def countF (xs : List D) (y : D) : Option Int := match toPys xs, toPy y with
  | some ps, some d => if (PyData.canLayAll0 ps && (d.canLay0 && decide (d.depth ≤ 40))) = true then some ((ps.countP fun z => z.eqv d : Nat) : Int) else none
  | _, _ => none
def mCount (mo me : ME) : ME := fun env => (mo env).bind fun d e1 => match d with
  | .lst xs => (me e1).bind fun y e2 => match countF xs y with
    | some z => .ok (.int z) e2
    | none => .no
  | _ => .no
/-- what a value reads as, held against d -/
noncomputable def isEq (h : Heap) (d : PyData) (v : Value) : Bool := @decide (∃ p as, Reads h v p as ∧ p.eqv d = true) (Classical.propDecidable _)
theorem isEq_of {h : Heap} {d p : PyData} {v : Value} {as : List Addr} (r : Reads h v p as) : isEq h d v = p.eqv d := by
  have key : isEq h d v = true ↔ ∃ p as, Reads h v p as ∧ p.eqv d = true := by
    unfold isEq
    exact @decide_eq_true_iff _ (Classical.propDecidable _)
  rw [Bool.eq_iff_iff, key]
  constructor
  · rintro ⟨p', as', r', e⟩
    have := (PyProof.Rows.reads_det (fun _ _ h _ => h) r r').1
    rw [← this]
    exact e
  · exact fun e => ⟨p, as, r, e⟩
theorem isEq_count {h : Heap} {d : PyData} : ∀ (its : List Value) (ps : List PyData), its.length = ps.length → (∀ (i : Nat) (v : Value) (p : PyData), its[i]? = some v → ps[i]? = some p → ∃ as, Reads h v p as) → its.countP (isEq h d) = ps.countP fun z => z.eqv d
  | [], [], _, _ => rfl
  | [], _ :: _, hl, _ => by simp at hl
  | _ :: _, [], hl, _ => by simp at hl
  | v :: its, p :: ps, hl, hr => by
    have ih := isEq_count (d := d) its ps (by simpa using hl) fun i v p a b => hr (i + 1) v p (by simpa using a) (by simpa using b)
    obtain ⟨as, r⟩ := hr 0 v p rfl rfl
    rw [List.countP_cons, List.countP_cons, ih, isEq_of r]
theorem lay_at : ∀ (ps : List PyData) (i : Nat) (p : PyData), PyData.canLayAll0 ps = true → ps[i]? = some p → p.canLay0 = true
  | [], _, _, _, h => by simp at h
  | q :: ps, 0, p, hl, h => by
    cases h
    simp [PyData.canLayAll0] at hl
    exact hl.1
  | q :: ps, i + 1, p, hl, h => by
    simp [PyData.canLayAll0] at hl
    exact lay_at ps i p hl.2 (by simpa using h)
theorem call_count {prog : Program} {w : World} {A : Around} {E : Value → Shared → Prop} {s : Shared} {a : Addr} {its : List Value} {ps : List PyData} {u : Value} {d : PyData} {bs : List Addr} {Q : Value → Shared → Prop} (hl : PlainL s.heap a its.toArray) (hlen : its.length = ps.length)
    (hr : ∀ (i : Nat) (v : Value) (p : PyData), its[i]? = some v → ps[i]? = some p → ∃ as, Reads s.heap v p as) (hu : Reads s.heap u d bs) (h1 : PyData.canLayAll0 ps = true) (h2 : d.canLay0 = true) (h3 : A.units + 20 + d.depth < cLine)
    (q : Q (.int ((ps.countP fun z => z.eqv d : Nat) : Int) s.toks) { s with toks := s.toks + 1 }) : wpAny (model prog w) A (call (.builtin "list.count") [.ref a, u]) Q E s := by
  obtain ⟨⟨c, dct, dt, sl⟩, n, ho, hc, hd, hdt⟩ := hl
  obtain rfl : c = .type "list" := hc
  obtain rfl : dct = none := hd
  obtain rfl : dt = .seq its.toArray n := hdt
  refine call_meets F.slot_list_count ⟨_, ho, rfl⟩ F.entry_list_count (F.args_list_count_2 _ _) (SeqAt.list_countAt a its.toArray n none sl u (isEq s.heap d)) ⟨ho, fun y hy => ?_, ?_⟩
  · obtain ⟨i, hi⟩ := List.getElem?_of_mem (List.mem_toArray.mp hy)
    have hlt := (List.getElem?_eq_some_iff.mp hi).1
    have hp : ps[i]? = some ps[i] := List.getElem?_eq_getElem (by omega)
    obtain ⟨as, r⟩ := hr i y _ hi hp
    rw [isEq_of r]
    refine SeqAt.eqAt_reads _ _ _ _ _ _ _ _ r hu (lay_at ps i _ h1 hp) h2 ?_
    have := Nat.min_le_right (ps[i]).depth d.depth
    have e : A.in1.units = A.units + 1 := rfl
    omega
  · show Q _ _
    rw [isEq_count its ps hlen hr]
    exact q
theorem mt_countD {X : Cx} (hu : X.A.units + 64 < cLine) : MtR X "list.count" (fun x xs H Q => ∃ a ws ps y d, x = .ref a ∧ xs = [y] ∧ SqL X.K H a ws ∧ DpAll X.K H ws ps ∧ Dp X.K H y d ∧ PyData.canLayAll0 ps = true ∧ d.canLay0 = true ∧ d.depth ≤ 40 ∧ Q (.int ((ps.countP fun z => z.eqv d : Nat) : Int)) H) := by
  rintro pins s σ H x xs v us Q I rv rus ⟨a, ws, ps, y, d, rfl, rfl, hs, ha, hy, h1, h2, h3, q⟩
  cases rv
  cases rus with
  | cons ru t =>
    cases t
    rename_i u
    obtain ⟨bs, r2⟩ := Dp.reads I d y u hy ru
    obtain ⟨its, vi, pl, hz⟩ := I.list hs
    have key : ∀ (ws : List V) (ps : List PyData), DpAll X.K H ws ps → ∀ its : List Value, Vals ws its → its.length = ps.length ∧ ∀ (i : Nat) (v : Value) (p : PyData), its[i]? = some v → ps[i]? = some p → ∃ as, Reads s.heap v p as := by
      intro ws
      induction ws with
      | nil =>
        intro ps h its vi
        cases h
        cases vi
        exact ⟨rfl, fun i v p a => by simp at a⟩
      | cons w ws ih =>
        intro ps h its vi
        cases h with
        | cons h1 h2 =>
          cases vi with
          | cons k1 k2 =>
            obtain ⟨q1, q2⟩ := ih _ h2 _ k2
            refine ⟨by simp [q1], fun i v p a b => ?_⟩
            cases i with
            | zero =>
              cases a
              cases b
              exact Dp.reads I _ _ _ h1 k1
            | succ i => exact q2 i v p (by simpa using a) (by simpa using b)
    obtain ⟨k1, k2⟩ := key ws ps ha its vi
    exact call_count pl k1 k2 r2 h1 h2 (by omega) ⟨.int _, H, I.tok _, ⟨_, rfl⟩, q⟩
section
variable {g : Gc} {W : WX} {φ : Fc} {X : Cx} {k : Nat}
theorem se_count {o e : Expr} {mo me : ME} {apos cpos : Pos} (c : Cok g X W k) (ho : SE g W φ X o mo) (he : SE g W φ X e me)
    (hbase : attributeBase o "count" X.env (eval o X.env) = eval o X.env := by rfl)
    (hfew : ((backTo cpos (starEach (e :: []) X.env)).all (fun x => !x.1) && (backToKw cpos (keywordEach [] X.env)).all (fun x => x.1.isSome)
      && decide ((e :: []).length + ([] : List Keyword).length + (if ([] : List Keyword).isEmpty then 0 else 1) < 30)) = true := by rfl)
    (hline : (apos.endLine == cpos.line) = true := by rfl) (hs1 : starEach [e] X.env = (false, eval e X.env) :: starEach [] X.env := by rfl) (hpl : (backTo cpos (starEach [] X.env)).any (·.1) = false := by rfl) :
    SE g W φ X (.Call (.Attribute o "count" apos) [e] [] cpos) (mCount mo me) := by
  intro F σ H env Q hr hp
  refine ⟨_, pe_bm PySem.F.plainAttrs_list PySem.F.slot_list_count PySem.F.type_list_count (mt_countD c.rm.units) w_pe (pa_cons w_pe pa_nil hs1) hbase hfew hline hs1 hpl, ?_⟩
  refine ho F σ H env _ hr ?_
  unfold mCount at hp
  cases e0 : mo env with
  | exc c v e' => rw [e0] at hp; exact hp
  | no => rw [e0] at hp; exact hp
  | ok d e1 =>
    rw [e0] at hp
    cases d <;> try exact hp.elim
    rename_i xs
    intro v H1 F1 s1 r1 p1
    obtain ⟨a, ws, rfl, h1, h2⟩ := (RepH.of p1).lst r1.ex
    refine ⟨.inl ⟨rfl, ws, by rw [c.K]; exact SqL.of h1⟩, ?_⟩
    refine he F1 σ H1 e1 _ r1 ?_
    simp only [Re.bind] at hp
    cases em : me e1 with
    | exc c2 v2 e' => rw [em] at hp; exact XP.mono s1 hp
    | no => rw [em] at hp; exact hp.elim
    | ok y e2 =>
      rw [em] at hp
      simp only at hp
      intro v2 H2 F2 s2 r2 p2
      cases ec : countF xs y with
      | none => rw [ec] at hp; exact hp.elim
      | some z =>
        rw [ec] at hp
        unfold countF at ec
        cases e1' : toPys xs with
        | none => simp [e1'] at ec
        | some ps =>
          cases e2' : toPy y with
          | none => simp [e1', e2'] at ec
          | some d =>
            simp only [e1', e2'] at ec
            by_cases hc : (PyData.canLayAll0 ps && (d.canLay0 && decide (d.depth ≤ 40))) = true
            · rw [if_pos hc] at ec
              cases ec
              simp only [Bool.and_eq_true, decide_eq_true_eq] at hc
              obtain ⟨a2, ws2, ea, h3, h4⟩ := (RepH.of (p1.mono s2)).lst r2.ex
              cases ea
              refine ⟨a, ws2, ps, v2, d, rfl, rfl, by rw [c.K]; exact SqL.of h3, by rw [c.K]; exact Rep.dps r2.ex xs ws2 ps e1' h4, by rw [c.K]; exact Rep.dp r2.ex y v2 d e2' p2, hc.1, hc.2.1, hc.2.2, ?_⟩
              exact hp _ _ _ (s1.trans s2) r2 (.int _)
            · rw [if_neg hc] at ec
              cases ec
end
end Mp
set_option Elab.async false
set_option linter.all false
set_option maxRecDepth 100000
set_option maxHeartbeats 4000000
/-! tuples made by tuple(list), known to have no dict: t.count(y); xs.remove(y); a piece of the text of which nothing is said -/
namespace Mp
open PySem PySem.Spec PyProof.Rows L2
def weakD : D → D
  | .tpk xs => .tup xs
  | d => d
def mWeak (m : ME) : ME := fun env => (m env).bind fun d e => .ok (weakD d) e
/-- tuple(xs), its object known -/
def tupKF : List D → Option D
  | [.lst xs] => some (.tpk xs)
  | _ => none
def mCountT (mo me : ME) : ME := fun env => (mo env).bind fun d e1 => match d with
  | .tpk xs => (me e1).bind fun y e2 => match countF xs y with
    | some z => .ok (.int z) e2
    | none => .no
  | _ => .no
/-- the place of the first that equals d -/
def firstF (xs : List D) (y : D) : Option Nat := match toPys xs, toPy y with
  | some ps, some d => if (PyData.canLayAll0 ps && (d.canLay0 && decide (d.depth ≤ 40))) = true then ps.findIdx? fun z => z.eqv d else none
  | _, _ => none
def mRemove (i : Nat) (m : ME) : MS := fun env => match env[i]? with
  | some (.ow _ _) => (m env).flow fun y e => match e[i]? with
    | some (.ow b xs) => match firstF xs y with
      | some j => .nx (e.set i (.ow b (xs.eraseIdx j)))
      | none => .no
    | _ => .no
  | _ => .no
section
variable {g : Gc} {W : WX} {φ : Fc} {X : Cx} {k : Nat} {F F' : Hp} {σ : L2.St} {H : Hp}
theorem Rep.weak {v : V} {d : D} (h : Rep g F v d) : Rep g F v (weakD d) := by
  cases h with
  | tpk a o vs ds h hc hd hl hi => exact .tup a vs ds (.inl (.inr ⟨o, h⟩)) hl hi
  | non => exact .non
  | bl b => exact .bl b
  | int i => exact .int i
  | str x => exact .str x
  | tup a vs ds h hl hi => exact .tup a vs ds h hl hi
  | rol a vs ds h hl hi => exact .rol a vs ds h hl hi
  | ty n => exact .ty n
  | adr a => exact .adr a
  | cls c C ns hc => exact .cls c C ns hc
  | lst a vs ds h hl hi => exact .lst a vs ds h hl hi
  | obj a c C dx ns vs ds hc h hn hl hi => exact .obj a c C dx ns vs ds hc h hn hl hi
  | kdt a xs kvs h hl hi => exact .kdt a xs kvs h hl hi
theorem se_weak {e : Expr} {m : ME} (h : SE g W φ X e m) : SE g W φ X e (mWeak m) := fun F σ H env Q hr hp =>
  h F σ H env Q hr (ee hp fun x e1 v H1 F1 a b c hp1 => hp1 v H1 F1 (Same.refl _) b c.weak)
/-! what nothing is said of -/
def mNoE : ME := fun _ => .no
def mNoS : MS := fun _ => .no
theorem se_no {e : Expr} : SE g W φ X e mNoE := fun _ _ _ _ _ _ hp => hp.elim
theorem ss_no {s : Stmt} : SS g W φ X s mNoS := fun _ _ _ _ _ _ hp => hp.elim
theorem sb_no {s : List Stmt} : SB g W φ X s mNoS := fun _ _ _ _ _ _ hp => hp.elim
/-! tuple(list) -/
theorem call_tupK : CallR X (.type "tuple") (fun xs H Q => ∃ p ys, xs = [.ref p] ∧ SqL X.K H p ys ∧ ∀ (l : Addr) (o : Obj), H l = none → o.cls = .type "tuple" → o.dict = none → Q (.ref l) (upd H l (.frz o (.tup ys)))) := by
  intro pins s σ H xs us Q I r ⟨p, ys, e, hq, q⟩
  subst e
  rw [Vals.ref1 r]
  obtain ⟨its, rv, pl, hz⟩ := I.list hq
  have hlen := rv.length
  refine call_tuple_list pl.isList (fun h' kp => ?_) (by simp only [List.size_toArray] <;> omega)
  have Ik : Inv X pins σ H { s with heap := h' } := I.kept (t' := s.toks) kp
  have hn := Ik.hok.fresh (Nat.le_refl h'.objs.size)
  refine ⟨.ref h'.objs.size, _, Ik.laid (o := .frz { cls := .type "tuple", data := .seq its.toArray } (.tup ys)) (t' := s.toks) (fun b o e => Heap.get?_push_of_some _ e) (Nat.le_refl _) ?_, rfl, q _ _ hn rfl rfl⟩
  exact ⟨Heap.get?_push_size _ rfl, hz, its, rv, IsTup.new _ _⟩
theorem ca_tupK : CaS g φ (wC X (.type "tuple")) tupKF := by
  intro F σ H env vs ds z Q hr hx hf hq
  cases hx with
  | nil => simp [tupKF] at hf
  | @cons v d vs ds h t =>
    cases t with
    | cons h2 t2 => cases d <;> simp [tupKF] at hf
    | nil =>
      cases d <;> simp only [tupKF, reduceCtorEq] at hf
      cases hf
      obtain ⟨a, ws, rfl, h1, h2⟩ := h.lst hr.ex
      refine ⟨_, call_tupK, a, ws, rfl, SqL.of h1, fun p o hp hc hd => ?_⟩
      obtain ⟨s2, r2⟩ := hr.laid (o := .frz o (.tup ws)) hp
      have h3 := h2.mono s2
      exact hq _ _ _ s2 r2 (.tpk p o ws _ upd_same hc hd h3.len h3.at_)
/-! t.count(y) -/
def tyK (x : V) (H : Hp) : Prop := ∃ a o vs, x = .ref a ∧ H a = some (.frz o (.tup vs)) ∧ o.cls = .type "tuple" ∧ o.dict = none
theorem ty_tupK : TyOk X "tuple" tyK := by
  rintro pins σ H s x v I r ⟨a, o, vs, rfl, h, hc, hd⟩
  cases r
  obtain ⟨h1, _⟩ := I.hok a _ h
  refine ⟨⟨o, h1, hc⟩, fun b e => ?_⟩
  cases e
  exact ⟨o, h1, hd⟩
theorem dps_reads {pins : List (Addr × Obj)} {s : Shared} (I : Inv X pins σ H s) : ∀ (ws : List V) (ps : List PyData), DpAll X.K H ws ps → ∀ its : List Value, Vals ws its → its.length = ps.length ∧ ∀ (i : Nat) (v : Value) (p : PyData), its[i]? = some v → ps[i]? = some p → ∃ as, Reads s.heap v p as := by
  intro ws
  induction ws with
  | nil =>
    intro ps h its vi
    cases h
    cases vi
    exact ⟨rfl, fun i v p a => by simp at a⟩
  | cons w ws ih =>
    intro ps h its vi
    cases h with
    | cons h1 h2 =>
      cases vi with
      | cons k1 k2 =>
        obtain ⟨q1, q2⟩ := ih _ h2 _ k2
        refine ⟨by simp [q1], fun i v p a b => ?_⟩
        cases i with
        | zero =>
          cases a
          cases b
          exact Dp.reads I _ _ _ h1 k1
        | succ i => exact q2 i v p (by simpa using a) (by simpa using b)
theorem eqs_at {A : Around} {s : Shared} {its : List Value} {ps : List PyData} {u : Value} {d : PyData} {bs : List Addr} (hlen : its.length = ps.length)
    (hr : ∀ (i : Nat) (v : Value) (p : PyData), its[i]? = some v → ps[i]? = some p → ∃ as, Reads s.heap v p as) (hu : Reads s.heap u d bs) (h1 : PyData.canLayAll0 ps = true) (h2 : d.canLay0 = true) (h3 : A.units + 20 + d.depth < cLine) :
    ∀ y, y ∈ its.toArray → SeqAt.EqAt A.in1 s y u (isEq s.heap d y) := fun y hy => by
  obtain ⟨i, hi⟩ := List.getElem?_of_mem (List.mem_toArray.mp hy)
  have hlt := (List.getElem?_eq_some_iff.mp hi).1
  have hp : ps[i]? = some ps[i] := List.getElem?_eq_getElem (by omega)
  obtain ⟨as, r⟩ := hr i y _ hi hp
  rw [isEq_of r]
  refine SeqAt.eqAt_reads _ _ _ _ _ _ _ _ r hu (lay_at ps i _ h1 hp) h2 ?_
  have := Nat.min_le_right (ps[i]).depth d.depth
  have e : A.in1.units = A.units + 1 := rfl
  omega
theorem mt_countK (hu : X.A.units + 64 < cLine) : MtR X "tuple.count" (fun x xs H Q => ∃ a ws ps y d, x = .ref a ∧ xs = [y] ∧ SqT X.K H a ws ∧ DpAll X.K H ws ps ∧ Dp X.K H y d ∧ PyData.canLayAll0 ps = true ∧ d.canLay0 = true ∧ d.depth ≤ 40 ∧ Q (.int ((ps.countP fun z => z.eqv d : Nat) : Int)) H) := by
  rintro pins s σ H x xs v us Q I rv rus ⟨a, ws, ps, y, d, rfl, rfl, hs, ha, hy, h1, h2, h3, q⟩
  cases rv
  obtain ⟨u, rfl, ru⟩ := rus.one
  obtain ⟨bs, r2⟩ := Dp.reads I d y u hy ru
  obtain ⟨its, vi, pl, hz⟩ := I.tuple hs
  obtain ⟨k1, k2⟩ := dps_reads I ws ps ha its vi
  have ee := eqs_at (A := X.A) k1 k2 r2 h1 h2 (by omega)
  obtain ⟨⟨c, dct, dt, sl⟩, ho, hc, n, hdt⟩ := pl
  obtain rfl : c = .type "tuple" := hc
  obtain rfl : dt = .seq its.toArray n := hdt
  refine call_meets F.slot_tuple_count ⟨_, ho, rfl⟩ F.entry_tuple_count (F.args_tuple_count_2 _ _) (SeqAt.tuple_countAt a its.toArray n dct sl u (isEq s.heap d)) ⟨ho, ee, ?_⟩
  have e : ((its.toArray.toList.countP (isEq s.heap d) : Nat) : Int) = ((ps.countP fun z => z.eqv d : Nat) : Int) := by
    have := isEq_count (d := d) its ps k1 k2
    simp only [List.toList_toArray]
    rw [this]
  exact ⟨.int _, H, I.tok _, ⟨_, by rw [e]⟩, q⟩
theorem se_countT {o e : Expr} {mo me : ME} {apos cpos : Pos} (c : Cok g X W k) (ho : SE g W φ X o mo) (he : SE g W φ X e me)
    (hbase : attributeBase o "count" X.env (eval o X.env) = eval o X.env := by rfl)
    (hfew : ((backTo cpos (starEach (e :: []) X.env)).all (fun x => !x.1) && (backToKw cpos (keywordEach [] X.env)).all (fun x => x.1.isSome)
      && decide ((e :: []).length + ([] : List Keyword).length + (if ([] : List Keyword).isEmpty then 0 else 1) < 30)) = true := by rfl)
    (hline : (apos.endLine == cpos.line) = true := by rfl) (hs1 : starEach [e] X.env = (false, eval e X.env) :: starEach [] X.env := by rfl) (hpl : (backTo cpos (starEach [] X.env)).any (·.1) = false := by rfl) :
    SE g W φ X (.Call (.Attribute o "count" apos) [e] [] cpos) (mCountT mo me) := by
  intro F σ H env Q hr hp
  refine ⟨_, pe_mG ty_tupK PySem.F.plainAttrs_tuple PySem.F.slot_tuple_count PySem.F.type_tuple_count (mt_countK c.rm.units) w_pe (pa_cons w_pe pa_nil hs1) hbase hfew hline hs1 hpl, ?_⟩
  refine ho F σ H env _ hr ?_
  unfold mCountT at hp
  cases e0 : mo env with
  | exc c v e' => rw [e0] at hp; exact hp
  | no => rw [e0] at hp; exact hp
  | ok d e1 =>
    rw [e0] at hp
    cases d <;> try exact hp.elim
    rename_i xs
    intro v H1 F1 s1 r1 p1
    cases p1 with
    | tpk a o ws ds h hc hd hl hi =>
    refine ⟨⟨a, o, ws, rfl, r1.ex _ _ h, hc, hd⟩, he F1 σ H1 e1 _ r1 ?_⟩
    simp only [Re.bind] at hp
    cases em : me e1 with
    | exc c2 v2 e' => rw [em] at hp; exact XP.mono s1 hp
    | no => rw [em] at hp; exact hp.elim
    | ok y e2 =>
      rw [em] at hp
      simp only at hp
      intro v2 H2 F2 s2 r2 p2
      cases ec : countF xs y with
      | none => rw [ec] at hp; exact hp.elim
      | some z =>
        rw [ec] at hp
        unfold countF at ec
        cases e1' : toPys xs with
        | none => simp [e1'] at ec
        | some ps =>
          cases e2' : toPy y with
          | none => simp [e1', e2'] at ec
          | some d =>
            simp only [e1', e2'] at ec
            by_cases hc : (PyData.canLayAll0 ps && (d.canLay0 && decide (d.depth ≤ 40))) = true
            · rw [if_pos hc] at ec
              cases ec
              simp only [Bool.and_eq_true, decide_eq_true_eq] at hc
              have rs : Reps g F1 ws xs := ⟨hl, hi⟩
              refine ⟨a, ws, ps, v2, d, rfl, rfl, .inl (.inr ⟨o, r2.ex _ _ (s2 _ _ h)⟩), by rw [c.K]; exact Rep.dps r2.ex xs ws ps e1' (rs.mono s2), by rw [c.K]; exact Rep.dp r2.ex y v2 d e2' p2, hc.1, hc.2.1, hc.2.2, ?_⟩
              exact hp _ _ _ (s1.trans s2) r2 (.int _)
            · rw [if_neg hc] at ec
              cases ec
/-! xs.remove(y) -/
theorem Reps.erase {vs : List V} {ds : List D} (h : Reps g F vs ds) (n : Nat) : Reps g F (vs.eraseIdx n) (ds.eraseIdx n) :=
  ⟨by simp [List.length_eraseIdx, h.len], fun i v d a b => by
    rw [List.getElem?_eraseIdx] at a b
    by_cases hi : i < n
    · rw [if_pos hi] at a b
      exact h.at_ i v d a b
    · rw [if_neg hi] at a b
      exact h.at_ (i + 1) v d a b⟩
theorem mt_removeD (hu : X.A.units + 64 < cLine) : MtR X "list.remove" (fun x xs H Q => ∃ l ws ps y d j, x = .ref l ∧ xs = [y] ∧ H l = some (.lst ws) ∧ DpAll X.K H ws ps ∧ Dp X.K H y d ∧ PyData.canLayAll0 ps = true ∧ d.canLay0 = true ∧ d.depth ≤ 40 ∧ (ps.findIdx? fun z => z.eqv d) = some j ∧ Q .non (upd H l (.lst (ws.eraseIdx j)))) := by
  rintro pins s σ H x xs v us Q I rv rus ⟨l, ws, ps, y, d, j, rfl, rfl, hH, ha, hy, h1, h2, h3, hf, q⟩
  cases rv
  obtain ⟨u, rfl, ru⟩ := rus.one
  obtain ⟨bs, r2⟩ := Dp.reads I d y u hy ru
  obtain ⟨z, its, n, r, hl, e⟩ := I.lstM hH
  obtain ⟨k1, k2⟩ := dps_reads I ws ps ha its r
  have ee := eqs_at (A := X.A) k1 k2 r2 h1 h2 (by omega)
  obtain ⟨hj, hjt, hjn⟩ := List.findIdx?_eq_some_iff_getElem.mp hf
  have at_ : ∀ (m : Nat) (hm : m < its.toArray.size) (hm2 : m < ps.length), isEq s.heap d its.toArray[m] = (ps[m]).eqv d := fun m hm hm2 => by
    have h4 : m < its.length := by simpa using hm
    obtain ⟨as, rr⟩ := k2 m its[m] ps[m] (List.getElem?_eq_getElem h4) (List.getElem?_eq_getElem hm2)
    have := isEq_of (d := d) rr
    simpa using this
  have hjl : j < its.toArray.size := by rw [List.size_toArray]; omega
  refine call_meets PySem.F.slot_list_remove ⟨_, e, rfl⟩ PySem.F.entry_list_remove (PySem.F.args_list_remove_2 _ _)
    (SeqAt.list_removeAt l its.toArray n none #[] u (isEq s.heap d) j hjl (by rw [at_ j hjl hj]; exact hjt) (fun m hm hmj => by rw [at_ m hm (by omega)]; simpa using hjn m hmj) (by rw [List.size_toArray]; omega)) ⟨e, ee, ?_⟩
  have rr := r.eraseIdx j
  refine ⟨.non, _, I.lset (its' := its.eraseIdx j) (t' := s.toks) hH e ?_ rr ?_, rfl, q⟩
  · show its.toArray.eraseIdxIfInBounds j = (its.eraseIdx j).toArray
    rw [List.eraseIdxIfInBounds_toArray]
  · have := List.length_eraseIdx_le ws j
    omega
theorem ss_remove (i : Nat) {x : Str} {e : Expr} {m : ME} {p apos cpos pos : Pos} (c : Cok g X W k) (h : SE g W φ X e m) (hN : X.N[i]? = some x := by rfl) (hv : Vis X.env.scope x := by first | exact Or.inl rfl | exact Or.inr (Or.inl rfl) | exact Or.inr (Or.inr rfl))
    (hd : (x == ("__debug__" : Str)) = false := by decide) (hcd : (x == ("__classdict__" : Str)) = false := by decide) (hs1 : starEach (e :: []) X.env = (false, eval e X.env) :: starEach [] X.env := by rfl)
    (hbase : attributeBase (.Name x p) "remove" X.env (eval (.Name x p) X.env) = eval (.Name x p) X.env := by rfl)
    (hfew : ((backTo cpos (starEach (e :: []) X.env)).all (fun x => !x.1) && (backToKw cpos (keywordEach [] X.env)).all (fun x => x.1.isSome)
      && decide ((e :: []).length + ([] : List Keyword).length + (if ([] : List Keyword).isEmpty then 0 else 1) < 30)) = true := by rfl)
    (hline : (apos.endLine == cpos.line) = true := by rfl) (hplain : (backTo cpos (starEach [] X.env)).any (·.1) = false := by rfl)
    (hs : swapsWith (.Call (.Attribute (.Name x p) "remove" apos) [e] [] cpos) none pos.line X.env = pure false := by rfl) :
    SS g W φ X (.Expr (.Call (.Attribute (.Name x p) "remove" apos) [e] [] cpos) pos) (mRemove i m) := by
  intro F σ H env En hr hp
  refine ⟨_, ps_expr (pe_bm PySem.F.plainAttrs_list PySem.F.slot_list_remove PySem.F.type_list_remove (mt_removeD c.rm.units) (pe_var hN hv hd hcd) (pa_cons w_pe pa_nil hs1) hbase hfew hline hs1 hplain) hs, ?_⟩
  unfold mRemove at hp
  cases e0 : env[i]? with
  | none => rw [e0] at hp; exact hp.elim
  | some s =>
    rw [e0] at hp
    cases s with
    | un => exact hp.elim
    | va d => exact hp.elim
    | ow b0 xs0 =>
      simp only at hp
      obtain ⟨a, vs0, g1, g2, _⟩ := hr.ow i b0 xs0 e0
      refine ⟨.ref a, g1, .inl ⟨rfl, vs0, SqL.of g2⟩, ?_⟩
      refine h F σ H env _ hr (es hp fun y e1 v H1 F1 s1 r1 p1 hp1 => ?_)
      cases e1' : e1[i]? with
      | none => simp only [e1'] at hp1; exact hp1.elim
      | some s =>
        cases s with
        | un => simp only [e1'] at hp1; exact hp1.elim
        | va d => simp only [e1'] at hp1; exact hp1.elim
        | ow b xs =>
          simp only [e1'] at hp1
          cases ef : firstF xs y with
          | none => rw [ef] at hp1; exact hp1.elim
          | some j =>
            rw [ef] at hp1
            obtain ⟨a', vs, k1, k2, k3, k4, _⟩ := r1.ow i b xs e1'
            rw [g1] at k1
            cases k1
            unfold firstF at ef
            cases e2 : toPys xs with
            | none => simp [e2] at ef
            | some ps =>
              cases e3 : toPy y with
              | none => simp [e2, e3] at ef
              | some d =>
                simp only [e2, e3] at ef
                by_cases hc : (PyData.canLayAll0 ps && (d.canLay0 && decide (d.depth ≤ 40))) = true
                · rw [if_pos hc] at ef
                  simp only [Bool.and_eq_true, decide_eq_true_eq] at hc
                  refine ⟨a, vs, ps, v, d, j, rfl, rfl, k2, by rw [c.K]; exact Rep.dps r1.ex xs vs ps e2 k4, by rw [c.K]; exact Rep.dp r1.ex y v d e3 p1, hc.1, hc.2.1, hc.2.2, ef, ?_⟩
                  exact hp1 _ _ _ (Same.refl _) (r1.updOw e1' g1 (k4.erase j))
                · rw [if_neg hc] at ef
                  cases ef
end
end Mp
set_option Elab.async false
set_option linter.all false
set_option maxRecDepth 100000
set_option maxHeartbeats 4000000
/-! sorted(set(t)), t a tuple of triples of whole numbers; len(set(xs)), xs a list of tuples of whole numbers -/
namespace Mp
open PySem PySem.Spec PyProof.Rows L2
section
variable {P : Program} {w : World} {A : Around} {E : Value → Shared → Prop} {s : Shared}
/-- the set as it is laid -/
abbrev bare (w : World) : Obj := { cls := .type "set", dict := none, data := .set #[] 0 (.fresh 0 0 (!w.params.followText "set-order")) }
abbrev withBare (w : World) (s : Shared) : Shared := { s with heap := s.heap.push (bare w) }
/-- what set(..) leaves -/
def SetLeft (P : Program) (w : World) (s : Shared) (ks : List (Addr × List Int)) (u : Shared) : Prop :=
  ∃ (h' : Heap) (tk : Nat) (L : List (Addr × List Int)) (es : Array (Int × Value)) (ep : Nat) (t : SetTable), u = { s with heap := h', toks := tk } ∧ SetTR P w h' s.heap.objs.size L es ep t ∧ Got ks ks.length L ∧ ∀ b o, s.heap.get? b = some o → h'.get? b = some o
/-- filling it from a tuple -/
theorem fill_tup {l : Addr} {dct : Option Addr} {nl : Nat} {sl : Array (Option Value)} {items : Array Value} {ks : List (Addr × List Int)} (hh : A.handled = none) (ho : s.heap.get? l = some { cls := .type "tuple", dict := dct, data := .seq items nl, slots := sl })
    (hit : items.toList = ks.map fun p => Value.ref p.1) (hk : ∀ p ∈ ks, IsT P w s.heap p.2 p.1) (hfew : ks.length < 64) (hu : A.in1.units < cLine) :
    wpAny (model P w) A (Builtin.«set.__init__» ⟨[.ref s.heap.objs.size, .ref l], []⟩) (fun f u => f = .done (.ret .none) ∧ SetLeft P w s ks u) E (withBare w s) := by
  have size : items.size = ks.length := by simpa using congrArg List.length hit
  have old : l < s.heap.objs.size := Heap.lt_size ho
  have fresh : ∀ b, s.heap.objs.size ≤ b → s.heap.get? b = none := fun b hb => by
    rcases e : s.heap.get? b with _ | o
    · rfl
    · exact absurd (Heap.lt_size e) (Nat.not_lt.mpr hb)
  have here : (withBare w s).heap.get? s.heap.objs.size = some (bare w) := Heap.get?_push_size _ rfl
  have there : (withBare w s).heap.get? l = some { cls := .type "tuple", dict := dct, data := .seq items nl, slots := sl } := Heap.get?_push_of_some _ ho
  have wide : (withBare w s).heap.objs.size = s.heap.objs.size + 1 := Heap.size_push ..
  have q1 := F.sub_tuple_set
  have q2 := F.sub_tuple_frozenset
  have q3 : (Value.type "tuple" == Value.type "dict") = false := by decide
  unfold Builtin.«set.__init__»
  unfold noKeywords
  unfold Builtin.Frozenset.updateFrom
  generalize hIt : pyIter = It
  wp_walk
  subst hIt
  refine wpAny_pyIter_tuple ⟨_, there, rfl, nl, rfl⟩ (wpAny_bind (wpAny_runValue ?_))
  have vals : ∀ (i : Nat) (v : Value), items[i]? = some v → ∃ p, ks[i]? = some p ∧ v = .ref p.1 := fun i v hv => by
    have e : items.toList[i]? = some v := by rw [Array.getElem?_toList]; exact hv
    rw [hit, List.getElem?_map] at e
    obtain ⟨p, e1, e2⟩ := Option.map_eq_some_iff.mp e
    exact ⟨p, e1, e2.symm⟩
  have lI : l ≠ (withBare w s).heap.objs.size := by rw [wide]; exact Nat.ne_of_lt (Nat.lt_succ_of_lt old)
  have off : s.heap.objs.size ∉ [(withBare w s).heap.objs.size, l] := by
    rw [wide]
    intro h
    rcases List.mem_cons.mp h with h | h
    · exact Nat.ne_of_lt (Nat.lt_succ_self _) h
    · exact Nat.ne_of_gt old (List.mem_singleton.mp h)
  refine set_update_tups ((Walks.tuple (by simp [hh]) _ l lI items).toS) s.heap.objs.size off ks size hfew vals s.heap hk (fresh _ (Nat.le_refl _)) (fun b hb => fresh b ?_) hu items.size 0 _ (by omega) (Nat.zero_le _)
    ⟨⟨_, Heap.get?_push_size _ rfl, rfl, rfl⟩, ⟨_, Heap.get?_push_of_some _ there, rfl, nl, rfl⟩⟩ (fun b o e => Heap.get?_push_of_some _ (Heap.get?_push_of_some _ e)) ⟨[], #[], 0, _, setTR_fresh (Heap.get?_push_of_some _ here), Got.zero ks⟩ fun u L es ep t mv R got kept => ?_
  · have := List.mem_singleton.mp hb
    rw [this, wide]
    exact Nat.le_succ _
  · obtain ⟨hp, gs, dr, tk, os⟩ := u
    obtain rfl : gs = s.gens := mv.gens
    obtain rfl : dr = s.drawn := mv.drawn
    obtain rfl : os = s.os := mv.os
    rw [size] at got
    show wpAny _ _ _ _ _ _
    refine wpAny_pure ?_
    show wpAny _ _ (ret Value.none) _ _ _
    exact wpAny_pure ⟨rfl, hp, tk, L, es, ep, t, rfl, R, got, kept⟩
/-- set(t) -/
theorem set_of_tup {l : Addr} {items : Array Value} {ks : List (Addr × List Int)} {Q : Value → Shared → Prop} (hh : A.handled = none) (hl : IsTup s.heap l items) (hit : items.toList = ks.map fun p => Value.ref p.1)
    (hk : ∀ p ∈ ks, IsT P w s.heap p.2 p.1) (hfew : ks.length < 64) (hu : A.units + 3 < cLine) (h : ∀ u, SetLeft P w s ks u → Q (.ref s.heap.objs.size) u) :
    wpAny (model P w) A (call (.type "set") [.ref l]) Q E s := by
  obtain ⟨⟨c0, dct, dt, sl⟩, ho, hc0, nl, hdt⟩ := hl
  obtain rfl : c0 = .type "tuple" := hc0
  obtain rfl : dt = .seq items nl := hdt
  obtain ⟨cm, tl, hm⟩ := F.called_set.mro
  have m1 := F.called_set.made
  have m2 := F.called_set.sub
  have m3 := F.called_set.notType
  have m4 := F.called_set.canCreate
  have m5 := F.typeCall_set_1 (.ref l)
  refine wpAny_call (codeAny_of_tree ?_)
  show wpAny _ _ (callAny (.type "set") _) _ _ _
  refine wpAny_pure ⟨Code.quiet_builtin _ (by decide +kernel), codeAny_builtin F.entry_type_call ?_⟩
  rw [Around.under_plain (weight_type_call_type "set" [.ref l] []) rfl]
  repeat (any_goals (first | assumption | wp_step))
  refine codeAny_mono (code_set_led1 (.ref l) (E := E) (Q₁ := fun o u => o = .ref s.heap.objs.size ∧ u = withBare w s) ⟨rfl, rfl⟩) fun r u hr => ?_
  rcases r with e | fl
  · exact hr
  · cases fl with
    | ret o =>
      obtain ⟨rfl, rfl⟩ := hr
      have hT : (withBare w s).TypeIs (.ref s.heap.objs.size) "set" := ⟨_, Heap.get?_push_size _ rfl, rfl⟩
      have i1 := F.called_set.init.lookup
      have i2 := F.called_set.init.bind (.ref s.heap.objs.size)
      repeat (any_goals (first | assumption | wp_step))
      refine codeAny_mono (codeAny_call_builtin (R := wants (fun r u => r = .none ∧ SetLeft P w s ks u) E) F.called_set.init.plain F.entry_set_init (check_set_init_1 hT ?_)) fun r u hr => ?_
      · refine wpAny_mono (fill_tup (by simp [hh]) ho hit hk hfew ?_) (fun f u q => ?_) fun _ _ q => q
        · have e : A.in1.in1.in1.units = A.units + 3 := rfl
          first | (rw [e]; exact hu) | (show A.units + 2 < cLine; omega) | (show A.units + 3 < cLine; omega)
        · obtain ⟨rfl, q⟩ := q
          exact ⟨rfl, q⟩
      · rcases r with e | fl
        · exact hr
        · cases fl with
          | ret o =>
            obtain ⟨rfl, q⟩ := hr
            repeat (any_goals (first | assumption | wp_step))
            exact h _ q
          | _ => exact hr.elim
    | _ => exact hr.elim
end
/-! ### the set of triples, sorted -/
def tup3 : D → Option (List Int)
  | .tup [.int a, .int b, .int c] => if 0 ≤ a ∧ a < 64 ∧ 0 ≤ b ∧ b < 64 ∧ 0 ≤ c ∧ c < 64 then some [a, b, c] else none
  | _ => none
def tups3 : List D → Option (List (List Int))
  | [] => some []
  | d :: ds => match tup3 d, tups3 ds with
    | some k, some ks => some (k :: ks)
    | _, _ => none
/-- put in, in order, once -/
def insC (k : List Int) : List (List Int) → List (List Int)
  | [] => [k]
  | x :: xs => if TS.code 64 k < TS.code 64 x then k :: x :: xs else if TS.code 64 x < TS.code 64 k then x :: insC k xs else x :: xs
def canC : List (List Int) → List (List Int)
  | [] => []
  | k :: ks => insC k (canC ks)
def kT (k : List Int) : D := .tup (k.map D.int)
def ssTF : D → Option (List D)
  | .tup xs => match tups3 xs with
    | some ks => if ks.length < 64 then some ((canC ks).map kT) else none
    | none => none
  | _ => none
def mSST (m : ME) : ML := fun env => (m env).bind fun d e => match ssTF d with
  | some xs => .ok xs e
  | none => .no
theorem code3 (a b c : Int) : TS.code 64 [a, b, c] = a * 4096 + b * 64 + c := by
  simp [TS.code]
  omega
theorem code3_inj {k l : List Int} (hk : k.length = 3) (hl : l.length = 3) (bk : TS.Bd 64 k) (bl : TS.Bd 64 l) (h : TS.code 64 k = TS.code 64 l) : k = l := by
  match k, l, hk, hl with
  | [a, b, c], [a', b', c'], _, _ =>
    rw [code3, code3] at h
    have h1 := bk a (by simp)
    have h2 := bk b (by simp)
    have h3 := bk c (by simp)
    have h4 := bl a' (by simp)
    have h5 := bl b' (by simp)
    have h6 := bl c' (by simp)
    obtain ⟨rfl, rfl, rfl⟩ : a = a' ∧ b = b' ∧ c = c' := by omega
    rfl
/-- three numbers below 64 -/
def Tr (k : List Int) : Prop := k.length = 3 ∧ TS.Bd 64 k
theorem mem_insC {k : List Int} (hk : Tr k) : ∀ {l : List (List Int)}, (∀ x ∈ l, Tr x) → ∀ y, y ∈ insC k l ↔ y = k ∨ y ∈ l
  | [], _, y => by simp [insC]
  | x :: l, hl, y => by
    have ih := mem_insC hk (fun z hz => hl z (List.mem_cons_of_mem _ hz)) y
    have hx := hl x List.mem_cons_self
    unfold insC
    by_cases h1 : TS.code 64 k < TS.code 64 x
    · rw [if_pos h1]
      simp
    · rw [if_neg h1]
      by_cases h2 : TS.code 64 x < TS.code 64 k
      · rw [if_pos h2, List.mem_cons, ih, List.mem_cons]
        constructor
        · rintro (h | h | h) <;> simp [h]
        · rintro (h | h | h) <;> simp [h]
      · rw [if_neg h2]
        have e : k = x := code3_inj hk.1 hx.1 hk.2 hx.2 (by omega)
        subst e
        simp
theorem sorted_insC {k : List Int} : ∀ {l : List (List Int)}, l.Pairwise (fun a b => TS.code 64 a < TS.code 64 b) → (insC k l).Pairwise (fun a b => TS.code 64 a < TS.code 64 b) ∧ ∀ y ∈ insC k l, y = k ∨ y ∈ l
  | [], _ => ⟨by simp [insC], fun y hy => by simp [insC] at hy; simp [hy]⟩
  | x :: l, h => by
    obtain ⟨h1, h2⟩ := List.pairwise_cons.mp h
    obtain ⟨i1, i2⟩ := sorted_insC (k := k) h2
    unfold insC
    by_cases c1 : TS.code 64 k < TS.code 64 x
    · rw [if_pos c1]
      refine ⟨List.pairwise_cons.mpr ⟨fun y hy => ?_, h⟩, fun y hy => by simpa using hy⟩
      rcases List.mem_cons.mp hy with rfl | hy
      · exact c1
      · exact Int.lt_trans c1 (h1 y hy)
    · rw [if_neg c1]
      by_cases c2 : TS.code 64 x < TS.code 64 k
      · rw [if_pos c2]
        refine ⟨List.pairwise_cons.mpr ⟨fun y hy => ?_, i1⟩, fun y hy => ?_⟩
        · rcases i2 y hy with rfl | hy
          · exact c2
          · exact h1 y hy
        · rcases List.mem_cons.mp hy with rfl | hy
          · simp
          · rcases i2 y hy with rfl | hy <;> simp [*]
      · rw [if_neg c2]
        exact ⟨h, fun y hy => .inr hy⟩
theorem canC_ok : ∀ {ks : List (List Int)}, (∀ x ∈ ks, Tr x) → (canC ks).Pairwise (fun a b => TS.code 64 a < TS.code 64 b) ∧ ∀ y, y ∈ canC ks ↔ y ∈ ks
  | [], _ => ⟨List.Pairwise.nil, fun y => by simp [canC]⟩
  | k :: ks, h => by
    obtain ⟨h1, h2⟩ := canC_ok (fun x hx => h x (List.mem_cons_of_mem _ hx))
    have hc : ∀ x ∈ canC ks, Tr x := fun x hx => h x (List.mem_cons_of_mem _ ((h2 x).mp hx))
    refine ⟨(sorted_insC h1).1, fun y => ?_⟩
    show y ∈ insC k (canC ks) ↔ _
    rw [mem_insC (h k List.mem_cons_self) hc, h2, List.mem_cons]
theorem uniqC : ∀ {l m : List (List Int)}, l.Pairwise (fun a b => TS.code 64 a < TS.code 64 b) → m.Pairwise (fun a b => TS.code 64 a < TS.code 64 b) → (∀ x, x ∈ l ↔ x ∈ m) → l = m
  | [], [], _, _, _ => rfl
  | [], b :: m, _, _, h => by have := (h b).mpr (by simp); simp at this
  | a :: l, [], _, _, h => by have := (h a).mp (by simp); simp at this
  | a :: l, b :: m, hl, hm, h => by
    obtain ⟨l1, l2⟩ := List.pairwise_cons.mp hl
    obtain ⟨m1, m2⟩ := List.pairwise_cons.mp hm
    have e : a = b := by
      rcases List.mem_cons.mp ((h a).mp (by simp)) with e | e
      · exact e
      · rcases List.mem_cons.mp ((h b).mpr (by simp)) with e2 | e2
        · exact e2.symm
        · have q1 := m1 a e
          have q2 := l1 b e2
          omega
    subst e
    congr 1
    refine uniqC l2 m2 fun x => ?_
    constructor
    · intro hx
      rcases List.mem_cons.mp ((h x).mp (List.mem_cons_of_mem _ hx)) with e | e
      · have := l1 x hx
        rw [e] at this
        omega
      · exact e
    · intro hx
      rcases List.mem_cons.mp ((h x).mpr (List.mem_cons_of_mem _ hx)) with e | e
      · have := m1 x hx
        rw [e] at this
        omega
      · exact e
section
variable {g : Gc} {W : WX} {φ : Fc} {X : Cx} {k : Nat} {F F' : Hp} {σ : L2.St} {H : Hp}
/-- set(t), t a tuple of tuples of whole numbers -/
def rSetT (K : PySem.W.Frag) (P : Program) (w : World) : List V → Hp → VK → Prop := fun xs H Q => ∃ (l : Addr) (ks : List (Addr × List Int)), xs = [V.ref l] ∧ SqT K H l (ks.map fun p => V.ref p.1) ∧ (∀ p ∈ ks, SqT K H p.1 (p.2.map V.int)) ∧ ks.length < 64 ∧
  ∀ a L, H a = none → (∀ p ∈ L, p ∈ ks) → (∀ p ∈ ks, p.2 ∈ L.map (·.2)) → Q (.ref a) (upd H a (SetTO P w a L))
theorem cr_setT (hc : X.calm = true) (hu : X.A.units + 64 < cLine) : CallR X (.type "set") (rSetT X.K X.prog X.w) := by
  rintro pins s σ H xs us Q I r ⟨l, ks, rfl, hl, hk, hf, q⟩
  rw [Vals.ref1 r]
  obtain ⟨its, rv, pl, hz⟩ := I.tuple hl
  refine set_of_tup (I.ok.hd hc) pl (by simpa using refs_of_vals rv) (fun p hp => I.isT (hk p hp)) hf (by omega) fun u hu => ?_
  obtain ⟨h', tk, L, es, ep, t, rfl, R, got, kept⟩ := hu
  refine ⟨.ref s.heap.objs.size, _, I.laid (o := SetTO X.prog X.w s.heap.objs.size L) (t' := tk) kept (Nat.le_refl _) (setTO_new R.t0), rfl, q _ L (I.hok.fresh (Nat.le_refl _)) (fun p hp => ?_) fun p hp => ?_⟩
  · exact List.mem_of_mem_take (got.sub p hp)
  · exact got.all p (by rw [List.take_length]; exact hp)
theorem tup3_rep {v : V} {d : D} {k : List Int} (h : Rep g F v d) (e : tup3 d = some k) : Tr k ∧ ∃ a, v = .ref a ∧ SqT g.K F a (k.map V.int) ∧ d = kT k := by
  unfold tup3 at e
  split at e
  · rename_i a b c
    split at e
    · rename_i hb
      cases e
      cases h with
      | tup x vs ds h hl hi =>
        refine ⟨⟨rfl, fun m hm => ?_⟩, x, rfl, ?_, rfl⟩
        · simp at hm
          rcases hm with rfl | rfl | rfl <;> omega
        · match vs, hl with
          | [v1, v2, v3], _ =>
            have h1 := hi 0 v1 _ rfl rfl
            have h2 := hi 1 v2 _ rfl rfl
            have h3 := hi 2 v3 _ rfl rfl
            cases h1
            cases h2
            cases h3
            exact h
    · cases e
  · cases e
theorem tups3_rep : ∀ {vs : List V} {ds : List D} {ks : List (List Int)}, Reps g F vs ds → tups3 ds = some ks → ∃ ps : List (Addr × List Int), vs = ps.map (fun p => V.ref p.1) ∧ ps.map (·.2) = ks ∧ ∀ p ∈ ps, SqT g.K F p.1 (p.2.map V.int) ∧ Tr p.2 ∧ Rep g F (.ref p.1) (kT p.2)
  | [], [], ks, _, e => by
    cases e
    exact ⟨[], rfl, rfl, fun p hp => by cases hp⟩
  | [], _ :: _, _, h, _ => by have := h.len; simp at this
  | _ :: _, [], _, h, _ => by have := h.len; simp at this
  | v :: vs, d :: ds, ks, h, e => by
    cases e1 : tup3 d with
    | none => simp [tups3, e1] at e
    | some k =>
      cases e2 : tups3 ds with
      | none => simp [tups3, e1, e2] at e
      | some ks' =>
        simp only [tups3, e1, e2, Option.some.injEq] at e
        subst e
        obtain ⟨ps, h1, h2, h3⟩ := tups3_rep h.tail e2
        obtain ⟨q1, a, q2, q3, q4⟩ := tup3_rep h.head e1
        refine ⟨(a, k) :: ps, by rw [q2, h1]; rfl, by simp [h2], fun p hp => ?_⟩
        rcases List.mem_cons.mp hp with rfl | hp
        · exact ⟨q3, q1, by have := h.head; rw [q2, q4] at this; exact this⟩
        · exact h3 p hp
theorem code_nodup : ∀ {L : List (Addr × List Int)}, (∀ p ∈ L, Tr p.2) → (L.map (·.2)).Nodup → L.Pairwise (fun q r => TS.code 64 q.2 ≤ TS.code 64 r.2) → (L.map (·.2)).Pairwise (fun a b => TS.code 64 a < TS.code 64 b)
  | [], _, _, _ => by simp
  | p :: L, ht, hn, hp => by
    obtain ⟨n1, n2⟩ := List.nodup_cons.mp (show (p.2 :: L.map (·.2)).Nodup from hn)
    obtain ⟨p1, p2⟩ := List.pairwise_cons.mp hp
    rw [List.map_cons]
    refine List.pairwise_cons.mpr ⟨fun y hy => ?_, code_nodup (fun q hq => ht q (List.mem_cons_of_mem _ hq)) n2 p2⟩
    obtain ⟨q, hq, rfl⟩ := List.mem_map.mp hy
    have h1 := p1 q hq
    have t1 := ht p List.mem_cons_self
    have t2 := ht q (List.mem_cons_of_mem _ hq)
    rcases Int.lt_or_eq_of_le h1 with h | h
    · exact h
    · exact absurd (code3_inj t1.1 t2.1 t1.2 t2.2 h ▸ hy) n1
theorem reps_kT : ∀ {L : List (Addr × List Int)}, (∀ p ∈ L, Rep g F (.ref p.1) (kT p.2)) → Reps g F (L.map fun q => V.ref q.1) ((L.map (·.2)).map kT)
  | [], _ => .nil
  | p :: L, h => .cons (h p List.mem_cons_self) (reps_kT fun q hq => h q (List.mem_cons_of_mem _ hq))
theorem el {r : Re D} {kk : D → Env → Re (List D)} {Q : VK} {Q1 : VK} (hp : PoL g W φ F σ Q (r.bind kk))
    (h : ∀ x e1 v H1 F1, Same F F1 → Rel g φ F1 σ H1 e1 → Rep g F1 v x → PoL g W φ F1 σ Q (kk x e1) → Q1 v H1) : PoE g W φ F σ Q1 r := by
  cases r with
  | ok x e1 => exact fun v H1 F1 a b c => h x e1 v H1 F1 a b c (hp.mono a)
  | exc c v e' => exact hp
  | no => exact hp
theorem sl_sst {e : Expr} {m : ME} {p p2 q pos : Pos} (c : Cok g X W k) (h : SE g W φ X e m) (hg : Gl X "sorted") (hm : X.mg "sorted" = none) (hg2 : Gl X "set") (hm2 : X.mg "set" = none) (hv2 : bootBuiltins ("set" : Str) = some (.type "set"))
    (hv : bootBuiltins ("sorted" : Str) = some (.builtin "sorted")) (na : starEach [e] X.env = (false, eval e X.env) :: starEach [] X.env := by rfl)
    (nb : starEach [.Call (.Name "set" p2) [e] [] q] X.env = (false, eval (.Call (.Name "set" p2) [e] [] q) X.env) :: starEach [] X.env := by rfl) :
    SL g W φ X (.Call (.Name "sorted" p) [.Call (.Name "set" p2) [e] [] q] [] pos) (mSST m) := by
  intro F σ H env Q hr hp
  refine ⟨_, pe_callB (cr_sortedT c.calm) hg hm hv (pa_cons (pe_callTy (cr_setT c.calm c.rm.units) hg2 hm2 hv2 (pa_cons w_pe pa_nil na) (by decide) (by decide) na) pa_nil nb) (by decide) (by decide) nb, ?_⟩
  refine h F σ H env _ hr (el hp fun x e1 v H1 F1 s1 r1 p1 hp1 => ?_)
  unfold ssTF at hp1
  cases x <;> try exact hp1.elim
  rename_i xs
  simp only at hp1
  cases e2 : tups3 xs with
  | none => simp only [e2] at hp1; exact hp1.elim
  | some ks =>
    simp only [e2] at hp1
    by_cases hlt : ks.length < 64
    · rw [if_pos hlt] at hp1
      obtain ⟨l, vs, rfl, h1, h2⟩ := (RepH.of p1 (H := H1)).tup r1.ex
      cases p1 with
      | tup l vs ds hF hl hi =>
      obtain ⟨ps, q1, q2, q3⟩ := tups3_rep ⟨hl, hi⟩ e2
      have lks : ps.length < 64 := by rw [← q2, List.length_map] at hlt; exact hlt
      refine ⟨l, ps, rfl, by rw [c.K, ← q1]; exact same_t r1.ex hF, fun p hp => by rw [c.K]; exact same_t r1.ex (q3 p hp).1, lks, fun a L ha sub all => ?_⟩
      have tr : ∀ p ∈ L, Tr p.2 := fun p hp => (q3 p (sub p hp)).2.1
      have r2 := r1.loose (o := SetTO X.prog X.w a L) ha
      refine ⟨a, L, 3, 64, rfl, upd_same, fun p hp => ?_, by decide, fun p hp => tr p hp, fun L' b pm nd few pw hb => ?_⟩
      · rw [c.K]
        exact same_t (same_new ha) (same_t r1.ex (q3 p (sub p hp)).1)
      · have tr' : ∀ p ∈ L', Tr p.2 := fun p hp => tr p (pm.mem_iff.mp hp)
        have eq : canC ks = L'.map (·.2) := by
          obtain ⟨z1, z2⟩ := canC_ok (ks := ks) fun x hx => by
            rw [← q2] at hx
            obtain ⟨p, hp, rfl⟩ := List.mem_map.mp hx
            exact (q3 p hp).2.1
          refine uniqC z1 (code_nodup tr' nd pw) fun x => ?_
          rw [z2, (pm.map (·.2)).mem_iff]
          constructor
          · intro hx
            rw [← q2] at hx
            obtain ⟨p, hp, rfl⟩ := List.mem_map.mp hx
            exact all p hp
          · intro hx
            obtain ⟨p, hp, rfl⟩ := List.mem_map.mp hx
            rw [← q2]
            exact List.mem_map.mpr ⟨p, sub p hp, rfl⟩
        rw [eq] at hp1
        refine PoL.at_ r2 hp1 (reps_kT fun p hp => (q3 p (sub p (pm.mem_iff.mp hp))).2.2) b hb
    · rw [if_neg hlt] at hp1
      exact hp1.elim
end
end Mp
set_option Elab.async false
set_option linter.all false
set_option maxRecDepth 100000
set_option maxHeartbeats 4000000
/-! len(set(xs)), xs a list of tuples of whole numbers -/
namespace Mp
open PySem PySem.Spec PyProof.Rows L2
def tupI : D → Option (List Int)
  | .tup xs => intsOf xs
  | _ => none
def tupsI : List D → Option (List (List Int))
  | [] => some []
  | d :: ds => match tupI d, tupsI ds with
    | some k, some ks => some (k :: ks)
    | _, _ => none
/-- each once -/
def nubK : List (List Int) → List (List Int)
  | [] => []
  | k :: ks => if k ∈ ks then nubK ks else k :: nubK ks
theorem nubK_mem : ∀ {ks : List (List Int)} {x : List Int}, x ∈ nubK ks ↔ x ∈ ks
  | [], x => by simp [nubK]
  | k :: ks, x => by
    have ih := nubK_mem (ks := ks) (x := x)
    unfold nubK
    by_cases h : k ∈ ks
    · rw [if_pos h, ih, List.mem_cons]
      constructor
      · exact .inr
      · rintro (rfl | h') <;> assumption
    · rw [if_neg h, List.mem_cons, List.mem_cons, ih]
theorem nubK_nodup : ∀ {ks : List (List Int)}, (nubK ks).Nodup
  | [] => List.nodup_nil
  | k :: ks => by
    unfold nubK
    by_cases h : k ∈ ks
    · rw [if_pos h]
      exact nubK_nodup
    · rw [if_neg h]
      exact List.nodup_cons.mpr ⟨fun z => h (nubK_mem.mp z), nubK_nodup⟩
def lenSF : D → Option D
  | .lst xs => match tupsI xs with
    | some ks => if ks.length < 64 then some (.int ((nubK ks).length : Nat)) else none
    | none => none
  | _ => none
def mLenSet (m : ME) : ME := fun env => (m env).bind fun d e => match lenSF d with
  | some z => .ok z e
  | none => .no
section
variable {g : Gc} {W : WX} {φ : Fc} {X : Cx} {k : Nat} {F F' : Hp} {σ : L2.St} {H : Hp}
def rLenS (K : PySem.W.Frag) (P : Program) (w : World) : List V → Hp → VK → Prop := fun xs H Q => ∃ (a : Addr) (L : List (Addr × List Int)), xs = [V.ref a] ∧ H a = some (SetTO P w a L) ∧ (∀ p ∈ L, SqT K H p.1 (p.2.map V.int)) ∧ ((L.map (·.2)).Nodup → Q (.int (L.length : Nat)) H)
theorem cr_lenS : CallR X (.builtin "len") (rLenS X.K X.prog X.w) := by
  rintro pins s σ H xs us Q I r ⟨a, L, rfl, ha, hk, q⟩
  rw [Vals.ref1 r]
  have R0 : SetT0 X.prog X.w s.heap a L := (I.hok a _ ha).1
  obtain ⟨es, ep, t, R⟩ := R0.full fun p hp => I.isT (hk p hp)
  obtain ⟨o, ho, hex, hd⟩ := R.ob
  have hsz := R.size
  have hfew := R.few
  refine call_len_set ho hex hd R.fits (by omega) ⟨.int (L.length : Nat), H, I.tok _, ⟨_, by rw [hsz]⟩, q R.nd⟩
theorem tupI_rep {v : V} {d : D} {k : List Int} (h : Rep g F v d) (e : tupI d = some k) : ∃ a, v = .ref a ∧ SqT g.K F a (k.map V.int) := by
  cases d <;> simp only [tupI, reduceCtorEq] at e
  cases h with
  | tup x vs ds h hl hi =>
    have := intsOf_ok e ⟨hl, hi⟩
    exact ⟨x, rfl, this ▸ h⟩
theorem tupsI_rep : ∀ {vs : List V} {ds : List D} {ks : List (List Int)}, Reps g F vs ds → tupsI ds = some ks → ∃ ps : List (Addr × List Int), vs = ps.map (fun p => V.ref p.1) ∧ ps.map (·.2) = ks ∧ ∀ p ∈ ps, SqT g.K F p.1 (p.2.map V.int)
  | [], [], ks, _, e => by
    cases e
    exact ⟨[], rfl, rfl, fun p hp => by cases hp⟩
  | [], _ :: _, _, h, _ => by have := h.len; simp at this
  | _ :: _, [], _, h, _ => by have := h.len; simp at this
  | v :: vs, d :: ds, ks, h, e => by
    cases e1 : tupI d with
    | none => simp [tupsI, e1] at e
    | some k =>
      cases e2 : tupsI ds with
      | none => simp [tupsI, e1, e2] at e
      | some ks' =>
        simp only [tupsI, e1, e2, Option.some.injEq] at e
        subst e
        obtain ⟨ps, h1, h2, h3⟩ := tupsI_rep h.tail e2
        obtain ⟨a, q2, q3⟩ := tupI_rep h.head e1
        refine ⟨(a, k) :: ps, by rw [q2, h1]; rfl, by simp [h2], fun p hp => ?_⟩
        rcases List.mem_cons.mp hp with rfl | hp
        · exact q3
        · exact h3 p hp
theorem se_lenSet {e : Expr} {m : ME} {p p2 q pos : Pos} (c : Cok g X W k) (h : SE g W φ X e m) (hg : Gl X "len") (hm : X.mg "len" = none) (hg2 : Gl X "set") (hm2 : X.mg "set" = none) (hv2 : bootBuiltins ("set" : Str) = some (.type "set"))
    (hv : bootBuiltins ("len" : Str) = some (.builtin "len")) (na : starEach [e] X.env = (false, eval e X.env) :: starEach [] X.env := by rfl)
    (nb : starEach [.Call (.Name "set" p2) [e] [] q] X.env = (false, eval (.Call (.Name "set" p2) [e] [] q) X.env) :: starEach [] X.env := by rfl) :
    SE g W φ X (.Call (.Name "len" p) [.Call (.Name "set" p2) [e] [] q] [] pos) (mLenSet m) := by
  intro F σ H env Q hr hp
  refine ⟨_, pe_callB cr_lenS hg hm hv (pa_cons (pe_callTy (cr_setOfT c.calm c.rm.units) hg2 hm2 hv2 (pa_cons w_pe pa_nil na) (by decide) (by decide) na) pa_nil nb) (by decide) (by decide) nb, ?_⟩
  refine h F σ H env _ hr (ee hp fun x e1 v H1 F1 s1 r1 p1 hp1 => ?_)
  unfold lenSF at hp1
  cases x <;> try exact hp1.elim
  rename_i xs
  simp only at hp1
  cases e2 : tupsI xs with
  | none => simp only [e2] at hp1; exact hp1.elim
  | some ks =>
    simp only [e2] at hp1
    by_cases hlt : ks.length < 64
    · rw [if_pos hlt] at hp1
      cases p1 with
      | lst l vs ds hF hl hi =>
      obtain ⟨ps, q1, q2, q3⟩ := tupsI_rep ⟨hl, hi⟩ e2
      have lks : ps.length < 64 := by rw [← q2, List.length_map] at hlt; exact hlt
      refine ⟨l, ps, rfl, by rw [← q1]; exact SqL.of (r1.ex _ _ hF), fun p hp => by rw [c.K]; exact same_t r1.ex (q3 p hp), lks, fun a L ha sub all => ?_⟩
      have r2 := r1.loose (o := SetTO X.prog X.w a L) ha
      refine ⟨a, L, rfl, upd_same, fun p hp => ?_, fun nd => ?_⟩
      · rw [c.K]
        exact same_t (same_new ha) (same_t r1.ex (q3 p (sub p hp)))
      · have eq : L.length = (nubK ks).length := by
          have pm : (L.map (·.2)).Perm (nubK ks) := by
            refine (List.perm_ext_iff_of_nodup nd nubK_nodup).mpr fun x => ?_
            rw [nubK_mem]
            constructor
            · intro hx
              obtain ⟨p, hp, rfl⟩ := List.mem_map.mp hx
              rw [← q2]
              exact List.mem_map.mpr ⟨p, sub p hp, rfl⟩
            · intro hx
              rw [← q2] at hx
              obtain ⟨p, hp, rfl⟩ := List.mem_map.mp hx
              exact all p hp
          rw [← pm.length_eq, List.length_map]
        rw [eq]
        exact hp1 _ _ _ (Same.refl _) r2 (.int _)
    · rw [if_neg hlt] at hp1
      exact hp1.elim
/-- a, b = x, y -/
def mPar (i j : Nat) (m : MA) : MS := fun env => (m env).flow fun as e => match vals as with
  | some [d, d'] => match putG i d e with
    | some e1 => match putG j d' e1 with
      | some e2 => .nx e2
      | none => .no
    | none => .no
  | _ => .no
theorem ss_par {i j : Nat} {x y : Str} {a b : Expr} {m : MA} {px py pt pt2 pos : Pos} {kt k2 : Nat} (c : Cok g X W k) (h : SA g W φ X [a, b] m) (hij : i ≠ j := by decide) (hi : X.N[i]? = some x := by rfl) (hj : X.N[j]? = some y := by rfl)
    (hx : X.env.scope.names.lookup x = some .local := by rfl) (hy : X.env.scope.names.lookup y = some .local := by rfl)
    (hw : swappedStores [.Tuple [.Name x px, .Name y py] kt pt] (.Tuple [a, b] k2 pt2) X.env = pure (some [x, y]) := by rfl)
    (hs : swapsWithSole [.Tuple [.Name x px, .Name y py] kt pt] (.Tuple [a, b] k2 pt2) pos.line X.env = pure false := by rfl) :
    SS g W φ X (.Assign [.Tuple [.Name x px, .Name y py] kt pt] (.Tuple [a, b] k2 pt2) pos) (mPar i j m) := by
  intro F σ H env En hr hp
  refine ⟨_, ps_par c.calm c.nd hi hj hij hx hy w_pa hw hs, h F σ H env _ hr (as_ hp fun as e1 vs H1 F1 s1 r1 p1 hp1 => ?_)⟩
  split at hp1
  · rename_i d d' ev
    split at hp1
    · rename_i e2 q1
      split at hp1
      · rename_i e3 q2
        have rp := p1.vals ev
        match vs, rp.len with
        | [u, v], _ =>
          obtain ⟨s1', z1, z2, rfl⟩ := putG_ok q1
          obtain ⟨s2', z3, z4, rfl⟩ := putG_ok q2
          exact ⟨u, v, rfl, hp1 _ _ _ (Same.refl _) ((r1.setVa z1 z2 rp.head).setVa z3 z4 rp.tail.head)⟩
      · exact hp1.elim
    · exact hp1.elim
  · exact hp1.elim
/-- x in y, x not in y: data of any shape -/
def inAF (neg : Bool) (x y : D) : Option D := match inF neg x y with
  | some z => some z
  | none => match toPy y, toPy x with
    | some (.tuple ps), some d => if (PyData.canLayAll0 ps && (d.canLay0 && decide (d.depth ≤ 40))) = true then some (.bl ((ps.any fun z => z.eqv d) != neg)) else none
    | some (.list ps), some d => if (PyData.canLayAll0 ps && (d.canLay0 && decide (d.depth ≤ 40))) = true then some (.bl ((ps.any fun z => z.eqv d) != neg)) else none
    | _, _ => none
def inOp : Bool → CmpOp
  | false => .In
  | true => .NotIn
theorem op_in_any {X : Cx} (neg : Bool) (hu : X.A.units + 64 < cLine) : OpR X (compareOp (inOp neg)) (fun x y H Q => ∃ d ds, Dp X.K H x d ∧ (Dp X.K H y (.tuple ds) ∨ Dp X.K H y (.list ds)) ∧ PyData.canLayAll0 ds = true ∧ d.canLay0 = true ∧ d.depth ≤ 40 ∧ Q (.bl ((ds.any fun z => z.eqv d) != neg)) H) := by
  rintro pins s σ H x y v u Q I rv ru ⟨d, ds, h1, h2, h3, h4, h5, q⟩
  obtain ⟨as, r1⟩ := Dp.reads I d x v h1 rv
  have hd : X.A.units + 1 + min (PyData.depthAll ds) d.depth < cLine := by
    have := Nat.min_le_right (PyData.depthAll ds) d.depth
    omega
  cases neg with
  | false =>
    rw [Bool.bne_false] at q
    rcases h2 with h2 | h2
    · obtain ⟨bs, r2⟩ := Dp.reads I _ y u h2 ru
      exact PySem.SeqAt.in_tuple_reads r2 r1 h3 h4 hd ⟨.bl _, H, I, rfl, q⟩
    · obtain ⟨bs, r2⟩ := Dp.reads I _ y u h2 ru
      exact PySem.SeqAt.in_list_reads r2 r1 h3 h4 hd ⟨.bl _, H, I, rfl, q⟩
  | true =>
    rw [Bool.bne_true] at q
    rcases h2 with h2 | h2
    · obtain ⟨bs, r2⟩ := Dp.reads I _ y u h2 ru
      exact PySem.SeqAt.notIn_tuple_reads r2 r1 h3 h4 hd ⟨.bl _, H, I, rfl, q⟩
    · obtain ⟨bs, r2⟩ := Dp.reads I _ y u h2 ru
      exact PySem.SeqAt.notIn_list_reads r2 r1 h3 h4 hd ⟨.bl _, H, I, rfl, q⟩
theorem op_inA_ (neg : Bool) (hK : X.K = g.K) (rm : Room k X.A) : OpS g φ (wO X (compareOp (inOp neg))) (inAF neg) := by
  intro F σ H env v u x y z Q hr hx hy hf hq
  unfold inAF at hf
  cases e0 : inF neg x y with
  | some z' =>
    simp only [e0, Option.some.injEq] at hf
    subst hf
    cases neg with
    | false => exact op_in_ hK F σ H env v u x y _ Q hr hx hy e0 hq
    | true => exact op_notin_ hK F σ H env v u x y _ Q hr hx hy e0 hq
  | none =>
    simp only [e0] at hf
    split at hf
    · rename_i ps d e1 e2
      split at hf
      · rename_i hc
        cases hf
        simp only [Bool.and_eq_true, decide_eq_true_eq] at hc
        refine ⟨_, op_in_any neg rm.units, d, ps, hK ▸ hx.dp hr.ex e2, .inl (hK ▸ hy.dp hr.ex e1), hc.1, hc.2.1, hc.2.2, ?_⟩
        exact hq _ H F (Same.refl _) hr (.bl _)
      · cases hf
    · rename_i ps d e1 e2
      split at hf
      · rename_i hc
        cases hf
        simp only [Bool.and_eq_true, decide_eq_true_eq] at hc
        refine ⟨_, op_in_any neg rm.units, d, ps, hK ▸ hx.dp hr.ex e2, .inr (hK ▸ hy.dp hr.ex e1), hc.1, hc.2.1, hc.2.2, ?_⟩
        exact hq _ H F (Same.refl _) hr (.bl _)
      · cases hf
    · cases hf
end
end Mp
set_option Elab.async false
set_option linter.all false
set_option maxRecDepth 100000
set_option maxHeartbeats 4000000
/-! sorted of tuples of which some may be empty -/
namespace Mp
open PySem PySem.Spec PySem.Calls PyProof.Rows PySem.W
section
variable {prog : Program} {w : World} {A : Around} {E : Value → Shared → Prop} {s : Shared} {M : Model}
/-- a walk over a list, each turn with a result that is known -/
theorem mapM_known {α β : Type} {f : α → Sem β} {r : α → β} : ∀ (l : List α) {Q : List β → Shared → Prop}, (∀ v ∈ l, ∀ (Q' : β → Shared → Prop), Q' (r v) s → wpAny M A (f v) Q' E s) → Q (l.map r) s → wpAny M A (l.mapM f) Q E s
  | [], Q, _, h => by
    rw [List.mapM_nil]
    exact wpAny_pure h
  | x :: l, Q, hf, h => by
    rw [List.mapM_cons]
    refine wpAny_bind (hf x List.mem_cons_self _ (wpAny_bind ?_))
    exact mapM_known l (Q := fun bs s' => wpAny M A (pure (r x :: bs)) Q E s') (fun v hv => hf v (List.mem_cons_of_mem _ hv)) (wpAny_pure h)
/-- a tuple's first item, by its object -/
def firstAt (h : Heap) : Value → Option Value
  | .ref a => match h.get? a with
    | some o => match o.data with
      | .seq xs _ => xs[0]?
      | _ => none
    | none => none
  | _ => none
theorem first_of {h : Heap} {v : Value} {xs : List PyData} {as : List Addr} (r : Reads h v (.tuple xs) as) : (firstAt h v).isSome = !xs.isEmpty ∧ ∃ a o its n, v = .ref a ∧ h.get? a = some o ∧ o.cls = .type "tuple" ∧ o.data = .seq its n ∧ firstAt h v = its[0]? := by
  cases r with
  | @tuple a o its n _ _ ho hc hd hr =>
    have e : firstAt h (.ref a) = its[0]? := by simp [firstAt, ho, hd]
    refine ⟨?_, a, o, its, n, rfl, ho, hc, hd, e⟩
    rw [e]
    have hl := SeqAt.ReadsAll.length _ _ _ hr
    cases xs with
    | nil =>
      have : its.size = 0 := by simpa using hl
      simp [this]
    | cons x xs =>
      have : 0 < its.size := by simp at hl; omega
      simp [this]
def kindE (h : Heap) (vs : List Value) : SortKind := if ((vs.map (firstAt h)).toArray[0]?.bind id).isSome = true then general' else oneType'
theorem kindE_or (h : Heap) (vs : List Value) : kindE h vs = general' ∨ kindE h vs = oneType' := by
  unfold kindE
  split
  · exact .inl rfl
  · exact .inr rfl
theorem kind_empty {vs : List Value} {ds : List PyData} {Q : SortKind → Shared → Prop} (e : EachIs (fun v d => ∃ as, Reads s.heap v d as) vs ds) (ht : ∀ d, d ∈ ds → ∃ xs, d = .tuple xs) (hx : .tuple [] ∈ ds) (h2 : 2 ≤ vs.length)
    (h : Q (kindE s.heap vs) s) : wpAny M A (keyKind' vs.toArray) Q E s := by
  unfold kindE at h
  have each : ∀ v, v ∈ vs → ∃ xs as, .tuple xs ∈ ds ∧ Reads s.heap v (.tuple xs) as := fun v hv => by
    obtain ⟨d, hd, as, r⟩ := e.left v hv
    obtain ⟨xs, rfl⟩ := ht d hd
    exact ⟨xs, as, hd, r⟩
  obtain ⟨v0, hv0, n0⟩ : ∃ v0, v0 ∈ vs ∧ (firstAt s.heap v0).isSome = false := by
    have key : ∀ {vs : List Value} {ds : List PyData}, EachIs (fun v d => ∃ as, Reads s.heap v d as) vs ds → .tuple [] ∈ ds → ∃ v0, v0 ∈ vs ∧ (firstAt s.heap v0).isSome = false := by
      intro vs ds e
      induction e with
      | nil => intro h; cases h
      | cons r t ih =>
        intro h
        rcases List.mem_cons.mp h with rfl | h
        · obtain ⟨as, r⟩ := r
          exact ⟨_, List.mem_cons_self, (first_of r).1⟩
        · obtain ⟨v0, h1, h2⟩ := ih h
          exact ⟨v0, List.mem_cons_of_mem _ h1, h2⟩
    exact key e hx
  rw [kat_kind_eq, List.mapM_toArray, map_eq_pure_bind]
  refine wpAny_bind (wpAny_bind (mapM_known (r := firstAt s.heap) _ (fun v hv Q' hq => ?_) (wpAny_pure ?_)))
  · obtain ⟨xs, as, _, r⟩ := each v hv
    obtain ⟨_, a, o, its, n, rfl, ho, hc, hd, ef⟩ := first_of r
    rw [kas_first_eq]
    refine wpAny_bind (Looks.here (show Looks M s.heap (typeOf (.ref a)) o.cls from (Looks.ld ho).andThen .now) ?_)
    rw [hc, if_neg (by simp)]
    refine wpAny_bind (listItems_at ho hd (wpAny_pure ?_))
    rw [← ef]
    exact hq
  · have hall : ((vs.map (firstAt s.heap)).toArray.all fun x => x.isSome) = false := by
      rw [List.all_toArray, List.all_map]
      rw [Bool.eq_false_iff]
      intro hz
      have := List.all_eq_true.mp hz v0 hv0
      simp only [Function.comp_apply] at this
      rw [n0] at this
      cases this
    rw [if_neg (by rw [hall]; simp)]
    split
    · rename_i hc
      rw [if_pos hc] at h
      exact wpAny_pure h
    · rename_i hc
      rw [if_neg hc] at h
      rw [oneTypeOnly'_eq, List.mapM_toArray, map_eq_pure_bind]
      have looks : ∀ v, v ∈ vs → Looks M s.heap (typeOf v) (.type "tuple") := fun v hv => by
        obtain ⟨xs, as, _, r⟩ := each v hv
        exact looks_reads r
      refine wpAny_bind (wpAny_bind (wpAny_bind (mapM_known (r := fun _ => Value.type "tuple") _ (fun v hv Q' hq => (looks v hv).here hq) (wpAny_pure ?_))))
      match vs, h2 with
      | v1 :: v2 :: rest, _ =>
        have h0 : (List.map (fun _ => Value.type "tuple") (v1 :: v2 :: rest)).toArray[0]? = some (Value.type "tuple") := by simp
        rw [h0]
        have hA : ((List.map (fun _ => Value.type "tuple") (v1 :: v2 :: rest)).toArray.all fun x => x == Value.type "tuple") = true := by
          rw [List.all_toArray, List.all_map, List.all_eq_true]
          intro _ _
          rfl
        simp only [hA, if_true]
        exact wpAny_pure (wpAny_pure h)
/-- one tuple against another, as keys of one kind -/
theorem oneLt_tup {xs ys : List PyData} {a b : Value} {as bs : List Addr} {Q : Bool → Shared → Prop} (ra : Reads s.heap a (.tuple xs) as) (rb : Reads s.heap b (.tuple ys) bs) (hal : alikeAll xs ys = true) (hu : A.units + min (PyData.tuple xs).depth (PyData.tuple ys).depth < cLine)
    (hq : Q (dataLt (.tuple xs) (.tuple ys)) s) : wpAny (model prog w) A (oneLt' true a b) Q E s := by
  cases ra with
  | @tuple l o vs n _ as₁ h1 h2 h3 h4 =>
    cases rb with
    | @tuple l' o' vs' n' _ bs₁ k1 k2 k3 k4 =>
      have n1 : vs.size = xs.length := by simpa using SeqAt.ReadsAll.length _ _ _ h4
      have n2 : vs'.size = ys.length := by simpa using SeqAt.ReadsAll.length _ _ _ k4
      rw [dataLt_tuple, ← firstLt_toks xs ys hal, ← n1, ← n2] at hq
      have room := SeqAt.room_in hu
      obtain ⟨cls, dd, data, sl⟩ := o
      obtain ⟨cls2, dd2, data2, sl2⟩ := o'
      simp only at h2 h3 k2 k3
      subst h2 h3 k2 k3
      rw [oneLt'_eq, if_pos rfl]
      refine wpAny_bind (wpAny_cRoomFor (SeqAt.room_here hu) ?_)
      refine wpAny_bind (wpAny_callSpecialIfBound?_slot (T := "tuple") ⟨_, h1, rfl⟩ F.slot_tuple_lt ?_)
      refine call_meets F.slot_tuple_lt ⟨_, h1, rfl⟩ F.entry_tuple_lt (F.args_tuple_lt_2 _ _) (SeqAt.tuple_ltAt l l' vs vs' n n' dd dd2 sl sl2 (SeqAt.pairEq xs ys) fun j => dataLt (xs.getD j .none) (ys.getD j .none)) ⟨h1, k1, fun j j1 j2 => ?_, fun j j1 j2 hj => ?_, ?_⟩
      · have := eqAt_alikeAll xs ys A.in1 s vs.toList vs'.toList _ _ h4 k4 hal room j (by simpa using j1) (by simpa using j2)
        simpa using this
      · have := rcLt_alikeAll xs ys A.in1 s vs.toList vs'.toList _ _ h4 k4 hal room j (by simpa using j1) (by simpa using j2) hj
        simpa using this
      · exact wpAny_truthy_bool hq
/-- tuples of any length that are alike can be sorted -/
theorem sorts_tups {vs : List Value} {ds : List PyData} (e : EachIs (fun v d => ∃ as, Reads s.heap v d as) vs ds) (hal : AllAlike ds) (ht : ∀ d, d ∈ ds → ∃ xs, d = .tuple xs) (hu : ∀ d, d ∈ ds → A.units + d.depth < cLine) : SortsAt prog w A s (dataKind s.heap ds) vs := by
  by_cases hx : .tuple [] ∈ ds
  · have room : ∀ {d d' : PyData}, d ∈ ds → A.units + min d.depth d'.depth < cLine := fun {d d'} hd => Nat.lt_of_le_of_lt (Nat.add_le_add_left (Nat.min_le_left _ _) _) (hu d hd)
    have cmp : ∀ κ, (κ = general' ∨ κ = oneType') → H.LtAt prog w A s (dataKind s.heap ds) κ := fun κ hκ => by
      intro E x y a b Q ha hb hq
      obtain ⟨d, as, hd, ra, rfl⟩ := dataKind_inv ha
      obtain ⟨d', as', hd', rb, rfl⟩ := dataKind_inv hb
      have hdd := hal d hd d' hd'
      have hroom := room (d' := d') hd
      obtain ⟨xs, rfl⟩ := ht d hd
      obtain ⟨ys, rfl⟩ := ht d' hd'
      rcases hκ with rfl | rfl
      · exact oneLt_alike (f := false) (fun z => by cases z) ra rb hdd (by simp) hroom hq
      · rw [keyLt'_oneType]
        exact oneLt_tup ra rb (by simpa [alike] using hdd) hroom hq
    refine ⟨fun v hv => ?_, ?_⟩
    · obtain ⟨d, hd, as, r⟩ := e.left v hv
      exact ⟨_, dataKind_some hal hd r⟩
    · exact ⟨kindE s.heap vs, cmp _ (kindE_or _ _), fun h2 E Q hq => kind_empty e ht hx h2 hq⟩
  · refine SortsAt.data e hal (.inl fun d hd => ?_) hu
    obtain ⟨xs, rfl⟩ := ht d hd
    cases xs with
    | nil => exact absurd hd hx
    | cons x r => exact ⟨x, r, rfl⟩
end
def tupsB (ps : List PyData) : Bool := ps.all fun d => match d with
  | .tuple _ => true
  | _ => false
def sortEF : List D → Option D
  | [d] => match seqLT d with
    | some xs => match toPys xs with
      | some ps => if (allAlikeB ps && ((sortableB ps || tupsB ps) && depB ps)) = true then some (.lst (sortL xs ps)) else none
      | none => none
    | none => none
  | _ => none
section
open L2
variable {g : Gc} {W : WX} {φ : Fc} {X : Cx} {k : Nat} {F : Hp} {σ : L2.St} {H : Hp} {env : Mp.Env}
theorem all_sorts {prog : Program} {w : World} {A : Around} {s : Shared} {its : List Value} {xs : List D} {ps : List PyData} (hl : xs.length = ps.length) (e : EachIs (fun u (b : D × PyData) => ∃ as, Reads s.heap u b.2 as) its (xs.zip ps)) (h1 : allAlikeB ps = true) (h2 : (sortableB ps || tupsB ps) = true) (h3 : ∀ b ∈ xs.zip ps, A.units + b.2.depth < cLine) :
    SortsAt prog w A s (dataKind s.heap ((xs.zip ps).map fun b => b.2)) its := by
  have e' := each_map (R := fun v d => ∃ as, Reads s.heap v d as) (fun b : D × PyData => b.2) e
  by_cases hs : sortableB ps = true
  · exact SortsAt.data e' (alike_of hl h1) (sortable_of hl hs) (bound_map h3)
  · have ht : tupsB ps = true := by simpa [hs] using h2
    refine sorts_tups e' (alike_of hl h1) (fun d hd => ?_) (bound_map h3)
    obtain ⟨b, hb, rfl⟩ := List.mem_map.mp hd
    have := List.all_eq_true.mp ht b.2 (List.of_mem_zip hb).2
    cases hb2 : b.2 with
    | tuple xs => exact ⟨xs, rfl⟩
    | _ => simp [hb2] at this
theorem run_sortE {pins : List (Addr × Obj)} {s : Shared} {Q : Value → Shared → Prop} {E : Value → Shared → Prop} {a : Addr} {ws : List V} {xs : List D} {ps : List PyData} (hK : X.K = g.K) (rm : Room k X.A) (I : L2.Inv X pins σ H s) (sF : Same F H) (hs : SqL X.K H a ws ∨ SqT X.K H a ws) (r : Reps g F ws xs)
    (hp : toPys xs = some ps) (h1 : allAlikeB ps = true) (h2 : (sortableB ps || tupsB ps) = true) (h3 : depB ps = true)
    (q : ∀ (ws' : List V) (out : List Value), Vals ws' out → out.length ≤ sizeLine → Reps g F ws' (sortL xs ps) → ∀ its, Q (.ref (s.heap.objs.size + 1)) { s with heap := sortedAll s.heap its (List.toArray out) }) :
    wpAny (model X.prog X.w) X.A (call (.builtin "sorted") [.ref a]) Q E s := by
  have hl := toPys_len hp
  have fin : ∀ its : List Value, Vals ws its → ws.length ≤ sizeLine → (∀ {Q : List Value → Shared → Prop}, Q its { s with heap := (s.heap.push (seqObj "list" #[] 0)).update s.heap.objs.size (Obj.mapSeq (· ++ its.toArray)) } → wpAny (model X.prog X.w) X.A.in1 (collect (.ref a)) Q (fun e s' => E e s') s) →
      wpAny (model X.prog X.w) X.A (call (.builtin "sorted") [.ref a]) Q E s := fun its rv hz hcol => by
    obtain ⟨e, er⟩ := each_of I hK sF rv r hp
    have hL : its.length ≤ sizeLine := by rw [← rv.length]; exact hz
    have er' : EachIs (fun u (b : D × PyData) => ∃ as, Reads (sortingHeap (copyHeap s.heap its) (s.heap.objs.size + 1) its) u b.2 as) its (xs.zip ps) := er.mono fun _ _ ⟨as, r⟩ => ⟨as, PyProof.Rows.Reads.keeps (fun _ _ => sorting_copy_old) r⟩
    refine sort_call hcol hL fun E' => ?_
    refine list_sort_vals (s := { s with heap := copyHeap s.heap its }) (copyHeap_at s.heap its) (all_sorts (s := { s with heap := sortingHeap (copyHeap s.heap its) (s.heap.objs.size + 1) its }) hl er' h1 h2 fun b hb => ?_) hL ⟨rfl, ?_⟩
    · have := List.all_eq_true.mp h3 b.2 (List.of_mem_zip hb).2
      have d60 : b.2.depth ≤ 60 := of_decide_eq_true this
      have := rm.un
      show X.A.units + 2 + b.2.depth < cLine
      omega
    · obtain ⟨ws', k1, k2⟩ := each_back (sortVals_data false e er' (alike_of hl h1))
      refine q ws' _ k1 ?_ k2 its
      rw [sortVals_length false rfl]
      exact hL
  rcases hs with hs | hs
  · obtain ⟨its, rv, pl, hz⟩ := I.list hs
    exact fin its rv hz fun {Q} h => collect_list pl.isList h (by rw [← rv.length]; exact hz)
  · obtain ⟨its, rv, pl, hz⟩ := I.tuple hs
    exact fin its rv hz fun {Q} h => items_tup pl (by rw [← rv.length]; exact hz) h
theorem ca_sortE (hK : X.K = g.K) (rm : Room k X.A) : CaS g φ (wC X (.builtin "sorted")) sortEF := by
  intro F σ H env vs ds z Q hr hx hf hq
  cases hx with
  | nil => simp [sortEF] at hf
  | @cons v d vs ds hv t =>
    cases t with
    | cons _ _ => simp [sortEF] at hf
    | nil =>
      simp only [sortEF] at hf
      cases e1 : seqLT d with
      | none => simp [e1] at hf
      | some xs =>
        simp only [e1] at hf
        cases e2 : toPys xs with
        | none => simp [e2] at hf
        | some ps =>
          simp only [e2] at hf
          by_cases hc : (allAlikeB ps && ((sortableB ps || tupsB ps) && depB ps)) = true
          · rw [if_pos hc] at hf
            cases hf
            rw [Bool.and_eq_true, Bool.and_eq_true] at hc
            have key : ∃ a ws, v = .ref a ∧ (SqL g.K H a ws ∨ SqT g.K H a ws) ∧ Reps g F ws xs := by
              cases d <;> simp only [seqLT, reduceCtorEq, Option.some.injEq] at e1
              · subst e1
                obtain ⟨a, ws, q1, q2, q3⟩ := hv.tup hr.ex
                exact ⟨a, ws, q1, .inr q2, q3⟩
              · subst e1
                obtain ⟨a, ws, q1, q2, q3⟩ := hv.lst hr.ex
                exact ⟨a, ws, q1, .inl (SqL.of q2), q3⟩
            obtain ⟨a, ws, rfl, hs, rr⟩ := key
            refine ⟨fun vs' H' Q' => vs' = [.ref a] ∧ H' = H ∧ ∀ ws' p, Reps g F ws' (sortL xs ps) → H p = none → Q' (.ref p) (upd H p (.lst ws')), ?_, rfl, rfl, fun ws' p h1 h2 => ?_⟩
            · intro pins s σ2 H' xs' us Q' I rv ⟨ex, eH, q⟩
              subst ex eH
              rw [Vals.ref1 rv]
              refine run_sortE hK rm I hr.ex (hK ▸ hs) rr e2 hc.1 hc.2.1 hc.2.2 fun ws' out k1 k2 k3 its => ?_
              obtain ⟨ep, he'⟩ := sortedAll_at s.heap its (List.toArray out)
              have hlen : ws'.length ≤ sizeLine := by rw [k1.length]; exact k2
              exact ⟨.ref _, L2.upd H' (s.heap.objs.size + 1) (.lst ws'), I.laid (t' := s.toks) (fun _ _ => sortedAll_old) (Nat.le_succ _) ⟨hlen, out, ep, k1, he'⟩, rfl, q ws' _ k3 (I.hok.fresh (Nat.le_succ _))⟩
            · obtain ⟨s2, r2⟩ := hr.laid (o := .lst ws') h2
              exact hq _ _ _ s2 r2 (.mkLst upd_same (h1.mono s2))
          · rw [if_neg hc] at hf
            cases hf
end
end Mp
set_option Elab.async false
set_option linter.all false
set_option maxRecDepth 100000
set_option maxHeartbeats 4000000
/-! comprehensions whose turns leave all as it was -/
namespace Mp
open PySem PySem.Spec L2
/-- one turn: what it gives (none: left out), the slots behind it -/
def turnF (own : List Nat) (tg : MG) (ts : MT) (elt : ME) (e : Env) (d : D) : Re (Option D) := match tg d (enterE own e) with
  | none => .no
  | some e1 => (ts e1).nx fun b e2 => if b = true then (elt e2).nx fun x e3 => .ok (some x) (backE e e3) else .ok none (backE e e2)
theorem lc_pure {own : List Nat} {tg : MG} {ts : MT} {elt : ME} {e : Env} (hf : free_ own e = true) (f : D → Option D) : ∀ ds : List D, (∀ d ∈ ds, turnF own tg ts elt e d = .ok (f d) e) → lcF own tg ts elt ds e = .ok (ds.filterMap f) e
  | [], _ => rfl
  | d :: ds, h => by
    have ih := lc_pure hf f ds fun x hx => h x (List.mem_cons_of_mem _ hx)
    have h0 := h d List.mem_cons_self
    unfold turnF at h0
    rw [lcF, if_pos hf]
    cases e1 : tg d (enterE own e) with
    | none => rw [e1] at h0; cases h0
    | some a =>
      simp only [e1] at h0 ⊢
      cases e2 : ts a with
      | exc c v z => rw [e2] at h0; cases h0
      | no => rw [e2] at h0; cases h0
      | ok b z =>
        simp only [e2, Re.nx] at h0 ⊢
        cases b with
        | false =>
          simp only [Bool.false_eq_true, if_false] at h0 ⊢
          injection h0 with q1 q2
          rw [q2, ih, List.filterMap_cons, ← q1]
        | true =>
          simp only [if_true] at h0 ⊢
          cases e3 : elt z with
          | exc c v z => rw [e3] at h0; cases h0
          | no => rw [e3] at h0; cases h0
          | ok x y =>
            simp only [e3] at h0 ⊢
            injection h0 with q1 q2
            rw [q2, ih, List.filterMap_cons, ← q1]
/-- over mapped items, all kept -/
theorem lc_map {α : Type} {own : List Nat} {tg : MG} {ts : MT} {elt : ME} {e : Env} (hf : free_ own e = true) (q : α → D) (f : α → D) (l : List α) (h : ∀ x ∈ l, turnF own tg ts elt e (q x) = .ok (some (f x)) e) : lcF own tg ts elt (l.map q) e = .ok (l.map f) e := by
  induction l with
  | nil => rfl
  | cons x l ih =>
    have h1 := ih fun y hy => h y (List.mem_cons_of_mem _ hy)
    have h0 := lc_pure hf (fun _ => some (f x)) [q x] (fun d hd => by
      rw [List.mem_singleton.mp hd]
      exact h x List.mem_cons_self)
    have e0 := h x List.mem_cons_self
    unfold turnF at e0
    rw [List.map_cons, List.map_cons, lcF, if_pos hf]
    cases e1 : tg (q x) (enterE own e) with
    | none => rw [e1] at e0; cases e0
    | some a =>
      simp only [e1] at e0 ⊢
      cases e2 : ts a with
      | exc c v z => rw [e2] at e0; cases e0
      | no => rw [e2] at e0; cases e0
      | ok b z =>
        simp only [e2, Re.nx] at e0 ⊢
        cases b with
        | false => simp at e0
        | true =>
          simp only [if_true] at e0 ⊢
          cases e3 : elt z with
          | exc c v z => rw [e3] at e0; cases e0
          | no => rw [e3] at e0; cases e0
          | ok y w =>
            simp only [e3] at e0 ⊢
            injection e0 with q1 q2
            injection q1 with q1
            rw [q2, h1, q1]
/-- over mapped items, some kept -/
theorem lc_filter {α : Type} {own : List Nat} {tg : MG} {ts : MT} {elt : ME} {e : Env} (hf : free_ own e = true) (q : α → D) (p : α → Bool) (f : α → D) (l : List α) (h : ∀ x ∈ l, turnF own tg ts elt e (q x) = .ok (if p x = true then some (f x) else none) e) : lcF own tg ts elt (l.map q) e = .ok ((l.filter p).map f) e := by
  induction l with
  | nil => rfl
  | cons x l ih =>
    have h1 := ih fun y hy => h y (List.mem_cons_of_mem _ hy)
    have e0 := h x List.mem_cons_self
    unfold turnF at e0
    rw [List.map_cons, lcF, if_pos hf]
    cases e1 : tg (q x) (enterE own e) with
    | none => rw [e1] at e0; cases e0
    | some a =>
      simp only [e1] at e0 ⊢
      cases e2 : ts a with
      | exc c v z => rw [e2] at e0; cases e0
      | no => rw [e2] at e0; cases e0
      | ok b z =>
        simp only [e2, Re.nx] at e0 ⊢
        cases b with
        | false =>
          simp only [Bool.false_eq_true, if_false] at e0 ⊢
          injection e0 with q1 q2
          have hp : ¬ p x = true := fun z => by rw [if_pos z] at q1; cases q1
          rw [q2, h1, List.filter_cons_of_neg hp]
        | true =>
          simp only [if_true] at e0 ⊢
          cases e3 : elt z with
          | exc c v z => rw [e3] at e0; cases e0
          | no => rw [e3] at e0; cases e0
          | ok y w =>
            simp only [e3] at e0 ⊢
            injection e0 with q1 q2
            by_cases hp : p x = true
            · rw [if_pos hp] at q1
              injection q1 with q1
              rw [q2, h1, List.filter_cons_of_pos hp, List.map_cons, q1]
            · rw [if_neg hp] at q1
              cases q1
/-- a loop whose turns leave the slots of the shape E t -/
theorem for_shape {α β : Type} {tg : MG} {body : MS} (q : α → D) (E : β → Env) (st : α → β → β) : ∀ (l : List α), (∀ x ∈ l, ∀ b, ∃ e1, tg (q x) (E b) = some e1 ∧ (body e1 = .nx (E (st x b)) ∨ body e1 = .ct (E (st x b)))) → ∀ b, forF tg body (l.map q) (E b) = .nx (E (l.foldl (fun b x => st x b) b))
  | [], _, b => rfl
  | x :: l, h, b => by
    obtain ⟨e1, h1, h2⟩ := h x List.mem_cons_self b
    have ih := for_shape q E st l (fun y hy => h y (List.mem_cons_of_mem _ hy)) (st x b)
    rw [List.map_cons, forF, h1]
    rcases h2 with h2 | h2 <;> simp only [h2] <;> exact ih
end Mp
set_option Elab.async false
set_option linter.all false
set_option maxRecDepth 100000
set_option maxHeartbeats 4000000
namespace Mp
open PySem PySem.Spec L2
/-! Dicts whose keys are tuples of whole numbers, written as a comprehension of one `for`. -/
theorem raw_entry (P : Program) (w : World) : entryOfKey (tupleKind (intKind P w)) = rawE := rfl
theorem kd_laid {P : Program} {w : World} {H : Hp} {h : Heap} {a : Addr} {xs : List (List Int × Addr × Value)} {o : Obj} {es : Array DictEntry} {ep : Nat} (h1 : h.get? a = some o) (h2 : o.ExactDict) (h3 : o.data = .dict es ep) (h4 : es.toList = xs.map rawE) (h5 : (xs.map (·.1)).Nodup) (h6 : xs.length ≤ 1000) :
    ObjOk P w H h a (KdO a xs) :=
  ⟨⟨o, es, ep, h1, h2, h3, h4, h5, h6⟩, ⟨o, h1⟩, fun g1 g2 q k => by
    obtain ⟨o, es, ep, p1, p2, p3, p4, p5, p6⟩ := q
    exact ⟨o, es, ep, k o p1, p2, p3, p4, p5, p6⟩⟩
theorem kd_there {X : Cx} {pins : List (Addr × Obj)} {σ : St} {H : Hp} {s : Shared} {a : Addr} {xs : List (List Int × Addr × Value)} (I : L2.Inv X pins σ H s) (h : H a = some (KdO a xs)) (hk : ∀ x ∈ xs, SqT X.K H x.2.1 (x.1.map V.int)) :
    s.heap.DictOfH (tupleKind (intKind X.prog X.w)) a xs ∧ xs.length ≤ 1000 := by
  obtain ⟨⟨o, es, ep, p1, p2, p3, p4, p5, p6⟩, _⟩ := (show ObjOk X.prog X.w H s.heap a (KdO a xs) from I.hok a _ h)
  exact ⟨⟨o, es, ep, p1, p2, p3, p4, fun x hx => I.isT (hk x hx), p5⟩, p6⟩
theorem atKey_no {xs : List (List Int × Addr × Value)} {k : List Int} (h : k ∉ xs.map (·.1)) : atKey xs k = none := by
  unfold atKey
  rw [Option.map_eq_none_iff, List.find?_eq_none]
  intro x hx
  rw [decide_eq_true_eq]
  exact fun e => h (List.mem_map.mpr ⟨x, hx, e⟩)
/-- one more key -/
theorem kd_put {X : Cx} {pins : List (Addr × Obj)} {σ : St} {H : Hp} {s : Shared} {E : Value → Shared → Prop} {p b : Addr} {xs : List (List Int × Addr × Value)} {k : List Int} {r : Value} {Q : Unit → Shared → Prop}
    (I : L2.Inv X pins σ H s) (hu : X.A.units < cLine) (hp : H p = some (KdO p xs)) (hx : ∀ x ∈ xs, SqT X.K H x.2.1 (x.1.map V.int)) (hb : SqT X.K H b (k.map V.int)) (hl : xs.length < 1000) (hn : k ∉ xs.map (·.1))
    (h : ∀ s', L2.Inv X pins σ (upd H p (KdO p (xs ++ [(k, b, r)]))) s' → Q () s') : wpAny (model X.prog X.w) X.A (dictSet p (.ref b) r) Q E s := by
  obtain ⟨D, _⟩ := kd_there I hp hx
  refine wpAny_dictSet_heap (knd := tupleKind (intKind X.prog X.w)) (hsz := by have : sizeLine = 16777216 := by first | rfl | decide
                                                                               omega) hu (I.isT hb) D fun h' D' sb => h _ ?_
  rw [storedH_new (atKey_no hn)] at D'
  obtain ⟨o, es, ep, p1, p2, p3, p4, p5, p6⟩ := D'
  refine d_write I (by rw [hp]; exact True.intro) sb ⟨o, p1⟩ (kd_laid p1 p2 p3 p4 p6 ?_)
  simp
  omega
def tKd (K : PySem.W.Frag) (wi : TI) (g : TG) (tk tv : TE) (vs : List Nat) : TE := fun σ H Q =>
  wi σ H fun J H1 => ∀ p : Addr, H1 p = none →
    ∃ Wd : Nat → Nat → Hp → Prop, (∃ m0, Wd 0 m0 (upd H1 p (KdO p []))) ∧
      ∀ i m G, Wd i m G → (J.stop i G ∧ Q (.ref p) G) ∨
        (J.go i G ∧ ∃ Aft : Hp → Prop, (∀ G', Aft G' → ∃ l, l < m ∧ Wd (i + 1) l G') ∧
          ∀ x G', J.yld i G x G' → g x (wipe σ vs) G' fun σ2 G2 => wipe σ2 vs = wipe σ vs ∧
            tk σ2 G2 fun y G3 => tv σ2 G3 fun z G4 => ∃ (b : Addr) (k : List Int) (xs : List (List Int × Addr × Value)), y = .ref b ∧ SqT K G4 b (k.map V.int) ∧ G4 p = some (KdO p xs) ∧ (∀ x ∈ xs, SqT K G4 x.2.1 (x.1.map V.int)) ∧ xs.length < 1000 ∧ k ∉ xs.map (·.1) ∧
              ∀ r, RelV z r → Aft (upd G4 p (KdO p (xs ++ [(k, b, r)]))))
theorem kd_core {X : Cx} {pins : List (Addr × Obj)} {s : Shared} {σ : St} {H : Hp} {Q : VK} {kx vx tg iter : Expr} {scope : Scope} {own : List (Str × Nat)} {pos pos' : Pos} {wi : TI} {g : TG} {tk tv : TE}
    (hc : X.calm = true) (hN : X.N.Nodup) (hu : X.A.units < cLine) (I : L2.Inv X pins σ H s) (hw : PI X tg iter wi) (ok : BlkOk X.N X.env.scope scope own)
    (hg : ∀ (s : Shared) (H : Hp) (C : Addr) (cl : List (Str × Addr)) (fp : List Addr), PG (X.blk s H scope (compEnvC scope cl C X.env) fp) tg g)
    (hk : ∀ (s : Shared) (H : Hp) (C : Addr) (cl : List (Str × Addr)) (fp : List Addr), PE (X.blk s H scope (compEnvC scope cl C X.env) fp) kx tk)
    (he : ∀ (s : Shared) (H : Hp) (C : Addr) (cl : List (Str × Addr)) (fp : List Addr), PE (X.blk s H scope (compEnvC scope cl C X.env) fp) vx tv)
    (hs : ∀ x, foldedSetIterable iter X.env x = pure x) (t : tKd X.K wi g tk tv (own.map (·.2)) σ H Q) :
    wpAny (model X.prog X.w) X.A (comprehension (.DictComp kx vx [⟨tg, iter, [], 0⟩] scope pos) scope X.env pos' newDict false (eval iter X.env)) (EP X pins σ Q) X.xe s := by
  refine wpAny_comprehension_free rfl hs (closure_ok fun y hy hf => ?_) ok.kind (fun y hy hl => by rw [ok.uniq y hy, hl]) ?_
  · rcases ok.free y hy hf with h | h
    · exact I.ok.has _ (.inl h)
    · exact I.ok.has _ (.inr h)
  refine thn (hw.run pins s σ H _ I t) fun v s1 h1 => thn h1 fun itv s2 h2 => ?_
  obtain ⟨it, fp, tn, J, H1, rfl, I2, T, t2, hfp, hR⟩ := h2
  refine wpAny_newObj_type ?_
  generalize hD : s2.heap.objs.size = p
  have hp1 : H1 p = none := I2.hok.fresh (by omega)
  obtain ⟨Wd, ⟨m0, w0⟩, go⟩ := hR p hp1
  have I3 := I2.laid (h' := s2.heap.push { cls := Value.type "dict", data := Data.dict #[] }) (a := p) (o := KdO p []) (t' := s2.toks) (fun b u hu => Heap.get?_push_of_some _ hu) (by omega) (by
    rw [← hD]
    exact kd_laid (es := #[]) (Heap.get?_push_size _ rfl) ⟨rfl, rfl, rfl⟩ rfl rfl (by simp) (by simp))
  generalize hs3 : ({ heap := s2.heap.push { cls := Value.type "dict", data := Data.dict #[] }, gens := s2.gens, drawn := s2.drawn, toks := s2.toks, os := s2.os } : Shared) = s3 at I3 ⊢
  have hk3 : ∀ b u, s2.heap.get? b = some u → s3.heap.get? b = some u := fun b u hu => by rw [← hs3]; exact Heap.get?_push_of_some _ hu
  have hz3 : s3.heap.objs.size = s2.heap.objs.size + 1 := by rw [← hs3]; simp [Heap.push]
  have hf3 : ∀ b ∈ fp, FpOk X pins (upd H1 p (KdO p [])) b ∧ b < s3.heap.objs.size := fun b hb => by
    obtain ⟨o, ho, _⟩ := T.obj 0 _ t2 b hb
    have hlt := Heap.lt_size ho
    have hne : b ≠ p := by rw [← hD]; exact Nat.ne_of_lt hlt
    obtain ⟨q1, q2⟩ := hfp b hb
    exact ⟨⟨by rw [upd_ne hne]; exact q1, q2⟩, by rw [hz3]; exact Nat.lt_succ_of_lt hlt⟩
  refine newEnv_comp ?_
  have IB := block_start I3 ok hN hf3
  obtain ⟨s4, hs4⟩ : ∃ s4 : Shared, s4 = { heap := pushCells (s3.heap.push { cls := Value.type "dict", data := Data.dict #[] }) scope.names, gens := s3.gens, drawn := s3.drawn, toks := s3.toks, os := s3.os } := ⟨_, rfl⟩
  have t4 : tn 0 s4.heap := by
    rw [hs4]
    exact T.keep 0 _ _ t2 fun b hb o ho => pushCells_keeps _ _ _ _ (Heap.get?_push_of_some _ (hk3 b o ho))
  rw [← hs4] at IB ⊢
  obtain ⟨C, hC⟩ : ∃ C : Addr, C = s3.heap.objs.size := ⟨_, rfl⟩
  obtain ⟨cl, hcl⟩ : ∃ cl, cl = cellsFrom (s3.heap.objs.size + 1) scope.names (cloFrom X.env.cells scope.names []) := ⟨_, rfl⟩
  rw [← hcl, ← hC] at IB
  have hcenv : (fun (e : PySem.Env) => ({ scope := relabel scope X.env, locals := e.locals, globals := e.globals, cells := e.cells, qual := e.qual, func := e.func, code := e.code, frame := e.frame, builtins := e.builtins } : PySem.Env)) (newEnv scope s3.heap.objs.size X.env.globals (cellsFrom (s3.heap.objs.size + 1) scope.names (cloFrom X.env.cells scope.names [])) X.env.qual none Value.none (some X.env) builtinsNs) = compEnvC scope cl C X.env := by
    rw [hcl, hC]
    rfl
  clear hs4
  generalize own.map (·.2) = vs at go IB w0
  obtain ⟨H3, hH3⟩ : ∃ H3, H3 = upd H1 p (KdO p []) := ⟨_, rfl⟩
  rw [← hH3] at IB I3 w0 hf3
  have fpk : ∀ G : Hp, ∀ b ∈ fp, G b = none → FpOk (X.blk s3 H3 scope (compEnvC scope cl C X.env) fp) [] G b := fun G b hb hn =>
    ⟨hn, (IB.ok.exf b hb).1, IB.ok.exfs b hb, .inl hb, (IB.ok.exf b hb).2, fun q hq => by cases hq⟩
  have back : ∀ (G : Hp) (s5 : Shared), L2.Inv (X.blk s3 H3 scope (compEnvC scope cl C X.env) fp) [] (wipe σ vs) G s5 → Q (.ref p) G →
      compPost (model X.prog X.w) X.A X.xe none (EP X pins σ Q) (.ref p) C (.ok .next) s5 := fun G s5 I5 hq => by
    have IX : L2.Inv X pins σ G s5 := I3.call' I5.os I5.base I5.hok I5.bare fun b hb => (hf3 b hb).1.2.2.2.imp id fun q => ⟨(hf3 b hb).1.2.1, q⟩
    obtain ⟨m, hm, _⟩ := I5.loc
    obtain ⟨q1, q2, _, q4, q5, q6⟩ := I3.fpOk (H' := G) (b := C) (by rw [hC]; exact Nat.le_refl _) I5.free
    exact ⟨m, hm, fun h' hb => ⟨.ref p, G, IX.turned (it := C) (fun b o hne ho => by rw [hb.2 b hne]; exact ho) q1 q2 q4 q5 q6, rfl, hq⟩⟩
  have loop : codeAny (model X.prog X.w) X.A (Code.compLoop (.DictComp kx vx [⟨tg, iter, [], 0⟩] scope pos) 0 (.ref it) (.ref p) (compEnvC scope cl C X.env)) (compPost (model X.prog X.w) X.A X.xe none (EP X pins σ Q) (.ref p) C) s4 := by
    refine compLoop_anyD (fun m st => ∃ i G, L2.Inv (X.blk s3 H3 scope (compEnvC scope cl C X.env) fp) [] (wipe σ vs) G st ∧ tn i st.heap ∧ (∀ b ∈ fp, G b = none) ∧ Wd i m G) ?_ m0 ⟨0, H3, IB, t4, fun b hb => (hf3 b hb).1.1, w0⟩
    rintro m st ⟨i, G, IG, tG, fG, wd⟩
    rcases go i m G wd with ⟨hst, hq⟩ | ⟨hgo, Aft, aft, nxt⟩
    · refine thnF (T.done (X.blk s3 H3 scope (compEnvC scope cl C X.env) fp) rfl rfl rfl hc i [] st _ G (fun _ _ => False) IG (fun b hb => fpk G b hb (fG b hb)) tG hst) fun r s5 h5 => ?_
      obtain ⟨rfl, I5⟩ := h5
      exact back G s5 I5 hq
    · refine thnF (T.item (X.blk s3 H3 scope (compEnvC scope cl C X.env) fp) rfl rfl rfl hc i [] st _ G (fun _ _ => False) IG (fun b hb => fpk G b hb (fG b hb)) tG hgo) fun r s5 h5 => ?_
      obtain ⟨u, rfl, h5⟩ := h5
      refine thnF h5 fun _ s6 h6 => ?_
      obtain ⟨x, G', I6, rx, hy, t6, f6⟩ := h6
      have P6 := I6.pinned (fun b hb => fpk G' b hb (f6 b hb)) (T.obj _ _ t6)
      refine thnF ((hg s3 H3 C cl fp).run _ s6 _ G' x u _ P6 rx (nxt x G' hy)) fun _ s7 h7 => ?_
      obtain ⟨σ2, G2, I7, hw2, h7⟩ := h7
      refine wpAny_pure ?_
      rw [if_pos rfl]
      refine thnF ((hk s3 H3 C cl fp).run _ s7 σ2 G2 _ I7 h7) fun y s8 h8 => ?_
      obtain ⟨yv, G3, I8, ry, h8⟩ := h8
      refine thnF ((he s3 H3 C cl fp).run _ s8 σ2 G3 _ I8 h8) fun z s9 h9 => ?_
      obtain ⟨zv, G4, I9, rz, b, k, xs, rfl, hb, hp4, hx4, hl4, hn4, haft⟩ := h9
      cases (show y = Value.ref b from ry)
      refine kd_put (X := X.blk s3 H3 scope (compEnvC scope cl C X.env) fp) I9 hu hp4 hx4 hb hl4 hn4 fun s10 I10 => ?_
      obtain ⟨l, hl, wd'⟩ := aft _ (haft z rz)
      have pin9 : ∀ b' ∈ fp, ∀ o, s6.heap.get? b' = some o → s10.heap.get? b' = some o ∧ upd G4 p (KdO p (xs ++ [(k, b, z)])) b' = none := fun b' hb' o ho => by
        have := I10.pin (b', o) (List.mem_append_right _ (List.mem_append_right _ (mem_pinsAt hb' ho)))
        exact ⟨this.1, this.2.1⟩
      refine ⟨l, hl, i + 1, _, I10.unpinned.weak ?_ ?_, T.keep _ _ _ t6 fun b' hb' o ho => (pin9 b' hb' o ho).1, fun b' hb' => ?_, wd'⟩
      · rw [← hw2, wipe_length]
      · intro j v hv
        rw [← hw2] at hv
        exact (wipe_some hv).1
      · obtain ⟨o, ho, _⟩ := T.obj _ _ t6 b' hb'
        exact (pin9 b' hb' o ho).2
  have fin := codeAny_compStart_dict loop (T.self _ 0 _ _ _ t4 loop)
  rw [← hcenv] at fin
  rw [hC] at fin
  exact fin
theorem pe_kd {X : Cx} {kx vx tg iter : Expr} {scope : Scope} {own : List (Str × Nat)} {pos : Pos} {wi : TI} {g : TG} {tk tv : TE}
    (hc : X.calm = true) (hN : X.N.Nodup) (hu : X.A.units < cLine) (hw : PI X tg iter wi) (ok : BlkOk X.N X.env.scope scope own)
    (hg : ∀ (s : Shared) (H : Hp) (C : Addr) (cl : List (Str × Addr)) (fp : List Addr), PG (X.blk s H scope (compEnvC scope cl C X.env) fp) tg g)
    (hk : ∀ (s : Shared) (H : Hp) (C : Addr) (cl : List (Str × Addr)) (fp : List Addr), PE (X.blk s H scope (compEnvC scope cl C X.env) fp) kx tk)
    (he : ∀ (s : Shared) (H : Hp) (C : Addr) (cl : List (Str × Addr)) (fp : List Addr), PE (X.blk s H scope (compEnvC scope cl C X.env) fp) vx tv)
    (hs : ∀ x, foldedSetIterable iter X.env x = pure x := by intro _; rfl) :
    PE X (.DictComp kx vx [⟨tg, iter, [], 0⟩] scope pos) (tKd X.K wi g tk tv (own.map (·.2))) :=
  ⟨fun pins s σ H Q I t => by rw [arm_eval_DictComp]; exact kd_core hc hN hu I hw ok hg hk he hs t⟩
end Mp
set_option Elab.async false
set_option linter.all false
set_option maxRecDepth 100000
set_option maxHeartbeats 4000000
namespace Mp
open PySem PySem.Spec PyProof.Rows L2
/-! {key: value for tg in iter}, the keys tuples of whole numbers (no key twice), the values whole numbers; d[key] -/
def keyF : D → Option (List Int)
  | .tup xs => intsOf xs
  | _ => none
def kdF (own : List Nat) (tg : MG) (mk mv : ME) : List D → List (List Int × Int) → Env → Re D
  | [], acc, env => .ok (.kdt acc) env
  | d :: ds, acc, env => if free_ own env = true then (match tg d (enterE own env) with
      | none => .no
      | some e1 => match mk e1 with
        | .ok y e2 => match mv e2 with
          | .ok z e3 => match keyF y, z with
            | some k, .int i => if k ∉ acc.map (·.1) ∧ acc.length < 1000 then kdF own tg mk mv ds (acc ++ [(k, i)]) (backE env e3) else .no
            | _, _ => .no
          | _ => .no
        | _ => .no) else .no
def mKd (own : List Nat) (mi : ML) (tg : MG) (mk mv : ME) : ME := fun env => (mi env).bind fun ds e => kdF own tg mk mv ds [] e
def atKF : D → D → Option D
  | .kdt kvs, y => match keyF y with
    | some k => (kvs.find? fun p => decide (p.1 = k)).map fun p => D.int p.2
    | none => none
  | _, _ => none
structure KdR (g : Gc) (F : Hp) (xs : List (List Int × Addr × Value)) (kvs : List (List Int × Int)) : Prop where
  hl : xs.length = kvs.length
  hi : ∀ (i : Nat) (x : List Int × Addr × Value) (p : List Int × Int), xs[i]? = some x → kvs[i]? = some p → x.1 = p.1 ∧ SqT g.K F x.2.1 (p.1.map V.int) ∧ RelV (.int p.2) x.2.2
section
variable {g : Gc} {F F' : Hp} {xs : List (List Int × Addr × Value)} {kvs : List (List Int × Int)}
theorem KdR.mono (s : Same F F') (h : KdR g F xs kvs) : KdR g F' xs kvs := ⟨h.hl, fun i x p a b => ⟨(h.hi i x p a b).1, same_t s (h.hi i x p a b).2.1, (h.hi i x p a b).2.2⟩⟩
theorem KdR.nil : KdR g F [] [] := ⟨rfl, fun i x p a _ => by simp at a⟩
theorem KdR.snoc (h : KdR g F xs kvs) {k : List Int} {b : Addr} {r : Value} {i : Int} (hb : SqT g.K F b (k.map V.int)) (hr : RelV (.int i) r) : KdR g F (xs ++ [(k, b, r)]) (kvs ++ [(k, i)]) :=
  ⟨by simp [h.hl], fun j x p a c => by
    by_cases hj : j < xs.length
    · rw [List.getElem?_append_left hj] at a
      rw [List.getElem?_append_left (h.hl ▸ hj)] at c
      exact h.hi j x p a c
    · rw [List.getElem?_append_right (by omega)] at a
      rw [List.getElem?_append_right (by rw [← h.hl]; omega)] at c
      rw [h.hl] at a
      cases hz : j - kvs.length with
      | zero =>
        rw [hz] at a c
        cases a
        cases c
        exact ⟨rfl, hb, hr⟩
      | succ m => rw [hz] at a; simp at a⟩
theorem KdR.keys (h : KdR g F xs kvs) : xs.map (·.1) = kvs.map (·.1) := by
  refine List.ext_getElem? fun i => ?_
  rw [List.getElem?_map, List.getElem?_map]
  cases e : xs[i]? with
  | none =>
    have h1 : xs.length ≤ i := List.getElem?_eq_none_iff.mp e
    rw [List.getElem?_eq_none (by rw [← h.hl]; exact h1)]
    rfl
  | some x =>
    have h1 : i < xs.length := (List.getElem?_eq_some_iff.mp e).1
    have h2 : i < kvs.length := by rw [← h.hl]; exact h1
    rw [List.getElem?_eq_getElem h2]
    exact congrArg some (h.hi i x _ e (List.getElem?_eq_getElem h2)).1
theorem KdR.tuples (h : KdR g F xs kvs) : ∀ x ∈ xs, SqT g.K F x.2.1 (x.1.map V.int) := fun x hx => by
  obtain ⟨i, hi⟩ := List.getElem?_of_mem hx
  have h1 : i < xs.length := (List.getElem?_eq_some_iff.mp hi).1
  have h2 : i < kvs.length := by rw [← h.hl]; exact h1
  have q := h.hi i x _ hi (List.getElem?_eq_getElem h2)
  rw [q.1]
  exact q.2.1
theorem KdR.tail {x : List Int × Addr × Value} {p : List Int × Int} (h : KdR g F (x :: xs) (p :: kvs)) : KdR g F xs kvs := ⟨by simpa using h.hl, fun i y q a b => h.hi (i + 1) y q (by simpa using a) (by simpa using b)⟩
theorem KdR.find : ∀ {xs : List (List Int × Addr × Value)} {kvs : List (List Int × Int)}, KdR g F xs kvs → ∀ {k : List Int} {p : List Int × Int}, (kvs.find? fun p => decide (p.1 = k)) = some p → ∃ e, atKey xs k = some e ∧ RelV (.int p.2) e.2
  | [], [], _, k, p, e => by simp at e
  | [], _ :: _, h, _, _, _ => by have := h.hl; simp at this
  | _ :: _, [], h, _, _, _ => by have := h.hl; simp at this
  | x :: xs, q :: kvs, h, k, p, e => by
    have h0 := h.hi 0 x q rfl rfl
    rw [List.find?_cons] at e
    by_cases hk : q.1 = k
    · rw [decide_eq_true hk] at e
      cases e
      exact ⟨x.2, by simp [atKey, List.find?_cons, h0.1, hk], h0.2.2⟩
    · rw [decide_eq_false hk] at e
      obtain ⟨y, h1, h2⟩ := KdR.find h.tail e
      refine ⟨y, ?_, h2⟩
      unfold atKey at h1 ⊢
      rw [List.find?_cons, decide_eq_false (by rw [h0.1]; exact hk)]
      exact h1
theorem key_rep {v : V} {d : D} {k : List Int} (h : Rep g F v d) (e : keyF d = some k) : ∃ b, v = .ref b ∧ SqT g.K F b (k.map V.int) := by
  cases h with
  | tup a vs ds h hl hi =>
    have := intsOf_ok (g := g) (F := F) (show intsOf ds = some k from e) ⟨hl, hi⟩
    subst this
    exact ⟨a, rfl, h⟩
  | _ => simp [keyF] at e
end
section
variable {g : Gc} {W : WX} {φ : Fc} {X : Cx} {k : Nat}
theorem se_kd {own : List (Str × Nat)} {ws : List Nat} {kx vx tg iter : Expr} {scope : Scope} {pos : Pos} {mi : ML} {mg : MG} {mk mv : ME} (c : Cok g X W k) (hu : X.A.units < cLine) (hi : SI g W φ X tg iter mi) (ok : BlkOk X.N X.env.scope scope own)
    (hg : ∀ (s : Shared) (H : Hp) (C : Addr) (cl : List (Str × Addr)) (fp : List Addr) (φ : Fc), SG g φ (X.blk s H scope (compEnvC scope cl C X.env) fp) ws tg mg) (hws : ∀ i ∈ ws, i ∈ own.map (·.2))
    (hk : ∀ (s : Shared) (H : Hp) (C : Addr) (cl : List (Str × Addr)) (fp : List Addr) (φ : Fc), SE g W0 φ (X.blk s H scope (compEnvC scope cl C X.env) fp) kx mk)
    (he : ∀ (s : Shared) (H : Hp) (C : Addr) (cl : List (Str × Addr)) (fp : List Addr) (φ : Fc), SE g W0 φ (X.blk s H scope (compEnvC scope cl C X.env) fp) vx mv)
    (hs : ∀ x, foldedSetIterable iter X.env x = pure x := by intro _; rfl) :
    SE g W φ X (.DictComp kx vx [⟨tg, iter, [], 0⟩] scope pos) (mKd (own.map (·.2)) mi mg mk mv) := by
  intro F σ H env Q hr hp
  refine ⟨_, pe_kd
    (g := fun v σ H Q => ∀ (s : Shared) (H' : Hp) (C : Addr) (cl : List (Str × Addr)) (fp : List Addr), wG (X.blk s H' scope (compEnvC scope cl C X.env) fp) tg v σ H Q)
    (tk := fun σ H Q => ∀ (s : Shared) (H' : Hp) (C : Addr) (cl : List (Str × Addr)) (fp : List Addr), wE (X.blk s H' scope (compEnvC scope cl C X.env) fp) kx σ H Q)
    (tv := fun σ H Q => ∀ (s : Shared) (H' : Hp) (C : Addr) (cl : List (Str × Addr)) (fp : List Addr), wE (X.blk s H' scope (compEnvC scope cl C X.env) fp) vx σ H Q)
    c.calm c.nd hu w_pi ok (fun s H C cl fp => ⟨fun pins s1 σ H1 v u Q I r h => w_pg.run pins s1 σ H1 v u Q I r (h s H C cl fp)⟩)
    (fun s H C cl fp => ⟨fun pins s1 σ H1 Q I h => w_pe.run pins s1 σ H1 Q I (h s H C cl fp)⟩)
    (fun s H C cl fp => ⟨fun pins s1 σ H1 Q I h => w_pe.run pins s1 σ H1 Q I (h s H C cl fp)⟩) hs, ?_⟩
  refine hi F σ H env _ hr (iE hp fun ds e1 J H1 F1 s1 r1 w1 hp1 => ?_)
  generalize own.map (·.2) = vs at hp1 hws ⊢
  intro p hp0
  refine ⟨fun i m H2 => ∃ F2 env2 acc xs, Same F1 F2 ∧ Rel g φ F2 σ H2 env2 ∧ H2 p = some (KdO p xs) ∧ KdR g F2 xs acc ∧ F2 p = none ∧ φ.H0 p = none ∧ NotOwn σ env2 p ∧ PoE g W φ F2 σ Q (kdF vs mg mk mv (ds.drop i) acc env2) ∧ m = ds.length - i,
    ⟨ds.length, F1, e1, [], [], Same.refl _, r1.loose hp0, upd_same, KdR.nil, r1.ex.free hp0, r1.h0 hp0, r1.freshOwn hp0, hp1, rfl⟩, ?_⟩
  rintro i m H2 ⟨F2, env2, acc, xs, s2, r2, hpa, kr, hpF, hp00, hpo, rest, rfl⟩
  obtain ⟨wgo, wstop⟩ := w1 φ F2 σ H2 env2 i s2 r2
  by_cases hl : i < ds.length
  · have ed : ds.drop i = ds[i] :: ds.drop (i + 1) := List.drop_eq_getElem_cons hl
    rw [ed] at rest
    obtain ⟨go, yl⟩ := wgo ds[i] (List.getElem?_eq_getElem hl)
    refine .inr ⟨go, fun H' => ∃ F3 env3 acc xs, Same F1 F3 ∧ Rel g φ F3 σ H' env3 ∧ H' p = some (KdO p xs) ∧ KdR g F3 xs acc ∧ F3 p = none ∧ φ.H0 p = none ∧ NotOwn σ env3 p ∧ PoE g W φ F3 σ Q (kdF vs mg mk mv (ds.drop (i + 1)) acc env3),
      fun H' ⟨F3, env3, acc, xs, a1, a2, a3, a4, a5, a6, a7, a8⟩ => ⟨_, by omega, F3, env3, acc, xs, a1, a2, a3, a4, a5, a6, a7, a8, rfl⟩, fun x H' hy => ?_⟩
    obtain ⟨F3, s3, sH, nw, r3, p3⟩ := yl x H' hy
    have hpa' : H' p = some (KdO p xs) := sH _ _ hpa
    have hpF' : F3 p = none := by
      cases ef : F3 p with
      | none => rfl
      | some o =>
        rcases nw p o ef with h | h
        · rw [hpF] at h; cases h
        · rw [hpa] at h; cases h
    unfold kdF at rest
    by_cases hf : free_ vs env2 = true
    · rw [if_pos hf] at rest
      have r4 := r3.enter hf
      cases et : mg ds[i] (enterE vs env2) with
      | none => rw [et] at rest; exact rest.elim
      | some e1' =>
        rw [et] at rest
        simp only at rest
        intro s5 H5 C5 cl5 fp5
        refine hg s5 H5 C5 cl5 fp5 (fcE σ env2 H' F3) F3 _ H' _ x ds[i] e1' _ r4 p3 et fun σ4 o4 r5 => ?_
        have hw := wipe_eq hws o4
        refine ⟨hw, ?_⟩
        intro s9 H9 C9 cl9 fp9
        cases ek : mk e1' with
        | exc c v e => rw [ek] at rest; exact rest.elim
        | no => rw [ek] at rest; exact rest.elim
        | ok yd e2 =>
          rw [ek] at rest
          simp only at rest
          refine hk s9 H9 C9 cl9 fp9 (fcE σ env2 H' F3) F3 σ4 H' e1' _ r5 ?_
          rw [ek]
          intro y H8 F8 s8 r8 py
          intro s11 H11 C11 cl11 fp11
          cases ev : mv e2 with
          | exc c v e => rw [ev] at rest; exact rest.elim
          | no => rw [ev] at rest; exact rest.elim
          | ok zd e3 =>
            rw [ev] at rest
            simp only at rest
            refine he s11 H11 C11 cl11 fp11 (fcE σ env2 H' F3) F8 σ4 H8 e2 _ r8 ?_
            rw [ev]
            intro z H10 F10 s10 r10 pz
            have q1 : Rel g φ F10 σ H10 (backE env2 e3) := r3.exit hf r10 hw (s8.trans s10)
            have q2 : H10 p = some (KdO p xs) := by
              refine r10.fr p _ hpa' fun q hq z => ?_
              obtain ⟨h1, b', xs', h2⟩ := mem_ioE.mp (show q ∈ ioE σ env2 from hq)
              exact hpo q.1 b' xs' q.2 h2 h1 z
            have q3 : F10 p = none := by
              cases ef : F10 p with
              | none => rfl
              | some o =>
                rcases r10.new p o ef with h | h
                · have h' : F3 p = some o := h
                  rw [hpF'] at h'; cases h'
                · have h' : H' p = none := h
                  rw [hpa'] at h'; cases h'
            have q4 : NotOwn σ (backE env2 e3) p := by
              intro j b' xs' a h1 h2
              obtain ⟨s0, s1, k1, k2, k3⟩ := backE_at h1
              cases s0 with
              | va d' => cases k3
              | un => cases k3
              | ow b0 xs0 => exact hpo j b0 xs0 a k1 h2
            cases eky : keyF yd with
            | none => rw [eky] at rest; exact rest.elim
            | some kk =>
              rw [eky] at rest
              cases zd with
              | int ii =>
                simp only at rest
                by_cases hc : kk ∉ acc.map (·.1) ∧ acc.length < 1000
                · rw [if_pos hc] at rest
                  obtain ⟨b, rfl, hb⟩ := key_rep py eky
                  have kr' : KdR g F10 xs acc := kr.mono (s3.trans (s8.trans s10))
                  refine ⟨b, kk, xs, rfl, by rw [c.K]; exact same_t r10.ex (same_t s10 hb), q2, fun x hx => by rw [c.K]; exact same_t r10.ex (kr'.tuples x hx), by rw [kr.hl]; exact hc.2, by rw [kr.keys]; exact hc.1, fun r hr => ?_⟩
                  refine ⟨F10, _, acc ++ [(kk, ii)], xs ++ [(kk, b, r)], s2.trans (s3.trans (s8.trans s10)), q1.mut q3 hp00 q4, upd_same, kr'.snoc (same_t s10 hb) (by cases pz; exact hr), q3, hp00, q4, ?_⟩
                  exact PoE.mono (s3.trans (s8.trans s10)) rest
                · rw [if_neg hc] at rest
                  exact rest.elim
              | _ => exact rest.elim
    · rw [if_neg hf] at rest
      exact rest.elim
  · have ed : ds.drop i = [] := List.drop_eq_nil_of_le (by omega)
    rw [ed] at rest
    unfold kdF at rest
    refine .inl ⟨wstop (by omega), ?_⟩
    obtain ⟨s3, r3⟩ := r2.settle hpa hpF hp00 hpo
    have kr' := kr.mono s3
    exact rest _ _ _ s3 r3 (.kdt p xs acc upd_same kr'.hl kr'.hi)
/-! d[key] -/
def rIxKd (K : PySem.W.Frag) : R2 := fun x y H Q => ∃ (p b : Addr) (xs : List (List Int × Addr × Value)) (kk : List Int) (e : Addr × Value) (v : V), x = .ref p ∧ y = .ref b ∧ H p = some (KdO p xs) ∧ (∀ x ∈ xs, SqT K H x.2.1 (x.1.map V.int)) ∧ SqT K H b (kk.map V.int) ∧ atKey xs kk = some e ∧ RelV v e.2 ∧ Q v H
theorem ix_kd (hu : X.A.units + 1 < cLine) : IxR X (rIxKd X.K) := by
  intro value slice pins s σ H x y v u Q I rx ry h hs
  obtain ⟨p, b, xs, kk, e, r, rfl, rfl, hp, hx, hb, he, rv, q⟩ := h
  obtain rfl : v = Value.ref p := rx
  obtain rfl : u = Value.ref b := ry
  obtain ⟨hm, _⟩ := kd_there I hp hx
  exact tail_any hm.typeIs PySem.F.slot_dict_getitem.lookup (wpAny_getItem_heap (tupleKind_room_in1 hu) (I.isT hb) hm he ⟨r, H, I.tok _, rv, q⟩) hs
theorem ix_atK (hK : X.K = g.K) (hu : X.A.units + 1 < cLine) : OpS g φ (wI X) atKF := by
  intro F σ H env v u x y z Q hr hx hy hf hq
  cases x with
  | kdt kvs =>
    simp only [atKF] at hf
    cases ek : keyF y with
    | none => rw [ek] at hf; cases hf
    | some kk =>
      rw [ek] at hf
      obtain ⟨q, h1, rfl⟩ := Option.map_eq_some_iff.mp hf
      have hx' : Rep g F v (.kdt kvs) := by cases hx with | of h => exact h
      have hy' : Rep g F u y := by
        cases hy with
        | of h => exact h
        | ow h r => simp [keyF] at ek
      obtain ⟨b, rfl, hb⟩ := key_rep hy' ek
      cases hx' with
      | kdt a xs _ h hl hi =>
        obtain ⟨e, e1, e2⟩ := KdR.find ⟨hl, hi⟩ h1
        exact ⟨_, ix_kd hu, a, b, xs, kk, e, _, rfl, rfl, hr.ex _ _ h, fun x hx => by rw [hK]; exact same_t hr.ex (KdR.tuples ⟨hl, hi⟩ x hx), by rw [hK]; exact same_t hr.ex hb, e1, e2, hq _ _ _ (Same.refl _) hr (.int _)⟩
  | _ => simp only [atKF, reduceCtorEq] at hf
end
end Mp
set_option Elab.async false
set_option linter.all false
set_option maxRecDepth 100000
set_option maxHeartbeats 4000000
/-! [elt for tg in iter for tg1 in iter1 if test] -/
namespace Mp
open PySem PySem.Spec PyProof.Rows L2
def lcJ (vs1 : List Nat) (tg1 : MG) (ts : MT) (elt : ME) : List D → Env → Re (List D)
  | [], e => .ok [] e
  | d :: ds, e => match tg1 d e with
    | none => .no
    | some e1 => match ts e1 with
      | .ok true e8 => (elt e8).nx fun x e2 => if (free_ vs1 e2 && allT e2) = true then (lcJ vs1 tg1 ts elt ds (wipeE e2 vs1)).nx fun xs e3 => .ok (x :: xs) e3 else .no
      | .ok false e8 => if (free_ vs1 e8 && allT e8) = true then lcJ vs1 tg1 ts elt ds (wipeE e8 vs1) else .no
      | _ => .no
def lcP (own vs1 : List Nat) (tg : MG) (mi1 : ML) (tg1 : MG) (ts : MT) (elt : ME) : List D → Env → Re (List D)
  | [], env => .ok [] env
  | d :: ds, env => if free_ own env = true then
      match tg d (enterE own env) with
      | none => .no
      | some e1 => (mi1 e1).nx fun ds1 e2 => if (free_ vs1 e2 && allT e2) = true then (lcJ vs1 tg1 ts elt ds1 (wipeE e2 vs1)).nx fun xs e3 => (lcP own vs1 tg mi1 tg1 ts elt ds (backE env e3)).nx fun ys e4 => .ok (xs ++ ys) e4 else .no
    else .no
def lLc3 (own vs1 : List Nat) (mi : ML) (tg : MG) (mi1 : ML) (tg1 : MG) (ts : MT) (elt : ME) : ML := fun env => (mi env).bind fun ds e => (lcP own vs1 tg mi1 tg1 ts elt ds e).nx fun xs e1 => if xs.length ≤ line then .ok xs e1 else .no
section
variable {g : Gc} {W : WX} {φ : Fc} {X : Cx} {k : Nat} {F F0 : Hp} {σ σ3 : L2.St} {H H0 H9 : Hp} {e ev ev' : Env} {vs1 : List Nat} {p : Addr}
theorem lcJ_exc {tg1 : MG} {ts : MT} {elt : ME} {c : Str} {v : D} {e' : Env} : ∀ (ds : List D) (e : Env), lcJ vs1 tg1 ts elt ds e ≠ .exc c v e'
  | [], e => by simp [lcJ]
  | d :: ds, e => by
    unfold lcJ
    cases tg1 d e with
    | none => simp
    | some e1 =>
      simp only
      cases ts e1 with
      | exc c v e => simp
      | no => simp
      | ok b e8 =>
        cases b with
        | false =>
          simp only
          split
          · exact lcJ_exc ds _
          · simp
        | true =>
          simp only
          cases elt e8 with
          | exc c v e => simp [Re.nx]
          | no => simp [Re.nx]
          | ok x e2 =>
            simp only [Re.nx]
            split
            · cases h : lcJ vs1 tg1 ts elt ds (wipeE e2 vs1) <;> simp
            · simp
theorem lcP_exc {own : List Nat} {tg tg1 : MG} {mi1 : ML} {ts : MT} {elt : ME} {c : Str} {v : D} {e' : Env} : ∀ (ds : List D) (e : Env), lcP own vs1 tg mi1 tg1 ts elt ds e ≠ .exc c v e'
  | [], e => by simp [lcP]
  | d :: ds, e => by
    unfold lcP
    split
    · cases tg d (enterE own e) with
      | none => simp
      | some e1 =>
        simp only
        cases mi1 e1 with
        | exc c v e => simp [Re.nx]
        | no => simp [Re.nx]
        | ok ds1 e2 =>
          simp only [Re.nx]
          split
          · cases h : lcJ vs1 tg1 ts elt ds1 (wipeE e2 vs1) with
            | exc c v e => simp
            | no => simp
            | ok xs e3 =>
              simp only
              cases h2 : lcP own vs1 tg mi1 tg1 ts elt ds (backE e e3) <;> simp
          · simp
    · simp
theorem sl_lc3 {ws ws1 : List Nat} {elt tg iter tg1 iter1 : Expr} {ifs : List Expr} {mt : MT} {scope : Scope} {own : List (Str × Nat)} {pos : Pos} {mi mi1 : ML} {mg mg1 : MG} {me : ME} (c : Cok g X W k) (hi : SI g W φ X tg iter mi) (ok : BlkOk X.N X.env.scope scope own) (hv : ∀ i ∈ vs1, i ∈ own.map (·.2))
    (hg : ∀ (s : Shared) (H : Hp) (C : Addr) (cl : List (Str × Addr)) (fp : List Addr) (φ : Fc), SG g φ (X.blk s H scope (compEnvC scope cl C X.env) fp) ws tg mg) (hws : ∀ i ∈ ws, i ∈ own.map (·.2))
    (hi1 : ∀ (s : Shared) (H : Hp) (C : Addr) (cl : List (Str × Addr)) (fp : List Addr) (φ : Fc), SI g W0 φ (X.blk s H scope (compEnvC scope cl C X.env) fp) tg1 iter1 mi1)
    (hg1 : ∀ (s : Shared) (H : Hp) (C : Addr) (cl : List (Str × Addr)) (fp : List Addr) (φ : Fc), SG g φ (X.blk s H scope (compEnvC scope cl C X.env) fp) ws1 tg1 mg1) (hws1 : ∀ i ∈ ws1, i ∈ vs1)
    (ht : ∀ (s : Shared) (H : Hp) (C : Addr) (cl : List (Str × Addr)) (fp : List Addr) (φ : Fc), STs g W0 φ (X.blk s H scope (compEnvC scope cl C X.env) fp) ifs mt)
    (he : ∀ (s : Shared) (H : Hp) (C : Addr) (cl : List (Str × Addr)) (fp : List Addr) (φ : Fc), SE g W0 φ (X.blk s H scope (compEnvC scope cl C X.env) fp) elt me)
    (hs : ∀ x, foldedSetIterable iter X.env x = pure x := by intro _; rfl) (hs1 : ∀ env x, foldedSetIterable iter1 env x = pure x := by intro _ _; rfl) :
    SL g W φ X (.ListComp elt [⟨tg, iter, [], 0⟩, ⟨tg1, iter1, ifs, 0⟩] scope pos) (lLc3 (own.map (·.2)) vs1 mi mg mi1 mg1 mt me) := by
  intro F σ H env Q hr hp
  refine ⟨_, pe_lc2 (vs1 := vs1) (tt := tYes)
    (tt1 := fun σ H Q => ∀ (s : Shared) (H' : Hp) (C : Addr) (cl : List (Str × Addr)) (fp : List Addr), ∃ t, PTs (X.blk s H' scope (compEnvC scope cl C X.env) fp) ifs t ∧ t σ H Q)
    (g := fun v σ H Q => ∀ (s : Shared) (H' : Hp) (C : Addr) (cl : List (Str × Addr)) (fp : List Addr), wG (X.blk s H' scope (compEnvC scope cl C X.env) fp) tg v σ H Q)
    (wi1 := fun σ H R => ∀ (s : Shared) (H' : Hp) (C : Addr) (cl : List (Str × Addr)) (fp : List Addr), wIt (X.blk s H' scope (compEnvC scope cl C X.env) fp) tg1 iter1 σ H R)
    (g1 := fun v σ H Q => ∀ (s : Shared) (H' : Hp) (C : Addr) (cl : List (Str × Addr)) (fp : List Addr), wG (X.blk s H' scope (compEnvC scope cl C X.env) fp) tg1 v σ H Q)
    (te := fun σ H Q => ∀ (s : Shared) (H' : Hp) (C : Addr) (cl : List (Str × Addr)) (fp : List Addr), wE (X.blk s H' scope (compEnvC scope cl C X.env) fp) elt σ H Q)
    c.calm c.nd w_pi ok hv (fun s H C cl fp => ⟨fun pins s1 σ H1 v u Q I r h => w_pg.run pins s1 σ H1 v u Q I r (h s H C cl fp)⟩) (fun _ _ _ _ _ => pts_nil)
    (fun s H C cl fp => ⟨fun pins s1 σ H1 R I h => w_pi.run pins s1 σ H1 R I (h s H C cl fp)⟩) (fun s H C cl fp => ⟨fun pins s1 σ H1 v u Q I r h => w_pg.run pins s1 σ H1 v u Q I r (h s H C cl fp)⟩) (fun s H C cl fp => ⟨fun pins s1 σ H1 Q I h => by obtain ⟨t, h1, h2⟩ := h s H C cl fp; exact h1.run pins s1 σ H1 Q I h2⟩)
    (fun s H C cl fp => ⟨fun pins s1 σ H1 Q I h => w_pe.run pins s1 σ H1 Q I (h s H C cl fp)⟩) hs hs1, ?_⟩
  refine hi F σ H env _ hr (il hp fun ds e1 J H1 F1 s1 r1 w1 hp1 => ?_)
  generalize own.map (·.2) = vs at hp1 hws hv ⊢
  intro p hp0
  let Rest : Hp → Nat → Env → List D → Prop := fun F2 i env2 acc =>
    PoL g W φ F2 σ Q ((lcP vs vs1 mg mi1 mg1 mt me (ds.drop i) env2).nx fun xs e => if (acc ++ xs).length ≤ line then .ok (acc ++ xs) e else .no)
  refine ⟨fun i m H2 => ∃ F2 env2 acc accd, Same F1 F2 ∧ Rel g φ F2 σ H2 env2 ∧ H2 p = some (.lst acc) ∧ F2 p = none ∧ φ.H0 p = none ∧ NotOwn σ env2 p ∧ Reps g F2 acc accd ∧ Rest F2 i env2 accd ∧ m = ds.length - i,
    ⟨ds.length, F1, e1, [], [], Same.refl _, r1.loose hp0, upd_same, r1.ex.free hp0, r1.h0 hp0, r1.freshOwn hp0, .nil, ?_, rfl⟩, ?_⟩
  · exact hp1
  rintro i m H2 ⟨F2, env2, acc, accd, s2, r2, hpa, hpF, hp00, hpo, ra, rest, rfl⟩
  obtain ⟨wgo, wstop⟩ := w1 φ F2 σ H2 env2 i s2 r2
  by_cases hl : i < ds.length
  · have ed : ds.drop i = ds[i] :: ds.drop (i + 1) := List.drop_eq_getElem_cons hl
    simp only [Rest] at rest
    rw [ed] at rest
    obtain ⟨go, yl⟩ := wgo ds[i] (List.getElem?_eq_getElem hl)
    refine .inr ⟨go, fun H' => ∃ F3 env3 acc accd, Same F1 F3 ∧ Rel g φ F3 σ H' env3 ∧ H' p = some (.lst acc) ∧ F3 p = none ∧ φ.H0 p = none ∧ NotOwn σ env3 p ∧ Reps g F3 acc accd ∧ Rest F3 (i + 1) env3 accd,
      fun H' ⟨F3, env3, acc, accd, a1, a2, a3, a4, a5, a6, a7, a8⟩ => ⟨_, by omega, F3, env3, acc, accd, a1, a2, a3, a4, a5, a6, a7, a8, rfl⟩, fun x H' hy => ?_⟩
    obtain ⟨F3, s3, sH, nw, r3, p3⟩ := yl x H' hy
    have hpa' : H' p = some (.lst acc) := sH _ _ hpa
    have hpF' : F3 p = none := by
      cases ef : F3 p with
      | none => rfl
      | some o =>
        rcases nw p o ef with h | h
        · rw [hpF] at h; cases h
        · rw [hpa] at h; cases h
    unfold lcP at rest
    by_cases hf : free_ vs env2 = true
    · rw [if_pos hf] at rest
      have r4 := r3.enter hf
      cases et : mg ds[i] (enterE vs env2) with
      | none => rw [et] at rest; exact rest.elim
      | some e1' =>
        rw [et] at rest
        simp only at rest
        intro s5 H5 C5 cl5 fp5
        refine hg s5 H5 C5 cl5 fp5 (fcE σ env2 H' F3) F3 _ H' _ x ds[i] e1' _ r4 p3 et fun σ4 o4 r5 => ?_
        have hw := wipe_eq hws o4
        refine ⟨hw, ?_⟩
        dsimp only [tYes]
        rw [if_pos rfl]
        intro s6 H6 C6 cl6 fp6
        refine hi1 s6 H6 C6 cl6 fp6 (fcE σ env2 H' F3) F3 σ4 H' e1' _ r5 ?_
        cases em : mi1 e1' with
        | exc c v e => rw [em] at rest; exact rest.elim
        | no => rw [em] at rest; exact rest.elim
        | ok ds1 e2 =>
          rw [em] at rest
          simp only [Re.nx] at rest
          intro J1 H4 F4 s4 r6 wk
          by_cases hft : (free_ vs1 e2 && allT e2) = true
          · rw [if_pos hft] at rest
            rw [Bool.and_eq_true] at hft
            -- what holds at the beginning of the inner loop
            have hl4 : σ4.length = σ.length := by
              have := congrArg List.length hw
              rwa [L2.wipe_length, L2.wipe_length] at this
            have le2 : e2.length = env2.length := by rw [← r6.len, hl4, r3.len]
            have ok4 : ∀ (q : Nat) b xs, env2[q]? = some (Sl.ow b xs) → ∃ ys, e2[q]? = some (Sl.ow true ys) := fun q b xs h => by
              obtain ⟨a, vs', k1, _⟩ := r3.ow q b xs h
              obtain ⟨_, ys, k2⟩ := r6.ioh (q, a) (mem_ioE.mpr ⟨k1, b, xs, h⟩)
              exact ⟨ys, k2⟩
            have hp4 : H4 p = some (.lst acc) := r6.fr p _ hpa' fun q hq z => by
              obtain ⟨h1, b', xs', h2⟩ := mem_ioE.mp (show q ∈ ioE σ env2 from hq)
              exact hpo q.1 b' xs' q.2 h2 h1 z
            have hF4 : F4 p = none := by
              cases ef : F4 p with
              | none => rfl
              | some o =>
                rcases r6.new p o ef with h | h
                · have h' : F3 p = some o := h
                  rw [hpF'] at h'; cases h'
                · have h' : H' p = none := h
                  rw [hpa'] at h'; cases h'
            have bw : ∀ e : Env, backE env2 (wipeE e vs1) = backE env2 e := fun e => backE_wipe hf hv
            have out4 : Rel g φ F4 σ H4 (backE env2 (wipeE e2 vs1)) := by
              rw [bw]
              exact r3.exit hf r6 hw s4
            have noBack : ∀ e : Env, NotOwn σ (backE env2 e) p := fun e j b' xs' a h1 h2 => by
              obtain ⟨s0, s1, k1, k2, k3⟩ := backE_at h1
              cases s0 with
              | va d' => cases k3
              | un => cases k3
              | ow b0 xs0 => exact hpo j b0 xs0 a k1 h2
            have io4 : ioE σ (backE env2 (wipeE e2 vs1)) = ioE σ env2 := by
              rw [bw]
              exact io_back le2 ok4
            have in4 : Rel g (fcE σ (backE env2 (wipeE e2 vs1)) H4 F4) F4 (L2.wipe σ4 vs1) H4 (wipeE e2 vs1) := Rel.inner (p := p) r6 (fun b _ => rfl) hF4 hpo io4 hft.1 hft.2
            let RestI : Hp → Nat → Env → List D → Prop := fun F2 j ej acc =>
              PoL g W φ F2 σ Q ((lcJ vs1 mg1 mt me (ds1.drop j) ej).nx fun xs e3 => (lcP vs vs1 mg mi1 mg1 mt me (ds.drop (i + 1)) (backE env2 e3)).nx fun ys e4 => if (acc ++ (xs ++ ys)).length ≤ line then .ok (acc ++ (xs ++ ys)) e4 else .no)
            refine ⟨fun j m H => ∃ Fj ej acc accd, Same F4 Fj ∧ Rel g φ Fj σ H (backE env2 ej) ∧ Rel g (fcE σ (backE env2 ej) H Fj) Fj (L2.wipe σ4 vs1) H ej ∧ ej.length = env2.length ∧ ioE σ (backE env2 ej) = ioE σ env2 ∧ H p = some (.lst acc) ∧ Fj p = none ∧ Reps g Fj acc accd ∧ RestI Fj j ej accd ∧ m = ds1.length - j,
              ⟨ds1.length, F4, wipeE e2 vs1, acc, accd, Same.refl _, out4, in4, by rw [wipeE_length, le2], io4, hp4, hF4, ra.mono (s3.trans s4), ?_, rfl⟩, ?_⟩
            · refine PoL.mono (s3.trans s4) ?_
              show PoL g W φ F2 σ Q ((lcJ vs1 mg1 mt me ds1 (wipeE e2 vs1)).nx fun xs e3 => (lcP vs vs1 mg mi1 mg1 mt me (ds.drop (i + 1)) (backE env2 e3)).nx fun ys e4 => if (accd ++ (xs ++ ys)).length ≤ line then .ok (accd ++ (xs ++ ys)) e4 else .no)
              cases hq : lcJ vs1 mg1 mt me ds1 (wipeE e2 vs1) with
              | exc c v e => exact absurd hq (lcJ_exc _ _)
              | no => rw [hq] at rest; exact rest.elim
              | ok xs e3 =>
                rw [hq] at rest
                simp only at rest
                simp only [Re.nx]
                cases hq2 : lcP vs vs1 mg mi1 mg1 mt me (ds.drop (i + 1)) (backE env2 e3) with
                | exc c v e => exact absurd hq2 (lcP_exc _ _)
                | no => rw [hq2] at rest; exact rest.elim
                | ok ys e4 =>
                  rw [hq2] at rest
                  exact rest
            rintro j m H5 ⟨Fj, ej, acc, accd, s5, ro, rin, lej, ioj, hpj, hFj, raj, restI, rfl⟩
            obtain ⟨wgo1, wstop1⟩ := wk (fcE σ (backE env2 ej) H5 Fj) Fj (L2.wipe σ4 vs1) H5 ej j s5 rin
            by_cases hl1 : j < ds1.length
            · have ed1 : ds1.drop j = ds1[j] :: ds1.drop (j + 1) := List.drop_eq_getElem_cons hl1
              simp only [RestI] at restI
              rw [ed1] at restI
              obtain ⟨go1, yl1⟩ := wgo1 ds1[j] (List.getElem?_eq_getElem hl1)
              refine .inr ⟨go1, fun H => ∃ Fj ej acc accd, Same F4 Fj ∧ Rel g φ Fj σ H (backE env2 ej) ∧ Rel g (fcE σ (backE env2 ej) H Fj) Fj (L2.wipe σ4 vs1) H ej ∧ ej.length = env2.length ∧ ioE σ (backE env2 ej) = ioE σ env2 ∧ H p = some (.lst acc) ∧ Fj p = none ∧ Reps g Fj acc accd ∧ RestI Fj (j + 1) ej accd,
                fun H ⟨Fj, ej, acc, accd, a1, a2, a3, a4, a5, a6, a7, a8, a9⟩ => ⟨_, by omega, Fj, ej, acc, accd, a1, a2, a3, a4, a5, a6, a7, a8, a9, rfl⟩, fun x H6 hy6 => ?_⟩
              obtain ⟨F6, s6', sH6, nw6, r7, p7⟩ := yl1 x H6 hy6
              unfold lcJ at restI
              cases et1 : mg1 ds1[j] ej with
              | none => rw [et1] at restI; exact restI.elim
              | some e1'' =>
                rw [et1] at restI
                simp only at restI
                intro s8 H8' C8 cl8 fp8
                refine hg1 s8 H8' C8 cl8 fp8 (fcE σ (backE env2 ej) H5 Fj) F6 _ H6 _ x ds1[j] e1'' _ r7 p7 et1 fun σ7 o7 r8 => ?_
                have hw7 := wipe_eq hws1 o7
                refine ⟨hw7, ?_⟩
                intro s10 H10' C10 cl10 fp10
                have nb := noBack ej
                have turn : ∀ {e9 : Env} {H9 F9 : Hp}, Same F6 F9 → Rel g (fcE σ (backE env2 ej) H5 Fj) F9 σ7 H9 e9 → free_ vs1 e9 = true → allT e9 = true →
                    H9 p = some (.lst acc) ∧ F9 p = none ∧ Rel g φ F9 σ H9 (backE env2 (wipeE e9 vs1)) ∧ ioE σ (backE env2 (wipeE e9 vs1)) = ioE σ env2 ∧ e9.length = env2.length ∧
                    ∀ Hn : Hp, (∀ b, b ≠ p → Hn b = H9 b) → Rel g (fcE σ (backE env2 (wipeE e9 vs1)) Hn F9) F9 (L2.wipe σ4 vs1) Hn (wipeE e9 vs1) := fun {e9 H9 F9} s9' r9 hf9 ht9 => by
                  have hp9 : H9 p = some (.lst acc) := r9.fr p _ hpj fun q hq z => by
                    obtain ⟨h1, b', xs', h2⟩ := mem_ioE.mp (show q ∈ ioE σ (backE env2 ej) from hq)
                    exact nb q.1 b' xs' q.2 h2 h1 z
                  have hF9 : F9 p = none := by
                    cases ef : F9 p with
                    | none => rfl
                    | some o =>
                      rcases r9.new p o ef with h | h
                      · have h' : Fj p = some o := h
                        rw [hFj] at h'; cases h'
                      · have h' : H5 p = none := h
                        rw [hpj] at h'; cases h'
                  have hw9 : L2.wipe σ7 vs = L2.wipe σ vs := by
                    refine (wipe_up hv (σ := L2.wipe σ4 vs1) ?_).trans ?_
                    · exact hw7.trans (wipe_eq (ws := []) (fun _ h => by cases h) ⟨rfl, fun _ _ => rfl⟩).symm
                    · refine Eq.trans ?_ hw
                      refine wipe_up hv ?_
                      exact wipe_eq (ws := []) (fun _ h => by cases h) ⟨rfl, fun _ _ => rfl⟩
                  have hl7 : σ7.length = σ.length := by
                    have := congrArg List.length hw9
                    rwa [L2.wipe_length, L2.wipe_length] at this
                  have le9 : e9.length = env2.length := by rw [← r9.len, hl7, r3.len]
                  have ok9 : ∀ (q : Nat) b xs, env2[q]? = some (Sl.ow b xs) → ∃ ys, e9[q]? = some (Sl.ow true ys) := fun q b xs h => by
                    obtain ⟨a, vs', k1, _⟩ := r3.ow q b xs h
                    have hm : (q, a) ∈ ioE σ (backE env2 ej) := by
                      rw [ioj]
                      exact mem_ioE.mpr ⟨k1, b, xs, h⟩
                    obtain ⟨_, ys, k2⟩ := r9.ioh (q, a) hm
                    exact ⟨ys, k2⟩
                  have e9b : backE (backE env2 ej) e9 = backE env2 e9 := backE_back lej fun q b xs h => let ⟨ys, z⟩ := ok9 q b xs h; ⟨true, ys, z⟩
                  have out9 : Rel g φ F9 σ H9 (backE env2 (wipeE e9 vs1)) := by
                    rw [bw, ← e9b]
                    exact ro.exit (free_back hf) r9 hw9 (s6'.trans s9')
                  have io9 : ioE σ (backE env2 (wipeE e9 vs1)) = ioE σ (backE env2 ej) := by
                    rw [bw, ioj]
                    exact io_back le9 ok9
                  refine ⟨hp9, hF9, out9, io9.trans ioj, le9, fun Hn hn => ?_⟩
                  have in9 := Rel.inner (p := p) r9 hn hF9 nb io9 hf9 ht9
                  have hw79 : L2.wipe σ7 vs1 = L2.wipe σ4 vs1 := hw7
                  rw [hw79] at in9
                  exact in9
                cases em1 : mt e1'' with
                | exc c v e => rw [em1] at restI; exact restI.elim
                | no => rw [em1] at restI; exact restI.elim
                | ok b e8 =>
                  rw [em1] at restI
                  refine ht s10 H10' C10 cl10 fp10 (fcE σ (backE env2 ej) H5 Fj) F6 σ7 H6 e1'' _ r8 ?_
                  rw [em1]
                  intro H8 F8 s8' r8'
                  cases b with
                  | false =>
                    simp only [Re.nx] at restI
                    simp only [Bool.false_eq_true, if_false]
                    by_cases hft9 : (free_ vs1 e8 && allT e8) = true
                    · rw [if_pos hft9] at restI
                      rw [Bool.and_eq_true] at hft9
                      obtain ⟨q1, q2, q3, q4, q5, q6⟩ := turn s8' r8' hft9.1 hft9.2
                      exact ⟨F8, wipeE e8 vs1, acc, accd, s5.trans (s6'.trans s8'), q3, q6 H8 (fun b _ => rfl), by rw [wipeE_length, q5], q4, q1, q2, raj.mono (s6'.trans s8'), PoL.mono (s6'.trans s8') restI⟩
                    · rw [if_neg hft9] at restI
                      exact restI.elim
                  | true =>
                    simp only [Re.nx] at restI
                    simp only [if_true]
                    intro s9 H9' C9 cl9 fp9
                    cases ee : me e8 with
                    | exc c v e => rw [ee] at restI; exact restI.elim
                    | no => rw [ee] at restI; exact restI.elim
                    | ok xd e9 =>
                      rw [ee] at restI
                      simp only [Re.nx] at restI
                      refine he s9 H9' C9 cl9 fp9 (fcE σ (backE env2 ej) H5 Fj) F8 σ7 H8 e8 _ r8' ?_
                      rw [ee]
                      intro y H9 F9 s9'' r9 py
                      by_cases hft9 : (free_ vs1 e9 && allT e9) = true
                      · rw [if_pos hft9] at restI
                        rw [Bool.and_eq_true] at hft9
                        obtain ⟨q1, q2, q3, q4, q5, q6⟩ := turn (s8'.trans s9'') r9 hft9.1 hft9.2
                        have len : acc.length < line ∧ PoL g W φ Fj σ Q ((lcJ vs1 mg1 mt me (ds1.drop (j + 1)) (wipeE e9 vs1)).nx fun xs e3 => (lcP vs vs1 mg mi1 mg1 mt me (ds.drop (i + 1)) (backE env2 e3)).nx fun ys e4 => if ((accd ++ [xd]) ++ (xs ++ ys)).length ≤ line then .ok ((accd ++ [xd]) ++ (xs ++ ys)) e4 else .no) := by
                          cases hq : lcJ vs1 mg1 mt me (ds1.drop (j + 1)) (wipeE e9 vs1) with
                          | exc c v e => exact absurd hq (lcJ_exc _ _)
                          | no => rw [hq] at restI; exact restI.elim
                          | ok xs e3 =>
                            rw [hq] at restI
                            simp only at restI
                            simp only [Re.nx]
                            cases hq2 : lcP vs vs1 mg mi1 mg1 mt me (ds.drop (i + 1)) (backE env2 e3) with
                            | exc c v e => exact absurd hq2 (lcP_exc _ _)
                            | no => rw [hq2] at restI; exact restI.elim
                            | ok ys e4 =>
                              rw [hq2] at restI
                              simp only at restI
                              have el : (accd ++ [xd]) ++ (xs ++ ys) = accd ++ (xd :: xs ++ ys) := by simp
                              dsimp only
                              rw [el]
                              by_cases hz : (accd ++ (xd :: xs ++ ys)).length ≤ line
                              · refine ⟨?_, restI⟩
                                have := raj.len
                                simp at hz
                                omega
                              · rw [if_neg hz] at restI
                                exact restI.elim
                        refine ⟨acc, q1, by rw [← line_eq]; exact len.1, F9, wipeE e9 vs1, acc ++ [y], accd ++ [xd], s5.trans (s6'.trans (s8'.trans s9'')), q3.mut q2 hp00 (noBack _), q6 _ (fun b hb => upd_ne hb), by rw [wipeE_length, q5], q4, upd_same, q2, (raj.mono (s6'.trans (s8'.trans s9''))).append (.cons py .nil), PoL.mono (s6'.trans (s8'.trans s9'')) len.2⟩
                      · rw [if_neg hft9] at restI
                        exact restI.elim
            · have ed1 : ds1.drop j = [] := List.drop_eq_nil_of_le (by omega)
              simp only [RestI] at restI
              rw [ed1] at restI
              refine .inl ⟨wstop1 (by omega), Fj, backE env2 ej, acc, accd, s2.trans (s3.trans (s4.trans s5)), ro, hpj, hFj, hp00, noBack ej, raj, ?_⟩
              exact restI
          · rw [if_neg hft] at rest
            exact rest.elim
    · rw [if_neg hf] at rest
      exact rest.elim
  · have ed : ds.drop i = [] := List.drop_eq_nil_of_le (by omega)
    simp only [Rest] at rest
    rw [ed] at rest
    have rest' : PoL g W φ F2 σ Q (if (accd ++ []).length ≤ line then .ok (accd ++ []) env2 else .no) := rest
    by_cases hz : (accd ++ []).length ≤ line
    · rw [if_pos hz, List.append_nil] at rest'
      exact .inl ⟨wstop (by omega), rest' p acc H2 F2 (Same.refl _) r2 hpa hpF hp00 hpo ra⟩
    · rw [if_neg hz] at rest'
      exact rest'.elim
end
end Mp
set_option Elab.async false
set_option linter.all false
set_option maxRecDepth 100000
set_option maxHeartbeats 4000000
/-! exceptions whose context is None; what is done while one is handled -/
namespace Mp
open PySem PySem.Spec PyProof.Rows L2

/-! ### made where nothing is handled -/
section
variable {X : Cx} {e : Expr} {ta : TA} {fld x : Str} {C fI : Addr} {k : Nat} {fd : FuncData} {ps : List Str} {p pos : Pos}
theorem pmk_exN {CX : CXT} (Z : ExC X.K C fld) (iC : PySem.W.findIn X.K (.ref C) "__init__" = some (some (.ref fI))) (tI : PySem.W.typeIn X.K (.ref fI) = some (.type "function"))
    (F1 : FnOk X.prog X.w X.K X.mg X.base CX k fI fd ps (spEx X.K fld)) (hr : Room (k + 1) X.A) (hb : Binds X.K fd ps []) (hx : Passes CX X (fun _ _ _ => False)) (hg : Gl X x) (hm : X.mg x = some (.ref C)) (ha : PA X [e] ta)
    (hdb : (x == ("__debug__" : Str)) = false := by decide) (he : starEach (e :: []) X.env = (false, eval e X.env) :: starEach [] X.env := by rfl) (hpl : (backTo pos (starEach [] X.env)).any (·.1) = false := by rfl) :
    L2N.PMk X (.Call (.Name x p) [e] [] pos) (tMkE fld C ta) := by
  intro pins s σ H Q I h
  refine wpAny_Call_Name_kw (ld_glob I hg hm ?_ hdb)
  refine PySem.W.callWith_K (h₀ := X.base) I.ok.mod.kin Z.kp (thn (ha.run pos pins s σ H _ I h) fun us s1 ⟨vs, H1, I1, r1, v, ev, hv, q1⟩ => ⟨I1.kIn, ?_⟩) he hpl
  subst ev
  show wpAny _ _ (call (.ref C) us) _ _ _
  obtain ⟨_, _, _, _, _, _, _, _, _, _, _, _, _, _, _, _, hC, hT⟩ := PySem.W.excInit_of I1.kIn Z.md
  have hus : us.length ≤ sizeLine := by
    rw [← Paired.length r1, sizeLine_eq]
    exact (by decide : 1 ≤ 16777216)
  obtain ⟨hp, g, dr, tk, os⟩ := s1
  have young : hp.objs.size ≤ hp.objs.size + 1 := Nat.le_succ _
  have hn : H1 (hp.objs.size + 1) = none := I1.hok.fresh young
  have kk : ∀ b o, hp.get? b = some o → ((hp.push (PySem.W.kdv_tup us)).push (PySem.HandSPX.excO C hp.objs.size)).get? b = some o := fun b o e => Heap.get?_push_of_some _ (Heap.get?_push_of_some _ e)
  have hget : ((hp.push (PySem.W.kdv_tup us)).push (PySem.HandSPX.excO C hp.objs.size)).get? (hp.objs.size + 1) = some (PySem.HandSPX.excO C hp.objs.size) := by heap_get
  have I2 : Inv X pins σ (upd H1 (hp.objs.size + 1) (exo (hp.objs.size + 1) C none)) ⟨(hp.push (PySem.W.kdv_tup us)).push (PySem.HandSPX.excO C hp.objs.size), g, dr, tk, os⟩ :=
    I1.laid (t' := tk) (a := hp.objs.size + 1) (o := exo (hp.objs.size + 1) C none) (h' := (hp.push (PySem.W.kdv_tup us)).push (PySem.HandSPX.excO C hp.objs.size)) kk young (exo_ok hget)
  have r2 : Vals [V.ref (hp.objs.size + 1), v] (Value.ref (hp.objs.size + 1) :: us) := .cons rfl r1
  have wish : spEx X.K fld [V.ref (hp.objs.size + 1), v] (upd H1 (hp.objs.size + 1) (exo (hp.objs.size + 1) C none))
      (fun u H2 => u = .non ∧ ∃ d : Addr, H1 d = none ∧ d ≠ hp.objs.size + 1 ∧ H2 = upd (upd (upd H1 (hp.objs.size + 1) (exo (hp.objs.size + 1) C none)) d (exd d [(fld, v)])) (hp.objs.size + 1) (exo (hp.objs.size + 1) C (some d))) (fun _ _ _ => False) :=
    ⟨hp.objs.size + 1, C, v, rfl, Z, upd_same, hv, fun d hd hdz => ⟨rfl, d, by rw [upd_ne hdz] at hd; exact hd, hdz, rfl⟩⟩
  have hl : (Value.ref (hp.objs.size + 1) :: us).length = ps.length := by
    have e := r2.length
    rw [F1.len _ _ _ _ wish] at e
    exact e.symm
  have bd := hb ⟨(hp.push (PySem.W.kdv_tup us)).push (PySem.HandSPX.excO C hp.objs.size), g, dr, tk, os⟩ (Value.ref (hp.objs.size + 1) :: us) I2.kIn (by rw [List.append_nil]; exact hl)
  rw [List.append_nil] at bd
  have run := F1.run _ X.stack _ _ ⟨Value.ref (hp.objs.size + 1) :: us, []⟩ (Value.ref (hp.objs.size + 1) :: us) _ _ (fun _ _ _ => False) (hr.make C us []) (I2.env0.make C us []) bd r2 wish
  refine wpAny_call (PySem.HandSPX.call_own PySem.F.excBase_Exception hT hC (PySem.W.looks_findIn I1.kIn iC) (fun self => PySem.W.bind_fn I1.kIn self tI) hus (codeAny_mono run fun r s' hq' => ?_))
  cases r with
  | error er => exact hx pins σ _ _ er s' I2 hq'
  | ok fl =>
    cases fl with
    | ret u =>
      obtain ⟨w', H2, os2, bare2, un2, hok2, rv, ev, d, hd1, hdz, eH⟩ := hq'
      subst ev
      obtain ⟨h2, g2, d2, t2, os'⟩ := s'
      have ea : H2 (hp.objs.size + 1) = some (exo (hp.objs.size + 1) C (some d)) := by rw [eH, upd_same]
      have ed : H2 d = some (exd d [(fld, v)]) := by rw [eH, upd_ne hdz, upd_same]
      refine ⟨rv, ?_⟩
      obtain ⟨t0, G, J, kG, ge, hoe, na⟩ := mk_end0 (d2 := d2) (t2 := t2) I1 young kk un2 hok2 os2 bare2 ea ed hd1
      refine ⟨_, _, _, ⟨G, g2, d2, t2, os'⟩, _, .ref C, some d, rfl, J, kG, ge, hoe, ⟨rfl, rfl, fun vs e => by cases e; rfl⟩, rfl, rfl, na, rfl, bare2, raises_own Z.ex Z.ty, ?_⟩
      refine q1 d _ hd1 upd_same (fun b o e => ?_) fun b o e hb => ?_
      · rw [upd_ne (ne_of_none e hd1), del_ne (ne_of_none e hn), eH, upd_ne (ne_of_none e hn), upd_ne (ne_of_none e hd1), upd_ne (ne_of_none e hn)]
        exact e
      · rw [upd_ne hb] at e
        have hbz : b ≠ hp.objs.size + 1 := fun q => by
          rw [q, del_same] at e
          cases e
        rw [del_ne hbz, eH, upd_ne hbz, upd_ne hb, upd_ne hbz] at e
        exact e
    | next => exact False.elim hq'
    | brk => exact False.elim hq'
    | cont => exact False.elim hq'
end
/-- as Cok, an exception's context known -/
structure CokN (g : Gc) (X : Cx) (W : WX) (k : Nat) : Prop where
  K : X.K = g.K
  calm : X.calm = true
  nd : X.N.Nodup
  tk : L2N.Takes X W
  rm : Room k X.A
  po : PassesOwn (model X.prog X.w) X.A X.env X.xe
section
variable {g : Gc} {W : WX} {φ : Fc} {X : Cx} {k : Nat} {F F' : Hp} {σ : L2.St} {H H' : Hp} {env : Env}
theorem ss_raiseN {cn : Str} {kk : Nat} {e : Expr} {m : ME} {p cpos pos : Pos} (c : CokN g X W k) (h : HasX X.prog X.w X.mg X.base g kk cn) (hk : kk + 1 ≤ k) (hg : Gl X cn) (ha : SE g W φ X e m)
    (hdb : (cn == ("__debug__" : Str)) = false := by decide) (he : starEach (e :: []) X.env = (false, eval e X.env) :: starEach [] X.env := by rfl) (hpl : (backTo cpos (starEach [] X.env)).any (·.1) = false := by rfl) :
    SS g W φ X (.Raise (some (.Call (.Name cn p) [e] [] cpos)) none pos) (mRaise cn m) := by
  intro F σ H env En hr hp
  obtain ⟨C, fI, fd, ps, fld, Z, iC, tI, Fo, hb, hm, hx⟩ := h.ex
  rw [← c.K] at Z iC tI Fo hb
  refine ⟨_, L2N.ps_raise c.calm c.tk (pmk_exN Z iC tI Fo (c.rm.mono hk) hb passL hg hm w_pa hdb he hpl), ?_⟩
  refine sa_cons (SV.of ha) sa_nil he F σ H env _ hr ?_
  unfold mRaise at hp
  cases e1 : m env with
  | no => rw [e1] at hp; exact hp.elim
  | exc c2 v2 e2 => rw [e1] at hp; simp only [aCons, e1, Re.bind]; exact hp
  | ok d e2 =>
    rw [e1] at hp
    simp only [aCons, aNil, e1, Re.bind]
    have hp : PoS g W φ F En (if fmtF d = true then .exc cn d e2 else .no) := hp
    by_cases hf : fmtF d = true
    · rw [if_pos hf] at hp
      intro vs H1 F1 s1 r1 p1
      have hl := p1.len
      match vs, hl with
      | [v], _ =>
        have rv : Rep g F1 v d := p1.at_ 0 v (.va d) rfl rfl
        refine ⟨v, rfl, rv.fmt hf, fun dd H2 hn h2 h3 h4 => ?_⟩
        exact hp C fld dd v σ H2 F1 hx s1 (r1.more h3) h2 rv
    · rw [if_neg hf] at hp
      exact hp.elim
/-- a def whose exceptions have no context -/
structure HasN (P : Program) (w : World) (mg : Str → Option Value) (base : Heap) (g : Gc) (k : Nat) (x : Str) (fn : Fn) : Prop where
  ex : ∃ (f : Addr) (fd : FuncData) (ps : List Str), FnOk P w g.K mg base (L2N.CX P w) k f fd ps (spOf g fn) ∧ mg x = some (.ref f) ∧ PySem.W.keepIn g.K (.ref f) = true ∧ Binds g.K fd ps []
theorem has_ofN {P : Program} {w : World} {mg : Str → Option Value} {base : Heap} {x qual : Str} {st : Stmt} {N ps : List Str} {body : MS} (A : FnAt g mg x qual st ps) (S : FnScope N ps (defScope st)) (hl : ps.length ≤ N.length)
    (hbody : ∀ {f : Addr} (cdv : Value) (A : Around) (outer : List PySem.Env) (s : Shared) (H : Hp) (E : XK) (φ : Fc), CokN g (cxOf (L2N.CX P w) P w g.K mg base N qual (defScope st) f cdv A outer s H E) (fun cls d _ H => E cls d H) k →
      SB g (fun cls d _ H => E cls d H) φ (cxOf (L2N.CX P w) P w g.K mg base N qual (defScope st) f cdv A outer s H E) (defBody st) body) :
    HasN P w mg base g (k + 1) x (fnOf ps.length N.length body) := by
  obtain ⟨f, fd, Fu, hm, hb⟩ := A.ex
  refine ⟨f, fd, ps, ?_, hm, Fu.kp, hb⟩
  obtain ⟨oc, od, kV, doc, pm, an, cdv, ct, osl, rfl, lk, hcd⟩ := Fu.ex
  refine fn_of lk hcd S (fun vs H Q E h => ?_) fun A outer s H vs Q E hr h => ?_
  · obtain ⟨F, args, r, h⟩ := h
    have hl2 : vs.length = args.length := by have := r.len; simpa using this
    unfold fnOf at h
    by_cases hz : args.length = ps.length
    · rw [hl2, hz]
    · rw [if_neg hz] at h
      exact h.elim
  · obtain ⟨F, args, r, h⟩ := h
    have hl2 : vs.length = args.length := by have := r.len; simpa using this
    unfold fnOf at h
    by_cases hz : args.length = ps.length
    · rw [if_pos hz] at h
      have c : CokN g (cxOf (L2N.CX P w) P w g.K mg base N qual (defScope st) f cdv A outer s H E) (fun cls d _ H => E cls d H) k := ⟨rfl, rfl, S.nd, L2N.takes_of rfl rfl rfl rfl, hr, passes_of rfl⟩
      have r0 := r.start (N := N) (n := N.length) rfl (by omega)
      rw [hl2, hz] at r0
      obtain ⟨t, h1, h2⟩ := hbody cdv A outer s H E (fcOf vs args H F) c F (L2.start N vs) H _ { nx := fun _ H' => Q .non H', rt := Q } r0 (by
        have fit : ∀ {F' : Hp} {σ' : L2.St} {H' : Hp} {e' : Env}, Rel g (fcOf vs args H F) F' σ' H' e' → Rel g (fcOf vs args H F) F' (vs.map some) H' (outsOf ps.length e') := fun {F' σ' H' e'} q => q.leave (by omega)
        cases hb : body (args ++ List.replicate (N.length - ps.length) Sl.un) with
        | no => rw [hb] at h; exact h.elim
        | br e => rw [hb] at h; exact h.elim
        | ct e => rw [hb] at h; exact h.elim
        | nx e =>
          rw [hb] at h
          exact fun σ' H' F' s1 r1 => h .non H' F' s1 (fit r1) .non
        | rt d e =>
          rw [hb] at h
          exact fun v σ' H' F' s1 r1 p1 => h v H' F' s1 (fit r1) p1
        | exc c v e =>
          rw [hb] at h
          exact fun C fld dd vv σ' H' F' q1 q2 q3 q4 q5 => h C fld dd vv H' F' q1 q2 (fit q3) q4 q5)
      exact ⟨t, h1, h2⟩
    · rw [if_neg hz] at h
      exact h.elim
theorem se_fnN {x : Str} {kk : Nat} {fn : Fn} {e : Expr} {es : List Expr} {m : MA} {p pos : Pos} (c : CokN g X W k) (h : HasN X.prog X.w X.mg X.base g kk x fn) (hk : kk ≤ k) (hg : Gl X x) (ha : SA g W φ X (e :: es) m)
    (hdb : (x == ("__debug__" : Str)) = false := by decide) (he : starEach (e :: es) X.env = (false, eval e X.env) :: starEach es X.env := by rfl) (hpl : (backTo pos (starEach es X.env)).any (·.1) = false := by rfl) :
    SE g W φ X (.Call (.Name x p) (e :: es) [] pos) (mFn fn m) := by
  intro F σ H env Q hr hp
  obtain ⟨f, fd, ps, Fo, hm, hkp, hb⟩ := h.ex
  rw [← c.K] at Fo hkp hb
  refine ⟨_, pe_callS Fo (c.rm.mono hk) hg hm hkp hb (fun σ => L2N.passAt c.tk σ) w_pa hdb he hpl, ?_⟩
  refine ha F σ H env _ hr (ae hp fun as e1 vs H1 F1 s1 r1 p1 hp1 => ?_)
  exact sp_call r1 p1 hp1
end
end Mp
set_option Elab.async false
set_option linter.all false
set_option maxRecDepth 100000
set_option maxHeartbeats 4000000
/-! what is done while an exception is handled -/
namespace Mp
open PySem PySem.Spec PyProof.Rows L2
/-- as Cok, where an exception is handled -/
structure Hok (g : Gc) (X : Cx) (k : Nat) : Prop where
  K : X.K = g.K
  hot : L2H.HotC X
  nd : X.N.Nodup
  rm : L2H.RoomH k X.A
  po : PassesOwn (model X.prog X.w) X.A X.env X.xe
section
variable {g : Gc} {W : WX} {φ : Fc} {X : Cx} {k : Nat} {F F' : Hp} {σ : L2.St} {H H' : Hp} {env : Env}
theorem Hok.units (c : Hok g X k) : X.A.units + 64 < cLine := by have := c.rm.un; omega
theorem op_eqU (hK : X.K = g.K) (hu : X.A.units + 64 < cLine) : OpB g φ (wO X (compareOp .Eq)) eqF := by
  intro F σ H env v u x y z Q hr hx hy hf hq
  unfold eqF at hf
  cases h1 : toPy x with
  | none => simp only [h1, reduceCtorEq] at hf
  | some a =>
    cases h2 : toPy y with
    | none => simp only [h1, h2, reduceCtorEq] at hf
    | some b =>
      simp only [h1, h2] at hf
      split at hf
      · rename_i hs
        cases hf
        exact ⟨_, op_eqD hu, a, b, hK ▸ hx.dp hr.ex h1, hK ▸ hy.dp hr.ex h2, hs.1, hs.2, hq⟩
      · cases hf
theorem op_neU (hK : X.K = g.K) (hu : X.A.units + 64 < cLine) : OpB g φ (wO X (compareOp .NotEq)) neF := by
  intro F σ H env v u x y z Q hr hx hy hf hq
  unfold neF eqF at hf
  cases h1 : toPy x with
  | none => simp only [h1, reduceCtorEq, Option.map_none] at hf
  | some a =>
    cases h2 : toPy y with
    | none => simp only [h1, h2, reduceCtorEq, Option.map_none] at hf
    | some b =>
      simp only [h1, h2] at hf
      split at hf
      · rename_i hs
        simp only [Option.map_some, Option.some.injEq] at hf
        subst hf
        exact ⟨_, op_neD hu, a, b, hK ▸ hx.dp hr.ex h1, hK ▸ hy.dp hr.ex h2, hs.1, hs.2, hq⟩
      · simp at hf
/-- a def called there -/
structure HasH (P : Program) (w : World) (mg : Str → Option Value) (base : Heap) (g : Gc) (k : Nat) (x : Str) (fn : Fn) : Prop where
  ex : ∃ (f : Addr) (fd : FuncData) (ps : List Str), L2H.FnH P w g.K mg base (L2.CX P w) k f fd ps (spOf g fn) ∧ mg x = some (.ref f) ∧ PySem.W.keepIn g.K (.ref f) = true ∧ Binds g.K fd ps []
theorem has_ofH {P : Program} {w : World} {mg : Str → Option Value} {base : Heap} {x qual : Str} {st : Stmt} {N ps : List Str} {body : MS} (A : FnAt g mg x qual st ps) (S : FnScope N ps (defScope st)) (hl : ps.length ≤ N.length)
    (hbody : ∀ {f : Addr} (cdv : Value) (A : Around) (outer : List PySem.Env) (s : Shared) (H : Hp) (E : XK) (p : Addr × Obj) (φ : Fc), Hok g (L2H.cxH (L2.CX P w) P w g.K mg base N qual (defScope st) f cdv A outer s H E p) k →
      SB g (fun cls d _ H => E cls d H) φ (L2H.cxH (L2.CX P w) P w g.K mg base N qual (defScope st) f cdv A outer s H E p) (defBody st) body) :
    HasH P w mg base g (k + 1) x (fnOf ps.length N.length body) := by
  obtain ⟨f, fd, Fu, hm, hb⟩ := A.ex
  refine ⟨f, fd, ps, ?_, hm, Fu.kp, hb⟩
  obtain ⟨oc, od, kV, doc, pm, an, cdv, ct, osl, rfl, lk, hcd⟩ := Fu.ex
  refine L2H.fn_ofH lk hcd S (fun vs H Q E h => ?_) fun A outer s H vs Q E p hot hr h => ?_
  · obtain ⟨F, args, r, h⟩ := h
    have hl2 : vs.length = args.length := by have := r.len; simpa using this
    unfold fnOf at h
    by_cases hz : args.length = ps.length
    · rw [hl2, hz]
    · rw [if_neg hz] at h
      exact h.elim
  · obtain ⟨F, args, r, h⟩ := h
    have hl2 : vs.length = args.length := by have := r.len; simpa using this
    unfold fnOf at h
    by_cases hz : args.length = ps.length
    · rw [if_pos hz] at h
      have c : Hok g (L2H.cxH (L2.CX P w) P w g.K mg base N qual (defScope st) f cdv A outer s H E p) k := ⟨rfl, ⟨p, ⟨hot.1, hot.2⟩, List.mem_cons_self⟩, S.nd, hr, passes_of rfl⟩
      have r0 := r.start (N := N) (n := N.length) rfl (by omega)
      rw [hl2, hz] at r0
      obtain ⟨t, h1, h2⟩ := hbody cdv A outer s H E p (fcOf vs args H F) c F (L2.start N vs) H _ { nx := fun _ H' => Q .non H', rt := Q } r0 (by
        have fit : ∀ {F' : Hp} {σ' : L2.St} {H' : Hp} {e' : Env}, Rel g (fcOf vs args H F) F' σ' H' e' → Rel g (fcOf vs args H F) F' (vs.map some) H' (outsOf ps.length e') := fun {F' σ' H' e'} q => q.leave (by omega)
        cases hb : body (args ++ List.replicate (N.length - ps.length) Sl.un) with
        | no => rw [hb] at h; exact h.elim
        | br e => rw [hb] at h; exact h.elim
        | ct e => rw [hb] at h; exact h.elim
        | nx e =>
          rw [hb] at h
          exact fun σ' H' F' s1 r1 => h .non H' F' s1 (fit r1) .non
        | rt d e =>
          rw [hb] at h
          exact fun v σ' H' F' s1 r1 p1 => h v H' F' s1 (fit r1) p1
        | exc c v e =>
          rw [hb] at h
          exact fun C fld dd vv σ' H' F' q1 q2 q3 q4 q5 => h C fld dd vv H' F' q1 q2 (fit q3) q4 q5)
      exact ⟨t, h1, h2⟩
    · rw [if_neg hz] at h
      exact h.elim
theorem se_fnH {x : Str} {kk : Nat} {fn : Fn} {e : Expr} {es : List Expr} {m : MA} {p pos : Pos} (c : Hok g X k) (h : HasH X.prog X.w X.mg X.base g kk x fn) (hk : kk ≤ k) (hg : Gl X x) (ha : SA g (fun _ _ _ _ => False) φ X (e :: es) m)
    (hdb : (x == ("__debug__" : Str)) = false := by decide) (he : starEach (e :: es) X.env = (false, eval e X.env) :: starEach es X.env := by rfl) (hpl : (backTo pos (starEach es X.env)).any (·.1) = false := by rfl) :
    SE g (fun _ _ _ _ => False) φ X (.Call (.Name x p) (e :: es) [] pos) (mFn fn m) := by
  intro F σ H env Q hr hp
  obtain ⟨f, fd, ps, Fo, hm, hkp, hb⟩ := h.ex
  rw [← c.K] at Fo hkp hb
  refine ⟨_, L2H.pe_callH Fo (c.rm.mono hk) c.hot hg hm hkp hb (E := fun σ => L2.WE (fun _ _ _ _ => False) σ) (fun σ pins H s e' s' I cx => passL pins σ H s e' s' I cx) w_pa hdb he hpl, ?_⟩
  refine ha F σ H env _ hr (ae hp fun as e1 vs H1 F1 s1 r1 p1 hp1 => ?_)
  exact sp_call r1 p1 hp1
/-- a class of the text, as its place -/
theorem se_adr {x : Str} {C : Addr} {pos : Pos} (hg : Gl X x) (hm : X.mg x = some (.ref C)) (hd : (x == ("__debug__" : Str)) = false := by decide) : SE g W φ X (.Name x pos) (mC (.adr C)) :=
  fun F σ H env Q hr hp => ⟨_, pe_glob (v := .ref C) hg hm rfl hd, hp _ _ _ (Same.refl _) hr (.adr C)⟩
/-- for i in range(n): there -/
theorem ss_forH {ws : List Nat} {tg a : Expr} {body : List Stmt} {m : ME} {mg : MG} {mb : MS} {p pos pos' : Pos} (c : Hok g X k) (h : SE g W φ X a m) (hgr : Gl X "range") (hmr : X.mg "range" = none) (hg : SG g φ X ws tg mg) (hb : SB g W φ X body mb)
    (hs : starEach [a] X.env = [(false, eval a X.env)] := by rfl) (hs1 : starEach (a :: []) X.env = (false, eval a X.env) :: starEach [] X.env := by rfl) : SS g W φ X (.For tg (.Call (.Name "range" p) [a] [] pos') body [] pos) (mFor (lRange1 m) mg mb) := by
  intro F σ H env En hr hp
  have suf : ∀ R, PoI g W φ F σ R (lRange1 m env) → iRng1 (tCons (wE X a) tNil) σ H R := fun R key => by
    refine h F σ H env _ hr (ei key fun d e1 v H1 F1 s1 r1 p1 hp1 => ?_)
    cases d with
    | int j =>
      cases p1
      by_cases hz : -(2 ^ 62) ≤ j ∧ j < 2 ^ 62
      · simp only [hz, and_self, if_true] at hp1
        exact ⟨j, rfl, hz.1, hz.2, hp1 _ _ _ (Same.refl _) r1 walks_range⟩
      · simp only [hz, if_false] at hp1
        exact hp1.elim
    | _ => exact hp1.elim
  refine ⟨_, L2H.ps_forH c.po c.hot (L2H.pi_range1H hgr hmr (pa_cons w_pe pa_nil hs1) hs) w_pg w_pb, ?_⟩
  refine suf _ ?_
  unfold mFor at hp
  cases e : lRange1 m env with
  | exc c v e' => rw [e] at hp; exact hp
  | no => rw [e] at hp; exact hp
  | ok ds e' =>
    rw [e] at hp
    have hp' : PoS g W φ F En (forF mg mb ds e') := hp
    intro J H1 F1 s1 r1 w1
    refine ⟨fun i m σ H => ∃ F2 env2, Same F1 F2 ∧ Rel g φ F2 σ H env2 ∧ PoS g W φ F2 En (forF mg mb (ds.drop i) env2) ∧ m = ds.length - i, ⟨ds.length, F1, e', Same.refl _, r1, ?_, rfl⟩, ?_⟩
    · exact hp'.mono s1
    rintro i m σ2 H2 ⟨F2, env2, s2, r2, hp2, rfl⟩
    obtain ⟨wgo, wstop⟩ := w1 φ F2 σ2 H2 env2 i s2 r2
    by_cases hl : i < ds.length
    · have ed : ds.drop i = ds[i] :: ds.drop (i + 1) := List.drop_eq_getElem_cons hl
      rw [ed] at hp2
      obtain ⟨go, yl⟩ := wgo ds[i] (List.getElem?_eq_getElem hl)
      refine .inr ⟨go, fun σ' H' => ∃ F3 env3, Same F1 F3 ∧ Rel g φ F3 σ' H' env3 ∧ PoS g W φ F3 En (forF mg mb (ds.drop (i + 1)) env3), fun σ' H' ⟨F3, env3, a1, a2, a3⟩ => ⟨_, by omega, F3, env3, a1, a2, a3, rfl⟩, fun x H' hy => ?_⟩
      obtain ⟨F3, s3, _, _, r3, p3⟩ := yl x H' hy
      unfold forF at hp2
      cases e1 : mg ds[i] env2 with
      | none => rw [e1] at hp2; exact hp2.elim
      | some e1' =>
        rw [e1] at hp2
        simp only at hp2
        refine hg F3 σ2 H' env2 x ds[i] e1' _ r3 p3 e1 fun σ4 _ r4 => ?_
        refine hb F3 σ4 H' e1' _ r4 ?_
        cases e2 : mb e1' with
        | nx e2' =>
          rw [e2] at hp2
          exact fun σ5 H5 F5 s5 r5 => ⟨F5, e2', s2.trans (s3.trans s5), r5, PoS.mono (s3.trans s5) hp2⟩
        | ct e2' =>
          rw [e2] at hp2
          exact fun σ5 H5 F5 s5 r5 => ⟨F5, e2', s2.trans (s3.trans s5), r5, PoS.mono (s3.trans s5) hp2⟩
        | br e2' =>
          rw [e2] at hp2
          exact fun σ5 H5 F5 s5 r5 => hp2 σ5 H5 F5 (s3.trans s5) r5
        | rt d e2' =>
          rw [e2] at hp2
          exact fun v σ5 H5 F5 s5 r5 => hp2 v σ5 H5 F5 (s3.trans s5) r5
        | exc c v e2' =>
          rw [e2] at hp2
          exact XP.mono s3 hp2
        | no => rw [e2] at hp2; exact hp2
    · have ed : ds.drop i = [] := List.drop_eq_nil_of_le (by omega)
      rw [ed] at hp2
      exact .inl ⟨wstop (by omega), hp2 _ _ _ (Same.refl _) r2⟩
end
end Mp
set_option Elab.async false
set_option linter.all false
set_option maxRecDepth 100000
set_option maxHeartbeats 4000000
/-! the exception that a suite holds; try with any suite -/
namespace Mp
open PySem PySem.Spec PyProof.Rows L2
/-- what isinstance asks of the class besides -/
structure ExI (K : PySem.W.Frag) (C : Addr) : Prop where
  ha : PySem.W.findIn K (.ref C) "__class__" = some (some (.builtin "object.__class__"))
  hn : PySem.W.specialIn K (.builtin "object.__class__") "__get__" = some (some (.builtin "getset_descriptor.__get__"))
  ht : PySem.W.takesIn K (.builtin "object.__class__") = some true
  hm : PySem.W.mroIn K C (.type "object") = some true
def rIsD (K : PySem.W.Frag) (D a dd : Addr) (f : Str) (v : V) : List V → Hp → VK → Prop := fun xs H Q => ∃ (c : V) (cv : Value) (b : Bool), xs = [.ref a, c] ∧ (∀ u, RelV c u → u = cv) ∧ PySem.W.kitOne K (.ref D) cv = some b ∧ H dd = some (.xd [(f, v)]) ∧ Q (.bl b) H
theorem call_isD {X : Cx} {a D dd : Addr} {f : Str} {v : V} {oe : Obj} {pn : List (Addr × Obj)} (Z : ExC X.K D f) (Y : ExI X.K D) (hz : Zc (.ref D) (some dd) oe) (hf : ∃ vs, oe.data = .fields vs) : CallR (X.suite a ((a, oe) :: pn)) (.builtin "isinstance") (rIsD X.K D a dd f v) := by
  rintro pins s σ H xs us Q I r ⟨c, cv, b, rfl, hcv, e, hH, q⟩
  match us, r with
  | [u1, u2], .cons r1 (.cons r2 .nil) =>
    obtain rfl : u1 = Value.ref a := r1
    obtain rfl := hcv _ r2
    have pin := (I.pin (a, oe) (List.mem_append_left _ List.mem_cons_self)).1
    obtain ⟨mA, hns, _⟩ := (show ObjOk X.prog X.w H s.heap dd (.xd [(f, v)]) from I.hok dd _ hH)
    obtain ⟨od, ho, _⟩ := lookIn_ns hns
    obtain ⟨vs, hv⟩ := hf
    have J : PySem.W.InstAt s.heap a oe D (some od) := ⟨pin, hz.1, by
      unfold PySem.W.notCls
      rw [hv] <;> rfl, hz.2 ▸ ho⟩
    obtain ⟨cd, hcd, _⟩ := PySem.W.any_some Z.hd
    exact PySem.W.kia_one (PySem.W.kitx_exc (by rw [hcd]; rfl) Z.ga Z.gg Z.ex Y.ha Y.hn Y.ht Y.hm) I.kIn J e (fun z => nomatch z) fun tk => ⟨.bl b, H, I.tok _, rfl, q⟩
/-- isinstance(n, c), n the exception of class D that the suite holds at a -/
def isEF (K : PySem.W.Frag) (B a : Addr) : List D → Option D
  | [.adr x, .adr C] => if x = a then (PySem.W.kitOne K (.ref B) (.ref C)).map .bl else none
  | [.adr x, .ty n] => if x = a then (PySem.W.kitOne K (.ref B) (.type n)).map .bl else none
  | _ => none
section
variable {g : Gc} {W : WX} {φ : Fc} {X : Cx} {k : Nat} {F F' : Hp} {σ : L2.St} {H H' : Hp} {env : Mp.Env}
theorem ca_isE {a D dd : Addr} {f : Str} {v : V} {oe : Obj} {pn : List (Addr × Obj)} (Z : ExC X.K D f) (Y : ExI X.K D) (hz : Zc (.ref D) (some dd) oe) (hf : ∃ vs, oe.data = .fields vs) (h0 : φ.H0 dd = some (.xd [(f, v)])) (hio : ∀ p ∈ φ.io, p.2 ≠ dd) :
    CaS g φ (wC (X.suite a ((a, oe) :: pn)) (.builtin "isinstance")) (isEF X.K D a) := by
  intro F σ H env vs ds z Q hr hx he hq
  have hH := hr.fr dd _ h0 hio
  match vs, ds, hx with
  | [], _, .nil => simp [isEF] at he
  | [v1], _, .cons h1 .nil => simp [isEF] at he
  | v1 :: v2 :: v3 :: r, _, .cons h1 (.cons (d := d2) h2 (.cons h3 t)) => simp [isEF] at he
  | [v1, v2], _, .cons (d := d1) h1 (.cons (d := d2) h2 .nil) =>
    cases d1 <;> simp only [isEF, reduceCtorEq] at he
    rename_i x
    obtain rfl : v1 = .ref x := by
      cases h1 with
      | of h => cases h; rfl
    cases d2 <;> simp only [isEF, reduceCtorEq] at he
    · rename_i n
      by_cases hxa : x = a
      · subst hxa
        rw [if_pos rfl] at he
        obtain ⟨b, hb, rfl⟩ := Option.map_eq_some_iff.mp he
        obtain rfl : v2 = .ty n := by
          cases h2 with
          | of h => cases h; rfl
        exact ⟨_, call_isD Z Y hz hf, .ty n, .type n, b, rfl, fun u q => q, hb, hH, hq _ _ _ (Same.refl _) hr (.bl b)⟩
      · rw [if_neg hxa] at he
        cases he
    · rename_i C
      by_cases hxa : x = a
      · subst hxa
        rw [if_pos rfl] at he
        obtain ⟨b, hb, rfl⟩ := Option.map_eq_some_iff.mp he
        obtain rfl : v2 = .ref C := by
          cases h2 with
          | of h => cases h; rfl
        exact ⟨_, call_isD Z Y hz hf, .ref C, .ref C, b, rfl, fun u q => q, hb, hH, hq _ _ _ (Same.refl _) hr (.bl b)⟩
      · rw [if_neg hxa] at he
        cases he
/-- .. and what it says -/
def mIsB (i : Nat) (a : Addr) (b : Bool) : ME := fun env => match env[i]? with
  | some (.va (.adr x)) => if x = a then .ok (.bl b) env else .no
  | _ => .no
theorem SE.as {e : Expr} {m m' : ME} (h : SE g W φ X e m') (q : ∀ env, m env ≠ .no → m' env = m env) : SE g W φ X e m := fun F σ H env Q hr hp => by
  refine h F σ H env Q hr ?_
  rw [q env fun z => by rw [z] at hp; exact hp]
  exact hp
theorem isB_call {i : Nat} {a : Addr} {b : Bool} {c : D} {f : List D → Option D} (hf : f [.adr a, c] = some (.bl b)) (env : Mp.Env) (h : mIsB i a b env ≠ .no) : mCall f (aCons (mOwn i) (aCons (vOf (mC c)) aNil)) env = mIsB i a b env := by
  unfold mIsB at h ⊢
  split at h
  · rename_i x e
    by_cases hx : x = a
    · subst hx
      simp [mCall, aCons, mOwn, vOf, mC, aNil, e, Re.bind, use, gets, Av.get, hf]
    · rw [if_neg hx] at h
      exact absurd rfl h
  · exact absurd rfl h
/-- n.f -/
def mHeld (i : Nat) (a : Addr) (d : D) : ME := fun env => match env[i]? with
  | some (.va (.adr x)) => if x = a then .ok d env else .no
  | _ => .no
theorem se_held {i : Nat} {n : Str} {a D dd : Addr} {f : Str} {v : V} {d : Mp.D} {oe : Obj} {pn : List (Addr × Obj)} {p pos : Pos} (Z : ExC X.K D f) (hz : Zc (.ref D) (some dd) oe) (hf : ∃ vs, oe.data = .fields vs) (h0 : φ.H0 dd = some (.xd [(f, v)])) (hio : ∀ p ∈ φ.io, p.2 ≠ dd)
    (hv : Rep g φ.F0 v d) (hi : X.N[i]? = some n) (hvis : Vis X.env.scope n) (hab : attributeBase (.Name n p) f X.env (eval (.Name n p) X.env) = eval (.Name n p) X.env)
    (hd : (n == ("__debug__" : Str)) = false := by decide) (hcd : (n == ("__classdict__" : Str)) = false := by decide) : SE g W φ (X.suite a ((a, oe) :: pn)) (.Attribute (.Name n p) f pos) (mHeld i a d) := by
  intro F σ H env Q hr hp
  unfold mHeld at hp
  split at hp
  · rename_i x e
    by_cases hxa : x = a
    · subst hxa
      rw [if_pos rfl] at hp
      obtain ⟨u, h1, h2⟩ := hr.va i _ e
      cases h2
      exact ⟨_, pe_held (pn := pn) Z hz hf (pe_var (i := i) hi hvis hd hcd) hab, .ref x, h1, rfl, rfl, dd, v, rfl, hr.fr dd _ h0 hio, hp v H F (Same.refl _) hr (hv.mono hr.ex0)⟩
    · rw [if_neg hxa] at hp
      exact hp.elim
  · exact hp.elim
/-- fewer slots are known -/
def Fewer (e2 e : List Sl) : Prop := e.length = e2.length ∧ ∀ j : Nat, (e[j]? = some Sl.un ∧ ∀ xs, e2[j]? ≠ some (Sl.ow true xs)) ∨ e[j]? = e2[j]?
theorem Rel.fewer {e2 e : Mp.Env} (r : Rel g φ F σ H e2) (h : Fewer e2 e) : Rel g φ F σ H e := by
  obtain ⟨hl, hj⟩ := h
  have va : ∀ {j : Nat} {s : Sl}, e[j]? = some s → s ≠ .un → e2[j]? = some s := fun {j s} q n => by
    rcases hj j with ⟨z, _⟩ | z
    · rw [q] at z
      cases z
      exact absurd rfl n
    · rw [← z]; exact q
  refine ⟨r.ex, r.ex0, r.new, r.fr, by rw [r.len, hl], fun i d q => r.va i d (va q (by simp)), fun i b xs q => r.ow i b xs (va q (by simp)), fun i j b c xs ys a q1 q2 => r.dj i j b c xs ys a (va q1 (by simp)) (va q2 (by simp)), fun p hp => ?_⟩
  obtain ⟨h1, xs, h2⟩ := r.ioh p hp
  refine ⟨h1, xs, ?_⟩
  rcases hj p.1 with ⟨_, z⟩ | z
  · exact absurd h2 (z xs)
  · rw [z]; exact h2
open Classical in
/-- try: body, except C as n: suite; the suite answers d whatever the place -/
noncomputable def mTryN (i : Nat) (sub : Str → Option Bool) (msu : Str → D → Addr → MS) (d : D) (mb : MS) : MS := fun env => match mb env with
  | .exc c v e => if sub c = some true ∧ e[i]? = some .un ∧ ∀ a, ∃ e2, msu c v a (e.set i (.va (.adr a))) = .rt d e2 ∧ Fewer e2 e then .rt d e else .no
  | r => r
theorem ss_tryN {i : Nat} {n x : Str} {C0 : Value} {sub : Str → Option Bool} {msu : Str → D → Addr → MS} {d : D} {b₀ : Stmt} {su body : List Stmt} {mb : MS} {np p' pos : Pos} (c : Cok g X W k) (hst : X.stack = X.env :: X.outer) (hf : X.env.frame = some X.env.locals)
    (hi : X.N[i]? = some n) (hln : X.env.kindOf n = some .local) (hc : Names X x C0)
    (hb : ∀ (W' : WX) (pn : List (Addr × Obj)) (xe : Value → Shared → Prop), CokN g (X.tr pn xe) W' k → SB g W' φ (X.tr pn xe) body mb)
    (hsub : ∀ c' C' fld, g.xc c' = some (C', fld) → sub c' = some true → PySem.W.exmOne g.K (.ref C') C0 = some true)
    (hsu : ∀ (cn : Str) (C' : Addr) (fld : Str) (v : D) (vv : V) (a dd : Addr) (oe : Obj) (pn : List (Addr × Obj)) (φ' : Fc), sub cn = some true → g.xc cn = some (C', fld) → Zc (.ref C') (some dd) oe → (∃ vs, oe.data = .fields vs) → φ'.H0 dd = some (.xd [(fld, vv)]) → (∀ p ∈ φ'.io, p.2 ≠ dd) → Rep g φ'.F0 vv v →
      Hok g (X.suite a ((a, oe) :: pn)) k → SB g (fun _ _ _ _ => False) φ' (X.suite a ((a, oe) :: pn)) (b₀ :: su) (msu cn v a)) :
    SS g W φ X (.Try body [.ExceptHandler (some (.Name x np)) (some n) (b₀ :: su) p'] [] [] pos) (mTryN i sub msu d mb) := by
  intro F σ H env En hr hp
  refine ⟨_, L2N.ps_try_as (Wout := fun _ _ _ _ => False) (i := i) (tb := fun W' => fun D σ H => ∀ pn xe, L2N.Takes (X.tr pn xe) W' → PassesOwn (model X.prog X.w) X.A X.env xe → wB (X.tr pn xe) body D σ H)
    (ts := fun a cls d => fun D σ H => ∀ (oe : Obj) (pn : List (Addr × Obj)), L2N.Zn cls d oe → (∃ vs, oe.data = .fields vs) → wB (X.suite a ((a, oe) :: pn)) (b₀ :: su) D σ H)
    hst hf c.nd hi hln hc (fun u s' z => ?_) (fun W' pn xe tk po => ⟨fun pins s σ H D I h => w_pb.run pins s σ H D I (h pn xe tk po)⟩) (fun a oe cls d pn hz hfl => ⟨fun pins s σ H D I h => w_pb.run pins s σ H D I (h oe pn hz hfl)⟩), ?_⟩
  · obtain ⟨_, _, _, _, _, _, _, _, _, _, _, _, _, _, _, _, z⟩ := z
    exact z.elim
  intro pn xe tk po
  refine hb _ pn xe ⟨c.K, c.calm, c.nd, tk, c.rm, po⟩ F σ H env En hr ?_
  unfold mTryN at hp
  cases e1 : mb env with
  | nx e2 => rw [e1] at hp; exact hp
  | rt d e2 => rw [e1] at hp; exact hp
  | br e2 => rw [e1] at hp; exact hp
  | ct e2 => rw [e1] at hp; exact hp
  | no => rw [e1] at hp; exact hp
  | exc cn v e =>
    rw [e1] at hp
    simp only at hp
    split at hp
    · rename_i hcond
      obtain ⟨hs, hun, hall⟩ := hcond
      intro C' fld dd vv σ' H' F' hx s1 r1 q1 q2
      refine ⟨true, c.K ▸ hsub cn C' fld hx hs, fun _ a ha oe pn2 hz hfl => ?_, fun z => nomatch z⟩
      obtain ⟨e2, he2, hfew⟩ := hall a
      have hdio : ∀ p ∈ φ.io, p.2 ≠ dd := fun p hp z => by
        obtain ⟨h1, xs, h2⟩ := r1.ioh p hp
        obtain ⟨b, vs, h3, h4, _⟩ := r1.ow p.1 true xs h2
        rw [h1] at h3
        have : p.2 = b := by cases h3; rfl
        rw [← this, z, q1] at h4
        cases h4
      have r2 : Rel g ⟨φ.io, fun b => if b = dd then some (.xd [(fld, vv)]) else φ.H0 b, F'⟩ F' σ' H' e := by
        refine ⟨r1.ex, Same.refl _, fun b o z => .inl z, fun b o z hb => ?_, r1.len, r1.va, fun j b xs z => ?_, r1.dj, r1.ioh⟩
        · by_cases hbd : b = dd
          · subst hbd
            simp only [if_pos] at z
            cases z
            exact q1
          · simp only [if_neg hbd] at z
            exact r1.fr b o z hb
        · obtain ⟨a', us, h1, h2, h3, h4, h5, h6⟩ := r1.ow j b xs z
          refine ⟨a', us, h1, h2, h3, h4, fun hbf => ?_, h6⟩
          have : a' ≠ dd := fun z => by
            rw [z, q1] at h2
            cases h2
          simp only [if_neg this]
          exact h5 hbf
      have r3 := r2.setVa hun rfl (v := .ref a) (d := .adr a) (.adr a)
      refine hsu cn C' fld v vv a dd oe pn2 ⟨φ.io, fun b => if b = dd then some (.xd [(fld, vv)]) else φ.H0 b, F'⟩ hs hx hz.zc hfl (by simp) hdio q2 ⟨c.K, ⟨(a, oe), ⟨rfl, ?_⟩, List.mem_cons_self⟩, c.nd, ⟨c.rm.dp, c.rm.un⟩, PassesOwn.never⟩ F' _ H' _ _ r3 ?_
      · obtain ⟨vs, hvs⟩ := hfl
        exact ⟨vs, hvs, hz.2.2 vs hvs⟩
      · rw [he2]
        intro v2 σ2 H2 F2 s2 r4 p4
        have r5 : Rel g φ F2 σ2 H2 e2 := by
          refine ⟨r4.ex, (r1.ex0).trans s2, fun b o z => ?_, fun b o z hb => ?_, r4.len, r4.va, fun j b xs z => ?_, r4.dj, r4.ioh⟩
          · rcases r4.new b o z with q | q
            · exact r1.new b o q
            · right
              by_cases hbd : b = dd
              · subst hbd
                simp at q
              · simpa only [if_neg hbd] using q
          · refine r4.fr b o ?_ hb
            by_cases hbd : b = dd
            · subst hbd
              have := r1.fr _ _ z hb
              rw [q1] at this
              cases this
              simp
            · simpa only [if_neg hbd] using z
          · obtain ⟨a', us, h1, h2, h3, h4, h5, h6⟩ := r4.ow j b xs z
            refine ⟨a', us, h1, h2, h3, h4, fun hbf => ?_, h6⟩
            have := h5 hbf
            by_cases had : a' = dd
            · subst had
              simp at this
            · simpa only [if_neg had] using this
        exact hp v2 σ2 H2 F2 (s1.trans s2) (r5.fewer hfew) p4
    · exact hp.elim
end
end Mp
set_option Elab.async false
set_option linter.all false
set_option maxRecDepth 100000
set_option maxHeartbeats 4000000
namespace K00
open PySem PySem.Spec PyProof.Rows L2 Mp
/-! the text by places -/
def topS (i : Nat) : Stmt := PySem.Challenge.pw_promisedesk_k00_errors.main.body.getD i (.Pass ⟨0, 0, 0, 0⟩)
/-- the five classes, in the law's order -/
def cnm : Nat → Str
  | 0 => "BadValue"
  | 1 => "BadKind"
  | 2 => "BadState"
  | 3 => "BadSyntax"
  | _ => "TooMany"
def fnm : Nat → Str
  | 0 | 1 | 2 | 3 => "at"
  | _ => "word"
/-- what the written part says of them -/
structure Fam (g : Gc) (mg : Str → Option Value) : Prop where
  ex : ∃ (D0 : Addr) (C : Nat → Addr), mg "DeskError" = some (.ref D0) ∧ ∀ j, j < 5 → mg (cnm j) = some (.ref (C j)) ∧ g.xc (cnm j) = some (C j, fnm j) ∧ PySem.W.exmOne g.K (.ref (C j)) (.ref D0) = some true ∧ ExC g.K (C j) (fnm j) ∧ ExI g.K (C j) ∧
    (∀ i, i < 5 → PySem.W.kitOne g.K (.ref (C j)) (.ref (C i)) = some (decide (i = j))) ∧ ∀ n ∈ ["ValueError", "LookupError", "ArithmeticError"], PySem.W.kitOne g.K (.ref (C j)) (.type n) = some false
theorem kit_bt {K : PySem.W.Frag} {C : Addr} {n : String} {b : Bool} (h : PySem.W.subIn K (.ref C) (.type n) = some b) (hm : PySem.W.kitMeta n = true) : PySem.W.kitOne K (.ref C) (.type n) = some b := by
  unfold PySem.W.kitOne PySem.W.kitCls
  rw [if_neg (by simp)]
  simp only [hm, if_true]
  exact h
/-- what the walk asks of the module's names -/
structure Txt (g : Gc) (mg : Str → Option Value) : Prop where
  z_ArithmeticError : mg "ArithmeticError" = none
  z_LookupError : mg "LookupError" = none
  z_ValueError : mg "ValueError" = none
  z_bool : mg "bool" = none
  z_int : mg "int" = none
  z_isinstance : mg "isinstance" = none
  z_len : mg "len" = none
  z_range : mg "range" = none
  z_str : mg "str" = none
  z_tuple : mg "tuple" = none
  fam : Fam g mg
abbrev s_BadValue_init : Stmt := inClass (topS 2) 0
theorem sc_BadValue_init : FnScope ["self", "at"] ["self", "at"] (defScope s_BadValue_init) := ⟨rfl, rfl, rfl, by decide +kernel, rfl, by decide +kernel, by decide +kernel⟩
theorem x_BadValue {P : Program} {w : World} {mg : Str → Option Value} {base : Heap} {g : Gc} {C fI B : Addr} {mc : Value} {fd : FuncData} (Z : ExC g.K C "at") (iC : PySem.W.findIn g.K (.ref C) "__init__" = some (some (.ref fI))) (tI : PySem.W.typeIn g.K (.ref fI) = some (.type "function"))
    (Fu : Fun g.K "__init__" "BadValue.__init__" s_BadValue_init fI fd) (hb : Binds g.K fd ["self", "at"] []) (hm : mg "BadValue" = some (.ref C)) (hx : g.xc "BadValue" = some (C, ("at" : Str))) (Y : BaseT g.K mg "DeskError" B mc) : HasX P w mg base g 1 "BadValue" := by
  refine ⟨C, fI, fd, ["self", "at"], "at", Z, iC, tI, Fu.okX sc_BadValue_init (fun vs H Q E h => ?_) (fun cdv A outer s H vs Q E hr h => ?_), hb, hm, hx⟩
  · obtain ⟨a, C', v, e, _⟩ := h
    rw [e]
    rfl
  · obtain ⟨a, C', v, e, Z', ha, hv, q⟩ := h
    subst e
    refine ⟨_, pss_cons (ps_expr (pe_binit (by rfl) Y (pa_cons (pv 0) (pa_cons (pe_joined (PJ.cons pe_str (PJ.cons (pe_fmt (pv 1)) PJ.nil))) pa_nil)))) (pss_one (ps_first (pv 0) (pv 1))), ?_⟩
    refine ⟨.ref a, rfl, fmt_parts (i := 1) hv (by decide) rfl fun z => ?_⟩
    exact ⟨a, C', [.str z], "at", rfl, by simp, Z', ha, v, rfl, .ref a, rfl, a, C', rfl, Z', ha, fun dx h1 h2 => q dx h1 h2⟩
abbrev s_BadKind_init : Stmt := inClass (topS 3) 0
theorem sc_BadKind_init : FnScope ["self", "at"] ["self", "at"] (defScope s_BadKind_init) := ⟨rfl, rfl, rfl, by decide +kernel, rfl, by decide +kernel, by decide +kernel⟩
theorem x_BadKind {P : Program} {w : World} {mg : Str → Option Value} {base : Heap} {g : Gc} {C fI B : Addr} {mc : Value} {fd : FuncData} (Z : ExC g.K C "at") (iC : PySem.W.findIn g.K (.ref C) "__init__" = some (some (.ref fI))) (tI : PySem.W.typeIn g.K (.ref fI) = some (.type "function"))
    (Fu : Fun g.K "__init__" "BadKind.__init__" s_BadKind_init fI fd) (hb : Binds g.K fd ["self", "at"] []) (hm : mg "BadKind" = some (.ref C)) (hx : g.xc "BadKind" = some (C, ("at" : Str))) (Y : BaseT g.K mg "DeskError" B mc) : HasX P w mg base g 1 "BadKind" := by
  refine ⟨C, fI, fd, ["self", "at"], "at", Z, iC, tI, Fu.okX sc_BadKind_init (fun vs H Q E h => ?_) (fun cdv A outer s H vs Q E hr h => ?_), hb, hm, hx⟩
  · obtain ⟨a, C', v, e, _⟩ := h
    rw [e]
    rfl
  · obtain ⟨a, C', v, e, Z', ha, hv, q⟩ := h
    subst e
    refine ⟨_, pss_cons (ps_expr (pe_binit (by rfl) Y (pa_cons (pv 0) (pa_cons (pe_joined (PJ.cons pe_str (PJ.cons (pe_fmt (pv 1)) PJ.nil))) pa_nil)))) (pss_one (ps_first (pv 0) (pv 1))), ?_⟩
    refine ⟨.ref a, rfl, fmt_parts (i := 1) hv (by decide) rfl fun z => ?_⟩
    exact ⟨a, C', [.str z], "at", rfl, by simp, Z', ha, v, rfl, .ref a, rfl, a, C', rfl, Z', ha, fun dx h1 h2 => q dx h1 h2⟩
abbrev s_BadState_init : Stmt := inClass (topS 4) 0
theorem sc_BadState_init : FnScope ["self", "at"] ["self", "at"] (defScope s_BadState_init) := ⟨rfl, rfl, rfl, by decide +kernel, rfl, by decide +kernel, by decide +kernel⟩
theorem x_BadState {P : Program} {w : World} {mg : Str → Option Value} {base : Heap} {g : Gc} {C fI B : Addr} {mc : Value} {fd : FuncData} (Z : ExC g.K C "at") (iC : PySem.W.findIn g.K (.ref C) "__init__" = some (some (.ref fI))) (tI : PySem.W.typeIn g.K (.ref fI) = some (.type "function"))
    (Fu : Fun g.K "__init__" "BadState.__init__" s_BadState_init fI fd) (hb : Binds g.K fd ["self", "at"] []) (hm : mg "BadState" = some (.ref C)) (hx : g.xc "BadState" = some (C, ("at" : Str))) (Y : BaseT g.K mg "DeskError" B mc) : HasX P w mg base g 1 "BadState" := by
  refine ⟨C, fI, fd, ["self", "at"], "at", Z, iC, tI, Fu.okX sc_BadState_init (fun vs H Q E h => ?_) (fun cdv A outer s H vs Q E hr h => ?_), hb, hm, hx⟩
  · obtain ⟨a, C', v, e, _⟩ := h
    rw [e]
    rfl
  · obtain ⟨a, C', v, e, Z', ha, hv, q⟩ := h
    subst e
    refine ⟨_, pss_cons (ps_expr (pe_binit (by rfl) Y (pa_cons (pv 0) (pa_cons (pe_joined (PJ.cons pe_str (PJ.cons (pe_fmt (pv 1)) PJ.nil))) pa_nil)))) (pss_one (ps_first (pv 0) (pv 1))), ?_⟩
    refine ⟨.ref a, rfl, fmt_parts (i := 1) hv (by decide) rfl fun z => ?_⟩
    exact ⟨a, C', [.str z], "at", rfl, by simp, Z', ha, v, rfl, .ref a, rfl, a, C', rfl, Z', ha, fun dx h1 h2 => q dx h1 h2⟩
abbrev s_TooMany_init : Stmt := inClass (topS 5) 0
theorem sc_TooMany_init : FnScope ["self", "word"] ["self", "word"] (defScope s_TooMany_init) := ⟨rfl, rfl, rfl, by decide +kernel, rfl, by decide +kernel, by decide +kernel⟩
theorem x_TooMany {P : Program} {w : World} {mg : Str → Option Value} {base : Heap} {g : Gc} {C fI B : Addr} {mc : Value} {fd : FuncData} (Z : ExC g.K C "word") (iC : PySem.W.findIn g.K (.ref C) "__init__" = some (some (.ref fI))) (tI : PySem.W.typeIn g.K (.ref fI) = some (.type "function"))
    (Fu : Fun g.K "__init__" "TooMany.__init__" s_TooMany_init fI fd) (hb : Binds g.K fd ["self", "word"] []) (hm : mg "TooMany" = some (.ref C)) (hx : g.xc "TooMany" = some (C, ("word" : Str))) (Y : BaseT g.K mg "DeskError" B mc) : HasX P w mg base g 1 "TooMany" := by
  refine ⟨C, fI, fd, ["self", "word"], "word", Z, iC, tI, Fu.okX sc_TooMany_init (fun vs H Q E h => ?_) (fun cdv A outer s H vs Q E hr h => ?_), hb, hm, hx⟩
  · obtain ⟨a, C', v, e, _⟩ := h
    rw [e]
    rfl
  · obtain ⟨a, C', v, e, Z', ha, hv, q⟩ := h
    subst e
    refine ⟨_, pss_cons (ps_expr (pe_binit (by rfl) Y (pa_cons (pv 0) (pa_cons (pe_joined (PJ.cons pe_str (PJ.cons (pe_fmt (pv 1)) PJ.nil))) pa_nil)))) (pss_one (ps_first (pv 0) (pv 1))), ?_⟩
    refine ⟨.ref a, rfl, fmt_parts (i := 1) hv (by decide) rfl fun z => ?_⟩
    exact ⟨a, C', [.str z], "word", rfl, by simp, Z', ha, v, rfl, .ref a, rfl, a, C', rfl, Z', ha, fun dx h1 h2 => q dx h1 h2⟩
abbrev s_BadSyntax_init : Stmt := inClass (topS 6) 0
theorem sc_BadSyntax_init : FnScope ["self", "at"] ["self", "at"] (defScope s_BadSyntax_init) := ⟨rfl, rfl, rfl, by decide +kernel, rfl, by decide +kernel, by decide +kernel⟩
theorem x_BadSyntax {P : Program} {w : World} {mg : Str → Option Value} {base : Heap} {g : Gc} {C fI B : Addr} {mc : Value} {fd : FuncData} (Z : ExC g.K C "at") (iC : PySem.W.findIn g.K (.ref C) "__init__" = some (some (.ref fI))) (tI : PySem.W.typeIn g.K (.ref fI) = some (.type "function"))
    (Fu : Fun g.K "__init__" "BadSyntax.__init__" s_BadSyntax_init fI fd) (hb : Binds g.K fd ["self", "at"] []) (hm : mg "BadSyntax" = some (.ref C)) (hx : g.xc "BadSyntax" = some (C, ("at" : Str))) (Y : BaseT g.K mg "DeskError" B mc) : HasX P w mg base g 1 "BadSyntax" := by
  refine ⟨C, fI, fd, ["self", "at"], "at", Z, iC, tI, Fu.okX sc_BadSyntax_init (fun vs H Q E h => ?_) (fun cdv A outer s H vs Q E hr h => ?_), hb, hm, hx⟩
  · obtain ⟨a, C', v, e, _⟩ := h
    rw [e]
    rfl
  · obtain ⟨a, C', v, e, Z', ha, hv, q⟩ := h
    subst e
    refine ⟨_, pss_cons (ps_expr (pe_binit (by rfl) Y (pa_cons (pv 0) (pa_cons (pe_joined (PJ.cons pe_str (PJ.cons (pe_fmt (pv 1)) PJ.nil))) pa_nil)))) (pss_one (ps_first (pv 0) (pv 1))), ?_⟩
    refine ⟨.ref a, rfl, fmt_parts (i := 1) hv (by decide) rfl fun z => ?_⟩
    exact ⟨a, C', [.str z], "at", rfl, by simp, Z', ha, v, rfl, .ref a, rfl, a, C', rfl, Z', ha, fun dx h1 h2 => q dx h1 h2⟩
abbrev s_law_numbers : Stmt := topS 9
abbrev N_law_numbers : List Str := ["script", "row", "cell", "left", "k", "mixed"]
theorem sc_law_numbers : FnScope N_law_numbers ["script"] (defScope s_law_numbers) := ⟨rfl, rfl, rfl, by decide +kernel, rfl, by decide +kernel, by decide +kernel⟩
def b_law_numbers : MS :=
    (mSeq (mSetO 1 (lLst aNil))
    (mSeq (mFor (lSeq (mCut (mOwn 0) oNone (oSome (mC (.int 63))))) (putG 2)
    (mIfS (mBin geF (mOwn 2) (vOf (mBin powF (vOf (mC (.int 10))) (vOf (mC (.int 18)))))) (mSeq (mSet 3 (mVar 2))
    (mFor (lRange1 (mC (.int 60))) (putG 4)
    (mSeq (mIfS (mBin eqF (mOwn 3) (vOf (mC (.int 0)))) mBreak mNext)
    (mSeq (mAppend 1 (mBin modF (vOf (mCall intF (aCons (mOwn 3) aNil))) (vOf (mC (.int 997)))))
    (mSet 3 (mBin fdivF (mOwn 3) (vOf (mC (.int 997))))))))) (mFor (lRange1 (mC (.int 4))) (putG 4)
    (mSeq (mSet 5 (mBin modF (vOf (mCall intF (aCons (vOf (mBin addF (vOf (mBin addF (vOf (mBin mulF (mOwn 2) (vOf (mC (.int 48271))))) (vOf (mBin mulF (mOwn 4) (vOf (mC (.int 69621))))))) (vOf (mC (.int 11))))) aNil))) (vOf (mC (.int 2147483647)))))
    (mAppend 1 (mBin modF (vOf (mCall intF (aCons (vOf (mBin addF (vOf (mBin mulF (mOwn 5) (vOf (mC (.int 16807))))) (mOwn 4))) aNil))) (vOf (mC (.int 2147483629)))))))))
    (mSeq (mIfS (mBin eqF (vOf (mCall lenF (aCons (mOwn 1) aNil))) (vOf (mC (.int 0)))) (mAppend 1 (mC (.int 0))) mNext)
    (retOwn 1))))
def fn_law_numbers : Fn := fnOf 1 6 b_law_numbers
theorem ok_law_numbers {P : Program} {w : World} {mg : Str → Option Value} {base : Heap} {g : Gc} (T : Txt g mg) (A : FnAt g mg "_law_numbers" "_law_numbers" s_law_numbers ["script"]) : Has P w mg base g 1 "_law_numbers" fn_law_numbers := by
  refine has_of (k := 1 - 1) (N := N_law_numbers) A sc_law_numbers (by decide) (fun cdv A outer s H E φ c => ?_)
  exact (sb_cons (ss_setO (i := 1) c.nd (sl_lst sa_nil))
    (sb_cons (ss_for c (si_seq c.K (se_cut c.K (sv_own 0) so_none (so_some se_int))) (sg_name (i := 2) c.nd)
    (sb_one (ss_if (st_cmp op_ge_ (sv_own 2) (sv_of (se_bin op_pow_ (sv_of se_int) (sv_of se_int)))) (sb_cons (ss_set (i := 3) c.nd (se_var 2))
    (sb_one (ss_for c (si_range1 se_int (by rfl) T.z_range) (sg_name (i := 4) c.nd)
    (sb_cons (ss_if (st_cmp (op_eq_ c.K c.rm) (sv_own 3) (sv_of se_int)) (sb_one ss_break) sb_nil)
    (sb_cons (ss_append 1 (se_bin op_mod_ (sv_of (se_callT ca_int (by rfl) T.z_int (by decide +kernel) (sa_cons (sv_own 3) sa_nil))) (sv_of se_int)))
    (sb_one (ss_set (i := 3) c.nd (se_bin op_fdiv_ (sv_own 3) (sv_of se_int))))))))) (sb_one (ss_for c (si_range1 se_int (by rfl) T.z_range) (sg_name (i := 4) c.nd)
    (sb_cons (ss_set (i := 5) c.nd (se_bin op_mod_ (sv_of (se_callT ca_int (by rfl) T.z_int (by decide +kernel) (sa_cons (sv_of (se_bin (op_add_ c.K) (sv_of (se_bin (op_add_ c.K) (sv_of (se_bin op_mul_ (sv_own 2) (sv_of se_int))) (sv_of (se_bin op_mul_ (sv_own 4) (sv_of se_int))))) (sv_of se_int))) sa_nil))) (sv_of se_int)))
    (sb_one (ss_append 1 (se_bin op_mod_ (sv_of (se_callT ca_int (by rfl) T.z_int (by decide +kernel) (sa_cons (sv_of (se_bin (op_add_ c.K) (sv_of (se_bin op_mul_ (sv_own 5) (sv_of se_int))) (sv_own 4))) sa_nil))) (sv_of se_int))))))))))
    (sb_cons (ss_if (st_cmp (op_eq_ c.K c.rm) (sv_of (se_callB (ca_len c.K) (by rfl) T.z_len (by decide +kernel) (sa_cons (sv_own 1) sa_nil))) (sv_of se_int)) (sb_one (ss_append 1 se_int)) sb_nil)
    (sb_one (ss_retOwn 1)))))
abbrev s_law_draw : Stmt := topS 10
abbrev N_law_draw : List Str := ["row", "at", "limit", "mixed"]
theorem sc_law_draw : FnScope N_law_draw ["row", "at", "limit"] (defScope s_law_draw) := ⟨rfl, rfl, rfl, by decide +kernel, rfl, by decide +kernel, by decide +kernel⟩
def b_law_draw : MS :=
    (mSeq (mIfS (mBin ltF (mOwn 1) (vOf (mCall lenF (aCons (mOwn 0) aNil)))) (mRet (mBin modF (vOf (mCall intF (aCons (vOf (mBin atF (mOwn 0) (mOwn 1))) aNil))) (mOwn 2))) mNext)
    (mSeq (mSet 3 (mBin modF (vOf (mCall intF (aCons (vOf (mBin addF (vOf (mBin addF (vOf (mBin mulF (vOf (mBin atF (mOwn 0) (vOf (mBin modF (vOf (mCall intF (aCons (mOwn 1) aNil))) (vOf (mCall lenF (aCons (mOwn 0) aNil))))))) (vOf (mC (.int 40692))))) (vOf (mBin mulF (mOwn 1) (vOf (mC (.int 7919))))))) (vOf (mC (.int 3))))) aNil))) (vOf (mC (.int 2147483399)))))
    (mRet (mBin modF (vOf (mCall intF (aCons (vOf (mBin modF (vOf (mCall intF (aCons (vOf (mBin addF (vOf (mBin mulF (mOwn 3) (vOf (mC (.int 48271))))) (mOwn 1))) aNil))) (vOf (mC (.int 2147483647))))) aNil))) (mOwn 2)))))
def fn_law_draw : Fn := fnOf 3 4 b_law_draw
theorem ok_law_draw {P : Program} {w : World} {mg : Str → Option Value} {base : Heap} {g : Gc} (T : Txt g mg) (A : FnAt g mg "_law_draw" "_law_draw" s_law_draw ["row", "at", "limit"]) : Has P w mg base g 1 "_law_draw" fn_law_draw := by
  refine has_of (k := 1 - 1) (N := N_law_draw) A sc_law_draw (by decide) (fun cdv A outer s H E φ c => ?_)
  exact (sb_cons (ss_if (st_cmp op_lt_ (sv_own 1) (sv_of (se_callB (ca_len c.K) (by rfl) T.z_len (by decide +kernel) (sa_cons (sv_own 0) sa_nil)))) (sb_one (ss_ret (se_bin op_mod_ (sv_of (se_callT ca_int (by rfl) T.z_int (by decide +kernel) (sa_cons (sv_of (se_ix (ix_at_ c.K) (sv_own 0) (sv_own 1))) sa_nil))) (sv_own 2)))) sb_nil)
    (sb_cons (ss_set (i := 3) c.nd (se_bin op_mod_ (sv_of (se_callT ca_int (by rfl) T.z_int (by decide +kernel) (sa_cons (sv_of (se_bin (op_add_ c.K) (sv_of (se_bin (op_add_ c.K) (sv_of (se_bin op_mul_ (sv_of (se_ix (ix_at_ c.K) (sv_own 0) (sv_of (se_bin op_mod_ (sv_of (se_callT ca_int (by rfl) T.z_int (by decide +kernel) (sa_cons (sv_own 1) sa_nil))) (sv_of (se_callB (ca_len c.K) (by rfl) T.z_len (by decide +kernel) (sa_cons (sv_own 0) sa_nil))))))) (sv_of se_int))) (sv_of (se_bin op_mul_ (sv_own 1) (sv_of se_int))))) (sv_of se_int))) sa_nil))) (sv_of se_int)))
    (sb_one (ss_ret (se_bin op_mod_ (sv_of (se_callT ca_int (by rfl) T.z_int (by decide +kernel) (sa_cons (sv_of (se_bin op_mod_ (sv_of (se_callT ca_int (by rfl) T.z_int (by decide +kernel) (sa_cons (sv_of (se_bin (op_add_ c.K) (sv_of (se_bin op_mul_ (sv_own 3) (sv_of se_int))) (sv_own 1))) sa_nil))) (sv_of se_int))) sa_nil))) (sv_own 2))))))
abbrev s_law_take : Stmt := topS 11
abbrev N_law_take : List Str := ["row", "spot", "limit"]
theorem sc_law_take : FnScope N_law_take ["row", "spot", "limit"] (defScope s_law_take) := ⟨rfl, rfl, rfl, by decide +kernel, rfl, by decide +kernel, by decide +kernel⟩
def b_law_take : MS :=
    (mSeq (mStore 1 (mC (.int 0)) (mBin addF (vOf (mBin atF (mOwn 1) (vOf (mC (.int 0))))) (vOf (mC (.int 1)))))
    (mRet (mFn fn_law_draw (aCons (mOwn 0) (aCons (vOf (mBin subF (vOf (mBin atF (mOwn 1) (vOf (mC (.int 0))))) (vOf (mC (.int 1))))) (aCons (mOwn 2) aNil))))))
def fn_law_take : Fn := fnOf 3 3 b_law_take
theorem ok_law_take {P : Program} {w : World} {mg : Str → Option Value} {base : Heap} {g : Gc} (T : Txt g mg) (A : FnAt g mg "_law_take" "_law_take" s_law_take ["row", "spot", "limit"]) (h_law_draw : Has P w mg base g 1 "_law_draw" fn_law_draw) : Has P w mg base g 2 "_law_take" fn_law_take := by
  refine has_of (k := 2 - 1) (N := N_law_take) A sc_law_take (by decide) (fun cdv A outer s H E φ c => ?_)
  exact (sb_cons (ss_store 1 (se_bin (op_add_ c.K) (sv_of (se_ix (ix_at_ c.K) (sv_own 1) (sv_of se_int))) (sv_of se_int)) se_int)
    (sb_one (ss_ret (se_fn c h_law_draw (by omega) (by rfl) (sa_cons (sv_own 0) (sa_cons (sv_of (se_bin op_sub_ (sv_of (se_ix (ix_at_ c.K) (sv_own 1) (sv_of se_int))) (sv_of se_int))) (sa_cons (sv_own 2) sa_nil)))))))
abbrev s_law_wide : Stmt := topS 12
abbrev N_law_wide : List Str := ["row", "spot", "limit", "first", "second", "third"]
theorem sc_law_wide : FnScope N_law_wide ["row", "spot", "limit"] (defScope s_law_wide) := ⟨rfl, rfl, rfl, by decide +kernel, rfl, by decide +kernel, by decide +kernel⟩
def b_law_wide : MS :=
    (mSeq (mSet 3 (mFn fn_law_take (aCons (mOwn 0) (aCons (mOwn 1) (aCons (vOf (mC (.int 997))) aNil)))))
    (mSeq (mSet 4 (mFn fn_law_take (aCons (mOwn 0) (aCons (mOwn 1) (aCons (vOf (mC (.int 997))) aNil)))))
    (mSeq (mSet 5 (mFn fn_law_take (aCons (mOwn 0) (aCons (mOwn 1) (aCons (vOf (mC (.int 997))) aNil)))))
    (mRet (mBin modF (vOf (mCall intF (aCons (vOf (mBin addF (vOf (mBin addF (vOf (mBin mulF (mOwn 3) (vOf (mC (.int 994009))))) (vOf (mBin mulF (mOwn 4) (vOf (mC (.int 997))))))) (mOwn 5))) aNil))) (mOwn 2))))))
def fn_law_wide : Fn := fnOf 3 6 b_law_wide
theorem ok_law_wide {P : Program} {w : World} {mg : Str → Option Value} {base : Heap} {g : Gc} (T : Txt g mg) (A : FnAt g mg "_law_wide" "_law_wide" s_law_wide ["row", "spot", "limit"]) (h_law_take : Has P w mg base g 2 "_law_take" fn_law_take) : Has P w mg base g 3 "_law_wide" fn_law_wide := by
  refine has_of (k := 3 - 1) (N := N_law_wide) A sc_law_wide (by decide) (fun cdv A outer s H E φ c => ?_)
  exact (sb_cons (ss_set (i := 3) c.nd (se_fn c h_law_take (by omega) (by rfl) (sa_cons (sv_own 0) (sa_cons (sv_own 1) (sa_cons (sv_of se_int) sa_nil)))))
    (sb_cons (ss_set (i := 4) c.nd (se_fn c h_law_take (by omega) (by rfl) (sa_cons (sv_own 0) (sa_cons (sv_own 1) (sa_cons (sv_of se_int) sa_nil)))))
    (sb_cons (ss_set (i := 5) c.nd (se_fn c h_law_take (by omega) (by rfl) (sa_cons (sv_own 0) (sa_cons (sv_own 1) (sa_cons (sv_of se_int) sa_nil)))))
    (sb_one (ss_ret (se_bin op_mod_ (sv_of (se_callT ca_int (by rfl) T.z_int (by decide +kernel) (sa_cons (sv_of (se_bin (op_add_ c.K) (sv_of (se_bin (op_add_ c.K) (sv_of (se_bin op_mul_ (sv_own 3) (sv_of se_int))) (sv_of (se_bin op_mul_ (sv_own 4) (sv_of se_int))))) (sv_own 5))) sa_nil))) (sv_own 2)))))))
abbrev s_law_raised : Stmt := topS 13
abbrev N_law_raised : List Str := ["kind", "value"]
theorem sc_law_raised : FnScope N_law_raised ["kind", "value"] (defScope s_law_raised) := ⟨rfl, rfl, rfl, by decide +kernel, rfl, by decide +kernel, by decide +kernel⟩
def b_law_raised : MS :=
    (mSeq (mIfS (mBin eqF (mOwn 0) (vOf (mC (.int 0)))) (mRaise "BadValue" (mVar 1)) mNext)
    (mSeq (mIfS (mBin eqF (mOwn 0) (vOf (mC (.int 1)))) (mRaise "BadKind" (mVar 1)) mNext)
    (mSeq (mIfS (mBin eqF (mOwn 0) (vOf (mC (.int 2)))) (mRaise "BadState" (mVar 1)) mNext)
    (mSeq (mIfS (mBin eqF (mOwn 0) (vOf (mC (.int 3)))) (mRaise "BadSyntax" (mVar 1)) mNext)
    (mRaise "TooMany" (mVar 1))))))
def fn_law_raised : Fn := fnOf 2 2 b_law_raised
theorem ok_law_raised {P : Program} {w : World} {mg : Str → Option Value} {base : Heap} {g : Gc} (T : Txt g mg) (A : FnAt g mg "_law_raised" "_law_raised" s_law_raised ["kind", "value"]) (hx_BadValue : HasX P w mg base g 1 "BadValue") (hx_BadKind : HasX P w mg base g 1 "BadKind") (hx_BadState : HasX P w mg base g 1 "BadState") (hx_BadSyntax : HasX P w mg base g 1 "BadSyntax") (hx_TooMany : HasX P w mg base g 1 "TooMany") : HasN P w mg base g 3 "_law_raised" fn_law_raised := by
  refine has_ofN (k := 3 - 1) (N := N_law_raised) A sc_law_raised (by decide) (fun cdv A outer s H E φ c => ?_)
  exact (sb_cons (ss_if (st_cmp (op_eq_ c.K c.rm) (sv_own 0) (sv_of se_int)) (sb_one (ss_raiseN c hx_BadValue (by omega) (by rfl) (se_var 1))) sb_nil)
    (sb_cons (ss_if (st_cmp (op_eq_ c.K c.rm) (sv_own 0) (sv_of se_int)) (sb_one (ss_raiseN c hx_BadKind (by omega) (by rfl) (se_var 1))) sb_nil)
    (sb_cons (ss_if (st_cmp (op_eq_ c.K c.rm) (sv_own 0) (sv_of se_int)) (sb_one (ss_raiseN c hx_BadState (by omega) (by rfl) (se_var 1))) sb_nil)
    (sb_cons (ss_if (st_cmp (op_eq_ c.K c.rm) (sv_own 0) (sv_of se_int)) (sb_one (ss_raiseN c hx_BadSyntax (by omega) (by rfl) (se_var 1))) sb_nil)
    (sb_one (ss_raiseN c hx_TooMany (by omega) (by rfl) (se_var 1)))))))
abbrev s_law_so : Stmt := topS 8
abbrev N_law_so : List Str := ["found", "meant", "k"]
theorem sc_law_so : FnScope N_law_so ["found", "meant"] (defScope s_law_so) := ⟨rfl, rfl, rfl, by decide +kernel, rfl, by decide +kernel, by decide +kernel⟩
def b_law_so : MS :=
    (mSeq (mIfS (mBin isF (mOwn 1) (vOf (mC .non))) (mRet (mBin (fun x y => (isF x y).map D.bl) (mOwn 0) (vOf (mC .non)))) mNext)
    (mSeq (mIfS (mTest (mCall isiF (aCons (mOwn 1) (aCons (vOf (mC (.ty "tuple"))) aNil)))) mNoS mNext)
    (mSeq (mIfS (mOr (mTest (mCall isiF (aCons (mOwn 1) (aCons (vOf (mC (.ty "bool"))) aNil)))) (mTest (mCall isiF (aCons (mOwn 0) (aCons (vOf (mC (.ty "bool"))) aNil))))) (mRet (mAndV (mCall isiF (aCons (mOwn 1) (aCons (vOf (mC (.ty "bool"))) aNil))) (mAndV (mCall isiF (aCons (mOwn 0) (aCons (vOf (mC (.ty "bool"))) aNil))) (mBin (fun x y => (eqF x y).map D.bl) (mOwn 0) (mOwn 1))))) mNext)
    (mSeq (mIfS (mTest (mCall isiF (aCons (mOwn 1) (aCons (vOf (mC (.ty "int"))) aNil)))) (mRet (mAndV (mCall isiF (aCons (mOwn 0) (aCons (vOf (mC (.ty "int"))) aNil))) (mBin (fun x y => (eqF x y).map D.bl) (mOwn 0) (mOwn 1)))) mNext)
    (mRet (mAndV (mCall isiF (aCons (mOwn 1) (aCons (vOf (mC (.ty "str"))) aNil))) (mAndV (mCall isiF (aCons (mOwn 0) (aCons (vOf (mC (.ty "str"))) aNil))) (mBin (fun x y => (eqF x y).map D.bl) (mOwn 0) (mOwn 1)))))))))
def fn_law_so : Fn := fnOf 2 3 b_law_so
theorem ok_law_so {P : Program} {w : World} {mg : Str → Option Value} {base : Heap} {g : Gc} (T : Txt g mg) (A : FnAt g mg "_law_so" "_law_so" s_law_so ["found", "meant"]) : HasH P w mg base g 1 "_law_so" fn_law_so := by
  refine has_ofH (k := 1 - 1) (N := N_law_so) A sc_law_so (by decide) (fun cdv A outer s H E p0 φ c => ?_)
  exact (sb_cons (ss_if (st_cmp op_is_ (sv_own 1) (sv_of se_non)) (sb_one (ss_ret (se_cmp op_is_ (sv_own 0) (sv_of se_non)))) sb_nil)
    (sb_cons (ss_if (st_val (se_callB (ca_isi c.K) (by rfl) T.z_isinstance (by decide +kernel) (sa_cons (sv_own 1) (sa_cons (sv_of (se_ty (by rfl) T.z_tuple (by decide +kernel))) sa_nil)))) sb_no sb_nil)
    (sb_cons (ss_if (st_w (sw_or (st_val (se_callB (ca_isi c.K) (by rfl) T.z_isinstance (by decide +kernel) (sa_cons (sv_own 1) (sa_cons (sv_of (se_ty (by rfl) T.z_bool (by decide +kernel))) sa_nil)))) (sw_or1 (st_val (se_callB (ca_isi c.K) (by rfl) T.z_isinstance (by decide +kernel) (sa_cons (sv_own 0) (sa_cons (sv_of (se_ty (by rfl) T.z_bool (by decide +kernel))) sa_nil))))))) (sb_one (ss_ret (se_and (se_callB (ca_isi c.K) (by rfl) T.z_isinstance (by decide +kernel) (sa_cons (sv_own 1) (sa_cons (sv_of (se_ty (by rfl) T.z_bool (by decide +kernel))) sa_nil))) (se_and (se_callB (ca_isi c.K) (by rfl) T.z_isinstance (by decide +kernel) (sa_cons (sv_own 0) (sa_cons (sv_of (se_ty (by rfl) T.z_bool (by decide +kernel))) sa_nil))) (se_one (se_cmp (op_eqU c.K c.units) (sv_own 0) (sv_own 1))))))) sb_nil)
    (sb_cons (ss_if (st_val (se_callB (ca_isi c.K) (by rfl) T.z_isinstance (by decide +kernel) (sa_cons (sv_own 1) (sa_cons (sv_of (se_ty (by rfl) T.z_int (by decide +kernel))) sa_nil)))) (sb_one (ss_ret (se_and (se_callB (ca_isi c.K) (by rfl) T.z_isinstance (by decide +kernel) (sa_cons (sv_own 0) (sa_cons (sv_of (se_ty (by rfl) T.z_int (by decide +kernel))) sa_nil))) (se_one (se_cmp (op_eqU c.K c.units) (sv_own 0) (sv_own 1)))))) sb_nil)
    (sb_one (ss_ret (se_and (se_callB (ca_isi c.K) (by rfl) T.z_isinstance (by decide +kernel) (sa_cons (sv_own 1) (sa_cons (sv_of (se_ty (by rfl) T.z_str (by decide +kernel))) sa_nil))) (se_and (se_callB (ca_isi c.K) (by rfl) T.z_isinstance (by decide +kernel) (sa_cons (sv_own 0) (sa_cons (sv_of (se_ty (by rfl) T.z_str (by decide +kernel))) sa_nil))) (se_one (se_cmp (op_eqU c.K c.units) (sv_own 0) (sv_own 1)))))))))))
def idx00 (c : Str) : Nat := if c = cnm 0 then 0 else if c = cnm 1 then 1 else if c = cnm 2 then 2 else if c = cnm 3 then 3 else 4
def sub00 (c : Str) : Option Bool := if c = cnm 0 ∨ c = cnm 1 ∨ c = cnm 2 ∨ c = cnm 3 ∨ c = cnm 4 then some true else none
theorem sub00_idx {c : Str} (h : sub00 c = some true) : ∃ j, j < 5 ∧ c = cnm j := by
  unfold sub00 at h
  split at h
  · rename_i z
    rcases z with z | z | z | z | z
    · exact ⟨0, by omega, z⟩
    · exact ⟨1, by omega, z⟩
    · exact ⟨2, by omega, z⟩
    · exact ⟨3, by omega, z⟩
    · exact ⟨4, by omega, z⟩
  · cases h
theorem idx_cnm : ∀ j, j < 5 → idx00 (cnm j) = j := by decide +kernel
/-- the suite, of the class j -/
def suiteM (j : Nat) (v : D) (a : Addr) : MS :=
  (mSeq (mSetO 6 (lLst (aCons (vOf (mIsB 5 a (decide (0 = j)))) (aCons (vOf (mIsB 5 a (decide (1 = j)))) (aCons (vOf (mIsB 5 a (decide (2 = j)))) (aCons (vOf (mIsB 5 a (decide (3 = j)))) (aCons (vOf (mIsB 5 a (decide (4 = j)))) aNil)))))))
  (mSeq (mFor (lRange1 (mC (.int 5))) (putG 7) (mIfS (mBin neF (vOf (mBin atF (mOwn 6) (mOwn 7))) (vOf (mBin (fun x y => (eqF x y).map D.bl) (mOwn 7) (mOwn 3)))) (mRet (mC (.bl false))) mNext))
  (mSeq (mIfS (mOr (mTest (mIsB 5 a false)) (mOr (mTest (mIsB 5 a false)) (mTest (mIsB 5 a false)))) (mRet (mC (.bl false))) mNext)
  (mRet (mFn fn_law_so (aCons (vOf (mIf (mBin eqF (mOwn 3) (vOf (mC (.int 4)))) (if j = 4 then mHeld 5 a v else mNoE) (if j = 4 then mNoE else mHeld 5 a v))) (aCons (mOwn 4) aNil)))))))
def msu00 (c : Str) (v : D) (a : Addr) : MS := suiteM (idx00 c) v a
abbrev s_law : Stmt := topS 14
abbrev N_law : List Str := ["script", "row", "spot", "kind", "value", "error", "own", "k"]
theorem sc_law : FnScope N_law ["script"] (defScope s_law) := ⟨rfl, rfl, rfl, by decide +kernel, rfl, by decide +kernel, by decide +kernel⟩
def law_s0 : MS :=
    (mSet 1 (mFn fn_law_numbers (aCons (mOwn 0) aNil)))
def law_s1 : MS :=
    (mSetO 2 (lLst (aCons (vOf (mC (.int 0))) aNil)))
def law_s2 : MS :=
    (mSet 3 (mFn fn_law_take (aCons (mOwn 1) (aCons (mOwn 2) (aCons (vOf (mC (.int 5))) aNil)))))
def law_s3 : MS :=
    (mSet 4 (mBin subF (vOf (mFn fn_law_wide (aCons (mOwn 1) (aCons (mOwn 2) (aCons (vOf (mBin powF (vOf (mC (.int 10))) (vOf (mC (.int 9))))) aNil))))) (vOf (mBin mulF (vOf (mC (.int 5))) (vOf (mBin powF (vOf (mC (.int 10))) (vOf (mC (.int 8)))))))))
def law_s4 : MS :=
    (mIfS (mBin eqF (mOwn 3) (vOf (mC (.int 4)))) (mSet 4 (mBin atF (vOf (mL (lLst (aCons (vOf (mC (.str "scenes"))) (aCons (vOf (mC (.str "sets"))) aNil))))) (vOf (mFn fn_law_take (aCons (mOwn 1) (aCons (mOwn 2) (aCons (vOf (mC (.int 2))) aNil))))))) mNext)
noncomputable def law_s5 : MS :=
    (mTryN 5 sub00 msu00 (.bl true) (mDrop (mFn fn_law_raised (aCons (mOwn 3) (aCons (mOwn 4) aNil)))))
def law_s6 : MS :=
    (mRet (mC (.bl false)))
noncomputable def b_law : MS :=
    (mSeq law_s0
    (mSeq law_s1
    (mSeq law_s2
    (mSeq law_s3
    (mSeq law_s4
    (mSeq law_s5
    law_s6))))))
noncomputable def fn_law : Fn := fnOf 1 8 b_law
theorem okf_law {P : Program} {w : World} {mg : Str → Option Value} {base : Heap} {g : Gc} (T : Txt g mg) {f : Addr} {fd : FuncData} (Fu : Fun g.K "law" "law" s_law f fd) (h_law_numbers : Has P w mg base g 1 "_law_numbers" fn_law_numbers) (h_law_take : Has P w mg base g 2 "_law_take" fn_law_take) (h_law_wide : Has P w mg base g 3 "_law_wide" fn_law_wide) (h_law_raised : HasN P w mg base g 3 "_law_raised" fn_law_raised) (h_law_so : HasH P w mg base g 1 "_law_so" fn_law_so) : FnOk P w g.K mg base (L2.CX P w) 4 f fd ["script"] (spOf g fn_law) := by
  obtain ⟨D0, C, hD0, hC⟩ := T.fam.ex
  refine def_ok (k := 4 - 1) (N := N_law) Fu sc_law (by decide) (fun cdv A outer s H E φ c => ?_)
  exact (sb_cons (ss_set (i := 1) c.nd (se_fn c h_law_numbers (by omega) (by rfl) (sa_cons (sv_own 0) sa_nil)))
    (sb_cons (ss_setO (i := 2) c.nd (sl_lst (sa_cons (sv_of se_int) sa_nil)))
    (sb_cons (ss_set (i := 3) c.nd (se_fn c h_law_take (by omega) (by rfl) (sa_cons (sv_own 1) (sa_cons (sv_own 2) (sa_cons (sv_of se_int) sa_nil)))))
    (sb_cons (ss_set (i := 4) c.nd (se_bin op_sub_ (sv_of (se_fn c h_law_wide (by omega) (by rfl) (sa_cons (sv_own 1) (sa_cons (sv_own 2) (sa_cons (sv_of (se_bin op_pow_ (sv_of se_int) (sv_of se_int))) sa_nil))))) (sv_of (se_bin op_mul_ (sv_of se_int) (sv_of (se_bin op_pow_ (sv_of se_int) (sv_of se_int)))))))
    (sb_cons (ss_if (st_cmp (op_eq_ c.K c.rm) (sv_own 3) (sv_of se_int)) (sb_one (ss_set (i := 4) c.nd (se_ix (ix_at_ c.K) (sv_of (SE.ofL (sl_lst (sa_cons (sv_of se_str) (sa_cons (sv_of se_str) sa_nil))))) (sv_of (se_fn c h_law_take (by omega) (by rfl) (sa_cons (sv_own 1) (sa_cons (sv_own 2) (sa_cons (sv_of se_int) sa_nil)))))))) sb_nil)
    (sb_cons (ss_tryN (i := 5) (sub := sub00) (msu := msu00) (d := .bl true) c (by rfl) (by rfl) (by rfl) (by rfl) ⟨by rfl, by decide, .inl hD0⟩ (fun W' pn xe c => (sb_one (ss_expr (se_fnN c h_law_raised (by omega) (by rfl) (sa_cons (sv_own 3) (sa_cons (sv_own 4) sa_nil))))))
    (fun c' C' fld hx hs => by
      obtain ⟨j, hj, rfl⟩ := sub00_idx hs
      obtain ⟨_, h2, h3, _⟩ := hC j hj
      rw [h2] at hx
      cases hx
      exact h3)
    (fun cn C' fld v vv a dd oe pn φ' hs hx hz hf h0 hio hv hk => by
      obtain ⟨j, hj, rfl⟩ := sub00_idx hs
      obtain ⟨hm, h2, _, Z, Y, kk, kb⟩ := hC j hj
      rw [h2] at hx
      cases hx
      have hmg := fun i hi => (hC i hi).1
      unfold msu00
      rw [idx_cnm j hj]
      unfold suiteM
      exact (sb_cons (ss_setO (i := 6) hk.nd (sl_lst (sa_cons (sv_of (SE.as (se_callB (ca_isE Z Y hz hf h0 hio) (by rfl) T.z_isinstance (by decide +kernel) (sa_cons (sv_own 5) (sa_cons (sv_of (se_adr (by rfl) (hmg 0 (by omega)))) sa_nil))) (isB_call (f := isEF g.K (C j) a) (c := .adr (C 0)) (b := decide (0 = j)) (by simp [isEF, kk 0 (by omega)]))))
        (sa_cons (sv_of (SE.as (se_callB (ca_isE Z Y hz hf h0 hio) (by rfl) T.z_isinstance (by decide +kernel) (sa_cons (sv_own 5) (sa_cons (sv_of (se_adr (by rfl) (hmg 1 (by omega)))) sa_nil))) (isB_call (f := isEF g.K (C j) a) (c := .adr (C 1)) (b := decide (1 = j)) (by simp [isEF, kk 1 (by omega)]))))
        (sa_cons (sv_of (SE.as (se_callB (ca_isE Z Y hz hf h0 hio) (by rfl) T.z_isinstance (by decide +kernel) (sa_cons (sv_own 5) (sa_cons (sv_of (se_adr (by rfl) (hmg 2 (by omega)))) sa_nil))) (isB_call (f := isEF g.K (C j) a) (c := .adr (C 2)) (b := decide (2 = j)) (by simp [isEF, kk 2 (by omega)]))))
        (sa_cons (sv_of (SE.as (se_callB (ca_isE Z Y hz hf h0 hio) (by rfl) T.z_isinstance (by decide +kernel) (sa_cons (sv_own 5) (sa_cons (sv_of (se_adr (by rfl) (hmg 3 (by omega)))) sa_nil))) (isB_call (f := isEF g.K (C j) a) (c := .adr (C 3)) (b := decide (3 = j)) (by simp [isEF, kk 3 (by omega)]))))
        (sa_cons (sv_of (SE.as (se_callB (ca_isE Z Y hz hf h0 hio) (by rfl) T.z_isinstance (by decide +kernel) (sa_cons (sv_own 5) (sa_cons (sv_of (se_adr (by rfl) (hmg 4 (by omega)))) sa_nil))) (isB_call (f := isEF g.K (C j) a) (c := .adr (C 4)) (b := decide (4 = j)) (by simp [isEF, kk 4 (by omega)]))))
        sa_nil)))))))
      (sb_cons (ss_forH hk se_int (by rfl) T.z_range (sg_name (i := 7) hk.nd) (sb_one (ss_if (st_cmp (op_neU hk.K hk.units) (sv_of (se_ix (ix_at_ hk.K) (sv_own 6) (sv_own 7))) (sv_of (se_cmp (op_eqU hk.K hk.units) (sv_own 7) (sv_own 3)))) (sb_one (ss_ret se_bl)) sb_nil)))
      (sb_cons (ss_if (st_w (sw_or (st_val (SE.as (se_callB (ca_isE Z Y hz hf h0 hio) (by rfl) T.z_isinstance (by decide +kernel) (sa_cons (sv_own 5) (sa_cons (sv_of (se_ty (by rfl) T.z_ValueError (by decide +kernel))) sa_nil))) (isB_call (f := isEF g.K (C j) a) (c := .ty "ValueError") (b := false) (by simp [isEF, kb "ValueError" (by simp)])))) (sw_or (st_val (SE.as (se_callB (ca_isE Z Y hz hf h0 hio) (by rfl) T.z_isinstance (by decide +kernel) (sa_cons (sv_own 5) (sa_cons (sv_of (se_ty (by rfl) T.z_LookupError (by decide +kernel))) sa_nil))) (isB_call (f := isEF g.K (C j) a) (c := .ty "LookupError") (b := false) (by simp [isEF, kb "LookupError" (by simp)])))) (sw_or1 (st_val (SE.as (se_callB (ca_isE Z Y hz hf h0 hio) (by rfl) T.z_isinstance (by decide +kernel) (sa_cons (sv_own 5) (sa_cons (sv_of (se_ty (by rfl) T.z_ArithmeticError (by decide +kernel))) sa_nil))) (isB_call (f := isEF g.K (C j) a) (c := .ty "ArithmeticError") (b := false) (by simp [isEF, kb "ArithmeticError" (by simp)])))))))) (sb_one (ss_ret se_bl)) sb_nil)
      (sb_one (ss_ret (se_fnH hk h_law_so (by omega) (by rfl) (sa_cons (sv_of (se_if (st_cmp (op_eqU hk.K hk.units) (sv_own 3) (sv_of se_int)) (by
        rcases (by omega : j = 0 ∨ j = 1 ∨ j = 2 ∨ j = 3 ∨ j = 4) with rfl | rfl | rfl | rfl | rfl <;> first | exact se_no | exact se_held (i := 5) Z hz hf h0 hio hv rfl (.inl rfl) rfl) (by
        rcases (by omega : j = 0 ∨ j = 1 ∨ j = 2 ∨ j = 3 ∨ j = 4) with rfl | rfl | rfl | rfl | rfl <;> first | exact se_no | exact se_held (i := 5) Z hz hf h0 hio hv rfl (.inl rfl) rfl))) (sa_cons (sv_own 4) sa_nil))))))))))
    (sb_one (ss_ret se_bl))))))))
end K00
set_option Elab.async false
set_option linter.all false
set_option maxRecDepth 100000
set_option maxHeartbeats 4000000
namespace K00
open PySem PySem.Spec PyProof.Rows L2 Mp
/-! ### the draws -/
def dV (row : List Int) (at_ lim : Int) : Int :=
  if at_ < row.length then (row.getD at_.toNat 0) % lim else
    ((((row.getD (at_ % row.length).toNat 0) * 40692 + at_ * 7919 + 3) % 2147483399 * 48271 + at_) % 2147483647) % lim
theorem draw_ok (row : List Int) (at_ lim : Int) (h0 : 0 ≤ at_) (hl : 0 < lim) (hr : row ≠ []) : fn_law_draw [.va (.lst (iL row)), .va (.int at_), .va (.int lim)] = .ok (.int (dV row at_ lim)) [.un, .un, .un] := by
  have hn : 0 < row.length := List.length_pos_iff.mpr hr
  have hlen : (0 : Int) < row.length := by omega
  by_cases h : at_ < row.length
  · simp [fn_law_draw, fnOf, b_law_draw, h, atI_ints row at_ h0 h, hl, outsOf, List.range_succ, dV]
  · have m0 : 0 ≤ at_ % row.length := Int.emod_nonneg _ (by omega)
    have m1 : at_ % row.length < row.length := Int.emod_lt_of_pos _ hlen
    simp [fn_law_draw, fnOf, b_law_draw, h, atI_ints row _ m0 m1, hl, hlen, hn, outsOf, List.range_succ, dV]
theorem dV_range (row : List Int) (at_ lim : Int) (hl : 0 < lim) : 0 ≤ dV row at_ lim ∧ dV row at_ lim < lim := by
  unfold dV
  split
  · exact ⟨Int.emod_nonneg _ (by omega), Int.emod_lt_of_pos _ hl⟩
  · exact ⟨Int.emod_nonneg _ (by omega), Int.emod_lt_of_pos _ hl⟩
theorem take_ok (row : List Int) (i lim : Int) (h0 : 0 ≤ i) (hl : 0 < lim) (hr : row ≠ []) : fn_law_take [.va (.lst (iL row)), .ow true [.int i], .va (.int lim)] = .ok (.int (dV row i lim)) [.un, .ow true [.int (i + 1)], .un] := by
  have e : i + 1 - 1 = i := by omega
  simp [fn_law_take, fnOf, b_law_take, mStore, atI, ixN, callF, ixs, argsOf, putB, e, draw_ok row i lim h0 hl hr, outsOf, List.range_succ]
/-! ### the numbers -/
def PN (k : Nat) (e : Mp.Env) : Prop := ∃ (s : D) (row : List Int) (a b c d : Sl), e = [.va s, .ow false (iL row), a, b, c, d] ∧ Fr a ∧ Fr b ∧ Fr c ∧ Fr d ∧ row.length + 60 * k ≤ 4000
def PA_ (B : Nat) (k : Nat) (e : Mp.Env) : Prop := ∃ (s : D) (row : List Int) (x l : Int) (c d : Sl), e = [.va s, .ow false (iL row), .va (.int x), .va (.int l), c, d] ∧ Fr c ∧ Fr d ∧ row.length + k ≤ B
def PB_ (B : Nat) (k : Nat) (e : Mp.Env) : Prop := ∃ (s : D) (row : List Int) (x : Int) (b c d : Sl), e = [.va s, .ow false (iL row), .va (.int x), b, c, d] ∧ Fr b ∧ Fr c ∧ Fr d ∧ row.length + k ≤ B
theorem PN_mono (k : Nat) (e : Mp.Env) (h : PN (k + 1) e) : PN k e := by
  obtain ⟨s, row, a, b, c, d, rfl, ha, hb, hc, hd, hl⟩ := h
  exact ⟨s, row, a, b, c, d, rfl, ha, hb, hc, hd, by omega⟩
theorem PA_mono (B k : Nat) (e : Mp.Env) (h : PA_ B (k + 1) e) : PA_ B k e := by
  obtain ⟨s, row, x, l, c, d, rfl, hc, hd, hl⟩ := h
  exact ⟨s, row, x, l, c, d, rfl, hc, hd, by omega⟩
theorem PB_mono (B k : Nat) (e : Mp.Env) (h : PB_ B (k + 1) e) : PB_ B k e := by
  obtain ⟨s, row, x, b, c, d, rfl, hb, hc, hd, hl⟩ := h
  exact ⟨s, row, x, b, c, d, rfl, hb, hc, hd, by omega⟩
theorem line_lt {n : Nat} (h : n ≤ 4000) : n < line := Nat.lt_of_le_of_lt h (by decide)
theorem loopA (B : Nat) (hB : B ≤ 4000) (ds : List D) (n : Nat) (e : Mp.Env) (h : PA_ B (ds.length + n) e) : ∃ e', forF (putG 4)
    (mSeq (mIfS (mBin eqF (mOwn 3) (vOf (mC (.int 0)))) mBreak mNext)
    (mSeq (mAppend 1 (mBin modF (vOf (mCall intF (aCons (mOwn 3) aNil))) (vOf (mC (.int 997)))))
    (mSet 3 (mBin fdivF (mOwn 3) (vOf (mC (.int 997))))))) ds e = .nx e' ∧ PA_ B n e' := by
  refine forF_invN (PA_ B) (PA_mono B) ds (fun d hd k e h => ?_) n e h
  obtain ⟨s, row, x, l, c, dd, rfl, hc, hdd, hl⟩ := h
  refine ⟨[.va s, .ow false (iL row), .va (.int x), .va (.int l), .va d, dd], by cases hc <;> simp, ?_⟩
  by_cases hz : l = 0
  · exact ⟨[.va s, .ow false (iL row), .va (.int x), .va (.int l), .va d, dd], .inr (by simp [eqF_int, hz]), s, row, x, l, .va d, dd, rfl, .va d, hdd, by omega⟩
  · refine ⟨_, .inl ?_, s, row ++ [l % 997], x, l / 997, .va d, dd, rfl, .va d, hdd, by simp; omega⟩
    have hlt : row.length < line := line_lt (by omega)
    simp [eqF_int, hz, mAppend, hlt]
theorem loopB (B : Nat) (hB : B ≤ 4000) (ds : List Int) (n : Nat) (e : Mp.Env) (h : PB_ B (ds.length + n) e) : ∃ e', forF (putG 4)
    (mSeq (mSet 5 (mBin modF (vOf (mCall intF (aCons (vOf (mBin addF (vOf (mBin addF (vOf (mBin mulF (mOwn 2) (vOf (mC (.int 48271))))) (vOf (mBin mulF (mOwn 4) (vOf (mC (.int 69621))))))) (vOf (mC (.int 11))))) aNil))) (vOf (mC (.int 2147483647)))))
    (mAppend 1 (mBin modF (vOf (mCall intF (aCons (vOf (mBin addF (vOf (mBin mulF (mOwn 5) (vOf (mC (.int 16807))))) (mOwn 4))) aNil))) (vOf (mC (.int 2147483629)))))) (iL ds) e = .nx e' ∧ PB_ B n e' := by
  refine forF_invN (PB_ B) (PB_mono B) (iL ds) (fun d hd k e h => ?_) n e (by simpa using h)
  obtain ⟨i, _, rfl⟩ := mem_iL hd
  obtain ⟨s, row, x, b, c, dd, rfl, hb, hc, hdd, hl⟩ := h
  refine ⟨[.va s, .ow false (iL row), .va (.int x), b, .va (.int i), dd], by cases hc <;> simp, ?_⟩
  have hlt : row.length < line := line_lt (by omega)
  refine ⟨[.va s, .ow false (iL (row ++ [((x * 48271 + i * 69621 + 11) % 2147483647 * 16807 + i) % 2147483629])), .va (.int x), b, .va (.int i), .va (.int ((x * 48271 + i * 69621 + 11) % 2147483647))], .inl ?_, s, _, x, b, .va (.int i), .va _, rfl, hb, .va _, .va _, by simp; omega⟩
  cases hdd <;> simp [mAppend, hlt]
theorem cut63 (ns : List Int) (hn : ns.length ≤ 63) : cutF none (some 63) (.rol (iL ns)) = some (.lst (iL ns)) := by
  have e : List.take (min 63 ns.length) ns = ns := List.take_of_length_le (by omega)
  have h : HT.sIx (iL ns).length (iL ns).length (some 63) = min 63 ns.length := by
    have := HT.sIx_nat (iL ns).length (iL ns).length 63
    simpa using this
  have h0 : HT.sIx (iL ns).length 0 none = 0 := rfl
  have e2 : List.take (min 63 ns.length) (iL ns) = iL ns := List.take_of_length_le (by simp; omega)
  simp only [cutF, h, h0, List.drop_zero, Nat.sub_zero, e2]
theorem numbers_ok (ns : List Int) (hn : ns.length ≤ 63) : ∃ row, row ≠ [] ∧ fn_law_numbers [.va (.rol (iL ns))] = .ok (.lst (iL row)) [.un] := by
  have big : powF (.int 10) (.int 18) = some (.int 1000000000000000000) := by rfl
  have outer : ∀ e, PN ((iL ns).length + 0) e → ∃ e', forF (putG 2)
      (mIfS (mBin geF (mOwn 2) (vOf (mBin powF (vOf (mC (.int 10))) (vOf (mC (.int 18)))))) (mSeq (mSet 3 (mVar 2))
      (mFor (lRange1 (mC (.int 60))) (putG 4)
      (mSeq (mIfS (mBin eqF (mOwn 3) (vOf (mC (.int 0)))) mBreak mNext)
      (mSeq (mAppend 1 (mBin modF (vOf (mCall intF (aCons (mOwn 3) aNil))) (vOf (mC (.int 997)))))
      (mSet 3 (mBin fdivF (mOwn 3) (vOf (mC (.int 997))))))))) (mFor (lRange1 (mC (.int 4))) (putG 4)
      (mSeq (mSet 5 (mBin modF (vOf (mCall intF (aCons (vOf (mBin addF (vOf (mBin addF (vOf (mBin mulF (mOwn 2) (vOf (mC (.int 48271))))) (vOf (mBin mulF (mOwn 4) (vOf (mC (.int 69621))))))) (vOf (mC (.int 11))))) aNil))) (vOf (mC (.int 2147483647)))))
      (mAppend 1 (mBin modF (vOf (mCall intF (aCons (vOf (mBin addF (vOf (mBin mulF (mOwn 5) (vOf (mC (.int 16807))))) (mOwn 4))) aNil))) (vOf (mC (.int 2147483629)))))))) (iL ns) e = .nx e' ∧ PN 0 e' := fun e he => by
    refine forF_invN PN PN_mono (iL ns) (fun d hd k e h => ?_) 0 e he
    obtain ⟨x, _, rfl⟩ := mem_iL hd
    obtain ⟨s, row, a, b, c, dd, rfl, ha, hb, hc, hdd, hl⟩ := h
    refine ⟨[.va s, .ow false (iL row), .va (.int x), b, c, dd], by cases ha <;> simp, ?_⟩
    have r60 : lRange1 (mC (.int 60)) = fun env => .ok (iL ((List.range 60).map fun i => ((i : Nat) : Int))) env := by
      funext env
      simp [lRange1, iL]
      try rfl
    have r4 : lRange1 (mC (.int 4)) = fun env => .ok (iL ((List.range 4).map fun i => ((i : Nat) : Int))) env := by
      funext env
      simp [lRange1, iL]
      try rfl
    by_cases hx : (1000000000000000000 : Int) ≤ x
    · obtain ⟨e', q1, s', row', x', l', c', d', rfl, hc', hd', hl'⟩ := loopA (row.length + 60) (by omega) (iL ((List.range 60).map fun i => ((i : Nat) : Int))) 0 [.va s, .ow false (iL row), .va (.int x), .va (.int x), c, dd] ⟨s, row, x, x, c, dd, rfl, hc, hdd, by simp⟩
      refine ⟨_, .inl ?_, s', row', .va (.int x'), .va (.int l'), c', d', rfl, .va _, .va _, hc', hd', by omega⟩
      cases hb <;> simp [big, hx, r60, q1]
    · obtain ⟨e', q1, s', row', x', b', c', d', rfl, hb', hc', hd', hl'⟩ := loopB (row.length + 60) (by omega) ((List.range 4).map fun i => ((i : Nat) : Int)) 56 [.va s, .ow false (iL row), .va (.int x), b, c, dd] ⟨s, row, x, b, c, dd, rfl, hb, hc, hdd, by simp⟩
      refine ⟨_, .inl ?_, s', row', .va (.int x'), b', c', d', rfl, .va _, hb', hc', hd', by omega⟩
      simp [big, hx, r4, q1]
  obtain ⟨e', q1, s', row, a, b, c, d, rfl, ha, hb, hc, hd, hl⟩ := outer [.va (.rol (iL ns)), .ow false (iL []), .un, .un, .un, .un] ⟨.rol (iL ns), [], .un, .un, .un, .un, rfl, .un, .un, .un, .un, by simp; omega⟩
  have hcut := cut63 ns hn
  have hlt : row.length < line := line_lt (by omega)
  have n0 : iL [] = ([] : List D) := rfl
  have n1 : [D.int 0] = iL [0] := rfl
  rw [n0] at q1
  by_cases hz : row = []
  · subst hz
    refine ⟨[0], by simp, ?_⟩
    simp [fn_law_numbers, fnOf, b_law_numbers, ownG, mCut, oNone, oSome, asI, hcut, q1, eqF_int, mAppend, retOwn, outsOf, List.range_succ, hlt, line, n0, n1]
  · refine ⟨row, hz, ?_⟩
    simp [fn_law_numbers, fnOf, b_law_numbers, ownG, mCut, oNone, oSome, asI, hcut, q1, eqF_int, mAppend, retOwn, hz, outsOf, List.range_succ]
end K00
set_option Elab.async false
set_option linter.all false
set_option maxRecDepth 100000
set_option maxHeartbeats 4000000
namespace K00
open PySem PySem.Spec PyProof.Rows L2 Mp
theorem kb_int : kitB "int" "int" = some true := by rfl
theorem kb_intb : kitB "int" "bool" = some false := by decide +kernel
theorem kb_itup : kitB "int" "tuple" = some false := by decide +kernel
theorem kb_stup : kitB "str" "tuple" = some false := by decide +kernel
theorem kb_sbool : kitB "str" "bool" = some false := by decide +kernel
theorem kb_str : kitB "str" "int" = some false := by decide +kernel
theorem kb_ss : kitB "str" "str" = some true := by rfl
theorem eqF_self {d : D} {p : PyData} (h : toPy d = some p) (hs : SeqAt.shaped p = true) : eqF d d = some true := by
  have e : PyData.eqv p p = true := SeqAt.eqv_refl _ (by simp only [SeqAt.shaped, Bool.and_eq_true] at hs; exact hs.1)
  simp only [eqF, h, hs, e, and_self, if_true]
theorem nx_seq {a b : MS} {e e1 : Mp.Env} (h : a e = .nx e1) : mSeq a b e = b e1 := by rw [mSeq_s, h, Fl.seq_nx]
theorem takeL (row : List Int) (i lim : Int) (b : Bool) (s1 : Sl) (rest : Mp.Env) (h0 : 0 ≤ i) (hl : 0 < lim) (hr : row ≠ []) :
    callF fn_law_take [.va (.lst (iL row)), .ix 2, .va (.int lim)] (s1 :: .va (.lst (iL row)) :: .ow b [.int i] :: rest) = .ok (.int (dV row i lim)) (s1 :: .va (.lst (iL row)) :: .ow b [.int (i + 1)] :: rest) := by
  simp [callF, ixs, argsOf, take_ok row i lim h0 hl hr, putB]
theorem takeW (row : List Int) (i lim : Int) (b : Bool) (rest : Mp.Env) (h0 : 0 ≤ i) (hl : 0 < lim) (hr : row ≠ []) :
    callF fn_law_take [.va (.lst (iL row)), .ix 1, .va (.int lim)] (.va (.lst (iL row)) :: .ow b [.int i] :: rest) = .ok (.int (dV row i lim)) (.va (.lst (iL row)) :: .ow b [.int (i + 1)] :: rest) := by
  simp [callF, ixs, argsOf, take_ok row i lim h0 hl hr, putB]
def wide (row : List Int) (i lim : Int) : Int := (dV row i 997 * 994009 + dV row (i + 1) 997 * 997 + dV row (i + 1 + 1) 997) % lim
theorem wide_ok (row : List Int) (i lim : Int) (h0 : 0 ≤ i) (hl : 0 < lim) (hr : row ≠ []) : fn_law_wide [.va (.lst (iL row)), .ow true [.int i], .va (.int lim)] = .ok (.int (wide row i lim)) [.un, .ow true [.int (i + 1 + 1 + 1)], .un] := by
  simp [fn_law_wide, fnOf, b_law_wide, takeW row i 997 true _ h0 (by omega) hr, takeW row (i + 1) 997 true _ (by omega) (by omega) hr, takeW row (i + 1 + 1) 997 true _ (by omega) (by omega) hr, hl, wide, outsOf, List.range_succ]
theorem so_int (v : Int) : fn_law_so [.va (.int v), .va (.int v)] = .ok (.bl true) [.un, .un] := by
  simp [fn_law_so, fnOf, b_law_so, isF, D.isNon, isiF, tyName, kb_itup, kb_intb, kb_int, eqF_int, outsOf, List.range_succ]
theorem so_str (x : Str) (h : eqF (.str x) (.str x) = some true) : fn_law_so [.va (.str x), .va (.str x)] = .ok (.bl true) [.un, .un] := by
  simp [fn_law_so, fnOf, b_law_so, isF, D.isNon, isiF, tyName, kb_stup, kb_sbool, kb_str, kb_ss, h, outsOf, List.range_succ]
theorem raised_ok (j : Nat) (hj : j < 5) (v : D) (hv : fmtF v = true) : fn_law_raised [.va (.int j), .va v] = .exc (cnm j) v [.un, .un] := by
  rcases (by omega : j = 0 ∨ j = 1 ∨ j = 2 ∨ j = 3 ∨ j = 4) with rfl | rfl | rfl | rfl | rfl <;>
    simp [fn_law_raised, fnOf, b_law_raised, eqF_int, mRaise, hv, cnm, outsOf, List.range_succ]
end K00
set_option Elab.async false
set_option linter.all false
set_option maxRecDepth 100000
set_option maxHeartbeats 4000000
namespace K00
open PySem PySem.Spec PyProof.Rows L2 Mp
def E (sc : D) (row : List Int) (i : Int) (s3 s4 s5 s6 s7 : Sl) : Mp.Env := [.va sc, .va (.lst (iL row)), .ow false [.int i], s3, s4, s5, s6, s7]
/-- a value as the law draws it -/
inductive Vl : Nat → D → Prop
  | int (j : Nat) (h : j < 4) (v : Int) (hv : v.natAbs < 2000000000) : Vl j (.int v)
  | str (x : Str) (h : x = "scenes" ∨ x = "sets") : Vl 4 (.str x)
theorem Vl.lt {j : Nat} {v : D} (h : Vl j v) : j < 5 := by cases h <;> omega
theorem Vl.fmt {j : Nat} {v : D} (h : Vl j v) : fmtF v = true := by
  cases h with
  | int _ h v hv =>
    simp only [fmtF, decide_eq_true_eq]
    by_cases hz : v.natAbs = 0
    · rw [hz]; decide
    · have h2 : v.natAbs < 2 ^ 31 := by omega
      have h3 : v.natAbs.log2 < 31 := (Nat.log2_lt hz).mpr h2
      omega
  | str x h =>
    rcases h with rfl | rfl <;> decide +kernel
theorem Vl.so {j : Nat} {v : D} (h : Vl j v) : fn_law_so [.va v, .va v] = .ok (.bl true) [.un, .un] := by
  cases h with
  | int _ h v hv => exact so_int v
  | str x h =>
    rcases h with rfl | rfl
    · exact so_str _ (by decide +kernel)
    · exact so_str _ (by decide +kernel)
theorem eq_b (b c : Bool) : eqF (.bl b) (.bl c) = some (b == c) := by cases b <;> cases c <;> decide +kernel
theorem ne_b (b c : Bool) : neF (.bl b) (.bl c) = some (b != c) := by cases b <;> cases c <;> decide +kernel
theorem suite_ok {j : Nat} {v : D} (h : Vl j v) (sc : D) (row : List Int) (i : Int) (a : Addr) : ∃ e2, suiteM j v a (E sc row i (.va (.int j)) (.va v) (.va (.adr a)) .un .un) = .rt (.bl true) e2 ∧ Fewer e2 (E sc row i (.va (.int j)) (.va v) .un .un .un) := by
  have so := h.so
  have hj := h.lt
  refine ⟨E sc row i (.va (.int j)) (.va v) (.va (.adr a)) (.ow false [.bl (decide (0 = j)), .bl (decide (1 = j)), .bl (decide (2 = j)), .bl (decide (3 = j)), .bl (decide (4 = j))]) (.va (.int 4)), ?_, ?_⟩
  · clear h
    have rg : ∀ e : Mp.Env, lRange1 (mC (.int 5)) e = .ok [.int 0, .int 1, .int 2, .int 3, .int 4] e := fun e => by
      have h1 : -(2 ^ 62) ≤ (5 : Int) ∧ (5 : Int) < 2 ^ 62 := by decide
      simp only [lRange1, mC, Re.bind]
      rw [if_pos h1]
      rfl
    have so' : ∀ e, callF fn_law_so [.va v, .va v] e = .ok (.bl true) e := fun e => by simp [callF, ixs, argsOf, so, putB]
    rcases (by omega : j = 0 ∨ j = 1 ∨ j = 2 ∨ j = 3 ∨ j = 4) with rfl | rfl | rfl | rfl | rfl <;>
      simp [suiteM, E, mIsB, ownG, line, rg, forF, atF, atI, ixN, eqF_int, ne_b, mOr, mHeld, mNoE, so']
  · refine ⟨rfl, fun k => ?_⟩
    match k with
    | 0 | 1 | 2 | 3 | 4 => right; rfl
    | 5 | 6 | 7 => left; exact ⟨rfl, fun xs z => by cases z⟩
    | k + 8 => right; simp [E]
end K00
set_option Elab.async false
set_option linter.all false
set_option maxRecDepth 100000
set_option maxHeartbeats 4000000
namespace K00
open PySem PySem.Spec PyProof.Rows L2 Mp
theorem sub_cnm : ∀ j, j < 5 → sub00 (cnm j) = some true := by decide +kernel
theorem S5 {j : Nat} {v : D} (h : Vl j v) (sc : D) (row : List Int) (i : Int) : law_s5 (E sc row i (.va (.int j)) (.va v) .un .un .un) = .rt (.bl true) (E sc row i (.va (.int j)) (.va v) .un .un .un) := by
  have r := raised_ok j h.lt v h.fmt
  have b : mDrop (mFn fn_law_raised (aCons (mOwn 3) (aCons (mOwn 4) aNil))) (E sc row i (.va (.int j)) (.va v) .un .un .un) = .exc (cnm j) v (E sc row i (.va (.int j)) (.va v) .un .un .un) := by
    have r' : ∀ e, callF fn_law_raised [.va (.int j), .va v] e = .exc (cnm j) v e := fun e => by simp [callF, ixs, argsOf, r, putB]
    simp [E, r']
  have al : ∀ a, ∃ e2, msu00 (cnm j) v a ((E sc row i (.va (.int j)) (.va v) .un .un .un).set 5 (.va (.adr a))) = .rt (.bl true) e2 ∧ Fewer e2 (E sc row i (.va (.int j)) (.va v) .un .un .un) := fun a => by
    unfold msu00
    rw [idx_cnm j h.lt]
    exact suite_ok h sc row i a
  unfold law_s5 mTryN
  rw [b]
  exact if_pos ⟨sub_cnm j h.lt, rfl, al⟩
theorem S0 (ns : List Int) (row : List Int) (h : fn_law_numbers [.va (.rol (iL ns))] = .ok (.lst (iL row)) [.un]) : law_s0 [.va (.rol (iL ns)), .un, .un, .un, .un, .un, .un, .un] = .nx [.va (.rol (iL ns)), .va (.lst (iL row)), .un, .un, .un, .un, .un, .un] := by
  have c : ∀ e, callF fn_law_numbers [.va (.rol (iL ns))] e = .ok (.lst (iL row)) e := fun e => by simp [callF, ixs, argsOf, h, putB]
  simp [law_s0, c]
theorem S1 (sc : D) (row : List Int) : law_s1 [.va sc, .va (.lst (iL row)), .un, .un, .un, .un, .un, .un] = .nx (E sc row 0 .un .un .un .un .un) := by
  simp [law_s1, ownG, line, E]
theorem S2 (sc : D) (row : List Int) (hr : row ≠ []) (i : Int) (hi : 0 ≤ i) : law_s2 (E sc row i .un .un .un .un .un) = .nx (E sc row (i + 1) (.va (.int (dV row i 5))) .un .un .un .un) := by
  simp [law_s2, E, takeL row i 5 false _ _ hi (by omega) hr]
theorem wideL (row : List Int) (i lim : Int) (b : Bool) (s1 : Sl) (rest : Mp.Env) (h0 : 0 ≤ i) (hl : 0 < lim) (hr : row ≠ []) :
    callF fn_law_wide [.va (.lst (iL row)), .ix 2, .va (.int lim)] (s1 :: .va (.lst (iL row)) :: .ow b [.int i] :: rest) = .ok (.int (wide row i lim)) (s1 :: .va (.lst (iL row)) :: .ow b [.int (i + 1 + 1 + 1)] :: rest) := by
  simp [callF, ixs, argsOf, wide_ok row i lim h0 hl hr, putB]
theorem S3 (sc : D) (row : List Int) (hr : row ≠ []) (i : Int) (hi : 0 ≤ i) (s3 : Sl) : law_s3 (E sc row i s3 .un .un .un .un) = .nx (E sc row (i + 1 + 1 + 1) s3 (.va (.int (wide row i 1000000000 - 500000000))) .un .un .un) := by
  have p9 : powF (.int 10) (.int 9) = some (.int 1000000000) := by simp [powF]
  have p8 : powF (.int 10) (.int 8) = some (.int 100000000) := by simp [powF]
  simp [law_s3, E, p9, p8, wideL row i 1000000000 false _ _ hi (by omega) hr]
theorem S4a (sc : D) (row : List Int) (hr : row ≠ []) (i : Int) (hi : 0 ≤ i) (v : D) : ∃ x : Str, (x = "scenes" ∨ x = "sets") ∧ law_s4 (E sc row i (.va (.int 4)) (.va v) .un .un .un) = .nx (E sc row (i + 1) (.va (.int 4)) (.va (.str x)) .un .un .un) := by
  have r := dV_range row i 2 (by omega)
  rcases (by omega : dV row i 2 = 0 ∨ dV row i 2 = 1) with h | h
  · exact ⟨"scenes", .inl rfl, by simp [law_s4, E, eqF_int, line, takeL row i 2 false _ _ hi (by omega) hr, h, atF, atI, ixN]⟩
  · exact ⟨"sets", .inr rfl, by simp [law_s4, E, eqF_int, line, takeL row i 2 false _ _ hi (by omega) hr, h, atF, atI, ixN]⟩
theorem S4b (sc : D) (row : List Int) (i : Int) (d : Int) (hd : d ≠ 4) (v : D) : law_s4 (E sc row i (.va (.int d)) (.va v) .un .un .un) = .nx (E sc row i (.va (.int d)) (.va v) .un .un .un) := by
  simp [law_s4, E, eqF_int, hd]
theorem law_true : ∀ ns : List Int, ns.length ≤ 63 → ∃ outs, fn_law [.va (.rol (ns.map D.int))] = .ok (.bl true) outs := fun ns hn => by
  obtain ⟨row, hr, hrow⟩ := numbers_ok ns hn
  have rk := dV_range row 0 5 (by omega)
  have e2 := S2 (.rol (iL ns)) row hr 0 (by omega)
  have e3 := S3 (.rol (iL ns)) row hr (0 + 1) (by omega) (.va (.int (dV row 0 5)))
  have key : ∃ e, b_law [.va (.rol (iL ns)), .un, .un, .un, .un, .un, .un, .un] = .rt (.bl true) e := by
    by_cases h4 : dV row 0 5 = 4
    · rw [h4] at e2 e3
      obtain ⟨x, hx, e4⟩ := S4a (.rol (iL ns)) row hr (0 + 1 + 1 + 1 + 1) (by omega) (.int (wide row (0 + 1) 1000000000 - 500000000))
      have e5 := S5 (Vl.str x hx) (.rol (iL ns)) row (0 + 1 + 1 + 1 + 1 + 1)
      have k5 : mSeq law_s5 law_s6 (E (.rol (iL ns)) row (0 + 1 + 1 + 1 + 1 + 1) (.va (.int 4)) (.va (.str x)) .un .un .un) = .rt (.bl true) _ := (mSeq_s _ _ _).trans (by rw [show law_s5 (E (.rol (iL ns)) row (0 + 1 + 1 + 1 + 1 + 1) (.va (.int 4)) (.va (.str x)) .un .un .un) = _ from e5]; rfl)
      unfold b_law
      rw [nx_seq (S0 ns row hrow), nx_seq (S1 _ row), nx_seq e2, nx_seq e3, nx_seq e4]
      exact ⟨_, k5⟩
    · obtain ⟨j, hj⟩ := Int.eq_ofNat_of_zero_le rk.1
      rw [hj] at e2 e3
      have e4 := S4b (.rol (iL ns)) row (0 + 1 + 1 + 1 + 1) j (by omega) (.int (wide row (0 + 1) 1000000000 - 500000000))
      have hw : 0 ≤ wide row (0 + 1) 1000000000 ∧ wide row (0 + 1) 1000000000 < 1000000000 := by
        unfold wide
        exact ⟨Int.emod_nonneg _ (by decide), Int.emod_lt_of_pos _ (by decide)⟩
      have e5 := S5 (Vl.int j (by omega) (wide row (0 + 1) 1000000000 - 500000000) (by omega)) (.rol (iL ns)) row (0 + 1 + 1 + 1 + 1)
      have k5 : mSeq law_s5 law_s6 (E (.rol (iL ns)) row (0 + 1 + 1 + 1 + 1) (.va (.int j)) (.va (.int (wide row (0 + 1) 1000000000 - 500000000))) .un .un .un) = .rt (.bl true) _ := (mSeq_s _ _ _).trans (by rw [e5]; rfl)
      unfold b_law
      rw [nx_seq (S0 ns row hrow), nx_seq (S1 _ row), nx_seq e2, nx_seq e3, nx_seq e4]
      exact ⟨_, k5⟩
  obtain ⟨e, key⟩ := key
  refine ⟨outsOf 1 e, ?_⟩
  unfold fn_law fnOf
  rw [if_pos (by rfl)]
  show (match b_law [.va (.rol (iL ns)), .un, .un, .un, .un, .un, .un, .un] with | .rt d e => FR.ok d (outsOf 1 e) | .nx e => .ok .non (outsOf 1 e) | .exc c v e => .exc c v (outsOf 1 e) | _ => .no) = _
  rw [key]
end K00
set_option Elab.async false
set_option linter.all false
set_option maxRecDepth 100000
set_option maxHeartbeats 4000000
namespace K00
open PySem PySem.Spec PyProof.Rows L2 Mp
def gOf (K : PySem.W.Frag) (CBadValue CBadKind CBadState CTooMany CBadSyntax : Addr) : Gc := ⟨K, (fun c => none), (fun c => if c = "BadValue" then some (CBadValue, ("at" : Str)) else if c = "BadKind" then some (CBadKind, ("at" : Str)) else if c = "BadState" then some (CBadState, ("at" : Str)) else if c = "TooMany" then some (CTooMany, ("word" : Str)) else if c = "BadSyntax" then some (CBadSyntax, ("at" : Str)) else none)⟩
theorem all_mk {P : Program} {w : World} {K : PySem.W.Frag} {h : Heap} {mg : Str → Option Value} {fa CDeskError CBadValue fBadValue CBadKind fBadKind CBadState fBadState CTooMany fTooMany CBadSyntax fBadSyntax flaw_numbers flaw_draw flaw_take flaw_wide flaw_raised flaw_so flaw : Addr} {ocBadValue kVBadValue dcBadValue pmBadValue cdBadValue ctBadValue : Value} {odBadValue anBadValue : Option Addr} {slBadValue : Array (Option Value)} {ocBadKind kVBadKind dcBadKind pmBadKind cdBadKind ctBadKind : Value} {odBadKind anBadKind : Option Addr} {slBadKind : Array (Option Value)} {ocBadState kVBadState dcBadState pmBadState cdBadState ctBadState : Value} {odBadState anBadState : Option Addr} {slBadState : Array (Option Value)} {ocTooMany kVTooMany dcTooMany pmTooMany cdTooMany ctTooMany : Value} {odTooMany anTooMany : Option Addr} {slTooMany : Array (Option Value)} {ocBadSyntax kVBadSyntax dcBadSyntax pmBadSyntax cdBadSyntax ctBadSyntax : Value} {odBadSyntax anBadSyntax : Option Addr} {slBadSyntax : Array (Option Value)} {oclaw_numbers kVlaw_numbers dclaw_numbers pmlaw_numbers cdlaw_numbers ctlaw_numbers : Value} {odlaw_numbers anlaw_numbers : Option Addr} {sllaw_numbers : Array (Option Value)} {oclaw_draw kVlaw_draw dclaw_draw pmlaw_draw cdlaw_draw ctlaw_draw : Value} {odlaw_draw anlaw_draw : Option Addr} {sllaw_draw : Array (Option Value)} {oclaw_take kVlaw_take dclaw_take pmlaw_take cdlaw_take ctlaw_take : Value} {odlaw_take anlaw_take : Option Addr} {sllaw_take : Array (Option Value)} {oclaw_wide kVlaw_wide dclaw_wide pmlaw_wide cdlaw_wide ctlaw_wide : Value} {odlaw_wide anlaw_wide : Option Addr} {sllaw_wide : Array (Option Value)} {oclaw_raised kVlaw_raised dclaw_raised pmlaw_raised cdlaw_raised ctlaw_raised : Value} {odlaw_raised anlaw_raised : Option Addr} {sllaw_raised : Array (Option Value)} {oclaw_so kVlaw_so dclaw_so pmlaw_so cdlaw_so ctlaw_so : Value} {odlaw_so anlaw_so : Option Addr} {sllaw_so : Array (Option Value)} {oclaw kVlaw dclaw pmlaw cdlaw ctlaw : Value} {odlaw anlaw : Option Addr} {sllaw : Array (Option Value)} (X : K.In h) (G : h.Ns mainGlobals mg) (hfa : mg "law" = some (.ref fa))
    (on : PySem.W.specialIn K (.builtin "object.__class__") "__get__" = some (some (.builtin "getset_descriptor.__get__")))
    (ot : PySem.W.takesIn K (.builtin "object.__class__") = some true)
    (gDeskError : PySem.W.nsIn K mainGlobals "DeskError" = some (some (.ref CDeskError)))
    (spDeskError : PySem.W.specialIn K (.ref CDeskError) "__getattribute__" = some (some (.builtin "type.__getattribute__")))
    (rdDeskError : PySem.W.readsIn K CDeskError (.type "type") = true)
    (fiDeskError : PySem.W.findCls K (.ref CDeskError) (.type "type") "__init__" = some (.val (.builtin "Exception.__init__")))
    (exDeskError : PySem.W.subIn K (.ref CDeskError) (.type "BaseException") = some true)
    (tyDeskError : PySem.W.typeIn K (.ref CDeskError) = some (.type "type"))
    (icDeskError : PySem.W.isClsIn K CDeskError = true)
    (gBadValue : PySem.W.nsIn K mainGlobals "BadValue" = some (some (.ref CBadValue)))
    (gBadKind : PySem.W.nsIn K mainGlobals "BadKind" = some (some (.ref CBadKind)))
    (gBadState : PySem.W.nsIn K mainGlobals "BadState" = some (some (.ref CBadState)))
    (gTooMany : PySem.W.nsIn K mainGlobals "TooMany" = some (some (.ref CTooMany)))
    (gBadSyntax : PySem.W.nsIn K mainGlobals "BadSyntax" = some (some (.ref CBadSyntax)))
    (mdBadValue : PySem.W.excInitIn K CBadValue exT "Exception.__new__" = true)
    (ovBadValue : PySem.W.excOver K CBadValue exT = true)
    (hdBadValue : PySem.W.hasDictIn K CBadValue = true)
    (tkBadValue : PySem.W.takerIn K CBadValue "at" = some none)
    (saBadValue : PySem.W.findIn K (.ref CBadValue) "__setattr__" = some (some (.builtin "object.__setattr__")))
    (gaBadValue : PySem.W.findIn K (.ref CBadValue) "__getattribute__" = some (some (.builtin "BaseException.__getattribute__")))
    (ggBadValue : PySem.W.findIn K (.ref CBadValue) "__getattr__" = some none)
    (noBadValue : PySem.W.findIn K (.ref CBadValue) "at" = some none)
    (exBadValue : PySem.W.subIn K (.ref CBadValue) (.type "BaseException") = some true)
    (tyBadValue : PySem.W.typeIn K (.ref CBadValue) = some (.type "type"))
    (kpBadValue : PySem.W.keepIn K (.ref CBadValue) = true)
    (icBadValue : PySem.W.isClsIn K CBadValue = true)
    (sBadValueDeskError : PySem.W.subIn K (.ref CBadValue) (.ref CDeskError) = some true)
    (caBadValue : PySem.W.findIn K (.ref CBadValue) "__class__" = some (some (.builtin "object.__class__")))
    (moBadValue : PySem.W.mroIn K CBadValue (.type "object") = some true)
    (sBadValueValueError : PySem.W.subIn K (.ref CBadValue) (.type "ValueError") = some false)
    (sBadValueLookupError : PySem.W.subIn K (.ref CBadValue) (.type "LookupError") = some false)
    (sBadValueArithmeticError : PySem.W.subIn K (.ref CBadValue) (.type "ArithmeticError") = some false)
    (sBadValueBadValue : PySem.W.subIn K (.ref CBadValue) (.ref CBadValue) = some true)
    (sBadKindBadValue : PySem.W.subIn K (.ref CBadKind) (.ref CBadValue) = some false)
    (sBadStateBadValue : PySem.W.subIn K (.ref CBadState) (.ref CBadValue) = some false)
    (sTooManyBadValue : PySem.W.subIn K (.ref CTooMany) (.ref CBadValue) = some false)
    (sBadSyntaxBadValue : PySem.W.subIn K (.ref CBadSyntax) (.ref CBadValue) = some false)
    (iiBadValue : PySem.W.findIn K (.ref CBadValue) "__init__" = some (some (.ref fBadValue)))
    (tiBadValue : PySem.W.typeIn K (.ref fBadValue) = some (.type "function"))
    (lBadValue : K.lookup fBadValue = some ⟨ocBadValue, odBadValue, .func (PySem.W.fnOf "__init__" "BadValue.__init__" (defArgs s_BadValue_init) (defBody s_BadValue_init) (defScope s_BadValue_init) .none kVBadValue dcBadValue pmBadValue anBadValue cdBadValue ctBadValue), slBadValue⟩)
    (cBadValue : PySem.W.codeIn K cdBadValue "BadValue.__init__" = true)
    (kBadValue : PySem.W.keepIn K (.ref fBadValue) = true)
    (mdBadKind : PySem.W.excInitIn K CBadKind exT "Exception.__new__" = true)
    (ovBadKind : PySem.W.excOver K CBadKind exT = true)
    (hdBadKind : PySem.W.hasDictIn K CBadKind = true)
    (tkBadKind : PySem.W.takerIn K CBadKind "at" = some none)
    (saBadKind : PySem.W.findIn K (.ref CBadKind) "__setattr__" = some (some (.builtin "object.__setattr__")))
    (gaBadKind : PySem.W.findIn K (.ref CBadKind) "__getattribute__" = some (some (.builtin "BaseException.__getattribute__")))
    (ggBadKind : PySem.W.findIn K (.ref CBadKind) "__getattr__" = some none)
    (noBadKind : PySem.W.findIn K (.ref CBadKind) "at" = some none)
    (exBadKind : PySem.W.subIn K (.ref CBadKind) (.type "BaseException") = some true)
    (tyBadKind : PySem.W.typeIn K (.ref CBadKind) = some (.type "type"))
    (kpBadKind : PySem.W.keepIn K (.ref CBadKind) = true)
    (icBadKind : PySem.W.isClsIn K CBadKind = true)
    (sBadKindDeskError : PySem.W.subIn K (.ref CBadKind) (.ref CDeskError) = some true)
    (caBadKind : PySem.W.findIn K (.ref CBadKind) "__class__" = some (some (.builtin "object.__class__")))
    (moBadKind : PySem.W.mroIn K CBadKind (.type "object") = some true)
    (sBadKindValueError : PySem.W.subIn K (.ref CBadKind) (.type "ValueError") = some false)
    (sBadKindLookupError : PySem.W.subIn K (.ref CBadKind) (.type "LookupError") = some false)
    (sBadKindArithmeticError : PySem.W.subIn K (.ref CBadKind) (.type "ArithmeticError") = some false)
    (sBadValueBadKind : PySem.W.subIn K (.ref CBadValue) (.ref CBadKind) = some false)
    (sBadKindBadKind : PySem.W.subIn K (.ref CBadKind) (.ref CBadKind) = some true)
    (sBadStateBadKind : PySem.W.subIn K (.ref CBadState) (.ref CBadKind) = some false)
    (sTooManyBadKind : PySem.W.subIn K (.ref CTooMany) (.ref CBadKind) = some false)
    (sBadSyntaxBadKind : PySem.W.subIn K (.ref CBadSyntax) (.ref CBadKind) = some false)
    (iiBadKind : PySem.W.findIn K (.ref CBadKind) "__init__" = some (some (.ref fBadKind)))
    (tiBadKind : PySem.W.typeIn K (.ref fBadKind) = some (.type "function"))
    (lBadKind : K.lookup fBadKind = some ⟨ocBadKind, odBadKind, .func (PySem.W.fnOf "__init__" "BadKind.__init__" (defArgs s_BadKind_init) (defBody s_BadKind_init) (defScope s_BadKind_init) .none kVBadKind dcBadKind pmBadKind anBadKind cdBadKind ctBadKind), slBadKind⟩)
    (cBadKind : PySem.W.codeIn K cdBadKind "BadKind.__init__" = true)
    (kBadKind : PySem.W.keepIn K (.ref fBadKind) = true)
    (mdBadState : PySem.W.excInitIn K CBadState exT "Exception.__new__" = true)
    (ovBadState : PySem.W.excOver K CBadState exT = true)
    (hdBadState : PySem.W.hasDictIn K CBadState = true)
    (tkBadState : PySem.W.takerIn K CBadState "at" = some none)
    (saBadState : PySem.W.findIn K (.ref CBadState) "__setattr__" = some (some (.builtin "object.__setattr__")))
    (gaBadState : PySem.W.findIn K (.ref CBadState) "__getattribute__" = some (some (.builtin "BaseException.__getattribute__")))
    (ggBadState : PySem.W.findIn K (.ref CBadState) "__getattr__" = some none)
    (noBadState : PySem.W.findIn K (.ref CBadState) "at" = some none)
    (exBadState : PySem.W.subIn K (.ref CBadState) (.type "BaseException") = some true)
    (tyBadState : PySem.W.typeIn K (.ref CBadState) = some (.type "type"))
    (kpBadState : PySem.W.keepIn K (.ref CBadState) = true)
    (icBadState : PySem.W.isClsIn K CBadState = true)
    (sBadStateDeskError : PySem.W.subIn K (.ref CBadState) (.ref CDeskError) = some true)
    (caBadState : PySem.W.findIn K (.ref CBadState) "__class__" = some (some (.builtin "object.__class__")))
    (moBadState : PySem.W.mroIn K CBadState (.type "object") = some true)
    (sBadStateValueError : PySem.W.subIn K (.ref CBadState) (.type "ValueError") = some false)
    (sBadStateLookupError : PySem.W.subIn K (.ref CBadState) (.type "LookupError") = some false)
    (sBadStateArithmeticError : PySem.W.subIn K (.ref CBadState) (.type "ArithmeticError") = some false)
    (sBadValueBadState : PySem.W.subIn K (.ref CBadValue) (.ref CBadState) = some false)
    (sBadKindBadState : PySem.W.subIn K (.ref CBadKind) (.ref CBadState) = some false)
    (sBadStateBadState : PySem.W.subIn K (.ref CBadState) (.ref CBadState) = some true)
    (sTooManyBadState : PySem.W.subIn K (.ref CTooMany) (.ref CBadState) = some false)
    (sBadSyntaxBadState : PySem.W.subIn K (.ref CBadSyntax) (.ref CBadState) = some false)
    (iiBadState : PySem.W.findIn K (.ref CBadState) "__init__" = some (some (.ref fBadState)))
    (tiBadState : PySem.W.typeIn K (.ref fBadState) = some (.type "function"))
    (lBadState : K.lookup fBadState = some ⟨ocBadState, odBadState, .func (PySem.W.fnOf "__init__" "BadState.__init__" (defArgs s_BadState_init) (defBody s_BadState_init) (defScope s_BadState_init) .none kVBadState dcBadState pmBadState anBadState cdBadState ctBadState), slBadState⟩)
    (cBadState : PySem.W.codeIn K cdBadState "BadState.__init__" = true)
    (kBadState : PySem.W.keepIn K (.ref fBadState) = true)
    (mdTooMany : PySem.W.excInitIn K CTooMany exT "Exception.__new__" = true)
    (ovTooMany : PySem.W.excOver K CTooMany exT = true)
    (hdTooMany : PySem.W.hasDictIn K CTooMany = true)
    (tkTooMany : PySem.W.takerIn K CTooMany "word" = some none)
    (saTooMany : PySem.W.findIn K (.ref CTooMany) "__setattr__" = some (some (.builtin "object.__setattr__")))
    (gaTooMany : PySem.W.findIn K (.ref CTooMany) "__getattribute__" = some (some (.builtin "BaseException.__getattribute__")))
    (ggTooMany : PySem.W.findIn K (.ref CTooMany) "__getattr__" = some none)
    (noTooMany : PySem.W.findIn K (.ref CTooMany) "word" = some none)
    (exTooMany : PySem.W.subIn K (.ref CTooMany) (.type "BaseException") = some true)
    (tyTooMany : PySem.W.typeIn K (.ref CTooMany) = some (.type "type"))
    (kpTooMany : PySem.W.keepIn K (.ref CTooMany) = true)
    (icTooMany : PySem.W.isClsIn K CTooMany = true)
    (sTooManyDeskError : PySem.W.subIn K (.ref CTooMany) (.ref CDeskError) = some true)
    (caTooMany : PySem.W.findIn K (.ref CTooMany) "__class__" = some (some (.builtin "object.__class__")))
    (moTooMany : PySem.W.mroIn K CTooMany (.type "object") = some true)
    (sTooManyValueError : PySem.W.subIn K (.ref CTooMany) (.type "ValueError") = some false)
    (sTooManyLookupError : PySem.W.subIn K (.ref CTooMany) (.type "LookupError") = some false)
    (sTooManyArithmeticError : PySem.W.subIn K (.ref CTooMany) (.type "ArithmeticError") = some false)
    (sBadValueTooMany : PySem.W.subIn K (.ref CBadValue) (.ref CTooMany) = some false)
    (sBadKindTooMany : PySem.W.subIn K (.ref CBadKind) (.ref CTooMany) = some false)
    (sBadStateTooMany : PySem.W.subIn K (.ref CBadState) (.ref CTooMany) = some false)
    (sTooManyTooMany : PySem.W.subIn K (.ref CTooMany) (.ref CTooMany) = some true)
    (sBadSyntaxTooMany : PySem.W.subIn K (.ref CBadSyntax) (.ref CTooMany) = some false)
    (iiTooMany : PySem.W.findIn K (.ref CTooMany) "__init__" = some (some (.ref fTooMany)))
    (tiTooMany : PySem.W.typeIn K (.ref fTooMany) = some (.type "function"))
    (lTooMany : K.lookup fTooMany = some ⟨ocTooMany, odTooMany, .func (PySem.W.fnOf "__init__" "TooMany.__init__" (defArgs s_TooMany_init) (defBody s_TooMany_init) (defScope s_TooMany_init) .none kVTooMany dcTooMany pmTooMany anTooMany cdTooMany ctTooMany), slTooMany⟩)
    (cTooMany : PySem.W.codeIn K cdTooMany "TooMany.__init__" = true)
    (kTooMany : PySem.W.keepIn K (.ref fTooMany) = true)
    (mdBadSyntax : PySem.W.excInitIn K CBadSyntax exT "Exception.__new__" = true)
    (ovBadSyntax : PySem.W.excOver K CBadSyntax exT = true)
    (hdBadSyntax : PySem.W.hasDictIn K CBadSyntax = true)
    (tkBadSyntax : PySem.W.takerIn K CBadSyntax "at" = some none)
    (saBadSyntax : PySem.W.findIn K (.ref CBadSyntax) "__setattr__" = some (some (.builtin "object.__setattr__")))
    (gaBadSyntax : PySem.W.findIn K (.ref CBadSyntax) "__getattribute__" = some (some (.builtin "BaseException.__getattribute__")))
    (ggBadSyntax : PySem.W.findIn K (.ref CBadSyntax) "__getattr__" = some none)
    (noBadSyntax : PySem.W.findIn K (.ref CBadSyntax) "at" = some none)
    (exBadSyntax : PySem.W.subIn K (.ref CBadSyntax) (.type "BaseException") = some true)
    (tyBadSyntax : PySem.W.typeIn K (.ref CBadSyntax) = some (.type "type"))
    (kpBadSyntax : PySem.W.keepIn K (.ref CBadSyntax) = true)
    (icBadSyntax : PySem.W.isClsIn K CBadSyntax = true)
    (sBadSyntaxDeskError : PySem.W.subIn K (.ref CBadSyntax) (.ref CDeskError) = some true)
    (caBadSyntax : PySem.W.findIn K (.ref CBadSyntax) "__class__" = some (some (.builtin "object.__class__")))
    (moBadSyntax : PySem.W.mroIn K CBadSyntax (.type "object") = some true)
    (sBadSyntaxValueError : PySem.W.subIn K (.ref CBadSyntax) (.type "ValueError") = some false)
    (sBadSyntaxLookupError : PySem.W.subIn K (.ref CBadSyntax) (.type "LookupError") = some false)
    (sBadSyntaxArithmeticError : PySem.W.subIn K (.ref CBadSyntax) (.type "ArithmeticError") = some false)
    (sBadValueBadSyntax : PySem.W.subIn K (.ref CBadValue) (.ref CBadSyntax) = some false)
    (sBadKindBadSyntax : PySem.W.subIn K (.ref CBadKind) (.ref CBadSyntax) = some false)
    (sBadStateBadSyntax : PySem.W.subIn K (.ref CBadState) (.ref CBadSyntax) = some false)
    (sTooManyBadSyntax : PySem.W.subIn K (.ref CTooMany) (.ref CBadSyntax) = some false)
    (sBadSyntaxBadSyntax : PySem.W.subIn K (.ref CBadSyntax) (.ref CBadSyntax) = some true)
    (iiBadSyntax : PySem.W.findIn K (.ref CBadSyntax) "__init__" = some (some (.ref fBadSyntax)))
    (tiBadSyntax : PySem.W.typeIn K (.ref fBadSyntax) = some (.type "function"))
    (lBadSyntax : K.lookup fBadSyntax = some ⟨ocBadSyntax, odBadSyntax, .func (PySem.W.fnOf "__init__" "BadSyntax.__init__" (defArgs s_BadSyntax_init) (defBody s_BadSyntax_init) (defScope s_BadSyntax_init) .none kVBadSyntax dcBadSyntax pmBadSyntax anBadSyntax cdBadSyntax ctBadSyntax), slBadSyntax⟩)
    (cBadSyntax : PySem.W.codeIn K cdBadSyntax "BadSyntax.__init__" = true)
    (kBadSyntax : PySem.W.keepIn K (.ref fBadSyntax) = true)
    (alaw_numbers : PySem.W.nsIn K mainGlobals "_law_numbers" = some (some (.ref flaw_numbers)))
    (llaw_numbers : K.lookup flaw_numbers = some ⟨oclaw_numbers, odlaw_numbers, .func (PySem.W.fnOf "_law_numbers" "_law_numbers" (defArgs s_law_numbers) (defBody s_law_numbers) (defScope s_law_numbers) .none kVlaw_numbers dclaw_numbers pmlaw_numbers anlaw_numbers cdlaw_numbers ctlaw_numbers), sllaw_numbers⟩)
    (claw_numbers : PySem.W.codeIn K cdlaw_numbers "_law_numbers" = true)
    (klaw_numbers : PySem.W.keepIn K (.ref flaw_numbers) = true)
    (alaw_draw : PySem.W.nsIn K mainGlobals "_law_draw" = some (some (.ref flaw_draw)))
    (llaw_draw : K.lookup flaw_draw = some ⟨oclaw_draw, odlaw_draw, .func (PySem.W.fnOf "_law_draw" "_law_draw" (defArgs s_law_draw) (defBody s_law_draw) (defScope s_law_draw) .none kVlaw_draw dclaw_draw pmlaw_draw anlaw_draw cdlaw_draw ctlaw_draw), sllaw_draw⟩)
    (claw_draw : PySem.W.codeIn K cdlaw_draw "_law_draw" = true)
    (klaw_draw : PySem.W.keepIn K (.ref flaw_draw) = true)
    (alaw_take : PySem.W.nsIn K mainGlobals "_law_take" = some (some (.ref flaw_take)))
    (llaw_take : K.lookup flaw_take = some ⟨oclaw_take, odlaw_take, .func (PySem.W.fnOf "_law_take" "_law_take" (defArgs s_law_take) (defBody s_law_take) (defScope s_law_take) .none kVlaw_take dclaw_take pmlaw_take anlaw_take cdlaw_take ctlaw_take), sllaw_take⟩)
    (claw_take : PySem.W.codeIn K cdlaw_take "_law_take" = true)
    (klaw_take : PySem.W.keepIn K (.ref flaw_take) = true)
    (alaw_wide : PySem.W.nsIn K mainGlobals "_law_wide" = some (some (.ref flaw_wide)))
    (llaw_wide : K.lookup flaw_wide = some ⟨oclaw_wide, odlaw_wide, .func (PySem.W.fnOf "_law_wide" "_law_wide" (defArgs s_law_wide) (defBody s_law_wide) (defScope s_law_wide) .none kVlaw_wide dclaw_wide pmlaw_wide anlaw_wide cdlaw_wide ctlaw_wide), sllaw_wide⟩)
    (claw_wide : PySem.W.codeIn K cdlaw_wide "_law_wide" = true)
    (klaw_wide : PySem.W.keepIn K (.ref flaw_wide) = true)
    (alaw_raised : PySem.W.nsIn K mainGlobals "_law_raised" = some (some (.ref flaw_raised)))
    (llaw_raised : K.lookup flaw_raised = some ⟨oclaw_raised, odlaw_raised, .func (PySem.W.fnOf "_law_raised" "_law_raised" (defArgs s_law_raised) (defBody s_law_raised) (defScope s_law_raised) .none kVlaw_raised dclaw_raised pmlaw_raised anlaw_raised cdlaw_raised ctlaw_raised), sllaw_raised⟩)
    (claw_raised : PySem.W.codeIn K cdlaw_raised "_law_raised" = true)
    (klaw_raised : PySem.W.keepIn K (.ref flaw_raised) = true)
    (alaw_so : PySem.W.nsIn K mainGlobals "_law_so" = some (some (.ref flaw_so)))
    (llaw_so : K.lookup flaw_so = some ⟨oclaw_so, odlaw_so, .func (PySem.W.fnOf "_law_so" "_law_so" (defArgs s_law_so) (defBody s_law_so) (defScope s_law_so) .none kVlaw_so dclaw_so pmlaw_so anlaw_so cdlaw_so ctlaw_so), sllaw_so⟩)
    (claw_so : PySem.W.codeIn K cdlaw_so "_law_so" = true)
    (klaw_so : PySem.W.keepIn K (.ref flaw_so) = true)
    (alaw : PySem.W.nsIn K mainGlobals "law" = some (some (.ref flaw)))
    (llaw : K.lookup flaw = some ⟨oclaw, odlaw, .func (PySem.W.fnOf "law" "law" (defArgs s_law) (defBody s_law) (defScope s_law) .none kVlaw dclaw pmlaw anlaw cdlaw ctlaw), sllaw⟩)
    (claw : PySem.W.codeIn K cdlaw "law" = true)
    (klaw : PySem.W.keepIn K (.ref flaw) = true)
    (zArithmeticError : PySem.W.nsIn K mainGlobals "ArithmeticError" = some none)
    (zLookupError : PySem.W.nsIn K mainGlobals "LookupError" = some none)
    (zValueError : PySem.W.nsIn K mainGlobals "ValueError" = some none)
    (zbool : PySem.W.nsIn K mainGlobals "bool" = some none)
    (zint : PySem.W.nsIn K mainGlobals "int" = some none)
    (zisinstance : PySem.W.nsIn K mainGlobals "isinstance" = some none)
    (zlen : PySem.W.nsIn K mainGlobals "len" = some none)
    (zrange : PySem.W.nsIn K mainGlobals "range" = some none)
    (zstr : PySem.W.nsIn K mainGlobals "str" = some none)
    (ztuple : PySem.W.nsIn K mainGlobals "tuple" = some none) :
    ∃ fd : FuncData, (∀ (s : Shared) (v : Value), BindsTo s fd ⟨[v], []⟩ [("script", v)]) ∧ ∀ base : Heap, K.In base → base.Ns mainGlobals mg → FnOk P w K mg base (L2.CX P w) 4 fa fd ["script"] (spLaw K) := by
  have e := hfa.symm.trans (PySem.W.mg_of X G alaw)
  cases e
  refine ⟨PySem.W.fnOf "law" "law" (defArgs s_law) (defBody s_law) (defScope s_law) .none kVlaw dclaw pmlaw anlaw cdlaw ctlaw, fun s v => .of_eq rfl, fun base _ _ => ?_⟩
  · have ZBadValue : ExC K CBadValue "at" := ⟨mdBadValue, ovBadValue, hdBadValue, tkBadValue, saBadValue, gaBadValue, ggBadValue, noBadValue, exBadValue, tyBadValue, kpBadValue⟩
    have xcBadValue : Gc.xc (gOf K CBadValue CBadKind CBadState CTooMany CBadSyntax) "BadValue" = some (CBadValue, ("at" : Str)) := by first | rfl | simp [gOf]
    have ZBadKind : ExC K CBadKind "at" := ⟨mdBadKind, ovBadKind, hdBadKind, tkBadKind, saBadKind, gaBadKind, ggBadKind, noBadKind, exBadKind, tyBadKind, kpBadKind⟩
    have xcBadKind : Gc.xc (gOf K CBadValue CBadKind CBadState CTooMany CBadSyntax) "BadKind" = some (CBadKind, ("at" : Str)) := by first | rfl | simp [gOf]
    have ZBadState : ExC K CBadState "at" := ⟨mdBadState, ovBadState, hdBadState, tkBadState, saBadState, gaBadState, ggBadState, noBadState, exBadState, tyBadState, kpBadState⟩
    have xcBadState : Gc.xc (gOf K CBadValue CBadKind CBadState CTooMany CBadSyntax) "BadState" = some (CBadState, ("at" : Str)) := by first | rfl | simp [gOf]
    have ZTooMany : ExC K CTooMany "word" := ⟨mdTooMany, ovTooMany, hdTooMany, tkTooMany, saTooMany, gaTooMany, ggTooMany, noTooMany, exTooMany, tyTooMany, kpTooMany⟩
    have xcTooMany : Gc.xc (gOf K CBadValue CBadKind CBadState CTooMany CBadSyntax) "TooMany" = some (CTooMany, ("word" : Str)) := by first | rfl | simp [gOf]
    have ZBadSyntax : ExC K CBadSyntax "at" := ⟨mdBadSyntax, ovBadSyntax, hdBadSyntax, tkBadSyntax, saBadSyntax, gaBadSyntax, ggBadSyntax, noBadSyntax, exBadSyntax, tyBadSyntax, kpBadSyntax⟩
    have xcBadSyntax : Gc.xc (gOf K CBadValue CBadKind CBadState CTooMany CBadSyntax) "BadSyntax" = some (CBadSyntax, ("at" : Str)) := by first | rfl | simp [gOf]
    have fam_ : Fam (gOf K CBadValue CBadKind CBadState CTooMany CBadSyntax) mg := by
      refine ⟨CDeskError, (fun j => match j with | 0 => CBadValue | 1 => CBadKind | 2 => CBadState | 3 => CBadSyntax | _ => CTooMany), PySem.W.mg_of X G gDeskError, fun j hj => ?_⟩
      match j, hj with
      | 0, _ => exact ⟨PySem.W.mg_of X G gBadValue, xcBadValue, exm_of exDeskError icDeskError tyDeskError sBadValueDeskError, ZBadValue, ⟨caBadValue, on, ot, moBadValue⟩, fun i hi => match i, hi with
        | 0, _ => kit_ref icBadValue tyBadValue sBadValueBadValue sBadValueBadValue
        | 1, _ => kit_ref icBadKind tyBadKind sBadKindBadKind sBadValueBadKind
        | 2, _ => kit_ref icBadState tyBadState sBadStateBadState sBadValueBadState
        | 3, _ => kit_ref icBadSyntax tyBadSyntax sBadSyntaxBadSyntax sBadValueBadSyntax
        | 4, _ => kit_ref icTooMany tyTooMany sTooManyTooMany sBadValueTooMany, fun n hn => by
          simp only [List.mem_cons, List.not_mem_nil, or_false] at hn
          rcases hn with rfl | rfl | rfl
          · exact kit_bt sBadValueValueError (by decide +kernel)
          · exact kit_bt sBadValueLookupError (by decide +kernel)
          · exact kit_bt sBadValueArithmeticError (by decide +kernel)⟩
      | 1, _ => exact ⟨PySem.W.mg_of X G gBadKind, xcBadKind, exm_of exDeskError icDeskError tyDeskError sBadKindDeskError, ZBadKind, ⟨caBadKind, on, ot, moBadKind⟩, fun i hi => match i, hi with
        | 0, _ => kit_ref icBadValue tyBadValue sBadValueBadValue sBadKindBadValue
        | 1, _ => kit_ref icBadKind tyBadKind sBadKindBadKind sBadKindBadKind
        | 2, _ => kit_ref icBadState tyBadState sBadStateBadState sBadKindBadState
        | 3, _ => kit_ref icBadSyntax tyBadSyntax sBadSyntaxBadSyntax sBadKindBadSyntax
        | 4, _ => kit_ref icTooMany tyTooMany sTooManyTooMany sBadKindTooMany, fun n hn => by
          simp only [List.mem_cons, List.not_mem_nil, or_false] at hn
          rcases hn with rfl | rfl | rfl
          · exact kit_bt sBadKindValueError (by decide +kernel)
          · exact kit_bt sBadKindLookupError (by decide +kernel)
          · exact kit_bt sBadKindArithmeticError (by decide +kernel)⟩
      | 2, _ => exact ⟨PySem.W.mg_of X G gBadState, xcBadState, exm_of exDeskError icDeskError tyDeskError sBadStateDeskError, ZBadState, ⟨caBadState, on, ot, moBadState⟩, fun i hi => match i, hi with
        | 0, _ => kit_ref icBadValue tyBadValue sBadValueBadValue sBadStateBadValue
        | 1, _ => kit_ref icBadKind tyBadKind sBadKindBadKind sBadStateBadKind
        | 2, _ => kit_ref icBadState tyBadState sBadStateBadState sBadStateBadState
        | 3, _ => kit_ref icBadSyntax tyBadSyntax sBadSyntaxBadSyntax sBadStateBadSyntax
        | 4, _ => kit_ref icTooMany tyTooMany sTooManyTooMany sBadStateTooMany, fun n hn => by
          simp only [List.mem_cons, List.not_mem_nil, or_false] at hn
          rcases hn with rfl | rfl | rfl
          · exact kit_bt sBadStateValueError (by decide +kernel)
          · exact kit_bt sBadStateLookupError (by decide +kernel)
          · exact kit_bt sBadStateArithmeticError (by decide +kernel)⟩
      | 3, _ => exact ⟨PySem.W.mg_of X G gBadSyntax, xcBadSyntax, exm_of exDeskError icDeskError tyDeskError sBadSyntaxDeskError, ZBadSyntax, ⟨caBadSyntax, on, ot, moBadSyntax⟩, fun i hi => match i, hi with
        | 0, _ => kit_ref icBadValue tyBadValue sBadValueBadValue sBadSyntaxBadValue
        | 1, _ => kit_ref icBadKind tyBadKind sBadKindBadKind sBadSyntaxBadKind
        | 2, _ => kit_ref icBadState tyBadState sBadStateBadState sBadSyntaxBadState
        | 3, _ => kit_ref icBadSyntax tyBadSyntax sBadSyntaxBadSyntax sBadSyntaxBadSyntax
        | 4, _ => kit_ref icTooMany tyTooMany sTooManyTooMany sBadSyntaxTooMany, fun n hn => by
          simp only [List.mem_cons, List.not_mem_nil, or_false] at hn
          rcases hn with rfl | rfl | rfl
          · exact kit_bt sBadSyntaxValueError (by decide +kernel)
          · exact kit_bt sBadSyntaxLookupError (by decide +kernel)
          · exact kit_bt sBadSyntaxArithmeticError (by decide +kernel)⟩
      | 4, _ => exact ⟨PySem.W.mg_of X G gTooMany, xcTooMany, exm_of exDeskError icDeskError tyDeskError sTooManyDeskError, ZTooMany, ⟨caTooMany, on, ot, moTooMany⟩, fun i hi => match i, hi with
        | 0, _ => kit_ref icBadValue tyBadValue sBadValueBadValue sTooManyBadValue
        | 1, _ => kit_ref icBadKind tyBadKind sBadKindBadKind sTooManyBadKind
        | 2, _ => kit_ref icBadState tyBadState sBadStateBadState sTooManyBadState
        | 3, _ => kit_ref icBadSyntax tyBadSyntax sBadSyntaxBadSyntax sTooManyBadSyntax
        | 4, _ => kit_ref icTooMany tyTooMany sTooManyTooMany sTooManyTooMany, fun n hn => by
          simp only [List.mem_cons, List.not_mem_nil, or_false] at hn
          rcases hn with rfl | rfl | rfl
          · exact kit_bt sTooManyValueError (by decide +kernel)
          · exact kit_bt sTooManyLookupError (by decide +kernel)
          · exact kit_bt sTooManyArithmeticError (by decide +kernel)⟩

    have T : Txt (gOf K CBadValue CBadKind CBadState CTooMany CBadSyntax) mg := ⟨PySem.W.mg_none_of X G zArithmeticError, PySem.W.mg_none_of X G zLookupError, PySem.W.mg_none_of X G zValueError, PySem.W.mg_none_of X G zbool, PySem.W.mg_none_of X G zint, PySem.W.mg_none_of X G zisinstance, PySem.W.mg_none_of X G zlen, PySem.W.mg_none_of X G zrange, PySem.W.mg_none_of X G zstr, PySem.W.mg_none_of X G ztuple, fam_⟩
    have hx_BadValue : HasX P w mg base (gOf K CBadValue CBadKind CBadState CTooMany CBadSyntax) 1 "BadValue" := x_BadValue ZBadValue iiBadValue tiBadValue (fun_mk lBadValue cBadValue kBadValue) ((fun_mk lBadValue cBadValue kBadValue).binds (ps := ["self", "at"]) fun _ _ _ _ _ _ us hl => match us, hl with | [_, _], _ => rfl) (PySem.W.mg_of X G gBadValue) xcBadValue ⟨PySem.W.mg_of X G gDeskError, spDeskError, rdDeskError, fiDeskError⟩
    have hx_BadKind : HasX P w mg base (gOf K CBadValue CBadKind CBadState CTooMany CBadSyntax) 1 "BadKind" := x_BadKind ZBadKind iiBadKind tiBadKind (fun_mk lBadKind cBadKind kBadKind) ((fun_mk lBadKind cBadKind kBadKind).binds (ps := ["self", "at"]) fun _ _ _ _ _ _ us hl => match us, hl with | [_, _], _ => rfl) (PySem.W.mg_of X G gBadKind) xcBadKind ⟨PySem.W.mg_of X G gDeskError, spDeskError, rdDeskError, fiDeskError⟩
    have hx_BadState : HasX P w mg base (gOf K CBadValue CBadKind CBadState CTooMany CBadSyntax) 1 "BadState" := x_BadState ZBadState iiBadState tiBadState (fun_mk lBadState cBadState kBadState) ((fun_mk lBadState cBadState kBadState).binds (ps := ["self", "at"]) fun _ _ _ _ _ _ us hl => match us, hl with | [_, _], _ => rfl) (PySem.W.mg_of X G gBadState) xcBadState ⟨PySem.W.mg_of X G gDeskError, spDeskError, rdDeskError, fiDeskError⟩
    have hx_TooMany : HasX P w mg base (gOf K CBadValue CBadKind CBadState CTooMany CBadSyntax) 1 "TooMany" := x_TooMany ZTooMany iiTooMany tiTooMany (fun_mk lTooMany cTooMany kTooMany) ((fun_mk lTooMany cTooMany kTooMany).binds (ps := ["self", "word"]) fun _ _ _ _ _ _ us hl => match us, hl with | [_, _], _ => rfl) (PySem.W.mg_of X G gTooMany) xcTooMany ⟨PySem.W.mg_of X G gDeskError, spDeskError, rdDeskError, fiDeskError⟩
    have hx_BadSyntax : HasX P w mg base (gOf K CBadValue CBadKind CBadState CTooMany CBadSyntax) 1 "BadSyntax" := x_BadSyntax ZBadSyntax iiBadSyntax tiBadSyntax (fun_mk lBadSyntax cBadSyntax kBadSyntax) ((fun_mk lBadSyntax cBadSyntax kBadSyntax).binds (ps := ["self", "at"]) fun _ _ _ _ _ _ us hl => match us, hl with | [_, _], _ => rfl) (PySem.W.mg_of X G gBadSyntax) xcBadSyntax ⟨PySem.W.mg_of X G gDeskError, spDeskError, rdDeskError, fiDeskError⟩
    have h_law_numbers := ok_law_numbers (P := P) (w := w) (base := base) T ⟨_, _, fun_mk llaw_numbers claw_numbers klaw_numbers, PySem.W.mg_of X G alaw_numbers, (fun_mk llaw_numbers claw_numbers klaw_numbers).binds (ps := ["script"]) fun _ _ _ _ _ _ us hl => match us, hl with | [_], _ => rfl⟩ 
    have h_law_draw := ok_law_draw (P := P) (w := w) (base := base) T ⟨_, _, fun_mk llaw_draw claw_draw klaw_draw, PySem.W.mg_of X G alaw_draw, (fun_mk llaw_draw claw_draw klaw_draw).binds (ps := ["row", "at", "limit"]) fun _ _ _ _ _ _ us hl => match us, hl with | [_, _, _], _ => rfl⟩ 
    have h_law_take := ok_law_take (P := P) (w := w) (base := base) T ⟨_, _, fun_mk llaw_take claw_take klaw_take, PySem.W.mg_of X G alaw_take, (fun_mk llaw_take claw_take klaw_take).binds (ps := ["row", "spot", "limit"]) fun _ _ _ _ _ _ us hl => match us, hl with | [_, _, _], _ => rfl⟩ h_law_draw
    have h_law_wide := ok_law_wide (P := P) (w := w) (base := base) T ⟨_, _, fun_mk llaw_wide claw_wide klaw_wide, PySem.W.mg_of X G alaw_wide, (fun_mk llaw_wide claw_wide klaw_wide).binds (ps := ["row", "spot", "limit"]) fun _ _ _ _ _ _ us hl => match us, hl with | [_, _, _], _ => rfl⟩ h_law_take
    have h_law_raised := ok_law_raised (P := P) (w := w) (base := base) T ⟨_, _, fun_mk llaw_raised claw_raised klaw_raised, PySem.W.mg_of X G alaw_raised, (fun_mk llaw_raised claw_raised klaw_raised).binds (ps := ["kind", "value"]) fun _ _ _ _ _ _ us hl => match us, hl with | [_, _], _ => rfl⟩ hx_BadValue hx_BadKind hx_BadState hx_BadSyntax hx_TooMany
    have h_law_so := ok_law_so (P := P) (w := w) (base := base) T ⟨_, _, fun_mk llaw_so claw_so klaw_so, PySem.W.mg_of X G alaw_so, (fun_mk llaw_so claw_so klaw_so).binds (ps := ["found", "meant"]) fun _ _ _ _ _ _ us hl => match us, hl with | [_, _], _ => rfl⟩ 
    exact law_of (okf_law T (fun_mk llaw claw klaw) h_law_numbers h_law_take h_law_wide h_law_raised h_law_so) law_true
theorem walk {l : PySem.W.OpenLaw} {q : Program} {loose : List Str} {XP : (Str → Option Value) → Heap → Prop} {YP : World → Heap → Prop} {d : DefRec} {K : Params → PySem.W.Frag} (hn : l.most = some 63) (hdf : d.params.defaults = [])
    (hY : ∀ (w : World) (h : Heap), YP w h → (K w.params).In h)
    (F : ∀ (w : World) (mg : Str → Option Value) (fa : Addr) (h : Heap), (K w.params).In h → h.Ns mainGlobals mg → mg d.name = some (.ref fa) →
      ∃ fd : FuncData, (∀ (s : Shared) (u : Value), BindsTo s fd ⟨[u], []⟩ [("script", u)]) ∧ ∀ base : Heap, (K w.params).In base → base.Ns mainGlobals mg → FnOk l.prog w (K w.params) mg base (L2.CX l.prog w) 4 fa fd ["script"] (spLaw (K w.params))) :
    PySem.W.WalkO q loose XP YP l.row.toRowW d [] (fun f vs => PySem.call f vs) :=
  L2.walk_of (n := 63) (k := 4) (x := "script") (CX := fun w => L2.CX l.prog w) (sp := fun w => spLaw (K w.params)) hn (by decide) hdf ⟨rfl, by decide, by decide⟩ hY F (fun _ _ a ns hl _ hS => ⟨a, ns, rfl, hS, hl, fun _ => rfl⟩) fun w H s e s' h => by
    obtain ⟨_, _, _, _, _, _, _, _, _, _, _, _, z⟩ := h
    exact z.elim

end K00
set_option Elab.async false
set_option linter.all false
set_option maxRecDepth 100000
set_option maxHeartbeats 4000000

open PySem PySem.W PyProof.Rows in
set_option maxRecDepth 100000 in
set_option maxHeartbeats 0 in
theorem PySem.Challenge.cw_promisedesk_k00_errors_holds : PySem.Challenge.rw_promisedesk_k00_errors.Holds := by
  w_on; o_law; k_head; (case hw => w_witness2)
  k_fill
  refine K00.walk (l := PySem.Challenge.rw_promisedesk_k00_errors) rfl rfl (fun w h Y => PySem.W.kIn_of Y) ?F
  case F =>
    intro w mg fa h KX G hmg
    refine' K00.all_mk KX G hmg ?on ?ot ?gDeskError ?spDeskError ?rdDeskError ?fiDeskError ?exDeskError ?tyDeskError ?icDeskError ?gBadValue ?gBadKind ?gBadState ?gTooMany ?gBadSyntax ?mdBadValue ?ovBadValue ?hdBadValue ?tkBadValue ?saBadValue ?gaBadValue ?ggBadValue ?noBadValue ?exBadValue ?tyBadValue ?kpBadValue ?icBadValue ?sBadValueDeskError ?caBadValue ?moBadValue ?sBadValueValueError ?sBadValueLookupError ?sBadValueArithmeticError ?sBadValueBadValue ?sBadKindBadValue ?sBadStateBadValue ?sTooManyBadValue ?sBadSyntaxBadValue ?iiBadValue ?tiBadValue ?lBadValue ?cBadValue ?kBadValue ?mdBadKind ?ovBadKind ?hdBadKind ?tkBadKind ?saBadKind ?gaBadKind ?ggBadKind ?noBadKind ?exBadKind ?tyBadKind ?kpBadKind ?icBadKind ?sBadKindDeskError ?caBadKind ?moBadKind ?sBadKindValueError ?sBadKindLookupError ?sBadKindArithmeticError ?sBadValueBadKind ?sBadKindBadKind ?sBadStateBadKind ?sTooManyBadKind ?sBadSyntaxBadKind ?iiBadKind ?tiBadKind ?lBadKind ?cBadKind ?kBadKind ?mdBadState ?ovBadState ?hdBadState ?tkBadState ?saBadState ?gaBadState ?ggBadState ?noBadState ?exBadState ?tyBadState ?kpBadState ?icBadState ?sBadStateDeskError ?caBadState ?moBadState ?sBadStateValueError ?sBadStateLookupError ?sBadStateArithmeticError ?sBadValueBadState ?sBadKindBadState ?sBadStateBadState ?sTooManyBadState ?sBadSyntaxBadState ?iiBadState ?tiBadState ?lBadState ?cBadState ?kBadState ?mdTooMany ?ovTooMany ?hdTooMany ?tkTooMany ?saTooMany ?gaTooMany ?ggTooMany ?noTooMany ?exTooMany ?tyTooMany ?kpTooMany ?icTooMany ?sTooManyDeskError ?caTooMany ?moTooMany ?sTooManyValueError ?sTooManyLookupError ?sTooManyArithmeticError ?sBadValueTooMany ?sBadKindTooMany ?sBadStateTooMany ?sTooManyTooMany ?sBadSyntaxTooMany ?iiTooMany ?tiTooMany ?lTooMany ?cTooMany ?kTooMany ?mdBadSyntax ?ovBadSyntax ?hdBadSyntax ?tkBadSyntax ?saBadSyntax ?gaBadSyntax ?ggBadSyntax ?noBadSyntax ?exBadSyntax ?tyBadSyntax ?kpBadSyntax ?icBadSyntax ?sBadSyntaxDeskError ?caBadSyntax ?moBadSyntax ?sBadSyntaxValueError ?sBadSyntaxLookupError ?sBadSyntaxArithmeticError ?sBadValueBadSyntax ?sBadKindBadSyntax ?sBadStateBadSyntax ?sTooManyBadSyntax ?sBadSyntaxBadSyntax ?iiBadSyntax ?tiBadSyntax ?lBadSyntax ?cBadSyntax ?kBadSyntax ?alaw_numbers ?llaw_numbers ?claw_numbers ?klaw_numbers ?alaw_draw ?llaw_draw ?claw_draw ?klaw_draw ?alaw_take ?llaw_take ?claw_take ?klaw_take ?alaw_wide ?llaw_wide ?claw_wide ?klaw_wide ?alaw_raised ?llaw_raised ?claw_raised ?klaw_raised ?alaw_so ?llaw_so ?claw_so ?klaw_so ?alaw ?llaw ?claw ?klaw ?zArithmeticError ?zLookupError ?zValueError ?zbool ?zint ?zisinstance ?zlen ?zrange ?zstr ?ztuple
    (case on => k_is)
    (case ot => k_is)
    (case gDeskError => k_is)
    (case spDeskError => k_is)
    (case rdDeskError => k_is)
    (case fiDeskError => k_is)
    (case exDeskError => k_is)
    (case tyDeskError => k_is)
    (case icDeskError => k_is)
    (case gBadValue => k_is)
    (case gBadKind => k_is)
    (case gBadState => k_is)
    (case gTooMany => k_is)
    (case gBadSyntax => k_is)
    (case mdBadValue => kx_is)
    (case ovBadValue => kx_is)
    (case hdBadValue => k_is)
    (case tkBadValue => k_is)
    (case saBadValue => k_is)
    (case gaBadValue => k_is)
    (case ggBadValue => k_is)
    (case noBadValue => k_is)
    (case exBadValue => k_is)
    (case tyBadValue => k_is)
    (case kpBadValue => k_is)
    (case icBadValue => k_is)
    (case sBadValueDeskError => k_is)
    (case caBadValue => k_is)
    (case moBadValue => k_is)
    (case sBadValueValueError => k_is)
    (case sBadValueLookupError => k_is)
    (case sBadValueArithmeticError => k_is)
    (case sBadValueBadValue => k_is)
    (case sBadKindBadValue => k_is)
    (case sBadStateBadValue => k_is)
    (case sTooManyBadValue => k_is)
    (case sBadSyntaxBadValue => k_is)
    (case iiBadValue => k_is)
    (case tiBadValue => k_is)
    (case lBadValue => k_is)
    (case cBadValue => k_is)
    (case kBadValue => k_is)
    (case mdBadKind => kx_is)
    (case ovBadKind => kx_is)
    (case hdBadKind => k_is)
    (case tkBadKind => k_is)
    (case saBadKind => k_is)
    (case gaBadKind => k_is)
    (case ggBadKind => k_is)
    (case noBadKind => k_is)
    (case exBadKind => k_is)
    (case tyBadKind => k_is)
    (case kpBadKind => k_is)
    (case icBadKind => k_is)
    (case sBadKindDeskError => k_is)
    (case caBadKind => k_is)
    (case moBadKind => k_is)
    (case sBadKindValueError => k_is)
    (case sBadKindLookupError => k_is)
    (case sBadKindArithmeticError => k_is)
    (case sBadValueBadKind => k_is)
    (case sBadKindBadKind => k_is)
    (case sBadStateBadKind => k_is)
    (case sTooManyBadKind => k_is)
    (case sBadSyntaxBadKind => k_is)
    (case iiBadKind => k_is)
    (case tiBadKind => k_is)
    (case lBadKind => k_is)
    (case cBadKind => k_is)
    (case kBadKind => k_is)
    (case mdBadState => kx_is)
    (case ovBadState => kx_is)
    (case hdBadState => k_is)
    (case tkBadState => k_is)
    (case saBadState => k_is)
    (case gaBadState => k_is)
    (case ggBadState => k_is)
    (case noBadState => k_is)
    (case exBadState => k_is)
    (case tyBadState => k_is)
    (case kpBadState => k_is)
    (case icBadState => k_is)
    (case sBadStateDeskError => k_is)
    (case caBadState => k_is)
    (case moBadState => k_is)
    (case sBadStateValueError => k_is)
    (case sBadStateLookupError => k_is)
    (case sBadStateArithmeticError => k_is)
    (case sBadValueBadState => k_is)
    (case sBadKindBadState => k_is)
    (case sBadStateBadState => k_is)
    (case sTooManyBadState => k_is)
    (case sBadSyntaxBadState => k_is)
    (case iiBadState => k_is)
    (case tiBadState => k_is)
    (case lBadState => k_is)
    (case cBadState => k_is)
    (case kBadState => k_is)
    (case mdTooMany => kx_is)
    (case ovTooMany => kx_is)
    (case hdTooMany => k_is)
    (case tkTooMany => k_is)
    (case saTooMany => k_is)
    (case gaTooMany => k_is)
    (case ggTooMany => k_is)
    (case noTooMany => k_is)
    (case exTooMany => k_is)
    (case tyTooMany => k_is)
    (case kpTooMany => k_is)
    (case icTooMany => k_is)
    (case sTooManyDeskError => k_is)
    (case caTooMany => k_is)
    (case moTooMany => k_is)
    (case sTooManyValueError => k_is)
    (case sTooManyLookupError => k_is)
    (case sTooManyArithmeticError => k_is)
    (case sBadValueTooMany => k_is)
    (case sBadKindTooMany => k_is)
    (case sBadStateTooMany => k_is)
    (case sTooManyTooMany => k_is)
    (case sBadSyntaxTooMany => k_is)
    (case iiTooMany => k_is)
    (case tiTooMany => k_is)
    (case lTooMany => k_is)
    (case cTooMany => k_is)
    (case kTooMany => k_is)
    (case mdBadSyntax => kx_is)
    (case ovBadSyntax => kx_is)
    (case hdBadSyntax => k_is)
    (case tkBadSyntax => k_is)
    (case saBadSyntax => k_is)
    (case gaBadSyntax => k_is)
    (case ggBadSyntax => k_is)
    (case noBadSyntax => k_is)
    (case exBadSyntax => k_is)
    (case tyBadSyntax => k_is)
    (case kpBadSyntax => k_is)
    (case icBadSyntax => k_is)
    (case sBadSyntaxDeskError => k_is)
    (case caBadSyntax => k_is)
    (case moBadSyntax => k_is)
    (case sBadSyntaxValueError => k_is)
    (case sBadSyntaxLookupError => k_is)
    (case sBadSyntaxArithmeticError => k_is)
    (case sBadValueBadSyntax => k_is)
    (case sBadKindBadSyntax => k_is)
    (case sBadStateBadSyntax => k_is)
    (case sTooManyBadSyntax => k_is)
    (case sBadSyntaxBadSyntax => k_is)
    (case iiBadSyntax => k_is)
    (case tiBadSyntax => k_is)
    (case lBadSyntax => k_is)
    (case cBadSyntax => k_is)
    (case kBadSyntax => k_is)
    (case alaw_numbers => k_is)
    (case llaw_numbers => k_is)
    (case claw_numbers => k_is)
    (case klaw_numbers => k_is)
    (case alaw_draw => k_is)
    (case llaw_draw => k_is)
    (case claw_draw => k_is)
    (case klaw_draw => k_is)
    (case alaw_take => k_is)
    (case llaw_take => k_is)
    (case claw_take => k_is)
    (case klaw_take => k_is)
    (case alaw_wide => k_is)
    (case llaw_wide => k_is)
    (case claw_wide => k_is)
    (case klaw_wide => k_is)
    (case alaw_raised => k_is)
    (case llaw_raised => k_is)
    (case claw_raised => k_is)
    (case klaw_raised => k_is)
    (case alaw_so => k_is)
    (case llaw_so => k_is)
    (case claw_so => k_is)
    (case klaw_so => k_is)
    (case alaw => k_is)
    (case llaw => k_is)
    (case claw => k_is)
    (case klaw => k_is)
    (case zArithmeticError => k_is)
    (case zLookupError => k_is)
    (case zValueError => k_is)
    (case zbool => k_is)
    (case zint => k_is)
    (case zisinstance => k_is)
    (case zlen => k_is)
    (case zrange => k_is)
    (case zstr => k_is)
    (case ztuple => k_is)
