import PyProof.Rows.All
import Wide.All
import OpenK.AllK
import Wide.FinOn
import HandS.ForMost
import HandS.ForExc
import HandS.TupAny
import HandS.IsInst
import HandS.ExcInit
import HandS.FStr
import HandS.TryMany
import KE.KExcTry
import HandS.Property
import HandS.SlotsOwn
import HandS.Zip
import HandS.HotCalls
import KE.GoesMore
import HandS.Conv
import HandS.SortInts
import HandS.TupLe
import HandS.Defaults
import HandS.CallSlots
import HandS.TryOnly
import KE.SortData
import HandS.SetBool
import HandS.Strs
import HandS.Deep
import HandS.Style
import KE.KExcLine
import PySem.Challenge.RW_promisedesk_k10_tickets_that_come
set_option Elab.async false
set_option linter.all false
set_option maxRecDepth 100000
namespace Mp
open PySem PySem.Spec PyProof.Rows L2

/-! ## values as data -/
inductive D where
  | non | bl (b : Bool) | int (i : Int) | str (x : Str) | tup (xs : List D) | lst (xs : List D) | rol (xs : List D) | obj (c : Str) (fs : List D) | ty (n : String) | cls (c : Str) | adr (a : Addr)

/-- the constants of a program: the written part, own classes (address, field names), exception classes (address, field) -/
structure Gc where
  K : PySem.W.Frag
  cl : Str → Option (Addr × List Str)
  xc : Str → Option (Addr × Str)

/-- the value v stands for the data d, by what the heap F says -/
inductive Rep (g : Gc) (F : Hp) : V → D → Prop
  | non : Rep g F .non .non
  | bl (b : Bool) : Rep g F (.bl b) (.bl b)
  | int (i : Int) : Rep g F (.int i) (.int i)
  | str (x : Str) : Rep g F (.str x) (.str x)
  | tup (a : Addr) (vs : List V) (ds : List D) (h : SqT g.K F a vs) (hl : vs.length = ds.length)
      (hi : ∀ (i : Nat) (v : V) (d : D), vs[i]? = some v → ds[i]? = some d → Rep g F v d) : Rep g F (.ref a) (.tup ds)
  | rol (a : Addr) (vs : List V) (ds : List D) (h : SqL g.K F a vs) (hl : vs.length = ds.length)
      (hi : ∀ (i : Nat) (v : V) (d : D), vs[i]? = some v → ds[i]? = some d → Rep g F v d) : Rep g F (.ref a) (.rol ds)
  | ty (n : String) : Rep g F (.ty n) (.ty n)
  | adr (a : Addr) : Rep g F (.ref a) (.adr a)
  | cls (c : Str) (C : Addr) (ns : List Str) (hc : g.cl c = some (C, ns)) : Rep g F (.ref C) (.cls c)
  | lst (a : Addr) (vs : List V) (ds : List D) (h : F a = some (.lst vs)) (hl : vs.length = ds.length)
      (hi : ∀ (i : Nat) (v : V) (d : D), vs[i]? = some v → ds[i]? = some d → Rep g F v d) : Rep g F (.ref a) (.lst ds)
  | obj (a : Addr) (c : Str) (C dx : Addr) (ns : List Str) (vs : List V) (ds : List D) (hc : g.cl c = some (C, ns)) (h : F a = some (.ins C dx (ns.zip vs))) (hn : ns.length = vs.length) (hl : vs.length = ds.length)
      (hi : ∀ (i : Nat) (v : V) (d : D), vs[i]? = some v → ds[i]? = some d → Rep g F v d) : Rep g F (.ref a) (.obj c ds)

structure Reps (g : Gc) (F : Hp) (vs : List V) (ds : List D) : Prop where
  len : vs.length = ds.length
  at_ : ∀ (i : Nat) (v : V) (d : D), vs[i]? = some v → ds[i]? = some d → Rep g F v d

theorem same_t {K : PySem.W.Frag} {H H' : Hp} {a : Addr} {xs : List V} (e : Same H H') (h : SqT K H a xs) : SqT K H' a xs := by
  rcases h with (h | ⟨o, h⟩) | h
  · exact .inl (.inl (e _ _ h))
  · exact .inl (.inr ⟨o, e _ _ h⟩)
  · exact .inr h
theorem same_new {H : Hp} {p : Addr} {o : HO} (h : H p = none) : Same H (upd H p o) := fun b x e => by
  rw [upd_ne (ne_of_none e h)]
  exact e

section
variable {g : Gc} {F F' : Hp}
theorem Rep.mono (e : Same F F') {v : V} {d : D} (h : Rep g F v d) : Rep g F' v d := by
  induction h with
  | non => exact .non
  | bl b => exact .bl b
  | int i => exact .int i
  | str x => exact .str x
  | tup a vs ds h hl _ ih => exact .tup a vs ds (same_t e h) hl ih
  | lst a vs ds h hl _ ih => exact .lst a vs ds (e _ _ h) hl ih
  | rol a vs ds h hl _ ih => exact .rol a vs ds (e.seq h) hl ih
  | ty n => exact .ty n
  | adr a => exact .adr a
  | cls c C ns hc => exact .cls c C ns hc
  | obj a c C dx ns vs ds hc h hn hl _ ih => exact .obj a c C dx ns vs ds hc (e _ _ h) hn hl ih
theorem Reps.mono (e : Same F F') {vs : List V} {ds : List D} (h : Reps g F vs ds) : Reps g F' vs ds := ⟨h.len, fun i v d a b => (h.at_ i v d a b).mono e⟩
theorem Reps.nil : Reps g F [] [] := ⟨rfl, fun i v d a _ => by simp at a⟩
theorem Reps.cons {v : V} {d : D} {vs : List V} {ds : List D} (h : Rep g F v d) (t : Reps g F vs ds) : Reps g F (v :: vs) (d :: ds) :=
  ⟨by simp [t.len], fun i w e a b => by
    cases i with
    | zero =>
      simp only [List.getElem?_cons_zero, Option.some.injEq] at a b
      subst a b
      exact h
    | succ i =>
      simp only [List.getElem?_cons_succ] at a b
      exact t.at_ i w e a b⟩
theorem Reps.head {v : V} {d : D} {vs : List V} {ds : List D} (h : Reps g F (v :: vs) (d :: ds)) : Rep g F v d := h.at_ 0 v d rfl rfl
theorem Reps.tail {v : V} {d : D} {vs : List V} {ds : List D} (h : Reps g F (v :: vs) (d :: ds)) : Reps g F vs ds :=
  ⟨by have := h.len; simpa using this, fun i w e a b => h.at_ (i + 1) w e (by simpa using a) (by simpa using b)⟩
theorem Reps.get {vs : List V} {ds : List D} (h : Reps g F vs ds) {i : Nat} {d : D} (e : ds[i]? = some d) : ∃ v, vs[i]? = some v ∧ Rep g F v d := by
  have hlt : i < ds.length := (List.getElem?_eq_some_iff.mp e).1
  have hv : i < vs.length := by rw [h.len]; exact hlt
  exact ⟨vs[i], List.getElem?_eq_getElem hv, h.at_ i _ d (List.getElem?_eq_getElem hv) e⟩
theorem Reps.append : ∀ {vs ws : List V} {ds es : List D}, Reps g F vs ds → Reps g F ws es → Reps g F (vs ++ ws) (ds ++ es)
  | [], _, [], _, _, h => h
  | [], _, _ :: _, _, h, _ => by have := h.len; simp at this
  | _ :: _, _, [], _, h, _ => by have := h.len; simp at this
  | v :: vs, ws, d :: ds, es, h, k => .cons h.head (Reps.append h.tail k)
theorem Reps.take {vs : List V} {ds : List D} (h : Reps g F vs ds) (n : Nat) : Reps g F (vs.take n) (ds.take n) :=
  ⟨by simp [h.len], fun i v d a b => by
    rw [List.getElem?_take] at a b
    by_cases hi : i < n
    · rw [if_pos hi] at a b
      exact h.at_ i v d a b
    · rw [if_neg hi] at a
      cases a⟩
theorem Reps.drop {vs : List V} {ds : List D} (h : Reps g F vs ds) (n : Nat) : Reps g F (vs.drop n) (ds.drop n) :=
  ⟨by simp [h.len], fun i v d a b => by
    rw [List.getElem?_drop] at a b
    exact h.at_ (n + i) v d a b⟩
theorem Reps.set {vs : List V} {ds : List D} (h : Reps g F vs ds) (n : Nat) {v : V} {d : D} (r : Rep g F v d) : Reps g F (vs.set n v) (ds.set n d) :=
  ⟨by simp [h.len], fun i w e a b => by
    by_cases hi : n = i
    · subst hi
      rw [List.getElem?_set] at a b
      simp only [if_true] at a b
      by_cases h1 : n < vs.length
      · rw [if_pos h1] at a
        rw [if_pos (by rw [← h.len]; exact h1)] at b
        cases a
        cases b
        exact r
      · rw [if_neg h1] at a
        cases a
    · rw [List.getElem?_set_ne hi] at a b
      exact h.at_ i w e a b⟩
theorem Rep.mkTup {a : Addr} {vs : List V} {ds : List D} (h : F a = some (.tup vs)) (r : Reps g F vs ds) : Rep g F (.ref a) (.tup ds) := .tup a vs ds (SqT.of h) r.len r.at_
theorem Rep.mkLst {a : Addr} {vs : List V} {ds : List D} (h : F a = some (.lst vs)) (r : Reps g F vs ds) : Rep g F (.ref a) (.lst ds) := .lst a vs ds h r.len r.at_
end

/-! ## slots, results -/
/-- a slot: empty, a value, a list of one's own (it may change) -/
inductive Sl where
  | un | va (d : D) | ow (b : Bool) (xs : List D)
abbrev Env := List Sl
inductive Re (α : Type) where
  | ok (a : α) (e : Env) | exc (c : Str) (v : D) (e : Env) | no
def Re.bind {α β : Type} (r : Re α) (k : α → Env → Re β) : Re β :=
  match r with
  | .ok a e => k a e
  | .exc c v e => .exc c v e
  | .no => .no
inductive Fl where
  | nx (e : Env) | rt (d : D) (e : Env) | br (e : Env) | ct (e : Env) | exc (c : Str) (v : D) (e : Env) | no
def Re.flow {α : Type} (r : Re α) (k : α → Env → Fl) : Fl :=
  match r with
  | .ok a e => k a e
  | .exc c v e => .exc c v e
  | .no => .no
def Fl.seq (r : Fl) (k : Env → Fl) : Fl :=
  match r with
  | .nx e => k e
  | r => r

/-- what a frame starts from: the lists that were handed in (slot, address), the heap, its settled part -/
structure Fc where
  io : List (Nat × Addr)
  H0 : Hp
  F0 : Hp

structure Rel (g : Gc) (φ : Fc) (F : Hp) (σ : L2.St) (H : Hp) (env : Env) : Prop where
  ex : Same F H
  ex0 : Same φ.F0 F
  new : ∀ b o, F b = some o → φ.F0 b = some o ∨ φ.H0 b = none
  fr : ∀ b o, φ.H0 b = some o → (∀ p ∈ φ.io, p.2 ≠ b) → H b = some o
  len : σ.length = env.length
  va : ∀ (i : Nat) (d : D), env[i]? = some (Sl.va d) → ∃ v, σ[i]? = some (some v) ∧ Rep g F v d
  ow : ∀ (i : Nat) (b : Bool) (xs : List D), env[i]? = some (Sl.ow b xs) → ∃ (a : Addr) (vs : List V), σ[i]? = some (some (V.ref a)) ∧ H a = some (.lst vs) ∧ F a = none ∧ Reps g F vs xs ∧ (b = false → φ.H0 a = none) ∧ (b = true → (i, a) ∈ φ.io)
  dj : ∀ (i j : Nat) (b c : Bool) (xs ys : List D) (a : Addr), env[i]? = some (Sl.ow b xs) → env[j]? = some (Sl.ow c ys) → σ[i]? = some (some (V.ref a)) → σ[j]? = some (some (V.ref a)) → i = j
  ioh : ∀ p ∈ φ.io, σ[p.1]? = some (some (V.ref p.2)) ∧ ∃ xs, env[p.1]? = some (Sl.ow true xs)

section
variable {g : Gc} {φ : Fc} {F F' : Hp} {σ : L2.St} {H : Hp} {env : Env}
theorem Rel.h0 (r : Rel g φ F σ H env) {p : Addr} (hp : H p = none) : φ.H0 p = none := by
  cases e : φ.H0 p with
  | none => rfl
  | some o =>
    by_cases hio : ∀ q ∈ φ.io, q.2 ≠ p
    · rw [r.fr p o e hio] at hp
      cases hp
    · exfalso
      refine hio fun q hq z => ?_
      obtain ⟨h1, xs, h2⟩ := r.ioh q hq
      obtain ⟨a, vs, h3, h4, _⟩ := r.ow _ _ _ h2
      rw [h1] at h3
      cases h3
      rw [z, hp] at h4
      cases h4
/-- a new object that is settled -/
theorem Rel.laid (r : Rel g φ F σ H env) {p : Addr} {o : HO} (hp : H p = none) : Same F (upd F p o) ∧ Rel g φ (upd F p o) σ (upd H p o) env := by
  have hF : F p = none := r.ex.free hp
  have sF : Same F (upd F p o) := same_new hF
  refine ⟨sF, ⟨fun b u e => ?_, r.ex0.trans sF, fun b u e => ?_, fun b u e hb => ?_, r.len, fun i d e => ?_, fun i b xs e => ?_, r.dj, r.ioh⟩⟩
  · by_cases hb : b = p
    · subst hb
      rw [upd_same] at e ⊢
      exact e
    · rw [upd_ne hb] at e ⊢
      exact r.ex b u e
  · by_cases hb : b = p
    · subst hb
      exact .inr (r.h0 hp)
    · rw [upd_ne hb] at e
      exact r.new b u e
  · have h1 := r.fr b u e hb
    rw [upd_ne (ne_of_none h1 hp)]
    exact h1
  · obtain ⟨v, h1, h2⟩ := r.va i d e
    exact ⟨v, h1, h2.mono sF⟩
  · obtain ⟨a, vs, h1, h2, h3, h4, h5⟩ := r.ow i b xs e
    have ha : a ≠ p := ne_of_none h2 hp
    exact ⟨a, vs, h1, by rw [upd_ne ha]; exact h2, by rw [upd_ne ha]; exact h3, h4.mono sF, h5⟩
/-- a new object that is nobody's yet -/
theorem Rel.loose (r : Rel g φ F σ H env) {p : Addr} {o : HO} (hp : H p = none) : Rel g φ F σ (upd H p o) env := by
  refine ⟨fun b u e => ?_, r.ex0, r.new, fun b u e hb => ?_, r.len, r.va, fun i b xs e => ?_, r.dj, r.ioh⟩
  · have h1 := r.ex b u e
    rw [upd_ne (ne_of_none h1 hp)]
    exact h1
  · have h1 := r.fr b u e hb
    rw [upd_ne (ne_of_none h1 hp)]
    exact h1
  · obtain ⟨a, vs, h1, h2, h3, h4, h5⟩ := r.ow i b xs e
    exact ⟨a, vs, h1, by rw [upd_ne (ne_of_none h2 hp)]; exact h2, h3, h4, h5⟩
end

/-! ## the judgements -/
/-- the whole of what may be wished of a piece of the text -/
def wE (X : Cx) (e : Expr) : TE := fun σ H Q => ∃ t, PE X e t ∧ t σ H Q
def wT (X : Cx) (e : Expr) : TT := fun σ H Q => ∃ t, PT X e t ∧ t σ H Q
def wA (X : Cx) (es : List Expr) : TA := fun σ H Q => ∃ t, PA X es t ∧ t σ H Q
def wS (X : Cx) (st : Stmt) : TS := fun D σ H => ∃ t, PS X st t ∧ t D σ H
def wB (X : Cx) (st : List Stmt) : TS := fun D σ H => ∃ t, PSs X st t ∧ t D σ H
def wO (X : Cx) (f : Value → Value → Sem Value) : R2 := fun x y H Q => ∃ r, OpR X f r ∧ r x y H Q
def wC (X : Cx) (f : Value) : List V → Hp → VK → Prop := fun vs H Q => ∃ r, CallR X f r ∧ r vs H Q
def wI (X : Cx) : R2 := fun x y H Q => ∃ r, IxR X r ∧ r x y H Q
section
variable {X : Cx}
theorem w_pe {e : Expr} : PE X e (wE X e) := ⟨fun pins s σ H Q I ⟨_, h, q⟩ => h.run pins s σ H Q I q⟩
theorem w_pt {e : Expr} : PT X e (wT X e) := ⟨fun pins s σ H Q I ⟨_, h, q⟩ => h.run pins s σ H Q I q⟩
theorem w_pa {es : List Expr} : PA X es (wA X es) := ⟨fun pos pins s σ H Q I ⟨_, h, q⟩ => h.run pos pins s σ H Q I q⟩
theorem w_ps {st : Stmt} : PS X st (wS X st) := ⟨fun pins s σ H D I ⟨_, h, q⟩ => h.run pins s σ H D I q⟩
theorem w_pb {st : List Stmt} : PSs X st (wB X st) := ⟨fun pins s σ H D I ⟨_, h, q⟩ => h.run pins s σ H D I q⟩
theorem w_op {f : Value → Value → Sem Value} : OpR X f (wO X f) := fun pins s σ H x y v u Q I a b ⟨_, h, q⟩ => h pins s σ H x y v u Q I a b q
theorem w_call {f : Value} : CallR X f (wC X f) := fun pins s σ H xs us Q I a ⟨_, h, q⟩ => h pins s σ H xs us Q I a q
theorem w_ix : IxR X (wI X) := fun a b pins s σ H x y v u Q I rx ry ⟨_, h, q⟩ hs => h a b pins s σ H x y v u Q I rx ry q hs
end

section
variable (g : Gc) (W : WX) (φ : Fc)
/-- the wish at an exception c(v) -/
def XP (F : Hp) (c : Str) (v : D) (e' : Env) : Prop :=
  ∀ C fld dd vv σ' H' F', g.xc c = some (C, fld) → Same F F' → Rel g φ F' σ' H' e' → H' dd = some (.xd [(fld, vv)]) → Rep g F' vv v → W (.ref C) (some dd) σ' H'
def PoE (F : Hp) (σ : L2.St) (Q : VK) (r : Re D) : Prop :=
  match r with
  | .ok d e' => ∀ v H' F', Same F F' → Rel g φ F' σ H' e' → Rep g F' v d → Q v H'
  | .exc c v e' => XP g W φ F c v e'
  | .no => False
def PoT (F : Hp) (σ : L2.St) (Q : Bool → Hp → Prop) (r : Re Bool) : Prop :=
  match r with
  | .ok d e' => ∀ H' F', Same F F' → Rel g φ F' σ H' e' → Q d H'
  | .exc c v e' => XP g W φ F c v e'
  | .no => False
/-- an argument: a value, or the place of a list of one's own -/
inductive Av where
  | va (d : D) | ix (i : Nat)
def AvR (F : Hp) (σ : L2.St) (v : V) : Av → Prop
  | .va d => Rep g F v d
  | .ix i => σ[i]? = some (some v)
structure AvsR (F : Hp) (σ : L2.St) (vs : List V) (as : List Av) : Prop where
  len : vs.length = as.length
  at_ : ∀ (i : Nat) (v : V) (a : Av), vs[i]? = some v → as[i]? = some a → AvR g F σ v a
def PoV (F : Hp) (σ : L2.St) (Q : VK) (r : Re Av) : Prop :=
  match r with
  | .ok d e' => ∀ v H' F', Same F F' → Rel g φ F' σ H' e' → AvR g F' σ v d → Q v H'
  | .exc c v e' => XP g W φ F c v e'
  | .no => False
def PoA (F : Hp) (σ : L2.St) (Q : List V → Hp → Prop) (r : Re (List Av)) : Prop :=
  match r with
  | .ok d e' => ∀ vs H' F', Same F F' → Rel g φ F' σ H' e' → AvsR g F' σ vs d → Q vs H'
  | .exc c v e' => XP g W φ F c v e'
  | .no => False
def PoS (F : Hp) (En : Ends) (r : Fl) : Prop :=
  match r with
  | .nx e' => ∀ σ' H' F', Same F F' → Rel g φ F' σ' H' e' → En.nx σ' H'
  | .rt d e' => ∀ v σ' H' F', Same F F' → Rel g φ F' σ' H' e' → Rep g F' v d → En.rt v H'
  | .br e' => ∀ σ' H' F', Same F F' → Rel g φ F' σ' H' e' → En.bk σ' H'
  | .ct e' => ∀ σ' H' F', Same F F' → Rel g φ F' σ' H' e' → En.ct σ' H'
  | .exc c v e' => XP g W φ F c v e'
  | .no => False
abbrev ME := Env → Re D
abbrev MT := Env → Re Bool
abbrev MV := Env → Re Av
abbrev MA := Env → Re (List Av)
abbrev MS := Env → Fl
def SE (X : Cx) (e : Expr) (m : ME) : Prop := ∀ F σ H env Q, Rel g φ F σ H env → PoE g W φ F σ Q (m env) → wE X e σ H Q
def SV (X : Cx) (e : Expr) (m : MV) : Prop := ∀ F σ H env Q, Rel g φ F σ H env → PoV g W φ F σ Q (m env) → wE X e σ H Q
def ST (X : Cx) (e : Expr) (m : MT) : Prop := ∀ F σ H env Q, Rel g φ F σ H env → PoT g W φ F σ Q (m env) → wT X e σ H Q
def SA (X : Cx) (es : List Expr) (m : MA) : Prop := ∀ F σ H env Q, Rel g φ F σ H env → PoA g W φ F σ Q (m env) → wA X es σ H Q
def SS (X : Cx) (st : Stmt) (m : MS) : Prop := ∀ F σ H env En, Rel g φ F σ H env → PoS g W φ F En (m env) → wS X st En σ H
def SB (X : Cx) (st : List Stmt) (m : MS) : Prop := ∀ F σ H env En, Rel g φ F σ H env → PoS g W φ F En (m env) → wB X st En σ H
end

section
variable {g : Gc} {W : WX} {φ : Fc} {F F' : Hp} {σ : L2.St} {H : Hp}
theorem XP.mono (e : Same F F') {c : Str} {v : D} {e' : Env} (h : XP g W φ F c v e') : XP g W φ F' c v e' :=
  fun C fld dd vv σ' H' F2 a b => h C fld dd vv σ' H' F2 a (e.trans b)
theorem PoE.mono (e : Same F F') {Q : VK} {r : Re D} (h : PoE g W φ F σ Q r) : PoE g W φ F' σ Q r := by
  cases r with
  | ok d e' => exact fun v H' F2 a => h v H' F2 (e.trans a)
  | exc c v e' => exact XP.mono e h
  | no => exact h
theorem PoV.mono (e : Same F F') {Q : VK} {r : Re Av} (h : PoV g W φ F σ Q r) : PoV g W φ F' σ Q r := by
  cases r with
  | ok d e' => exact fun v H' F2 a => h v H' F2 (e.trans a)
  | exc c v e' => exact XP.mono e h
  | no => exact h
theorem PoT.mono (e : Same F F') {Q : Bool → Hp → Prop} {r : Re Bool} (h : PoT g W φ F σ Q r) : PoT g W φ F' σ Q r := by
  cases r with
  | ok d e' => exact fun H' F2 a => h H' F2 (e.trans a)
  | exc c v e' => exact XP.mono e h
  | no => exact h
theorem PoA.mono (e : Same F F') {Q : List V → Hp → Prop} {r : Re (List Av)} (h : PoA g W φ F σ Q r) : PoA g W φ F' σ Q r := by
  cases r with
  | ok d e' => exact fun v H' F2 a => h v H' F2 (e.trans a)
  | exc c v e' => exact XP.mono e h
  | no => exact h
theorem PoS.mono (e : Same F F') {Q : Ends} {r : Fl} (h : PoS g W φ F Q r) : PoS g W φ F' Q r := by
  cases r with
  | nx e' => exact fun σ' H' F2 a => h σ' H' F2 (e.trans a)
  | rt d e' => exact fun v σ' H' F2 a => h v σ' H' F2 (e.trans a)
  | br e' => exact fun σ' H' F2 a => h σ' H' F2 (e.trans a)
  | ct e' => exact fun σ' H' F2 a => h σ' H' F2 (e.trans a)
  | exc c v e' => exact XP.mono e h
  | no => exact h

/-! steps: from the whole's wish to a part's -/
theorem ee {r : Re D} {k : D → Env → Re D} {Q Q1 : VK} (hp : PoE g W φ F σ Q (r.bind k))
    (h : ∀ x e1 v H1 F1, Same F F1 → Rel g φ F1 σ H1 e1 → Rep g F1 v x → PoE g W φ F1 σ Q (k x e1) → Q1 v H1) : PoE g W φ F σ Q1 r := by
  cases r with
  | ok x e1 => exact fun v H1 F1 a b c => h x e1 v H1 F1 a b c (hp.mono a)
  | exc c v e' => exact hp
  | no => exact hp
theorem et {r : Re D} {k : D → Env → Re Bool} {Q : Bool → Hp → Prop} {Q1 : VK} (hp : PoT g W φ F σ Q (r.bind k))
    (h : ∀ x e1 v H1 F1, Same F F1 → Rel g φ F1 σ H1 e1 → Rep g F1 v x → PoT g W φ F1 σ Q (k x e1) → Q1 v H1) : PoE g W φ F σ Q1 r := by
  cases r with
  | ok x e1 => exact fun v H1 F1 a b c => h x e1 v H1 F1 a b c (hp.mono a)
  | exc c v e' => exact hp
  | no => exact hp
theorem te {r : Re Bool} {k : Bool → Env → Re D} {Q : VK} {Q1 : Bool → Hp → Prop} (hp : PoE g W φ F σ Q (r.bind k))
    (h : ∀ x e1 H1 F1, Same F F1 → Rel g φ F1 σ H1 e1 → PoE g W φ F1 σ Q (k x e1) → Q1 x H1) : PoT g W φ F σ Q1 r := by
  cases r with
  | ok x e1 => exact fun H1 F1 a b => h x e1 H1 F1 a b (hp.mono a)
  | exc c v e' => exact hp
  | no => exact hp
theorem tt {r : Re Bool} {k : Bool → Env → Re Bool} {Q : Bool → Hp → Prop} {Q1 : Bool → Hp → Prop} (hp : PoT g W φ F σ Q (r.bind k))
    (h : ∀ x e1 H1 F1, Same F F1 → Rel g φ F1 σ H1 e1 → PoT g W φ F1 σ Q (k x e1) → Q1 x H1) : PoT g W φ F σ Q1 r := by
  cases r with
  | ok x e1 => exact fun H1 F1 a b => h x e1 H1 F1 a b (hp.mono a)
  | exc c v e' => exact hp
  | no => exact hp
theorem ae {r : Re (List Av)} {k : List Av → Env → Re D} {Q : VK} {Q1 : List V → Hp → Prop} (hp : PoE g W φ F σ Q (r.bind k))
    (h : ∀ x e1 vs H1 F1, Same F F1 → Rel g φ F1 σ H1 e1 → AvsR g F1 σ vs x → PoE g W φ F1 σ Q (k x e1) → Q1 vs H1) : PoA g W φ F σ Q1 r := by
  cases r with
  | ok x e1 => exact fun v H1 F1 a b c => h x e1 v H1 F1 a b c (hp.mono a)
  | exc c v e' => exact hp
  | no => exact hp
theorem ea {r : Re D} {k : D → Env → Re (List Av)} {Q : List V → Hp → Prop} {Q1 : VK} (hp : PoA g W φ F σ Q (r.bind k))
    (h : ∀ x e1 v H1 F1, Same F F1 → Rel g φ F1 σ H1 e1 → Rep g F1 v x → PoA g W φ F1 σ Q (k x e1) → Q1 v H1) : PoE g W φ F σ Q1 r := by
  cases r with
  | ok x e1 => exact fun v H1 F1 a b c => h x e1 v H1 F1 a b c (hp.mono a)
  | exc c v e' => exact hp
  | no => exact hp
theorem aa {r : Re (List Av)} {k : List Av → Env → Re (List Av)} {Q : List V → Hp → Prop} {Q1 : List V → Hp → Prop} (hp : PoA g W φ F σ Q (r.bind k))
    (h : ∀ x e1 vs H1 F1, Same F F1 → Rel g φ F1 σ H1 e1 → AvsR g F1 σ vs x → PoA g W φ F1 σ Q (k x e1) → Q1 vs H1) : PoA g W φ F σ Q1 r := by
  cases r with
  | ok x e1 => exact fun v H1 F1 a b c => h x e1 v H1 F1 a b c (hp.mono a)
  | exc c v e' => exact hp
  | no => exact hp
theorem es {r : Re D} {k : D → Env → Fl} {Q : Ends} {Q1 : VK} (hp : PoS g W φ F Q (r.flow k))
    (h : ∀ x e1 v H1 F1, Same F F1 → Rel g φ F1 σ H1 e1 → Rep g F1 v x → PoS g W φ F1 Q (k x e1) → Q1 v H1) : PoE g W φ F σ Q1 r := by
  cases r with
  | ok x e1 => exact fun v H1 F1 a b c => h x e1 v H1 F1 a b c (hp.mono a)
  | exc c v e' => exact hp
  | no => exact hp
theorem ts {r : Re Bool} {k : Bool → Env → Fl} {Q : Ends} {Q1 : Bool → Hp → Prop} (hp : PoS g W φ F Q (r.flow k))
    (h : ∀ x e1 H1 F1, Same F F1 → Rel g φ F1 σ H1 e1 → PoS g W φ F1 Q (k x e1) → Q1 x H1) : PoT g W φ F σ Q1 r := by
  cases r with
  | ok x e1 => exact fun H1 F1 a b => h x e1 H1 F1 a b (hp.mono a)
  | exc c v e' => exact hp
  | no => exact hp
theorem as_ {r : Re (List Av)} {k : List Av → Env → Fl} {Q : Ends} {Q1 : List V → Hp → Prop} (hp : PoS g W φ F Q (r.flow k))
    (h : ∀ x e1 vs H1 F1, Same F F1 → Rel g φ F1 σ H1 e1 → AvsR g F1 σ vs x → PoS g W φ F1 Q (k x e1) → Q1 vs H1) : PoA g W φ F σ Q1 r := by
  cases r with
  | ok x e1 => exact fun v H1 F1 a b c => h x e1 v H1 F1 a b c (hp.mono a)
  | exc c v e' => exact hp
  | no => exact hp
theorem ve {r : Re Av} {k : Av → Env → Re D} {Q : VK} {Q1 : VK} (hp : PoE g W φ F σ Q (r.bind k))
    (h : ∀ x e1 v H1 F1, Same F F1 → Rel g φ F1 σ H1 e1 → AvR g F1 σ v x → PoE g W φ F1 σ Q (k x e1) → Q1 v H1) : PoV g W φ F σ Q1 r := by
  cases r with
  | ok x e1 => exact fun v H1 F1 a b c => h x e1 v H1 F1 a b c (hp.mono a)
  | exc c v e' => exact hp
  | no => exact hp
theorem vt {r : Re Av} {k : Av → Env → Re Bool} {Q : Bool → Hp → Prop} {Q1 : VK} (hp : PoT g W φ F σ Q (r.bind k))
    (h : ∀ x e1 v H1 F1, Same F F1 → Rel g φ F1 σ H1 e1 → AvR g F1 σ v x → PoT g W φ F1 σ Q (k x e1) → Q1 v H1) : PoV g W φ F σ Q1 r := by
  cases r with
  | ok x e1 => exact fun v H1 F1 a b c => h x e1 v H1 F1 a b c (hp.mono a)
  | exc c v e' => exact hp
  | no => exact hp
theorem va_ {r : Re Av} {k : Av → Env → Re (List Av)} {Q : List V → Hp → Prop} {Q1 : VK} (hp : PoA g W φ F σ Q (r.bind k))
    (h : ∀ x e1 v H1 F1, Same F F1 → Rel g φ F1 σ H1 e1 → AvR g F1 σ v x → PoA g W φ F1 σ Q (k x e1) → Q1 v H1) : PoV g W φ F σ Q1 r := by
  cases r with
  | ok x e1 => exact fun v H1 F1 a b c => h x e1 v H1 F1 a b c (hp.mono a)
  | exc c v e' => exact hp
  | no => exact hp
theorem vv {r : Re Av} {k : Av → Env → Re Av} {Q : VK} {Q1 : VK} (hp : PoV g W φ F σ Q (r.bind k))
    (h : ∀ x e1 v H1 F1, Same F F1 → Rel g φ F1 σ H1 e1 → AvR g F1 σ v x → PoV g W φ F1 σ Q (k x e1) → Q1 v H1) : PoV g W φ F σ Q1 r := by
  cases r with
  | ok x e1 => exact fun v H1 F1 a b c => h x e1 v H1 F1 a b c (hp.mono a)
  | exc c v e' => exact hp
  | no => exact hp
theorem vs_ {r : Re Av} {k : Av → Env → Fl} {Q : Ends} {Q1 : VK} (hp : PoS g W φ F Q (r.flow k))
    (h : ∀ x e1 v H1 F1, Same F F1 → Rel g φ F1 σ H1 e1 → AvR g F1 σ v x → PoS g W φ F1 Q (k x e1) → Q1 v H1) : PoV g W φ F σ Q1 r := by
  cases r with
  | ok x e1 => exact fun v H1 F1 a b c => h x e1 v H1 F1 a b c (hp.mono a)
  | exc c v e' => exact hp
  | no => exact hp
theorem at_ {r : Re (List Av)} {k : List Av → Env → Re Bool} {Q : Bool → Hp → Prop} {Q1 : List V → Hp → Prop} (hp : PoT g W φ F σ Q (r.bind k))
    (h : ∀ x e1 vs H1 F1, Same F F1 → Rel g φ F1 σ H1 e1 → AvsR g F1 σ vs x → PoT g W φ F1 σ Q (k x e1) → Q1 vs H1) : PoA g W φ F σ Q1 r := by
  cases r with
  | ok x e1 => exact fun v H1 F1 a b c => h x e1 v H1 F1 a b c (hp.mono a)
  | exc c v e' => exact hp
  | no => exact hp
theorem ev_ {r : Re D} {k : D → Env → Re Av} {Q : VK} {Q1 : VK} (hp : PoV g W φ F σ Q (r.bind k))
    (h : ∀ x e1 v H1 F1, Same F F1 → Rel g φ F1 σ H1 e1 → Rep g F1 v x → PoV g W φ F1 σ Q (k x e1) → Q1 v H1) : PoE g W φ F σ Q1 r := by
  cases r with
  | ok x e1 => exact fun v H1 F1 a b c => h x e1 v H1 F1 a b c (hp.mono a)
  | exc c v e' => exact hp
  | no => exact hp
theorem AvR.mono (e : Same F F') {v : V} {a : Av} (h : AvR g F σ v a) : AvR g F' σ v a := by
  cases a with
  | va d => exact Rep.mono e h
  | ix i => exact h
theorem AvsR.mono (e : Same F F') {vs : List V} {as : List Av} (h : AvsR g F σ vs as) : AvsR g F' σ vs as := ⟨h.len, fun i v a p q => (h.at_ i v a p q).mono e⟩
theorem AvsR.nil : AvsR g F σ [] [] := ⟨rfl, fun i v a p _ => by simp at p⟩
theorem AvsR.cons {v : V} {a : Av} {vs : List V} {as : List Av} (h : AvR g F σ v a) (t : AvsR g F σ vs as) : AvsR g F σ (v :: vs) (a :: as) :=
  ⟨by simp [t.len], fun i w e p q => by
    cases i with
    | zero =>
      simp only [List.getElem?_cons_zero, Option.some.injEq] at p q
      subst p q
      exact h
    | succ i =>
      simp only [List.getElem?_cons_succ] at p q
      exact t.at_ i w e p q⟩
theorem AvsR.head {v : V} {a : Av} {vs : List V} {as : List Av} (h : AvsR g F σ (v :: vs) (a :: as)) : AvR g F σ v a := h.at_ 0 v a rfl rfl
theorem AvsR.tail {v : V} {a : Av} {vs : List V} {as : List Av} (h : AvsR g F σ (v :: vs) (a :: as)) : AvsR g F σ vs as :=
  ⟨by have := h.len; simpa using this, fun i w e p q => h.at_ (i + 1) w e (by simpa using p) (by simpa using q)⟩

/-! what an operand is worth when it is used -/
def Av.get (e : Env) : Av → Option D
  | .va d => some d
  | .ix i => match e[i]? with
    | some (.ow _ xs) => some (.lst xs)
    | _ => none
def gets (e : Env) : List Av → Option (List D)
  | [] => some []
  | a :: as => match a.get e, gets e as with
    | some d, some ds => some (d :: ds)
    | _, _ => none
/-- v stands for d here and now -/
inductive RepH (g : Gc) (F H : Hp) : V → D → Prop
  | of {v : V} {d : D} (h : Rep g F v d) : RepH g F H v d
  | ow {a : Addr} {vs : List V} {xs : List D} (h : H a = some (.lst vs)) (r : Reps g F vs xs) : RepH g F H (.ref a) (.lst xs)
inductive RepsH (g : Gc) (F H : Hp) : List V → List D → Prop
  | nil : RepsH g F H [] []
  | cons {v : V} {d : D} {vs : List V} {ds : List D} (h : RepH g F H v d) (t : RepsH g F H vs ds) : RepsH g F H (v :: vs) (d :: ds)
theorem AvR.get {env : Env} (r : Rel g φ F σ H env) {v : V} {a : Av} {d : D} (h : AvR g F σ v a) (e : a.get env = some d) : RepH g F H v d := by
  cases a with
  | va d' =>
    have : d' = d := Option.some.inj e
    subst this
    exact .of h
  | ix i =>
    cases hs : env[i]? with
    | none => simp only [Av.get, hs] at e; cases e
    | some s =>
      cases s with
      | un => simp only [Av.get, hs] at e; cases e
      | va d' => simp only [Av.get, hs] at e; cases e
      | ow bb xs =>
        simp only [Av.get, hs] at e
        cases e
        obtain ⟨b, vs, h1, h2, h3, h4, h5⟩ := r.ow i bb xs hs
        have h' : σ[i]? = some (some v) := h
        rw [h1] at h'
        cases h'
        exact .ow h2 h4
theorem AvsR.gets {env : Env} (r : Rel g φ F σ H env) : ∀ {vs : List V} {as : List Av} {ds : List D}, AvsR g F σ vs as → gets env as = some ds → RepsH g F H vs ds
  | [], [], ds, _, e => by
    have : ([] : List D) = ds := Option.some.inj e
    subst this
    exact .nil
  | [], _ :: _, _, h, _ => by have := h.len; simp at this
  | _ :: _, [], _, h, _ => by have := h.len; simp at this
  | v :: vs, a :: as, ds, h, e => by
    cases h1 : a.get env with
    | none => simp only [Mp.gets, h1] at e; cases e
    | some d =>
      cases h2 : Mp.gets env as with
      | none => simp only [Mp.gets, h1, h2] at e; cases e
      | some ds' =>
        simp only [Mp.gets, h1, h2] at e
        cases e
        exact .cons (h.head.get r h1) (AvsR.gets r h.tail h2)
/-- a list here and now -/
theorem RepH.lst {v : V} {xs : List D} (r : Same F H) (h : RepH g F H v (.lst xs)) : ∃ a vs, v = .ref a ∧ H a = some (.lst vs) ∧ Reps g F vs xs := by
  cases h with
  | of h =>
    cases h with
    | lst a vs ds h hl hi => exact ⟨a, vs, rfl, r _ _ h, hl, hi⟩
  | ow h q => exact ⟨_, _, rfl, h, q⟩
theorem RepH.tup {v : V} {xs : List D} (r : Same F H) (h : RepH g F H v (.tup xs)) : ∃ a vs, v = .ref a ∧ SqT g.K H a vs ∧ Reps g F vs xs := by
  cases h with
  | of h =>
    cases h with
    | tup a vs ds h hl hi => exact ⟨a, vs, rfl, same_t r h, hl, hi⟩
theorem RepH.rol {v : V} {xs : List D} (r : Same F H) (h : RepH g F H v (.rol xs)) : ∃ a vs, v = .ref a ∧ SqL g.K H a vs ∧ Reps g F vs xs := by
  cases h with
  | of h =>
    cases h with
    | rol a vs ds h hl hi => exact ⟨a, vs, rfl, r.seq h, hl, hi⟩
theorem RepH.int {v : V} {i : Int} (h : RepH g F H v (.int i)) : v = .int i := by
  cases h with
  | of h => cases h; rfl
theorem RepH.bl {v : V} {i : Bool} (h : RepH g F H v (.bl i)) : v = .bl i := by
  cases h with
  | of h => cases h; rfl
theorem RepH.str {v : V} {i : Str} (h : RepH g F H v (.str i)) : v = .str i := by
  cases h with
  | of h => cases h; rfl
theorem RepH.non {v : V} (h : RepH g F H v .non) : v = .non := by
  cases h with
  | of h => cases h; rfl
end
end Mp
set_option Elab.async false
set_option linter.all false
set_option maxRecDepth 100000
namespace Mp
open PySem PySem.Spec PyProof.Rows L2

structure Cok (g : Gc) (X : Cx) (W : WX) (k : Nat) : Prop where
  K : X.K = g.K
  calm : X.calm = true
  nd : X.N.Nodup
  tk : Takes X W
  rm : Room k X.A
  po : PassesOwn (model X.prog X.w) X.A X.env X.xe

section
variable {g : Gc} {W : WX} {φ : Fc} {X : Cx} {k : Nat}

theorem SV.of {e : Expr} {m : ME} (h : SE g W φ X e m) : SV g W φ X e (fun env => (m env).bind fun d e1 => .ok (.va d) e1) := by
  intro F σ H env Q hr hp
  refine h F σ H env Q hr (ev_ hp fun x e1 v H1 F1 a b c hp1 => ?_)
  exact hp1 v H1 F1 (Same.refl _) b c

/-! ### names, constants -/
def mVar (i : Nat) : ME := fun env => match env[i]? with
  | some (.va d) => .ok d env
  | _ => .no
def mOwn (i : Nat) : MV := fun env => match env[i]? with
  | some (.ow _ _) => .ok (.ix i) env
  | some (.va d) => .ok (.va d) env
  | _ => .no
theorem se_var (i : Nat) {x : Str} {pos : Pos} (hN : X.N[i]? = some x := by rfl) (hv : Vis X.env.scope x := by first | exact Or.inl rfl | exact Or.inr (Or.inl rfl) | exact Or.inr (Or.inr rfl))
    (hd : (x == ("__debug__" : Str)) = false := by decide) (hcd : (x == ("__classdict__" : Str)) = false := by decide) : SE g W φ X (.Name x pos) (mVar i) := by
  intro F σ H env Q hr hp
  unfold mVar at hp
  cases e : env[i]? with
  | none => rw [e] at hp; exact hp.elim
  | some s =>
    cases s with
    | va d =>
      rw [e] at hp
      obtain ⟨v, h1, h2⟩ := hr.va i d e
      exact ⟨_, pe_var hN hv hd hcd, v, h1, hp v H F (Same.refl _) hr h2⟩
    | un => rw [e] at hp; exact hp.elim
    | ow _ xs => rw [e] at hp; exact hp.elim
theorem sv_own (i : Nat) {x : Str} {pos : Pos} (hN : X.N[i]? = some x := by rfl) (hv : Vis X.env.scope x := by first | exact Or.inl rfl | exact Or.inr (Or.inl rfl) | exact Or.inr (Or.inr rfl))
    (hd : (x == ("__debug__" : Str)) = false := by decide) (hcd : (x == ("__classdict__" : Str)) = false := by decide) : SV g W φ X (.Name x pos) (mOwn i) := by
  intro F σ H env Q hr hp
  unfold mOwn at hp
  cases e : env[i]? with
  | none => rw [e] at hp; exact hp.elim
  | some s =>
    cases s with
    | va d =>
      rw [e] at hp
      obtain ⟨v, h1, h2⟩ := hr.va i d e
      exact ⟨_, pe_var hN hv hd hcd, v, h1, hp v H F (Same.refl _) hr h2⟩
    | un => rw [e] at hp; exact hp.elim
    | ow bb xs =>
      rw [e] at hp
      obtain ⟨a, vs, h1, _⟩ := hr.ow i bb xs e
      exact ⟨_, pe_var hN hv hd hcd, .ref a, h1, hp (.ref a) H F (Same.refl _) hr h1⟩
def mC (d : D) : ME := fun env => .ok d env
theorem se_int {i : Int} {j : Nat} {pos : Pos} : SE g W φ X (.Constant (.int i) j pos) (mC (.int i)) := fun F σ H env Q hr hp => ⟨_, pe_int, hp _ _ _ (Same.refl _) hr (.int i)⟩
theorem se_bl {i : Bool} {j : Nat} {pos : Pos} : SE g W φ X (.Constant (.bool i) j pos) (mC (.bl i)) := fun F σ H env Q hr hp => ⟨_, pe_bl, hp _ _ _ (Same.refl _) hr (.bl i)⟩
theorem se_non {j : Nat} {pos : Pos} : SE g W φ X (.Constant .none j pos) (mC .non) := fun F σ H env Q hr hp => ⟨_, pe_non, hp _ _ _ (Same.refl _) hr .non⟩
theorem se_str {i : Str} {j : Nat} {pos : Pos} : SE g W φ X (.Constant (.str i) j pos) (mC (.str i)) := fun F σ H env Q hr hp => ⟨_, pe_str, hp _ _ _ (Same.refl _) hr (.str i)⟩
theorem se_ty {x : Str} {n : String} {pos : Pos} (hg : Gl X x) (hm : X.mg x = none) (hv : bootBuiltins x = some (.type n)) (hn : x ≠ "__name__" := by decide) (hd : (x == ("__debug__" : Str)) = false := by decide) : SE g W φ X (.Name x pos) (mC (.ty n)) :=
  fun F σ H env Q hr hp => ⟨_, pe_bltn (v := .ty n) hg hm hv rfl hn hd, hp _ _ _ (Same.refl _) hr (.ty n)⟩
theorem se_cls {x c : Str} {C : Addr} {ns : List Str} {pos : Pos} (hg : Gl X x) (hm : X.mg x = some (.ref C)) (hc : g.cl c = some (C, ns)) (hd : (x == ("__debug__" : Str)) = false := by decide) : SE g W φ X (.Name x pos) (mC (.cls c)) :=
  fun F σ H env Q hr hp => ⟨_, pe_glob (v := .ref C) hg hm rfl hd, hp _ _ _ (Same.refl _) hr (.cls c C ns hc)⟩
/-- a module's constant -/
theorem se_glob {x : Str} {i : Int} {t : Tok} {pos : Pos} (hg : Gl X x) (hm : X.mg x = some (.int i t)) (hd : (x == ("__debug__" : Str)) = false := by decide) : SE g W φ X (.Name x pos) (mC (.int i)) :=
  fun F σ H env Q hr hp => ⟨_, pe_glob (v := .int i) hg hm ⟨t, rfl⟩ hd, hp _ _ _ (Same.refl _) hr (.int i)⟩

/-! ### operators -/
def use1 {β : Type} (f : D → Option β) (x : Av) (e : Env) : Re β := match x.get e with
  | some d => match f d with
    | some z => .ok z e
    | none => .no
  | none => .no
def use2 {β : Type} (f : D → D → Option β) (x y : Av) (e : Env) : Re β := match x.get e, y.get e with
  | some d, some d' => match f d d' with
    | some z => .ok z e
    | none => .no
  | _, _ => .no
def mBin {β : Type} (f : D → D → Option β) (ma mb : MV) : Env → Re β := fun env => (ma env).bind fun x e1 => (mb e1).bind fun y e2 => use2 f x y e2
def mUn {β : Type} (f : D → Option β) (ma : MV) : Env → Re β := fun env => (ma env).bind fun x e1 => use1 f x e1
theorem use1_ok {F : Hp} {σ : L2.St} {Q : VK} {f : D → Option D} {x : Av} {e : Env} (hp : PoE g W φ F σ Q (use1 f x e)) : ∃ d z, x.get e = some d ∧ f d = some z ∧ PoE g W φ F σ Q (.ok z e) := by
  unfold use1 at hp
  cases h1 : x.get e with
  | none => rw [h1] at hp; exact hp.elim
  | some d =>
    rw [h1] at hp
    cases h2 : f d with
    | none => simp only [h2] at hp; exact hp.elim
    | some z => simp only [h2] at hp; exact ⟨d, z, rfl, h2, hp⟩
theorem use2_ok {F : Hp} {σ : L2.St} {Q : VK} {f : D → D → Option D} {x y : Av} {e : Env} (hp : PoE g W φ F σ Q (use2 f x y e)) : ∃ d d' z, x.get e = some d ∧ y.get e = some d' ∧ f d d' = some z ∧ PoE g W φ F σ Q (.ok z e) := by
  unfold use2 at hp
  cases h1 : x.get e with
  | none => rw [h1] at hp; exact hp.elim
  | some d =>
    cases h3 : y.get e with
    | none => rw [h1, h3] at hp; exact hp.elim
    | some d' =>
      rw [h1, h3] at hp
      cases h2 : f d d' with
      | none => simp only [h2] at hp; exact hp.elim
      | some z => simp only [h2] at hp; exact ⟨d, d', z, rfl, rfl, h2, hp⟩
theorem use2_okT {F : Hp} {σ : L2.St} {Q : Bool → Hp → Prop} {f : D → D → Option Bool} {x y : Av} {e : Env} (hp : PoT g W φ F σ Q (use2 f x y e)) : ∃ d d' z, x.get e = some d ∧ y.get e = some d' ∧ f d d' = some z ∧ PoT g W φ F σ Q (.ok z e) := by
  unfold use2 at hp
  cases h1 : x.get e with
  | none => rw [h1] at hp; exact hp.elim
  | some d =>
    cases h3 : y.get e with
    | none => rw [h1, h3] at hp; exact hp.elim
    | some d' =>
      rw [h1, h3] at hp
      cases h2 : f d d' with
      | none => simp only [h2] at hp; exact hp.elim
      | some z => simp only [h2] at hp; exact ⟨d, d', z, rfl, rfl, h2, hp⟩

/-- what an operation on values is: a value of the data f tells, settled -/
def OpS (g : Gc) (φ : Fc) (w : V → V → Hp → VK → Prop) (f : D → D → Option D) : Prop :=
  ∀ F σ H env v u x y z Q, Rel g φ F σ H env → RepH g F H v x → RepH g F H u y → f x y = some z → (∀ r H' F', Same F F' → Rel g φ F' σ H' env → Rep g F' r z → Q r H') → w v u H Q
/-- .. a bool -/
def OpB (g : Gc) (φ : Fc) (w : V → V → Hp → VK → Prop) (f : D → D → Option Bool) : Prop :=
  ∀ F σ H env v u x y z Q, Rel g φ F σ H env → RepH g F H v x → RepH g F H u y → f x y = some z → Q (.bl z) H → w v u H Q
theorem se_bin {op : Operator} {f : D → D → Option D} {a b : Expr} {ma mb : MV} {pos : Pos} (ho : OpS g φ (wO X (binaryOp op)) f) (ha : SV g W φ X a ma) (hb : SV g W φ X b mb) : SE g W φ X (.BinOp a op b pos) (mBin f ma mb) := by
  intro F σ H env Q hr hp
  refine ⟨_, pe_op w_op w_pe w_pe, ?_⟩
  refine ha F σ H env _ hr (ve hp fun x e1 v H1 F1 s1 r1 p1 hp1 => hb F1 σ H1 e1 _ r1 (ve hp1 fun y e2 u H2 F2 s2 r2 p2 hp2 => ?_))
  obtain ⟨d, d', z, g1, g2, hf, hp3⟩ := use2_ok hp2
  exact ho F2 σ H2 e2 v u d d' z Q r2 ((p1.mono s2).get r2 g1) (p2.get r2 g2) hf hp3
def bl (r : Re Bool) : Re D := r.bind fun b e => .ok (.bl b) e
theorem se_cmp {op : CmpOp} {f : D → D → Option Bool} {a b : Expr} {ma mb : MV} {pos : Pos} (ho : OpB g φ (wO X (compareOp op)) f) (ha : SV g W φ X a ma) (hb : SV g W φ X b mb) (hm : behindInMarks op b = false := by first | exact nomark _ | rfl) :
    SE g W φ X (.Compare a [op] [b] pos) (mBin (fun x y => (f x y).map D.bl) ma mb) := by
  intro F σ H env Q hr hp
  refine ⟨_, pe_cmpR w_op w_pe w_pe hm, ?_⟩
  refine ha F σ H env _ hr (ve hp fun x e1 v H1 F1 s1 r1 p1 hp1 => hb F1 σ H1 e1 _ r1 (ve hp1 fun y e2 u H2 F2 s2 r2 p2 hp2 => ?_))
  obtain ⟨d, d', z, g1, g2, hf, hp3⟩ := use2_ok hp2
  obtain ⟨b, hb1, hb2⟩ := Option.map_eq_some_iff.mp hf
  subst hb2
  exact ho F2 σ H2 e2 v u d d' b Q r2 ((p1.mono s2).get r2 g1) (p2.get r2 g2) hb1 (hp3 _ _ _ (Same.refl _) r2 (.bl b))
theorem st_cmp {op : CmpOp} {f : D → D → Option Bool} {a b : Expr} {ma mb : MV} {pos : Pos} (ho : OpB g φ (wO X (compareOp op)) f) (ha : SV g W φ X a ma) (hb : SV g W φ X b mb) (hm : behindInMarks op b = false := by first | exact nomark _ | rfl) :
    ST g W φ X (.Compare a [op] [b] pos) (mBin f ma mb) := by
  intro F σ H env Q hr hp
  refine ⟨_, pt_cmpR w_op w_pe w_pe hm, ?_⟩
  refine ha F σ H env _ hr (vt hp fun x e1 v H1 F1 s1 r1 p1 hp1 => hb F1 σ H1 e1 _ r1 (vt hp1 fun y e2 u H2 F2 s2 r2 p2 hp2 => ?_))
  obtain ⟨d, d', z, g1, g2, hf, hp3⟩ := use2_okT hp2
  exact ho F2 σ H2 e2 v u d d' z _ r2 ((p1.mono s2).get r2 g1) (p2.get r2 g2) hf ⟨z, rfl, hp3 _ _ (Same.refl _) r2⟩
/-- a < b < c -/
def mChain (f f' : D → D → Option Bool) (ma mb mc : MV) : Env → Re Bool := fun env => (ma env).bind fun x e1 => (mb e1).bind fun y e2 => (use2 f x y e2).bind fun b e3 => if b = true then (mc e3).bind fun z e4 => use2 f' y z e4 else .ok false e3
theorem st_chain {op op' : CmpOp} {f f' : D → D → Option Bool} {a b c : Expr} {ma mb mc : MV} {pos : Pos} (ho : OpB g φ (wO X (compareOp op)) f) (ho' : OpB g φ (wO X (compareOp op')) f') (ha : SV g W φ X a ma) (hb : SV g W φ X b mb) (hc : SV g W φ X c mc)
    (hm : lastMarks [op, op'] [b, c] = false := by with_unfolding_all rfl) :
    ST g W φ X (.Compare a [op, op'] [b, c] pos) (mChain f f' ma mb mc) := by
  intro F σ H env Q hr hp
  refine ⟨_, pt_chain w_op w_op w_pe w_pe w_pe hm, ?_⟩
  refine ha F σ H env _ hr (vt hp fun x e1 v H1 F1 s1 r1 p1 hp1 => hb F1 σ H1 e1 _ r1 (vt hp1 fun y e2 u H2 F2 s2 r2 p2 hp2 => ?_))
  unfold use2 at hp2
  cases g1 : x.get e2 with
  | none => rw [g1] at hp2; exact hp2.elim
  | some d =>
    cases g2 : y.get e2 with
    | none => rw [g1, g2] at hp2; exact hp2.elim
    | some d' =>
      rw [g1, g2] at hp2
      cases hf : f d d' with
      | none => simp only [hf] at hp2; exact hp2.elim
      | some z =>
        simp only [hf] at hp2
        refine ho F2 σ H2 e2 v u d d' z _ r2 ((p1.mono s2).get r2 g1) (p2.get r2 g2) hf ⟨z, rfl, ?_⟩
        cases z with
        | true =>
          refine iteT ?_
          refine hc F2 σ H2 e2 _ r2 (vt hp2 fun q e4 w H4 F4 s4 r4 p4 hp4 => ?_)
          obtain ⟨d1, d2, z2, g3, g4, hf2, hp5⟩ := use2_okT hp4
          exact ho' F4 σ H4 e4 u w d1 d2 z2 _ r4 ((p2.mono s4).get r4 g3) (p4.get r4 g4) hf2 ⟨z2, rfl, hp5 _ _ (Same.refl _) r4⟩
        | false => exact iteF ⟨false, rfl, hp2 _ _ (Same.refl _) r2⟩
theorem se_chain {op op' : CmpOp} {f f' : D → D → Option Bool} {a b c : Expr} {ma mb mc : MV} {pos : Pos} (ho : OpB g φ (wO X (compareOp op)) f) (ho' : OpB g φ (wO X (compareOp op')) f') (ha : SV g W φ X a ma) (hb : SV g W φ X b mb) (hc : SV g W φ X c mc)
    (hm : lastMarks [op, op'] [b, c] = false := by with_unfolding_all rfl) :
    SE g W φ X (.Compare a [op, op'] [b, c] pos) (fun env => bl (mChain f f' ma mb mc env)) := by
  intro F σ H env Q hr hp
  refine ⟨_, pe_chain w_op w_op w_pe w_pe w_pe hm, ?_⟩
  have hp : PoE g W φ F σ Q (bl (mChain f f' ma mb mc env)) := hp
  unfold bl mChain at hp
  have e0 : ∀ {α β γ : Type} (r : Re α) (k : α → Env → Re β) (k2 : β → Env → Re γ), (r.bind k).bind k2 = r.bind fun a e => (k a e).bind k2 := fun r k k2 => by cases r <;> rfl
  rw [e0] at hp
  refine ha F σ H env _ hr (ve hp fun x e1 v H1 F1 s1 r1 p1 hp1 => ?_)
  rw [e0] at hp1
  refine hb F1 σ H1 e1 _ r1 (ve hp1 fun y e2 u H2 F2 s2 r2 p2 hp2 => ?_)
  unfold use2 at hp2
  cases g1 : x.get e2 with
  | none => rw [g1] at hp2; exact hp2.elim
  | some d =>
    cases g2 : y.get e2 with
    | none => rw [g1, g2] at hp2; exact hp2.elim
    | some d' =>
      rw [g1, g2] at hp2
      cases hf : f d d' with
      | none => simp only [hf] at hp2; exact hp2.elim
      | some z =>
        simp only [hf] at hp2
        refine ho F2 σ H2 e2 v u d d' z _ r2 ((p1.mono s2).get r2 g1) (p2.get r2 g2) hf ⟨z, rfl, ?_⟩
        cases z with
        | true =>
          refine iteT ?_
          have hp2' : PoE g W φ F2 σ Q (((mc e2).bind fun z e4 => use2 f' y z e4).bind fun b e => .ok (.bl b) e) := hp2
          rw [e0] at hp2'
          refine hc F2 σ H2 e2 _ r2 (ve hp2' fun q e4 w H4 F4 s4 r4 p4 hp4 => ?_)
          unfold use2 at hp4
          cases g3 : y.get e4 with
          | none => rw [g3] at hp4; exact hp4.elim
          | some d1 =>
            cases g4 : q.get e4 with
            | none => rw [g3, g4] at hp4; exact hp4.elim
            | some d2 =>
              rw [g3, g4] at hp4
              cases hf2 : f' d1 d2 with
              | none => simp only [hf2] at hp4; exact hp4.elim
              | some z2 =>
                simp only [hf2] at hp4
                exact ho' F4 σ H4 e4 u w d1 d2 z2 _ r4 ((p2.mono s4).get r4 g3) (p4.get r4 g4) hf2 (hp4 _ _ _ (Same.refl _) r4 (.bl z2))
        | false => exact iteF (hp2 _ _ _ (Same.refl _) r2 (.bl false))

/-! ### and, or, not, if else -/
/-- a value that is a bool, as a test -/
def asB : D → Env → Re Bool := fun d e => match d with
  | .bl b => .ok b e
  | _ => .no
theorem st_val {e : Expr} {m : ME} (h : SE g W φ X e m) (he : ∀ whole, isTrue e X.env whole = (do let v ← whole; standAt e.pos; holding [v] (truthy v)) := by intro _; rfl) : ST g W φ X e (fun env => (m env).bind asB) := by
  intro F σ H env Q hr hp
  refine ⟨_, pt_val w_pe he, ?_⟩
  refine h F σ H env _ hr (et hp fun x e1 v H1 F1 s1 r1 p1 hp1 => ?_)
  cases x with
  | bl b =>
    cases p1
    exact ⟨b, rfl, hp1 _ _ (Same.refl _) r1⟩
  | _ => exact hp1.elim
def mNot (m : MT) : MT := fun env => (m env).bind fun b e => .ok (!b) e
theorem st_not {a : Expr} {m : MT} {pos : Pos} (h : ST g W φ X a m) : ST g W φ X (.UnaryOp .Not a pos) (mNot m) := by
  intro F σ H env Q hr hp
  refine ⟨_, pt_not w_pt, ?_⟩
  exact h F σ H env _ hr (tt hp fun x e1 H1 F1 s1 r1 hp1 => hp1 _ _ (Same.refl _) r1)
theorem se_not {a : Expr} {m : ME} {pos : Pos} (h : SE g W φ X a m) : SE g W φ X (.UnaryOp .Not a pos) (fun env => ((m env).bind asB).bind fun b e => .ok (.bl (!b)) e) := by
  intro F σ H env Q hr hp
  refine ⟨_, pe_not w_pe, ?_⟩
  have e0 : ∀ {α β γ : Type} (r : Re α) (k : α → Env → Re β) (k2 : β → Env → Re γ), (r.bind k).bind k2 = r.bind fun a e => (k a e).bind k2 := fun r k k2 => by cases r <;> rfl
  have hp : PoE g W φ F σ Q (((m env).bind asB).bind fun b e => .ok (.bl (!b)) e) := hp
  rw [e0] at hp
  refine h F σ H env _ hr (ee hp fun x e1 v H1 F1 s1 r1 p1 hp1 => ?_)
  cases x with
  | bl b =>
    cases p1
    exact ⟨b, rfl, hp1 _ _ _ (Same.refl _) r1 (.bl (!b))⟩
  | _ => exact hp1.elim
def mAnd (m n : MT) : MT := fun env => (m env).bind fun b e => if b = true then n e else .ok false e
def mOr (m n : MT) : MT := fun env => (m env).bind fun b e => if b = true then .ok true e else n e
/-- a test in a row of and, or -/
def SW (g : Gc) (W : WX) (φ : Fc) (X : Cx) (e : Expr) (m : MT) : Prop := ∀ F σ H env Q, Rel g φ F σ H env → PoT g W φ F σ Q (m env) → ∃ t, PW X e t ∧ t σ H Q
def wW (X : Cx) (e : Expr) : TT := fun σ H Q => ∃ t, PW X e t ∧ t σ H Q
theorem w_pw {e : Expr} : PW X e (wW X e) := ⟨fun wh pins s σ H Q I ⟨_, h, q⟩ => h.run wh pins s σ H Q I q⟩
theorem sw_and1 {a : Expr} {m : MT} {pos : Pos} (h : ST g W φ X a m) : SW g W φ X (.BoolOp .And [a] pos) m := fun F σ H env Q hr hp => ⟨_, pw_and1 w_pt, h F σ H env Q hr hp⟩
theorem sw_or1 {a : Expr} {m : MT} {pos : Pos} (h : ST g W φ X a m) : SW g W φ X (.BoolOp .Or [a] pos) m := fun F σ H env Q hr hp => ⟨_, pw_or1 w_pt, h F σ H env Q hr hp⟩
theorem sw_and {a b : Expr} {rest : List Expr} {m n : MT} {pos : Pos} (ha : ST g W φ X a m) (hb : SW g W φ X (.BoolOp .And (b :: rest) pos) n) : SW g W φ X (.BoolOp .And (a :: b :: rest) pos) (mAnd m n) := by
  intro F σ H env Q hr hp
  refine ⟨_, pw_and w_pt w_pw, ?_⟩
  refine ha F σ H env _ hr (tt hp fun x e1 H1 F1 s1 r1 hp1 => ?_)
  cases x with
  | true => exact iteT (hb F1 σ H1 e1 Q r1 hp1)
  | false => exact iteF (hp1 _ _ (Same.refl _) r1)
theorem sw_or {a b : Expr} {rest : List Expr} {m n : MT} {pos : Pos} (ha : ST g W φ X a m) (hb : SW g W φ X (.BoolOp .Or (b :: rest) pos) n) : SW g W φ X (.BoolOp .Or (a :: b :: rest) pos) (mOr m n) := by
  intro F σ H env Q hr hp
  refine ⟨_, pw_or w_pt w_pw, ?_⟩
  refine ha F σ H env _ hr (tt hp fun x e1 H1 F1 s1 r1 hp1 => ?_)
  cases x with
  | true => exact iteT (hp1 _ _ (Same.refl _) r1)
  | false => exact iteF (hb F1 σ H1 e1 Q r1 hp1)
theorem st_w {e : Expr} {m : MT} (h : SW g W φ X e m) : ST g W φ X e m := fun F σ H env Q hr hp => by
  obtain ⟨t, h1, h2⟩ := h F σ H env Q hr hp
  exact ⟨t, h1.pt, h2⟩
/-- as values: all but the last are bools -/
def mAndV (m n : ME) : ME := fun env => ((m env).bind asB).bind fun b e => if b = true then n e else .ok (.bl false) e
def mOrV (m n : ME) : ME := fun env => ((m env).bind asB).bind fun b e => if b = true then .ok (.bl true) e else n e
theorem se_one {op : BoolOp} {a : Expr} {m : ME} {pos : Pos} (h : SE g W φ X a m) : SE g W φ X (.BoolOp op [a] pos) m := fun F σ H env Q hr hp => ⟨_, pe_one w_pe, h F σ H env Q hr hp⟩
theorem se_and {a b : Expr} {rest : List Expr} {m n : ME} {pos : Pos} (ha : SE g W φ X a m) (hb : SE g W φ X (.BoolOp .And (b :: rest) pos) n) : SE g W φ X (.BoolOp .And (a :: b :: rest) pos) (mAndV m n) := by
  intro F σ H env Q hr hp
  refine ⟨_, pe_and w_pe w_pe, ?_⟩
  have e0 : ∀ {α β γ : Type} (r : Re α) (k : α → Env → Re β) (k2 : β → Env → Re γ), (r.bind k).bind k2 = r.bind fun a e => (k a e).bind k2 := fun r k k2 => by cases r <;> rfl
  unfold mAndV at hp
  rw [e0] at hp
  refine ha F σ H env _ hr (ee hp fun x e1 v H1 F1 s1 r1 p1 hp1 => ?_)
  cases x with
  | bl b =>
    cases p1
    refine ⟨b, rfl, ?_⟩
    cases b with
    | true => exact iteT (hb F1 σ H1 e1 Q r1 hp1)
    | false => exact iteF (hp1 _ _ _ (Same.refl _) r1 (.bl false))
  | _ => exact hp1.elim
theorem se_or {a b : Expr} {rest : List Expr} {m n : ME} {pos : Pos} (ha : SE g W φ X a m) (hb : SE g W φ X (.BoolOp .Or (b :: rest) pos) n) : SE g W φ X (.BoolOp .Or (a :: b :: rest) pos) (mOrV m n) := by
  intro F σ H env Q hr hp
  refine ⟨_, pe_or w_pe w_pe, ?_⟩
  have e0 : ∀ {α β γ : Type} (r : Re α) (k : α → Env → Re β) (k2 : β → Env → Re γ), (r.bind k).bind k2 = r.bind fun a e => (k a e).bind k2 := fun r k k2 => by cases r <;> rfl
  unfold mOrV at hp
  rw [e0] at hp
  refine ha F σ H env _ hr (ee hp fun x e1 v H1 F1 s1 r1 p1 hp1 => ?_)
  cases x with
  | bl b =>
    cases p1
    refine ⟨b, rfl, ?_⟩
    cases b with
    | true => exact iteT (hp1 _ _ _ (Same.refl _) r1 (.bl true))
    | false => exact iteF (hb F1 σ H1 e1 Q r1 hp1)
  | _ => exact hp1.elim
def mIf (c : MT) (m n : ME) : ME := fun env => (c env).bind fun b e => if b = true then m e else n e
theorem se_if {c a b : Expr} {mc : MT} {m n : ME} {pos : Pos} (hc : ST g W φ X c mc) (ha : SE g W φ X a m) (hb : SE g W φ X b n) : SE g W φ X (.IfExp c a b pos) (mIf mc m n) := by
  intro F σ H env Q hr hp
  refine ⟨_, pe_ifExp w_pt w_pe w_pe, ?_⟩
  refine hc F σ H env _ hr (te hp fun x e1 H1 F1 s1 r1 hp1 => ?_)
  cases x with
  | true => exact iteT (ha F1 σ H1 e1 Q r1 hp1)
  | false => exact iteF (hb F1 σ H1 e1 Q r1 hp1)

/-! ### arguments, tuples, lists -/
def aNil : MA := fun env => .ok [] env
def aCons (m : MV) (n : MA) : MA := fun env => (m env).bind fun a e => (n e).bind fun as e2 => .ok (a :: as) e2
theorem sa_nil : SA g W φ X [] aNil := fun F σ H env Q hr hp => ⟨_, pa_nil, hp [] H F (Same.refl _) hr .nil⟩
theorem sa_cons {e : Expr} {es : List Expr} {m : MV} {n : MA} (h : SV g W φ X e m) (t : SA g W φ X es n) (hs : starEach (e :: es) X.env = (false, eval e X.env) :: starEach es X.env := by rfl) : SA g W φ X (e :: es) (aCons m n) := by
  intro F σ H env Q hr hp
  refine ⟨_, pa_cons w_pe w_pa hs, ?_⟩
  refine h F σ H env _ hr (va_ hp fun x e1 v H1 F1 s1 r1 p1 hp1 => t F1 σ H1 e1 _ r1 (aa hp1 fun y e2 vs H2 F2 s2 r2 p2 hp2 => ?_))
  exact hp2 _ H2 F2 (Same.refl _) r2 (.cons (p1.mono s2) p2)
/-- plain values only -/
def vals : List Av → Option (List D)
  | [] => some []
  | .va d :: as => (vals as).map (d :: ·)
  | .ix _ :: _ => none
theorem AvsR.vals {F : Hp} {σ : L2.St} : ∀ {vs : List V} {as : List Av} {ds : List D}, AvsR g F σ vs as → vals as = some ds → Reps g F vs ds
  | [], [], ds, _, e => by
    have : ([] : List D) = ds := Option.some.inj e
    subst this
    exact .nil
  | [], _ :: _, _, h, _ => by have := h.len; simp at this
  | _ :: _, [], _, h, _ => by have := h.len; simp at this
  | v :: vs, .va d :: as, ds, h, e => by
    simp only [Mp.vals, Option.map_eq_some_iff] at e
    obtain ⟨ds', e1, e2⟩ := e
    subst e2
    exact .cons h.head (AvsR.vals h.tail e1)
  | v :: vs, .ix i :: as, ds, h, e => by simp [Mp.vals] at e
def use {β : Type} (f : List D → Option β) (as : List Av) (e : Env) : Re β := match gets e as with
  | some ds => match f ds with
    | some z => .ok z e
    | none => .no
  | none => .no
def line : Nat := 16777216
theorem line_eq : line = sizeLine := by
  rw [sizeLine_eq]
  all_goals rfl
def mTup (m : MA) : ME := fun env => (m env).bind fun as e => match vals as with
  | some ds => if ds.length ≤ line then .ok (.tup ds) e else .no
  | none => .no
def mLst (m : MA) : ME := fun env => (m env).bind fun as e => match vals as with
  | some ds => if ds.length ≤ line then .ok (.lst ds) e else .no
  | none => .no
theorem se_tup {es : List Expr} {m : MA} {x1 : Nat} {pos : Pos} (h : SA g W φ X es m) : SE g W φ X (.Tuple es x1 pos) (mTup m) := by
  intro F σ H env Q hr hp
  refine ⟨_, pe_tup w_pa, ?_⟩
  refine h F σ H env _ hr (ae hp fun x e1 vs H1 F1 s1 r1 p1 hp1 => ?_)
  cases e : vals x with
  | none => simp only [e] at hp1; exact hp1.elim
  | some ds =>
    simp only [e] at hp1
    by_cases hz : ds.length ≤ line
    · rw [if_pos hz] at hp1
      have q := p1.vals e
      refine ⟨by rw [q.len, ← line_eq]; exact hz, fun p hn => ?_⟩
      obtain ⟨s2, r2⟩ := r1.laid (o := .tup vs) hn
      exact hp1 _ _ _ s2 r2 (.mkTup upd_same (q.mono s2))
    · rw [if_neg hz] at hp1
      exact hp1.elim
theorem se_lst {es : List Expr} {m : MA} {pos : Pos} (h : SA g W φ X es m) : SE g W φ X (.List es pos) (mLst m) := by
  intro F σ H env Q hr hp
  refine ⟨_, pe_lst w_pa, ?_⟩
  refine h F σ H env _ hr (ae hp fun x e1 vs H1 F1 s1 r1 p1 hp1 => ?_)
  cases e : vals x with
  | none => simp only [e] at hp1; exact hp1.elim
  | some ds =>
    simp only [e] at hp1
    by_cases hz : ds.length ≤ line
    · rw [if_pos hz] at hp1
      have q := p1.vals e
      refine ⟨by rw [q.len, ← line_eq]; exact hz, fun p hn => ?_⟩
      obtain ⟨s2, r2⟩ := r1.laid (o := .lst vs) hn
      exact hp1 _ _ _ s2 r2 (.mkLst upd_same (q.mono s2))
    · rw [if_neg hz] at hp1
      exact hp1.elim

/-! ### calls of built-ins -/
def CaS (g : Gc) (φ : Fc) (w : List V → Hp → VK → Prop) (f : List D → Option D) : Prop :=
  ∀ F σ H env vs ds z Q, Rel g φ F σ H env → RepsH g F H vs ds → f ds = some z → (∀ r H' F', Same F F' → Rel g φ F' σ H' env → Rep g F' r z → Q r H') → w vs H Q
def mCall (f : List D → Option D) (m : MA) : ME := fun env => (m env).bind fun as e => use f as e
theorem use_ok {F : Hp} {σ : L2.St} {Q : VK} {f : List D → Option D} {x : List Av} {e : Env} (hp : PoE g W φ F σ Q (use f x e)) : ∃ d z, gets e x = some d ∧ f d = some z ∧ PoE g W φ F σ Q (.ok z e) := by
  unfold use at hp
  cases h1 : gets e x with
  | none => rw [h1] at hp; exact hp.elim
  | some d =>
    rw [h1] at hp
    cases h2 : f d with
    | none => simp only [h2] at hp; exact hp.elim
    | some z => simp only [h2] at hp; exact ⟨d, z, rfl, h2, hp⟩
theorem se_callB {x : Str} {id : String} {f : List D → Option D} {e : Expr} {es : List Expr} {m : MA} {p pos : Pos} (hc : CaS g φ (wC X (.builtin id)) f) (hg : Gl X x) (hm : X.mg x = none) (hv : bootBuiltins x = some (.builtin id)) (ha : SA g W φ X (e :: es) m)
    (hn : x ≠ "__name__" := by decide) (hdb : (x == ("__debug__" : Str)) = false := by decide) (he : starEach (e :: es) X.env = (false, eval e X.env) :: starEach es X.env := by rfl) (hpl : (backTo pos (starEach es X.env)).any (·.1) = false := by rfl) :
    SE g W φ X (.Call (.Name x p) (e :: es) [] pos) (mCall f m) := by
  intro F σ H env Q hr hp
  refine ⟨_, pe_callB w_call hg hm hv w_pa hn hdb he hpl, ?_⟩
  refine ha F σ H env _ hr (ae hp fun as e1 vs H1 F1 s1 r1 p1 hp1 => ?_)
  obtain ⟨d, z, g1, hf, hp2⟩ := use_ok hp1
  exact hc F1 σ H1 e1 vs d z Q r1 (p1.gets r1 g1) hf hp2
theorem se_callT {x : Str} {T : String} {f : List D → Option D} {e : Expr} {es : List Expr} {m : MA} {p pos : Pos} (hc : CaS g φ (wC X (.type T)) f) (hg : Gl X x) (hm : X.mg x = none) (hv : bootBuiltins x = some (.type T)) (ha : SA g W φ X (e :: es) m)
    (hn : x ≠ "__name__" := by decide) (hdb : (x == ("__debug__" : Str)) = false := by decide) (he : starEach (e :: es) X.env = (false, eval e X.env) :: starEach es X.env := by rfl) (hpl : (backTo pos (starEach es X.env)).any (·.1) = false := by rfl) :
    SE g W φ X (.Call (.Name x p) (e :: es) [] pos) (mCall f m) := by
  intro F σ H env Q hr hp
  refine ⟨_, pe_callTy w_call hg hm hv w_pa hn hdb he hpl, ?_⟩
  refine ha F σ H env _ hr (ae hp fun as e1 vs H1 F1 s1 r1 p1 hp1 => ?_)
  obtain ⟨d, z, g1, hf, hp2⟩ := use_ok hp1
  exact hc F1 σ H1 e1 vs d z Q r1 (p1.gets r1 g1) hf hp2
/-! ### subscripts -/
def IxS (g : Gc) (φ : Fc) (w : V → V → Hp → VK → Prop) (f : D → D → Option D) : Prop := OpS g φ w f
theorem se_ix {a b : Expr} {f : D → D → Option D} {ma mb : MV} {pos : Pos} (ho : OpS g φ (wI X) f) (ha : SV g W φ X a ma) (hb : SV g W φ X b mb) (hs : PlainIx b := by intro _ _; rfl) : SE g W φ X (.Subscript a b pos) (mBin f ma mb) := by
  intro F σ H env Q hr hp
  refine ⟨_, pe_ix w_ix w_pe w_pe hs, ?_⟩
  refine ha F σ H env _ hr (ve hp fun x e1 v H1 F1 s1 r1 p1 hp1 => hb F1 σ H1 e1 _ r1 (ve hp1 fun y e2 u H2 F2 s2 r2 p2 hp2 => ?_))
  obtain ⟨d, d', z, g1, g2, hf, hp3⟩ := use2_ok hp2
  exact ho F2 σ H2 e2 v u d d' z Q r2 ((p1.mono s2).get r2 g1) (p2.get r2 g2) hf hp3
end
end Mp
set_option Elab.async false
set_option linter.all false
set_option maxRecDepth 100000
namespace Mp
open PySem PySem.Spec PyProof.Rows L2

/-! ## operations on data -/
def addF : D → D → Option D
  | .int i, .int j => some (.int (i + j))
  | .tup a, .tup b => if a.length + b.length ≤ line then some (.tup (a ++ b)) else none
  | .lst a, .lst b => if a.length + b.length ≤ line then some (.lst (a ++ b)) else none
  | .str a, .str b => if a.length + b.length ≤ line then some (.str (a ++ b)) else none
  | _, _ => none
def subF : D → D → Option D
  | .int i, .int j => some (.int (i - j))
  | _, _ => none
def mulF : D → D → Option D
  | .int i, .int j => if (-(2 ^ 64) < i ∧ i < 2 ^ 64) ∨ (-(2 ^ 64) < j ∧ j < 2 ^ 64) then some (.int (i * j)) else none
  | _, _ => none
def fdivF : D → D → Option D
  | .int i, .int j => if 0 < j ∧ j < 1073741824 then some (.int (i / j)) else none
  | _, _ => none
def modF : D → D → Option D
  | .int i, .int j => if 0 < j then some (.int (i % j)) else none
  | _, _ => none
def powF : D → D → Option D
  | .int i, .int j => if 0 ≤ j ∧ j ≤ 1000000 ∧ i.natAbs < 2 ^ 64 then some (.int (i ^ j.toNat)) else none
  | _, _ => none
def ltF : D → D → Option Bool
  | .int i, .int j => some (decide (i < j))
  | _, _ => none
def leF : D → D → Option Bool
  | .int i, .int j => some (decide (i ≤ j))
  | _, _ => none
def gtF : D → D → Option Bool
  | .int i, .int j => some (decide (j < i))
  | _, _ => none
def geF : D → D → Option Bool
  | .int i, .int j => some (decide (j ≤ i))
  | _, _ => none
mutual
def toPy : D → Option PyData
  | .non => some .none
  | .bl b => some (.bool b)
  | .int i => some (.int i)
  | .str x => some (.str x)
  | .tup xs => (toPys xs).map .tuple
  | .lst xs => (toPys xs).map .list
  | .rol _ => none
  | .obj _ _ => none
  | .ty _ => none
  | .cls _ => none
  | .adr _ => none
def toPys : List D → Option (List PyData)
  | [] => some []
  | d :: ds => match toPy d, toPys ds with
    | some p, some ps => some (p :: ps)
    | _, _ => none
end
def eqF (x y : D) : Option Bool := match toPy x, toPy y with
  | some a, some b => if SeqAt.shaped a = true ∧ SeqAt.shaped b = true then some (PyData.eqv a b) else none
  | _, _ => none
def neF (x y : D) : Option Bool := (eqF x y).map (!·)
def D.isNon : D → Bool
  | .non => true
  | _ => false
def isF (x y : D) : Option Bool := if y.isNon = true then some x.isNon else none
def isntF (x y : D) : Option Bool := if y.isNon = true then some (!x.isNon) else none
/-- the place of an index -/
def atF : D → D → Option D
  | .lst xs, .int i => atI xs i
  | .tup xs, .int i => atI xs i
  | .rol xs, .int i => atI xs i
  | _, _ => none
def lenF : List D → Option D
  | [.lst xs] => some (.int xs.length)
  | [.tup xs] => some (.int xs.length)
  | [.rol xs] => some (.int xs.length)
  | [.str x] => if x.length ≤ line then some (.int x.length) else none
  | _ => none
def intF : List D → Option D
  | [.int i] => some (.int i)
  | [.bl b] => some (.int (if b then 1 else 0))
  | _ => none
def minF : List D → Option D
  | [.int i, .int j] => some (.int (if j < i then j else i))
  | _ => none
def maxF : List D → Option D
  | [.int i, .int j] => some (.int (if j > i then j else i))
  | _ => none
def tupF : List D → Option D
  | [.lst xs] => some (.tup xs)
  | [.tup xs] => some (.tup xs)
  | [.rol xs] => some (.tup xs)
  | _ => none
def tyName : D → Option String
  | .non => some "NoneType"
  | .bl _ => some "bool"
  | .int _ => some "int"
  | .str _ => some "str"
  | .tup _ => some "tuple"
  | .lst _ => some "list"
  | _ => none
/-- isinstance(x, T), T one built-in class -/
def isiF : List D → Option D
  | [x, .ty n] => match tyName x with
    | some t => (kitB t n).map D.bl
    | none => none
  | _ => none

theorem atI_reps {g : Gc} {F : Hp} {vs : List V} {xs : List D} {i : Int} {d : D} (h : Reps g F vs xs) (e : atI xs i = some d) : ∃ v, atI vs i = some v ∧ Rep g F v d := by
  unfold atI at e ⊢
  rw [h.len]
  cases q : ixN xs.length i with
  | none => rw [q] at e; cases e
  | some j =>
    rw [q] at e
    exact h.get e

section
variable {g : Gc} {W : WX} {φ : Fc} {X : Cx} {k : Nat} {F F' H : Hp} {σ : L2.St}
theorem RepH.tupR {v : V} {xs : List D} (h : RepH g F H v (.tup xs)) : Rep g F v (.tup xs) := by
  cases h with
  | of h => exact h
theorem op_add_ (hK : X.K = g.K) : OpS g φ (wO X (binaryOp .Add)) addF := by
  intro F σ H env v u x y z Q hr hx hy hf hq
  cases x <;> cases y <;> simp only [addF, reduceCtorEq] at hf
  · cases hf
    rw [hx.int, hy.int]
    exact ⟨_, op_add, _, _, rfl, rfl, hq _ _ _ (Same.refl _) hr (.int _)⟩
  · split at hf
    · rename_i hz
      cases hf
      rw [hx.str, hy.str]
      exact ⟨_, op_add_str, _, _, rfl, rfl, by rw [← line_eq]; exact hz, hq _ _ _ (Same.refl _) hr (.str _)⟩
    · cases hf
  · split at hf
    · rename_i hz
      cases hf
      obtain ⟨a, vs, rfl, h1, h2⟩ := hx.tup hr.ex
      obtain ⟨b, ws, rfl, h3, h4⟩ := hy.tup hr.ex
      refine ⟨_, op_catA, a, b, vs, ws, rfl, rfl, hK ▸ h1, hK ▸ h3, by rw [h2.len, h4.len, ← line_eq]; exact hz, fun e => ?_, fun e e' => ?_, fun e e' p hp => ?_⟩
      · have hl := h2.len
        rw [e] at hl
        rename_i xs ys
        have e2 : xs = [] := List.length_eq_zero_iff.mp hl.symm
        subst e2
        exact hq _ _ _ (Same.refl _) hr hy.tupR
      · have hl := h4.len
        rw [e'] at hl
        rename_i xs ys
        have e2 : ys = [] := List.length_eq_zero_iff.mp hl.symm
        subst e2
        rw [List.append_nil] at hq
        exact hq _ _ _ (Same.refl _) hr hx.tupR
      · obtain ⟨s2, r2⟩ := hr.laid (o := .tup (vs ++ ws)) hp
        exact hq _ _ _ s2 r2 (.mkTup upd_same ((h2.append h4).mono s2))
    · cases hf
  · split at hf
    · rename_i hz
      cases hf
      obtain ⟨a, vs, rfl, h1, h2⟩ := hx.lst hr.ex
      obtain ⟨b, ws, rfl, h3, h4⟩ := hy.lst hr.ex
      refine ⟨_, op_cat, a, b, vs, ws, rfl, rfl, h1, h3, by rw [h2.len, h4.len, ← line_eq]; exact hz, fun p hp => ?_⟩
      obtain ⟨s2, r2⟩ := hr.laid (o := .lst (vs ++ ws)) hp
      exact hq _ _ _ s2 r2 (.mkLst upd_same ((h2.append h4).mono s2))
    · cases hf
theorem op_sub_ : OpS g φ (wO X (binaryOp .Sub)) subF := by
  intro F σ H env v u x y z Q hr hx hy hf hq
  cases x <;> cases y <;> simp only [subF, reduceCtorEq] at hf
  cases hf
  rw [hx.int, hy.int]
  exact ⟨_, op_sub, _, _, rfl, rfl, hq _ _ _ (Same.refl _) hr (.int _)⟩
theorem op_mul_ : OpS g φ (wO X (binaryOp .Mult)) mulF := by
  intro F σ H env v u x y z Q hr hx hy hf hq
  cases x <;> cases y <;> simp only [mulF, reduceCtorEq] at hf
  split at hf
  · rename_i hc
    cases hf
    rw [hx.int, hy.int]
    exact ⟨_, op_mul, _, _, rfl, rfl, hc, hq _ _ _ (Same.refl _) hr (.int _)⟩
  · cases hf
theorem op_fdiv_ : OpS g φ (wO X (binaryOp .FloorDiv)) fdivF := by
  intro F σ H env v u x y z Q hr hx hy hf hq
  cases x <;> cases y <;> simp only [fdivF, reduceCtorEq] at hf
  split at hf
  · rename_i hc
    cases hf
    rw [hx.int, hy.int]
    exact ⟨_, op_fdiv, _, _, rfl, rfl, hc, hq _ _ _ (Same.refl _) hr (.int _)⟩
  · cases hf
theorem op_mod_ : OpS g φ (wO X (binaryOp .Mod)) modF := by
  intro F σ H env v u x y z Q hr hx hy hf hq
  cases x <;> cases y <;> simp only [modF, reduceCtorEq] at hf
  split at hf
  · rename_i hc
    cases hf
    rw [hx.int, hy.int]
    exact ⟨_, op_mod, _, _, rfl, rfl, hc, hq _ _ _ (Same.refl _) hr (.int _)⟩
  · cases hf
theorem op_pow_ : OpS g φ (wO X (binaryOp .Pow)) powF := by
  intro F σ H env v u x y z Q hr hx hy hf hq
  cases x <;> cases y <;> simp only [powF, reduceCtorEq] at hf
  split at hf
  · rename_i hc
    cases hf
    rw [hx.int, hy.int]
    exact ⟨_, op_pow, _, _, rfl, rfl, hc, hq _ _ _ (Same.refl _) hr (.int _)⟩
  · cases hf
theorem op_lt_ : OpB g φ (wO X (compareOp .Lt)) ltF := by
  intro F σ H env v u x y z Q hr hx hy hf hq
  cases x <;> cases y <;> simp only [ltF, reduceCtorEq] at hf
  cases hf
  rw [hx.int, hy.int]
  exact ⟨_, op_lt, _, _, rfl, rfl, hq⟩
theorem op_le_ : OpB g φ (wO X (compareOp .LtE)) leF := by
  intro F σ H env v u x y z Q hr hx hy hf hq
  cases x <;> cases y <;> simp only [leF, reduceCtorEq] at hf
  cases hf
  rw [hx.int, hy.int]
  exact ⟨_, op_le, _, _, rfl, rfl, hq⟩
theorem op_gt_ : OpB g φ (wO X (compareOp .Gt)) gtF := by
  intro F σ H env v u x y z Q hr hx hy hf hq
  cases x <;> cases y <;> simp only [gtF, reduceCtorEq] at hf
  cases hf
  rw [hx.int, hy.int]
  exact ⟨_, op_gt, _, _, rfl, rfl, hq⟩
theorem op_ge_ : OpB g φ (wO X (compareOp .GtE)) geF := by
  intro F σ H env v u x y z Q hr hx hy hf hq
  cases x <;> cases y <;> simp only [geF, reduceCtorEq] at hf
  cases hf
  rw [hx.int, hy.int]
  exact ⟨_, op_ge, _, _, rfl, rfl, hq⟩
/-! equality of data -/
mutual
theorem Rep.dp (s : Same F H) : ∀ (d : D) (v : V) (p : PyData), toPy d = some p → Rep g F v d → Dp g.K H v p
  | .non, v, p, e, r => by
    simp only [toPy, Option.some.injEq] at e
    subst e
    cases r
    exact .non
  | .bl b, v, p, e, r => by
    simp only [toPy, Option.some.injEq] at e
    subst e
    cases r
    exact .bl b
  | .int b, v, p, e, r => by
    simp only [toPy, Option.some.injEq] at e
    subst e
    cases r
    exact .int b
  | .str b, v, p, e, r => by
    simp only [toPy, Option.some.injEq] at e
    subst e
    cases r
    exact .str b
  | .tup xs, v, p, e, r => by
    simp only [toPy, Option.map_eq_some_iff] at e
    obtain ⟨ps, e1, e2⟩ := e
    subst e2
    cases r with
    | tup a vs ds h hl hi => exact .tup (same_t s h) (Rep.dps s xs vs ps e1 ⟨hl, hi⟩)
  | .lst xs, v, p, e, r => by
    simp only [toPy, Option.map_eq_some_iff] at e
    obtain ⟨ps, e1, e2⟩ := e
    subst e2
    cases r with
    | lst a vs ds h hl hi => exact .lst (.inl (.inl (s _ _ h))) (Rep.dps s xs vs ps e1 ⟨hl, hi⟩)
  | .rol _, _, _, e, _ => by simp only [toPy, reduceCtorEq] at e
  | .obj _ _, _, _, e, _ => by simp only [toPy, reduceCtorEq] at e
  | .ty _, _, _, e, _ => by simp only [toPy, reduceCtorEq] at e
  | .cls _, _, _, e, _ => by simp only [toPy, reduceCtorEq] at e
  | .adr _, _, _, e, _ => by simp only [toPy, reduceCtorEq] at e
theorem Rep.dps (s : Same F H) : ∀ (ds : List D) (vs : List V) (ps : List PyData), toPys ds = some ps → Reps g F vs ds → DpAll g.K H vs ps
  | [], vs, ps, e, r => by
    simp only [toPys, Option.some.injEq] at e
    subst e
    have : vs = [] := List.length_eq_zero_iff.mp r.len
    subst this
    exact .nil
  | d :: ds, [], ps, e, r => by have := r.len; simp at this
  | d :: ds, v :: vs, ps, e, r => by
    cases h1 : toPy d with
    | none => simp only [toPys, h1, reduceCtorEq] at e
    | some p =>
      cases h2 : toPys ds with
      | none => simp only [toPys, h1, h2, reduceCtorEq] at e
      | some qs =>
        simp only [toPys, h1, h2, Option.some.injEq] at e
        subst e
        exact .cons (Rep.dp s d v p h1 r.head) (Rep.dps s ds vs qs h2 r.tail)
end
theorem RepH.dp (s : Same F H) {d : D} {v : V} {p : PyData} (e : toPy d = some p) (r : RepH g F H v d) : Dp g.K H v p := by
  cases r with
  | of h => exact Rep.dp s d v p e h
  | ow h q =>
    simp only [toPy, Option.map_eq_some_iff] at e
    obtain ⟨ps, e1, e2⟩ := e
    subst e2
    exact .lst (SqL.of h) (Rep.dps s _ _ ps e1 q)
theorem op_eq_ (hK : X.K = g.K) (rm : Room k X.A) : OpB g φ (wO X (compareOp .Eq)) eqF := by
  intro F σ H env v u x y z Q hr hx hy hf hq
  unfold eqF at hf
  cases h1 : toPy x with
  | none => simp only [h1, reduceCtorEq] at hf
  | some a =>
    cases h2 : toPy y with
    | none => simp only [h1, h2, reduceCtorEq] at hf
    | some b =>
      simp only [h1, h2] at hf
      split at hf
      · rename_i hs
        cases hf
        exact ⟨_, op_eqD rm.units, a, b, hK ▸ hx.dp hr.ex h1, hK ▸ hy.dp hr.ex h2, hs.1, hs.2, hq⟩
      · cases hf
theorem op_ne_ (hK : X.K = g.K) (rm : Room k X.A) : OpB g φ (wO X (compareOp .NotEq)) neF := by
  intro F σ H env v u x y z Q hr hx hy hf hq
  unfold neF eqF at hf
  cases h1 : toPy x with
  | none => simp only [h1, reduceCtorEq, Option.map_none] at hf
  | some a =>
    cases h2 : toPy y with
    | none => simp only [h1, h2, reduceCtorEq, Option.map_none] at hf
    | some b =>
      simp only [h1, h2] at hf
      split at hf
      · rename_i hs
        simp only [Option.map_some, Option.some.injEq] at hf
        subst hf
        exact ⟨_, op_neD rm.units, a, b, hK ▸ hx.dp hr.ex h1, hK ▸ hy.dp hr.ex h2, hs.1, hs.2, hq⟩
      · simp at hf
theorem RepH.non_iff {v : V} {d : D} (h : RepH g F H v d) : decide (v = .non) = d.isNon := by
  cases h with
  | of h => cases h <;> simp [D.isNon]
  | ow h q => simp [D.isNon]
theorem op_is_ : OpB g φ (wO X (compareOp .Is)) isF := by
  intro F σ H env v u x y z Q hr hx hy hf hq
  unfold isF at hf
  split at hf
  · rename_i hn
    cases hf
    have e1 := hx.non_iff
    have e2 := hy.non_iff
    rw [hn] at e2
    exact ⟨_, op_isN, of_decide_eq_true e2, by rw [e1]; exact hq⟩
  · cases hf
theorem op_isnt_ : OpB g φ (wO X (compareOp .IsNot)) isntF := by
  intro F σ H env v u x y z Q hr hx hy hf hq
  unfold isntF at hf
  split at hf
  · rename_i hn
    cases hf
    have e1 := hx.non_iff
    have e2 := hy.non_iff
    rw [hn] at e2
    exact ⟨_, op_notN, of_decide_eq_true e2, by rw [e1]; exact hq⟩
  · cases hf
/-! an item -/
theorem ix_at_ (hK : X.K = g.K) : OpS g φ (wI X) atF := by
  intro F σ H env v u x y z Q hr hx hy hf hq
  cases x <;> cases y <;> simp only [atF, reduceCtorEq] at hf
  · obtain ⟨a, vs, rfl, h1, h2⟩ := hx.tup hr.ex
    obtain ⟨w, h3, h4⟩ := atI_reps h2 hf
    rw [hy.int]
    exact ⟨_, ix_tup, a, vs, _, w, rfl, rfl, hK ▸ h1, h3, hq _ _ _ (Same.refl _) hr h4⟩
  · obtain ⟨a, vs, rfl, h1, h2⟩ := hx.lst hr.ex
    obtain ⟨w, h3, h4⟩ := atI_reps h2 hf
    rw [hy.int]
    exact ⟨_, ix_list, a, vs, _, w, rfl, rfl, SqL.of h1, h3, hq _ _ _ (Same.refl _) hr h4⟩
  · obtain ⟨a, vs, rfl, h1, h2⟩ := hx.rol hr.ex
    obtain ⟨w, h3, h4⟩ := atI_reps h2 hf
    rw [hy.int]
    exact ⟨_, ix_list, a, vs, _, w, rfl, rfl, hK ▸ h1, h3, hq _ _ _ (Same.refl _) hr h4⟩
/-! calls -/
theorem ca_len (hK : X.K = g.K) : CaS g φ (wC X (.builtin "len")) lenF := by
  intro F σ H env vs ds z Q hr hx hf hq
  cases hx with
  | nil => simp [lenF] at hf
  | @cons v d vs ds h t =>
    cases t with
    | cons h2 t2 => cases d <;> simp [lenF] at hf
    | nil =>
      cases d <;> simp only [lenF, reduceCtorEq] at hf
      · split at hf
        · rename_i hz
          cases hf
          rw [h.str]
          exact ⟨_, call_len_str, _, rfl, by rw [← line_eq]; exact hz, hq _ _ _ (Same.refl _) hr (.int _)⟩
        · cases hf
      · cases hf
        obtain ⟨a, ws, rfl, h1, h2⟩ := h.tup hr.ex
        exact ⟨_, call_len_seq, a, ws, rfl, .inr (hK ▸ h1), hq _ _ _ (Same.refl _) hr (by rw [h2.len]; exact .int _)⟩
      · cases hf
        obtain ⟨a, ws, rfl, h1, h2⟩ := h.lst hr.ex
        exact ⟨_, call_len_seq, a, ws, rfl, .inl (SqL.of h1), hq _ _ _ (Same.refl _) hr (by rw [h2.len]; exact .int _)⟩
      · cases hf
        obtain ⟨a, ws, rfl, h1, h2⟩ := h.rol hr.ex
        exact ⟨_, call_len_seq, a, ws, rfl, .inl (hK ▸ h1), hq _ _ _ (Same.refl _) hr (by rw [h2.len]; exact .int _)⟩
theorem ca_int : CaS g φ (wC X (.type "int")) intF := by
  intro F σ H env vs ds z Q hr hx hf hq
  cases hx with
  | nil => simp [intF] at hf
  | @cons v d vs ds h t =>
    cases t with
    | cons h2 t2 => cases d <;> simp [intF] at hf
    | nil =>
      cases d <;> simp only [intF, reduceCtorEq] at hf
      · cases hf
        rw [h.bl]
        exact ⟨_, call_int1, .inr ⟨_, rfl, hq _ _ _ (Same.refl _) hr (.int _)⟩⟩
      · cases hf
        rw [h.int]
        exact ⟨_, call_int1, .inl ⟨_, rfl, hq _ _ _ (Same.refl _) hr (.int _)⟩⟩
theorem ca_min (hc : X.calm = true) : CaS g φ (wC X (.builtin "min")) minF := by
  intro F σ H env vs ds z Q hr hx hf hq
  cases hx with
  | nil => simp [minF] at hf
  | @cons v d vs ds h t =>
    cases t with
    | nil => cases d <;> simp [minF] at hf
    | @cons v2 d2 vs ds h2 t =>
      cases t with
      | cons h3 t3 => cases d <;> cases d2 <;> simp [minF] at hf
      | nil =>
        cases d <;> cases d2 <;> simp only [minF, reduceCtorEq] at hf
        cases hf
        rw [h.int, h2.int]
        exact ⟨_, call_min2 hc, _, _, rfl, hq _ _ _ (Same.refl _) hr (.int _)⟩
theorem ca_max (hc : X.calm = true) : CaS g φ (wC X (.builtin "max")) maxF := by
  intro F σ H env vs ds z Q hr hx hf hq
  cases hx with
  | nil => simp [maxF] at hf
  | @cons v d vs ds h t =>
    cases t with
    | nil => cases d <;> simp [maxF] at hf
    | @cons v2 d2 vs ds h2 t =>
      cases t with
      | cons h3 t3 => cases d <;> cases d2 <;> simp [maxF] at hf
      | nil =>
        cases d <;> cases d2 <;> simp only [maxF, reduceCtorEq] at hf
        cases hf
        rw [h.int, h2.int]
        exact ⟨_, call_max2 hc, _, _, rfl, hq _ _ _ (Same.refl _) hr (.int _)⟩
theorem ca_tup (hK : X.K = g.K) : CaS g φ (wC X (.type "tuple")) tupF := by
  intro F σ H env vs ds z Q hr hx hf hq
  cases hx with
  | nil => simp [tupF] at hf
  | @cons v d vs ds h t =>
    cases t with
    | cons h2 t2 => cases d <;> simp [tupF] at hf
    | nil =>
      cases d <;> simp only [tupF, reduceCtorEq] at hf
      · cases hf
        have h0 := h.tupR
        obtain ⟨a, ws, rfl, h1, h2⟩ := h.tup hr.ex
        exact ⟨_, call_tuple_of, a, ws, rfl, .inr ⟨hK ▸ h1, hq _ _ _ (Same.refl _) hr h0⟩⟩
      · cases hf
        obtain ⟨a, ws, rfl, h1, h2⟩ := h.lst hr.ex
        refine ⟨_, call_tuple_of, a, ws, rfl, .inl ⟨SqL.of h1, fun p hp => ?_⟩⟩
        obtain ⟨s2, r2⟩ := hr.laid (o := .tup ws) hp
        exact hq _ _ _ s2 r2 (.mkTup upd_same (h2.mono s2))
      · cases hf
        obtain ⟨a, ws, rfl, h1, h2⟩ := h.rol hr.ex
        refine ⟨_, call_tuple_of, a, ws, rfl, .inl ⟨hK ▸ h1, fun p hp => ?_⟩⟩
        obtain ⟨s2, r2⟩ := hr.laid (o := .tup ws) hp
        exact hq _ _ _ s2 r2 (.mkTup upd_same (h2.mono s2))
/-- a value's class -/
theorem RepH.ty {v : V} {d : D} {t : String} (s : Same F H) (h : RepH g F H v d) (e : tyName d = some t) : TyX g.K H v (.type t) := by
  cases d <;> simp only [tyName, reduceCtorEq, Option.some.injEq] at e
  · subst e
    rw [h.non]
    exact .base .non
  · subst e
    rw [h.bl]
    exact .base (.bl _)
  · subst e
    rw [h.int]
    exact .base (.int _)
  · subst e
    rw [h.str]
    exact .base (.str _)
  · subst e
    obtain ⟨a, ws, rfl, h1, h2⟩ := h.tup s
    rcases h1 with (h1 | ⟨o, h1⟩) | ⟨o, its, n, h1, hc, _⟩
    · exact .base (.tup h1)
    · exact .fTuple h1
    · exact .kTuple h1 hc
  · subst e
    obtain ⟨a, ws, rfl, h1, h2⟩ := h.lst s
    exact .base (.lst h1)
theorem ca_isi (hK : X.K = g.K) : CaS g φ (wC X (.builtin "isinstance")) isiF := by
  intro F σ H env vs ds z Q hr hx hf hq
  cases hx with
  | nil => simp [isiF] at hf
  | @cons v d vs ds h t =>
    cases t with
    | nil => simp [isiF] at hf
    | @cons v2 d2 vs ds h2 t =>
      cases t with
      | cons h3 t3 => cases d2 <;> simp [isiF] at hf
      | nil =>
        cases d2 <;> simp only [isiF, reduceCtorEq] at hf
        rename_i n
        cases e : tyName d with
        | none => simp [e] at hf
        | some t =>
          simp only [e, Option.map_eq_some_iff] at hf
          obtain ⟨b, hb, rfl⟩ := hf
          have e2 : v2 = .ty n := by
            cases h2 with
            | of h2 => cases h2; rfl
          subst e2
          exact ⟨_, call_isi, v, .ty n, .type t, .type n, b, rfl, .ty n, hK ▸ h.ty hr.ex e, kit_ty hb, hq _ _ _ (Same.refl _) hr (.bl b)⟩
end
end Mp
set_option Elab.async false
set_option linter.all false
set_option maxRecDepth 100000
namespace Mp
open PySem PySem.Spec PyProof.Rows L2

/-! ## the frame's slots -/
def NotOwn (σ : L2.St) (env : Env) (p : Addr) : Prop := ∀ (i : Nat) (b : Bool) (xs : List D) (a : Addr), env[i]? = some (Sl.ow b xs) → σ[i]? = some (some (V.ref a)) → a ≠ p
theorem get_set {α : Type} {l : List α} {i j : Nat} {x y : α} (h : (l.set i x)[j]? = some y) : (i = j ∧ y = x ∧ i < l.length) ∨ (i ≠ j ∧ l[j]? = some y) := by
  rw [List.getElem?_set] at h
  split at h
  · rename_i e
    split at h
    · rename_i hl
      exact .inl ⟨e, (Option.some.inj h).symm, hl⟩
    · cases h
  · rename_i e
    exact .inr ⟨e, h⟩
theorem set_get {α : Type} {l : List α} {i : Nat} {x : α} (h : i < l.length) : (l.set i x)[i]? = some x := by
  rw [List.getElem?_set, if_pos rfl, if_pos h]
theorem set_get_ne {α : Type} {l : List α} {i j : Nat} {x : α} (h : i ≠ j) : (l.set i x)[j]? = l[j]? := List.getElem?_set_ne h
theorem lt_of_get {α : Type} {l : List α} {i : Nat} {x : α} (h : l[i]? = some x) : i < l.length := (List.getElem?_eq_some_iff.mp h).1
def isOw : Option Sl → Bool
  | some (.ow _ _) => true
  | _ => false
section
variable {g : Gc} {φ : Fc} {F F' : Hp} {σ : L2.St} {H : Hp} {env : Env}
theorem Rel.setVa (r : Rel g φ F σ H env) {i : Nat} {s : Sl} (hs : env[i]? = some s) (hn : isOw (some s) = false) {v : V} {d : D} (h : Rep g F v d) : Rel g φ F (σ.set i (some v)) H (env.set i (.va d)) := by
  have hi : i < env.length := lt_of_get hs
  have hσ : i < σ.length := by rw [r.len]; exact hi
  refine ⟨r.ex, r.ex0, r.new, r.fr, by simp [r.len], fun j d' e => ?_, fun j b xs e => ?_, fun j k b c xs ys a e1 e2 e3 e4 => ?_, fun p hp => ?_⟩
  · rcases get_set e with ⟨rfl, e2, _⟩ | ⟨hne, e2⟩
    · cases e2
      exact ⟨v, set_get hσ, h⟩
    · obtain ⟨w, h1, h2⟩ := r.va j d' e2
      exact ⟨w, by rw [set_get_ne hne]; exact h1, h2⟩
  · rcases get_set e with ⟨rfl, e2, _⟩ | ⟨hne, e2⟩
    · cases e2
    · obtain ⟨a, vs, h1, h2⟩ := r.ow j b xs e2
      exact ⟨a, vs, by rw [set_get_ne hne]; exact h1, h2⟩
  · rcases get_set e1 with ⟨rfl, z, _⟩ | ⟨n1, e1⟩
    · cases z
    · rcases get_set e2 with ⟨rfl, z, _⟩ | ⟨n2, e2⟩
      · cases z
      · rw [set_get_ne n1] at e3
        rw [set_get_ne n2] at e4
        exact r.dj j k b c xs ys a e1 e2 e3 e4
  · obtain ⟨h1, xs, h2⟩ := r.ioh p hp
    have hne : i ≠ p.1 := fun z => by
      rw [← z, hs] at h2
      cases h2
      simp [isOw] at hn
    exact ⟨by rw [set_get_ne hne]; exact h1, xs, by rw [set_get_ne hne]; exact h2⟩
/-- a list of one's own, new, at the slot i -/
theorem Rel.setOw (r : Rel g φ F σ H env) {i : Nat} {s : Sl} (hs : env[i]? = some s) (hn : ∀ xs, s ≠ .ow true xs) {p : Addr} {vs : List V} {xs : List D} (hp : H p = some (.lst vs)) (hF : F p = none) (h0 : φ.H0 p = none) (ho : NotOwn σ env p) (h : Reps g F vs xs) :
    Rel g φ F (σ.set i (some (.ref p))) H (env.set i (.ow false xs)) := by
  have hi : i < env.length := lt_of_get hs
  have hσ : i < σ.length := by rw [r.len]; exact hi
  refine ⟨r.ex, r.ex0, r.new, r.fr, by simp [r.len], fun j d' e => ?_, fun j b ys e => ?_, fun j k b c ys zs a e1 e2 e3 e4 => ?_, fun q hq => ?_⟩
  · rcases get_set e with ⟨rfl, e2, _⟩ | ⟨hne, e2⟩
    · cases e2
    · obtain ⟨w, h1, h2⟩ := r.va j d' e2
      exact ⟨w, by rw [set_get_ne hne]; exact h1, h2⟩
  · rcases get_set e with ⟨rfl, e2, _⟩ | ⟨hne, e2⟩
    · cases e2
      exact ⟨p, vs, set_get hσ, hp, hF, h, fun _ => h0, fun z => by cases z⟩
    · obtain ⟨a, ws, h1, h2⟩ := r.ow j b ys e2
      exact ⟨a, ws, by rw [set_get_ne hne]; exact h1, h2⟩
  · rcases get_set e1 with ⟨rfl, z, _⟩ | ⟨n1, e1⟩
    · rcases get_set e2 with ⟨rfl, z, _⟩ | ⟨n2, e2⟩
      · rfl
      · rw [set_get hσ] at e3
        rw [set_get_ne n2] at e4
        cases e3
        exact absurd rfl (ho k c zs p e2 e4)
    · rcases get_set e2 with ⟨rfl, z, _⟩ | ⟨n2, e2⟩
      · rw [set_get hσ] at e4
        rw [set_get_ne n1] at e3
        cases e4
        exact absurd rfl (ho j b ys p e1 e3)
      · rw [set_get_ne n1] at e3
        rw [set_get_ne n2] at e4
        exact r.dj j k b c ys zs a e1 e2 e3 e4
  · obtain ⟨h1, ys, h2⟩ := r.ioh q hq
    have hne : i ≠ q.1 := fun z => by
      rw [← z, hs] at h2
      exact hn ys (Option.some.inj h2)
    exact ⟨by rw [set_get_ne hne]; exact h1, ys, by rw [set_get_ne hne]; exact h2⟩
/-- a list of one's own is changed -/
theorem Rel.updOw (r : Rel g φ F σ H env) {i : Nat} {b : Bool} {xs ys : List D} (hs : env[i]? = some (.ow b xs)) {a : Addr} (ha : σ[i]? = some (some (.ref a))) {ws : List V} (h : Reps g F ws ys) :
    Rel g φ F σ (upd H a (.lst ws)) (env.set i (.ow b ys)) := by
  have hi : i < env.length := lt_of_get hs
  obtain ⟨a', vs, h1, h2, h3, h4, h5, h6⟩ := r.ow i b xs hs
  rw [ha] at h1
  cases h1
  refine ⟨fun c u e => ?_, r.ex0, r.new, fun c u e hc => ?_, by simp [r.len], fun j d' e => ?_, fun j c zs e => ?_, fun j k c c' zs us e e1 e2 e3 e4 => ?_, fun q hq => ?_⟩
  · have hca : c ≠ a := ne_of_none e h3
    rw [upd_ne hca]
    exact r.ex c u e
  · have hca : c ≠ a := fun z => by
      cases b with
      | false => rw [z, h5 rfl] at e; cases e
      | true => exact hc _ (h6 rfl) z.symm
    rw [upd_ne hca]
    exact r.fr c u e hc
  · rcases get_set e with ⟨rfl, e2, _⟩ | ⟨hne, e2⟩
    · cases e2
    · exact r.va j d' e2
  · rcases get_set e with ⟨rfl, e2, _⟩ | ⟨hne, e2⟩
    · cases e2
      exact ⟨a, ws, ha, upd_same, h3, h, h5, h6⟩
    · obtain ⟨p, us, q1, q2, q3⟩ := r.ow j c zs e2
      have hpa : p ≠ a := fun z => hne (r.dj i j b c xs zs a hs e2 ha (z ▸ q1))
      exact ⟨p, us, q1, by rw [upd_ne hpa]; exact q2, q3⟩
  · rcases get_set e1 with ⟨rfl, z, _⟩ | ⟨n1, e1⟩
    · rcases get_set e2 with ⟨rfl, z2, _⟩ | ⟨n2, e2⟩
      · rfl
      · exact r.dj _ k b c' xs us e hs e2 e3 e4
    · rcases get_set e2 with ⟨rfl, z2, _⟩ | ⟨n2, e2⟩
      · exact r.dj j _ c b zs xs e e1 hs e3 e4
      · exact r.dj j k c c' zs us e e1 e2 e3 e4
  · obtain ⟨q1, zs, q2⟩ := r.ioh q hq
    refine ⟨q1, ?_⟩
    by_cases hne : i = q.1
    · rw [← hne, hs] at q2
      cases q2
      exact ⟨ys, by rw [← hne]; exact set_get hi⟩
    · exact ⟨zs, by rw [set_get_ne hne]; exact q2⟩
/-- an object that nobody has is settled -/
theorem Rel.settle (r : Rel g φ F σ H env) {p : Addr} {o : HO} (hp : H p = some o) (hF : F p = none) (h0 : φ.H0 p = none) (ho : NotOwn σ env p) : Same F (upd F p o) ∧ Rel g φ (upd F p o) σ H env := by
  have sF : Same F (upd F p o) := same_new hF
  refine ⟨sF, ⟨fun b u e => ?_, r.ex0.trans sF, fun b u e => ?_, r.fr, r.len, fun i d e => ?_, fun i b xs e => ?_, r.dj, r.ioh⟩⟩
  · by_cases hb : b = p
    · subst hb
      rw [upd_same] at e
      cases e
      exact hp
    · rw [upd_ne hb] at e
      exact r.ex b u e
  · by_cases hb : b = p
    · subst hb
      exact .inr h0
    · rw [upd_ne hb] at e
      exact r.new b u e
  · obtain ⟨v, h1, h2⟩ := r.va i d e
    exact ⟨v, h1, h2.mono sF⟩
  · obtain ⟨a, vs, h1, h2, h3, h4, h5⟩ := r.ow i b xs e
    have ha : a ≠ p := ho i b xs a e h1
    exact ⟨a, vs, h1, h2, by rw [upd_ne ha]; exact h3, h4.mono sF, h5⟩
/-- a loose object changes -/
theorem Rel.mut (r : Rel g φ F σ H env) {p : Addr} {o : HO} (hF : F p = none) (h0 : φ.H0 p = none) (ho : NotOwn σ env p) : Rel g φ F σ (upd H p o) env := by
  refine ⟨fun b u e => ?_, r.ex0, r.new, fun b u e hb => ?_, r.len, r.va, fun i b xs e => ?_, r.dj, r.ioh⟩
  · rw [upd_ne (ne_of_none e hF)]
    exact r.ex b u e
  · rw [upd_ne (ne_of_none e h0)]
    exact r.fr b u e hb
  · obtain ⟨a, vs, h1, h2, h3⟩ := r.ow i b xs e
    exact ⟨a, vs, h1, by rw [upd_ne (ho i b xs a e h1)]; exact h2, h3⟩
/-- a slot is emptied that holds no list handed in -/
theorem Rel.drop (r : Rel g φ F σ H env) {i : Nat} (hn : ∀ xs, env[i]? ≠ some (.ow true xs)) : Rel g φ F σ H (env.set i .un) := by
  refine ⟨r.ex, r.ex0, r.new, r.fr, by simp [r.len], fun j d' e => ?_, fun j b ys e => ?_, fun j k b c ys zs a e1 e2 e3 e4 => ?_, fun q hq => ?_⟩
  · rcases get_set e with ⟨rfl, e2, _⟩ | ⟨hne, e2⟩
    · cases e2
    · exact r.va j d' e2
  · rcases get_set e with ⟨rfl, e2, _⟩ | ⟨hne, e2⟩
    · cases e2
    · exact r.ow j b ys e2
  · rcases get_set e1 with ⟨rfl, z, _⟩ | ⟨n1, e1⟩
    · cases z
    · rcases get_set e2 with ⟨rfl, z, _⟩ | ⟨n2, e2⟩
      · cases z
      · exact r.dj j k b c ys zs a e1 e2 e3 e4
  · obtain ⟨h1, ys, h2⟩ := r.ioh q hq
    have hne : i ≠ q.1 := fun z => by
      rw [← z] at h2
      exact hn ys h2
    exact ⟨h1, ys, by rw [set_get_ne hne]; exact h2⟩
/-- a list of one's own becomes a settled value -/
theorem Rel.give (r : Rel g φ F σ H env) {i : Nat} {xs : List D} (hs : env[i]? = some (.ow false xs)) : ∃ (a : Addr) (vs : List V), σ[i]? = some (some (.ref a)) ∧ Same F (upd F a (.lst vs)) ∧ Rel g φ (upd F a (.lst vs)) σ H (env.set i .un) ∧ Rep g (upd F a (.lst vs)) (.ref a) (.lst xs) := by
  obtain ⟨a, vs, h1, h2, h3, h4, h5, h6⟩ := r.ow i false xs hs
  have r2 : Rel g φ F σ H (env.set i .un) := r.drop fun ys z => by
    rw [hs] at z
    cases z
  have ho : NotOwn σ (env.set i .un) a := fun j b ys a' e1 e2 z => by
    rcases get_set e1 with ⟨rfl, z2, _⟩ | ⟨n1, e1⟩
    · cases z2
    · subst z
      exact n1 (r.dj i j false b xs ys a' hs e1 h1 e2)
  obtain ⟨s3, r3⟩ := r2.settle h2 h3 (h5 rfl) ho
  exact ⟨a, vs, h1, s3, r3, .mkLst upd_same (h4.mono s3)⟩
end

/-! ## a new list -/
section
variable (g : Gc) (W : WX) (φ : Fc)
def PoL (F : Hp) (σ : L2.St) (Q : VK) (r : Re (List D)) : Prop :=
  match r with
  | .ok xs e' => ∀ p vs H' F', Same F F' → Rel g φ F' σ H' e' → H' p = some (.lst vs) → F' p = none → φ.H0 p = none → NotOwn σ e' p → Reps g F' vs xs → Q (.ref p) H'
  | .exc c v e' => XP g W φ F c v e'
  | .no => False
abbrev ML := Env → Re (List D)
def SL (X : Cx) (e : Expr) (m : ML) : Prop := ∀ F σ H env Q, Rel g φ F σ H env → PoL g W φ F σ Q (m env) → wE X e σ H Q
end
section
variable {g : Gc} {W : WX} {φ : Fc} {X : Cx} {k : Nat} {F F' H : Hp} {σ : L2.St}
theorem PoL.mono (e : Same F F') {Q : VK} {r : Re (List D)} (h : PoL g W φ F σ Q r) : PoL g W φ F' σ Q r := by
  cases r with
  | ok d e' => exact fun p vs H' F2 a => h p vs H' F2 (e.trans a)
  | exc c v e' => exact XP.mono e h
  | no => exact h
theorem al {r : Re (List Av)} {k : List Av → Env → Re (List D)} {Q : VK} {Q1 : List V → Hp → Prop} (hp : PoL g W φ F σ Q (r.bind k))
    (h : ∀ x e1 vs H1 F1, Same F F1 → Rel g φ F1 σ H1 e1 → AvsR g F1 σ vs x → PoL g W φ F1 σ Q (k x e1) → Q1 vs H1) : PoA g W φ F σ Q1 r := by
  cases r with
  | ok x e1 => exact fun v H1 F1 a b c => h x e1 v H1 F1 a b c (hp.mono a)
  | exc c v e' => exact hp
  | no => exact hp
/-- a new list as a value -/
def mL (m : ML) : ME := fun env => (m env).bind fun xs e => .ok (.lst xs) e
theorem SE.ofL {e : Expr} {m : ML} (h : SL g W φ X e m) : SE g W φ X e (mL m) := by
  intro F σ H env Q hr hp
  refine h F σ H env Q hr ?_
  unfold mL at hp
  cases e1 : m env with
  | ok xs e' =>
    rw [e1] at hp
    intro p vs H' F' s1 r1 h1 h2 h3 h4 h5
    obtain ⟨s2, r2⟩ := r1.settle h1 h2 h3 h4
    exact hp _ _ _ (s1.trans s2) r2 (.mkLst upd_same (h5.mono s2))
  | exc c v e' => rw [e1] at hp; exact hp
  | no => rw [e1] at hp; exact hp
theorem Rel.freshOwn {env : Env} (r : Rel g φ F σ H env) {p : Addr} (hp : H p = none) : NotOwn σ env p := fun i b xs a e1 e2 z => by
  obtain ⟨a', vs, h1, h2, _⟩ := r.ow i b xs e1
  rw [e2] at h1
  cases h1
  rw [z, hp] at h2
  cases h2
/-- the wish of a new list from a fresh address -/
theorem PoL.at_ {env : Env} {Q : VK} {xs : List D} (r : Rel g φ F σ H env) (hp : PoL g W φ F σ Q (.ok xs env)) {vs : List V} (hv : Reps g F vs xs) : ∀ p, H p = none → Q (.ref p) (upd H p (.lst vs)) := fun p hn =>
  hp p vs _ F (Same.refl _) (r.loose hn) upd_same (r.ex.free hn) (r.h0 hn) (r.freshOwn hn) hv
def lLst (m : MA) : ML := fun env => (m env).bind fun as e => match vals as with
  | some ds => if ds.length ≤ line then .ok ds e else .no
  | none => .no
theorem sl_lst {es : List Expr} {m : MA} {pos : Pos} (h : SA g W φ X es m) : SL g W φ X (.List es pos) (lLst m) := by
  intro F σ H env Q hr hp
  refine ⟨_, pe_lst w_pa, ?_⟩
  refine h F σ H env _ hr (al hp fun x e1 vs H1 F1 s1 r1 p1 hp1 => ?_)
  cases e : vals x with
  | none => simp only [e] at hp1; exact hp1.elim
  | some ds =>
    simp only [e] at hp1
    by_cases hz : ds.length ≤ line
    · rw [if_pos hz] at hp1
      have q := p1.vals e
      exact ⟨by rw [q.len, ← line_eq]; exact hz, PoL.at_ r1 hp1 q⟩
    · rw [if_neg hz] at hp1
      exact hp1.elim
/-- list(x) -/
def listF : List D → Option (List D)
  | [.lst xs] => some xs
  | [.tup xs] => some xs
  | [.rol xs] => some xs
  | _ => none
def lCall (f : List D → Option (List D)) (m : MA) : ML := fun env => (m env).bind fun as e => use f as e
theorem use_okL {Q : VK} {f : List D → Option (List D)} {x : List Av} {e : Env} (hp : PoL g W φ F σ Q (use f x e)) : ∃ d z, gets e x = some d ∧ f d = some z ∧ PoL g W φ F σ Q (.ok z e) := by
  unfold use at hp
  cases h1 : gets e x with
  | none => rw [h1] at hp; exact hp.elim
  | some d =>
    rw [h1] at hp
    cases h2 : f d with
    | none => simp only [h2] at hp; exact hp.elim
    | some z => simp only [h2] at hp; exact ⟨d, z, rfl, h2, hp⟩
theorem sl_list {e : Expr} {es : List Expr} {m : MA} {p pos : Pos} (hK : X.K = g.K) (hg : Gl X "list") (hm : X.mg "list" = none) (ha : SA g W φ X (e :: es) m)
    (he : starEach (e :: es) X.env = (false, eval e X.env) :: starEach es X.env := by rfl) (hpl : (backTo pos (starEach es X.env)).any (·.1) = false := by rfl) :
    SL g W φ X (.Call (.Name "list" p) (e :: es) [] pos) (lCall listF m) := by
  intro F σ H env Q hr hp
  refine ⟨_, pe_callTy call_list_of hg hm (by decide +kernel) w_pa (by decide) (by decide) he hpl, ?_⟩
  refine ha F σ H env _ hr (al hp fun as e1 vs H1 F1 s1 r1 p1 hp1 => ?_)
  obtain ⟨ds, z, g1, hf, hp2⟩ := use_okL hp1
  have q := p1.gets r1 g1
  cases q with
  | nil => simp [listF] at hf
  | @cons v d vs ds h t =>
    cases t with
    | cons h2 t2 => cases d <;> simp [listF] at hf
    | nil =>
      cases d <;> simp only [listF, reduceCtorEq, Option.some.injEq] at hf
      · subst hf
        obtain ⟨a, ws, rfl, h1, h2⟩ := h.tup r1.ex
        exact ⟨a, ws, rfl, .inr (hK ▸ h1), PoL.at_ r1 hp2 h2⟩
      · subst hf
        obtain ⟨a, ws, rfl, h1, h2⟩ := h.lst r1.ex
        exact ⟨a, ws, rfl, .inl (SqL.of h1), PoL.at_ r1 hp2 h2⟩
      · subst hf
        obtain ⟨a, ws, rfl, h1, h2⟩ := h.rol r1.ex
        exact ⟨a, ws, rfl, .inl (hK ▸ h1), PoL.at_ r1 hp2 h2⟩
end

/-! ## slices -/
def sliceF (lo hi : Option Int) : D → Option D
  | .tup xs => some (.tup ((xs.drop (HT.sIx xs.length 0 lo)).take (HT.sIx xs.length xs.length hi - HT.sIx xs.length 0 lo)))
  | _ => none
def sliceL (lo hi : Option Int) : D → Option (List D)
  | .lst xs => some ((xs.drop (HT.sIx xs.length 0 lo)).take (HT.sIx xs.length xs.length hi - HT.sIx xs.length 0 lo))
  | .rol xs => some ((xs.drop (HT.sIx xs.length 0 lo)).take (HT.sIx xs.length xs.length hi - HT.sIx xs.length 0 lo))
  | _ => none
/-- a part of a slice: left out, or an int -/
abbrev MO := Env → Re (Option Int)
def oNone : MO := fun env => .ok none env
def asI : D → Env → Re (Option Int) := fun d e => match d with
  | .int i => .ok (some i) e
  | _ => .no
def oSome (m : ME) : MO := fun env => (m env).bind asI
def wPO (X : Cx) (e : Option Expr) : TO := fun σ H Q => ∃ t, PO X e t ∧ t σ H Q
theorem w_po {X : Cx} {e : Option Expr} : PO X e (wPO X e) := ⟨fun pins s σ H Q I ⟨_, h, q⟩ => h.run pins s σ H Q I q⟩
section
variable (g : Gc) (W : WX) (φ : Fc)
def PoO (F : Hp) (σ : L2.St) (Q : Option Int → Hp → Prop) (r : Re (Option Int)) : Prop :=
  match r with
  | .ok d e' => ∀ H' F', Same F F' → Rel g φ F' σ H' e' → Q d H'
  | .exc c v e' => XP g W φ F c v e'
  | .no => False
def SO (X : Cx) (e : Option Expr) (m : MO) : Prop := ∀ F σ H env Q, Rel g φ F σ H env → PoO g W φ F σ Q (m env) → wPO X e σ H Q
end
section
variable {g : Gc} {W : WX} {φ : Fc} {X : Cx} {k : Nat} {F F' H : Hp} {σ : L2.St}
theorem so_none : SO g W φ X none oNone := fun F σ H env Q hr hp => ⟨_, po_none, hp _ _ (Same.refl _) hr⟩
theorem PoO.mono (e : Same F F') {Q : Option Int → Hp → Prop} {r : Re (Option Int)} (h : PoO g W φ F σ Q r) : PoO g W φ F' σ Q r := by
  cases r with
  | ok d e' => exact fun H' F2 a => h H' F2 (e.trans a)
  | exc c v e' => exact XP.mono e h
  | no => exact h
theorem so_some {e : Expr} {m : ME} (h : SE g W φ X e m) : SO g W φ X (some e) (oSome m) := by
  intro F σ H env Q hr hp
  refine ⟨_, po_some w_pe, ?_⟩
  refine h F σ H env _ hr ?_
  unfold oSome at hp
  cases e1 : m env with
  | ok x e' =>
    rw [e1] at hp
    intro v H1 F1 s1 r1 p1
    cases x with
    | int i =>
      cases p1
      exact ⟨i, rfl, hp _ _ s1 r1⟩
    | _ => exact hp.elim
  | exc c v e' => rw [e1] at hp; exact hp
  | no => rw [e1] at hp; exact hp
theorem oe {r : Re (Option Int)} {k : Option Int → Env → Re D} {Q : VK} {Q1 : Option Int → Hp → Prop} (hp : PoE g W φ F σ Q (r.bind k))
    (h : ∀ x e1 H1 F1, Same F F1 → Rel g φ F1 σ H1 e1 → PoE g W φ F1 σ Q (k x e1) → Q1 x H1) : PoO g W φ F σ Q1 r := by
  cases r with
  | ok x e1 => exact fun H1 F1 a b => h x e1 H1 F1 a b (hp.mono a)
  | exc c v e' => exact hp
  | no => exact hp
theorem ol {r : Re (Option Int)} {k : Option Int → Env → Re (List D)} {Q : VK} {Q1 : Option Int → Hp → Prop} (hp : PoL g W φ F σ Q (r.bind k))
    (h : ∀ x e1 H1 F1, Same F F1 → Rel g φ F1 σ H1 e1 → PoL g W φ F1 σ Q (k x e1) → Q1 x H1) : PoO g W φ F σ Q1 r := by
  cases r with
  | ok x e1 => exact fun H1 F1 a b => h x e1 H1 F1 a b (hp.mono a)
  | exc c v e' => exact hp
  | no => exact hp
theorem vl {r : Re Av} {k : Av → Env → Re (List D)} {Q : VK} {Q1 : VK} (hp : PoL g W φ F σ Q (r.bind k))
    (h : ∀ x e1 v H1 F1, Same F F1 → Rel g φ F1 σ H1 e1 → AvR g F1 σ v x → PoL g W φ F1 σ Q (k x e1) → Q1 v H1) : PoV g W φ F σ Q1 r := by
  cases r with
  | ok x e1 => exact fun v H1 F1 a b c => h x e1 v H1 F1 a b c (hp.mono a)
  | exc c v e' => exact hp
  | no => exact hp
def mSlice (ma : MV) (ml mh : MO) : ME := fun env => (ma env).bind fun x e1 => (ml e1).bind fun lo e2 => (mh e2).bind fun hi e3 => use1 (sliceF lo hi) x e3
theorem se_slice {a : Expr} {lo hi : Option Expr} {ma : MV} {ml mh : MO} {p2 pos : Pos} (hK : X.K = g.K) (ha : SV g W φ X a ma) (hl : SO g W φ X lo ml) (hh : SO g W φ X hi mh) : SE g W φ X (.Subscript a (.Slice lo hi none p2) pos) (mSlice ma ml mh) := by
  intro F σ H env Q hr hp
  refine ⟨_, pe_slice sl_tupA w_pe w_po w_po, ?_⟩
  refine ha F σ H env _ hr (ve hp fun x e1 v H1 F1 s1 r1 p1 hp1 => hl F1 σ H1 e1 _ r1 (oe hp1 fun l e2 H2 F2 s2 r2 hp2 => hh F2 σ H2 e2 _ r2 (oe hp2 fun h e3 H3 F3 s3 r3 hp3 => ?_)))
  obtain ⟨d, z, g1, hf, hp4⟩ := use1_ok hp3
  have q := ((p1.mono s2).mono s3).get r3 g1
  cases d <;> simp only [sliceF, reduceCtorEq, Option.some.injEq] at hf
  subst hf
  have q0 := q.tupR
  obtain ⟨b, vs, rfl, h1, h2⟩ := q.tup r3.ex
  refine ⟨b, vs, rfl, hK ▸ h1, fun hw => ?_, fun hw p hn => ?_⟩
  · rw [h2.len] at hw
    have e : ∀ {n : Nat} {ys : List D}, n = ys.length → List.take (n - 0) (List.drop 0 ys) = ys := fun {n ys} e => by
      rw [e, Nat.sub_zero, List.drop_zero, List.take_length]
    rw [hw.1, hw.2, e rfl] at hp4
    exact hp4 _ _ _ (Same.refl _) r3 q0
  · obtain ⟨s4, r4⟩ := r3.laid (o := .tup (cutV vs l h)) hn
    refine hp4 _ _ _ s4 r4 (.mkTup upd_same (Reps.mono s4 ?_))
    unfold cutV
    rw [h2.len]
    exact (h2.drop _).take _
def lSlice (ma : MV) (ml mh : MO) : ML := fun env => (ma env).bind fun x e1 => (ml e1).bind fun lo e2 => (mh e2).bind fun hi e3 => use1 (sliceL lo hi) x e3
theorem sl_slice {a : Expr} {lo hi : Option Expr} {ma : MV} {ml mh : MO} {p2 pos : Pos} (hK : X.K = g.K) (ha : SV g W φ X a ma) (hl : SO g W φ X lo ml) (hh : SO g W φ X hi mh) : SL g W φ X (.Subscript a (.Slice lo hi none p2) pos) (lSlice ma ml mh) := by
  intro F σ H env Q hr hp
  refine ⟨_, pe_slice L2.sl_list w_pe w_po w_po, ?_⟩
  refine ha F σ H env _ hr (vl hp fun x e1 v H1 F1 s1 r1 p1 hp1 => hl F1 σ H1 e1 _ r1 (ol hp1 fun l e2 H2 F2 s2 r2 hp2 => hh F2 σ H2 e2 _ r2 (ol hp2 fun h e3 H3 F3 s3 r3 hp3 => ?_)))
  unfold use1 at hp3
  cases g1 : x.get e3 with
  | none => rw [g1] at hp3; exact hp3.elim
  | some d =>
    rw [g1] at hp3
    have q := ((p1.mono s2).mono s3).get r3 g1
    cases d <;> simp only [sliceL] at hp3
    case lst xs =>
      obtain ⟨b, vs, rfl, h1, h2⟩ := q.lst r3.ex
      refine ⟨b, vs, rfl, SqL.of h1, PoL.at_ r3 hp3 ?_⟩
      unfold cutV
      rw [h2.len]
      exact (h2.drop _).take _
    case rol xs =>
      obtain ⟨b, vs, rfl, h1, h2⟩ := q.rol r3.ex
      refine ⟨b, vs, rfl, hK ▸ h1, PoL.at_ r3 hp3 ?_⟩
      unfold cutV
      rw [h2.len]
      exact (h2.drop _).take _
    all_goals exact hp3.elim
end
end Mp
set_option Elab.async false
set_option linter.all false
set_option maxRecDepth 100000
namespace Mp
open PySem PySem.Spec PyProof.Rows L2

/-! ## targets -/
abbrev MG := D → Env → Option Env
abbrev MGs := List D → Env → Option Env
def wG (X : Cx) (tg : Expr) : TG := fun v σ H Q => ∃ t, PG X tg t ∧ t v σ H Q
def wGs (X : Cx) (tg : List Expr) : TGs := fun v σ H Q => ∃ t, PGs X tg t ∧ t v σ H Q
theorem w_pg {X : Cx} {e : Expr} : PG X e (wG X e) := ⟨fun pins s σ H v u Q I r ⟨_, h, q⟩ => h.run pins s σ H v u Q I r q⟩
theorem w_pgs {X : Cx} {e : List Expr} : PGs X e (wGs X e) := ⟨fun pins s σ H v u Q I r ⟨_, h, q⟩ => h.run pins s σ H v u Q I r q⟩
/-- off the slots ws all is as it was -/
def Off (ws : List Nat) (σ σ' : L2.St) : Prop := σ'.length = σ.length ∧ ∀ i, i ∉ ws → σ'[i]? = σ[i]?
theorem Off.refl {ws : List Nat} {σ : L2.St} : Off ws σ σ := ⟨rfl, fun _ _ => rfl⟩
theorem Off.trans {ws us : List Nat} {σ σ' σ2 : L2.St} (a : Off ws σ σ') (b : Off us σ' σ2) : Off (ws ++ us) σ σ2 := ⟨b.1.trans a.1, fun i h => by
  simp only [List.mem_append, not_or] at h
  rw [b.2 i h.2, a.2 i h.1]⟩
def SG (g : Gc) (φ : Fc) (X : Cx) (ws : List Nat) (tg : Expr) (m : MG) : Prop :=
  ∀ F σ H env v d env' (Q : L2.St → Hp → Prop), Rel g φ F σ H env → Rep g F v d → m d env = some env' → (∀ σ', Off ws σ σ' → Rel g φ F σ' H env' → Q σ' H) → wG X tg v σ H Q
def SGs (g : Gc) (φ : Fc) (X : Cx) (ws : List Nat) (tg : List Expr) (m : MGs) : Prop :=
  ∀ F σ H env vs ds env' (Q : L2.St → Hp → Prop), Rel g φ F σ H env → Reps g F vs ds → m ds env = some env' → (∀ σ', Off ws σ σ' → Rel g φ F σ' H env' → Q σ' H) → wGs X tg vs σ H Q
def putG (i : Nat) : MG := fun d env => match env[i]? with
  | some (.ow _ _) => none
  | some _ => some (env.set i (.va d))
  | none => none
def nilG : MGs := fun ds env => match ds with
  | [] => some env
  | _ => none
def consG (m : MG) (n : MGs) : MGs := fun ds env => match ds with
  | d :: ds => match m d env with
    | some e => n ds e
    | none => none
  | [] => none
def tupG (n : Nat) (m : MGs) : MG := fun d env => match d with
  | .tup ds => if ds.length = n then m ds env else none
  | _ => none
section
variable {g : Gc} {W : WX} {φ : Fc} {X : Cx} {k : Nat} {F F' H : Hp} {σ : L2.St}
theorem putG_ok {i : Nat} {d : D} {env env' : Env} (e : putG i d env = some env') : ∃ s, env[i]? = some s ∧ isOw (some s) = false ∧ env' = env.set i (.va d) := by
  unfold putG at e
  cases h : env[i]? with
  | none => rw [h] at e; cases e
  | some s =>
    rw [h] at e
    cases s with
    | ow b xs => cases e
    | un => cases e; exact ⟨_, rfl, rfl, rfl⟩
    | va d' => cases e; exact ⟨_, rfl, rfl, rfl⟩
theorem sg_name {i : Nat} {x : Str} {pos : Pos} (hN : X.N.Nodup) (hi : X.N[i]? = some x := by rfl) (hx : Loc X.env.scope x := by first | exact Or.inl rfl | exact Or.inr rfl)
    (hf : X.fn x = true ∨ X.env.scope.names.lookup x = some .local := by first | exact .inl rfl | exact .inr rfl) : SG g φ X [i] (.Name x pos) (putG i) := by
  intro F σ H env v d env' Q hr hv hm hq
  obtain ⟨s, h1, h2, rfl⟩ := putG_ok hm
  exact ⟨_, pg_name hN hi hx hf, hq _ ⟨by simp, fun j hj => set_get_ne (fun z => hj (by simp [z]))⟩ (hr.setVa h1 h2 hv)⟩
theorem sgs_nil : SGs g φ X [] [] nilG := by
  intro F σ H env vs ds env' Q hr hv hm hq
  cases ds with
  | nil =>
    have : vs = [] := List.length_eq_zero_iff.mp hv.len
    subst this
    cases hm
    exact ⟨_, pgs_nil, rfl, hq _ .refl hr⟩
  | cons d ds => cases hm
theorem sgs_cons {ws us : List Nat} {e : Expr} {es : List Expr} {m : MG} {n : MGs} (h : SG g φ X ws e m) (t : SGs g φ X us es n) (hs : (assignEach (e :: es) X.env).map (·.2) = assign e X.env :: (assignEach es X.env).map (·.2) := by rfl) : SGs g φ X (ws ++ us) (e :: es) (consG m n) := by
  intro F σ H env vs ds env' Q hr hv hm hq
  cases ds with
  | nil => cases hm
  | cons d ds =>
    cases vs with
    | nil => have := hv.len; simp at this
    | cons v vs =>
      cases h1 : m d env with
      | none => simp only [consG, h1, reduceCtorEq] at hm
      | some e1 =>
        simp only [consG, h1] at hm
        exact ⟨_, pgs_cons w_pg w_pgs hs, v, vs, rfl, h F σ H env v d e1 _ hr hv.head h1 fun σ1 o1 r1 => t F σ1 H e1 vs ds env' Q r1 hv.tail hm fun σ2 o2 r2 => hq σ2 (o1.trans o2) r2⟩
theorem sg_tup {ws : List Nat} {es : List Expr} {kk : Nat} {m : MGs} {n : Nat} {pos : Pos} (hK : X.K = g.K) (hc : X.calm = true) (h : SGs g φ X ws es m) (hn : (assignEach es X.env).length = n := by rfl) (hst : (assignEach es X.env).findIdx? (·.1) = none := by rfl) : SG g φ X ws (.Tuple es kk pos) (tupG n m) := by
  intro F σ H env v d env' Q hr hv hm hq
  cases d <;> simp only [tupG, reduceCtorEq] at hm
  rename_i ds
  split at hm
  · rename_i hl
    cases hv with
    | tup a vs ds h1 h2 h3 =>
      exact ⟨_, pg_tup hc w_pgs hn hst, a, vs, rfl, hK ▸ same_t hr.ex h1, by rw [h2]; exact hl, h F σ H env vs ds env' Q hr ⟨h2, h3⟩ hm hq⟩
  · cases hm

/-! ## small statements, blocks -/
theorem ss_pass {pos : Pos} : SS g W φ X (.Pass pos) (fun e => .nx e) := fun F σ H env En hr hp => ⟨_, ps_pass, hp _ _ _ (Same.refl _) hr⟩
theorem ss_break {pos : Pos} : SS g W φ X (.Break pos) (fun e => .br e) := fun F σ H env En hr hp => ⟨_, ps_break, hp _ _ _ (Same.refl _) hr⟩
theorem ss_continue {pos : Pos} : SS g W φ X (.Continue pos) (fun e => .ct e) := fun F σ H env En hr hp => ⟨_, ps_continue, hp _ _ _ (Same.refl _) hr⟩
theorem ss_doc {x : Str} {j : Nat} {pos pos' : Pos} : SS g W φ X (.Expr (.Constant (.str x) j pos) pos') (fun e => .nx e) := fun F σ H env En hr hp => ⟨_, ps_doc, hp _ _ _ (Same.refl _) hr⟩
theorem ss_expr {e : Expr} {m : ME} {pos : Pos} (h : SE g W φ X e m) (hs : swapsWith e none pos.line X.env = pure false := by rfl) : SS g W φ X (.Expr e pos) (fun env => (m env).flow fun _ e1 => .nx e1) := by
  intro F σ H env En hr hp
  exact ⟨_, ps_expr w_pe hs, h F σ H env _ hr (es hp fun x e1 v H1 F1 s1 r1 p1 hp1 => hp1 _ _ _ (Same.refl _) r1)⟩
theorem ss_ret {e : Expr} {m : ME} {pos : Pos} (h : SE g W φ X e m) : SS g W φ X (.Return (some e) pos) (fun env => (m env).flow fun d e1 => .rt d e1) := by
  intro F σ H env En hr hp
  exact ⟨_, ps_ret w_pe, h F σ H env _ hr (es hp fun x e1 v H1 F1 s1 r1 p1 hp1 => hp1 v σ H1 F1 (Same.refl _) r1 p1)⟩
/-- return x, x a list of one's own -/
def retOwn (i : Nat) : MS := fun env => match env[i]? with
  | some (.ow false xs) => .rt (.lst xs) (env.set i .un)
  | some (.va d) => .rt d env
  | _ => .no
theorem ss_retOwn (i : Nat) {x : Str} {p pos : Pos} (hN : X.N[i]? = some x := by rfl) (hv : Vis X.env.scope x := by first | exact Or.inl rfl | exact Or.inr (Or.inl rfl) | exact Or.inr (Or.inr rfl))
    (hd : (x == ("__debug__" : Str)) = false := by decide) (hcd : (x == ("__classdict__" : Str)) = false := by decide) : SS g W φ X (.Return (some (.Name x p)) pos) (retOwn i) := by
  intro F σ H env En hr hp
  unfold retOwn at hp
  cases e : env[i]? with
  | none => rw [e] at hp; exact hp.elim
  | some s =>
    cases s with
    | un => rw [e] at hp; exact hp.elim
    | va d =>
      rw [e] at hp
      obtain ⟨v, h1, h2⟩ := hr.va i d e
      exact ⟨_, ps_ret (pe_var hN hv hd hcd), v, h1, hp v σ H F (Same.refl _) hr h2⟩
    | ow b xs =>
      cases b with
      | true => rw [e] at hp; exact hp.elim
      | false =>
        rw [e] at hp
        obtain ⟨a, vs, h1, h2, h3, h4⟩ := hr.give e
        exact ⟨_, ps_ret (pe_var hN hv hd hcd), .ref a, h1, hp (.ref a) σ H _ h2 h3 h4⟩
theorem ss_retN {pos : Pos} : SS g W φ X (.Return none pos) (fun e => .rt .non e) := fun F σ H env En hr hp => ⟨_, ps_retN, hp .non σ H F (Same.refl _) hr .non⟩
def mIfS (c : MT) (a b : MS) : MS := fun env => (c env).flow fun t e => if t = true then a e else b e
theorem ss_if {c : Expr} {a b : List Stmt} {mc : MT} {ma mb : MS} {pos : Pos} (hc : ST g W φ X c mc) (ha : SB g W φ X a ma) (hb : SB g W φ X b mb) : SS g W φ X (.If c a b pos) (mIfS mc ma mb) := by
  intro F σ H env En hr hp
  refine ⟨_, ps_if w_pt w_pb w_pb, hc F σ H env _ hr (ts hp fun x e1 H1 F1 s1 r1 hp1 => ?_)⟩
  cases x with
  | true => exact iteT (ha F1 σ H1 e1 En r1 hp1)
  | false => exact iteF (hb F1 σ H1 e1 En r1 hp1)
theorem sb_nil : SB g W φ X [] (fun e => .nx e) := fun F σ H env En hr hp => ⟨_, pss_nil, hp _ _ _ (Same.refl _) hr⟩
def mSeq (a b : MS) : MS := fun env => (a env).seq b
theorem sb_cons {s : Stmt} {r : List Stmt} {m n : MS} (h : SS g W φ X s m) (t : SB g W φ X r n) : SB g W φ X (s :: r) (mSeq m n) := by
  intro F σ H env En hr hp
  refine ⟨_, pss_cons w_ps w_pb, h F σ H env _ hr ?_⟩
  unfold mSeq at hp
  cases e : m env with
  | nx e1 =>
    rw [e] at hp
    exact fun σ' H' F' s1 r1 => t F' σ' H' e1 En r1 (PoS.mono s1 hp)
  | rt d e1 => rw [e] at hp; exact hp
  | br e1 => rw [e] at hp; exact hp
  | ct e1 => rw [e] at hp; exact hp
  | exc c v e1 => rw [e] at hp; exact hp
  | no => rw [e] at hp; exact hp
theorem sb_one {s : Stmt} {m : MS} (h : SS g W φ X s m) : SB g W φ X [s] m := fun F σ H env En hr hp => ⟨_, pss_one w_ps, h F σ H env En hr hp⟩
/-- x = e -/
def mSet (i : Nat) (m : ME) : MS := fun env => (m env).flow fun d e => match putG i d e with
  | some e1 => .nx e1
  | none => .no
theorem ss_set {i : Nat} {x : Str} {e : Expr} {m : ME} {pos pos' : Pos} (hN : X.N.Nodup) (h : SE g W φ X e m) (hi : X.N[i]? = some x := by rfl) (hx : Loc X.env.scope x := by first | exact Or.inl rfl | exact Or.inr rfl)
    (hs : swapsWith e (some (.Name x pos')) pos.line X.env = pure false := by rfl) (hf : X.fn x = true ∨ X.env.scope.names.lookup x = some .local := by first | exact .inl rfl | exact .inr rfl) :
    SS g W φ X (.Assign [.Name x pos'] e pos) (mSet i m) := by
  intro F σ H env En hr hp
  refine ⟨_, ps_set hN hi hx w_pe hs hf, h F σ H env _ hr (es hp fun d e1 v H1 F1 s1 r1 p1 hp1 => ?_)⟩
  cases e2 : putG i d e1 with
  | none => simp only [e2] at hp1; exact hp1.elim
  | some e3 =>
    simp only [e2] at hp1
    obtain ⟨s, h1, h2, rfl⟩ := putG_ok e2
    exact hp1 _ _ _ (Same.refl _) (r1.setVa h1 h2 p1)
/-- x = a new list, which is x's own from here on -/
def ownG (i : Nat) (xs : List D) (env : Env) : Fl := match env[i]? with
  | some (.ow true _) => .no
  | some _ => .nx (env.set i (.ow false xs))
  | none => .no
def mSetO (i : Nat) (m : ML) : MS := fun env => (m env).flow fun xs e => ownG i xs e
theorem ss_setO {i : Nat} {x : Str} {e : Expr} {m : ML} {pos pos' : Pos} (hN : X.N.Nodup) (h : SL g W φ X e m) (hi : X.N[i]? = some x := by rfl) (hx : Loc X.env.scope x := by first | exact Or.inl rfl | exact Or.inr rfl)
    (hs : swapsWith e (some (.Name x pos')) pos.line X.env = pure false := by rfl) (hf : X.fn x = true ∨ X.env.scope.names.lookup x = some .local := by first | exact .inl rfl | exact .inr rfl) :
    SS g W φ X (.Assign [.Name x pos'] e pos) (mSetO i m) := by
  intro F σ H env En hr hp
  refine ⟨_, ps_set hN hi hx w_pe hs hf, h F σ H env _ hr ?_⟩
  unfold mSetO at hp
  cases e1 : m env with
  | exc c v e' => rw [e1] at hp; exact hp
  | no => rw [e1] at hp; exact hp
  | ok xs e' =>
    rw [e1] at hp
    intro p vs H' F' s1 r1 h1 h2 h3 h4 h5
    have hp2 : PoS g W φ F En (ownG i xs e') := hp
    unfold ownG at hp2
    cases e2 : e'[i]? with
    | none => rw [e2] at hp2; exact hp2.elim
    | some s =>
      rw [e2] at hp2
      cases s with
      | un => exact hp2 _ _ _ s1 (r1.setOw e2 (fun ys z => by cases z) h1 h2 h3 h4 h5)
      | va d => exact hp2 _ _ _ s1 (r1.setOw e2 (fun ys z => by cases z) h1 h2 h3 h4 h5)
      | ow b ys =>
        cases b with
        | true => exact hp2.elim
        | false => exact hp2 _ _ _ s1 (r1.setOw e2 (fun ys z => by cases z) h1 h2 h3 h4 h5)
/-- y = x, x a list of one's own: it is settled, y holds it as a value -/
def mFreeze (i j : Nat) : MS := fun env => match env[j]? with
  | some (.ow false xs) => match putG i (.lst xs) (env.set j .un) with
    | some e1 => .nx e1
    | none => .no
  | _ => .no
theorem ss_freeze {i j : Nat} {x y : Str} {p pos pos' : Pos} (hN : X.N.Nodup) (hi : X.N[i]? = some y := by rfl) (hj : X.N[j]? = some x := by rfl) (hx : Loc X.env.scope y := by first | exact Or.inl rfl | exact Or.inr rfl)
    (hv : Vis X.env.scope x := by first | exact Or.inl rfl | exact Or.inr (Or.inl rfl) | exact Or.inr (Or.inr rfl)) (hd : (x == ("__debug__" : Str)) = false := by decide) (hcd : (x == ("__classdict__" : Str)) = false := by decide)
    (hs : swapsWith (.Name x p) (some (.Name y pos')) pos.line X.env = pure false := by rfl) (hf : X.fn y = true ∨ X.env.scope.names.lookup y = some .local := by first | exact .inl rfl | exact .inr rfl) :
    SS g W φ X (.Assign [.Name y pos'] (.Name x p) pos) (mFreeze i j) := by
  intro F σ H env En hr hp
  unfold mFreeze at hp
  cases e : env[j]? with
  | none => rw [e] at hp; exact hp.elim
  | some s =>
    rw [e] at hp
    cases s with
    | un => exact hp.elim
    | va d => exact hp.elim
    | ow b xs =>
      cases b with
      | true => exact hp.elim
      | false =>
        simp only at hp
        cases e2 : putG i (.lst xs) (env.set j .un) with
        | none => rw [e2] at hp; exact hp.elim
        | some e3 =>
          rw [e2] at hp
          obtain ⟨a, vs, h1, h2, h3, h4⟩ := hr.give e
          obtain ⟨s, q1, q2, rfl⟩ := putG_ok e2
          exact ⟨_, ps_set hN hi hx (pe_var hj hv hd hcd) hs hf, .ref a, h1, hp _ _ _ h2 (h3.setVa q1 q2 h4)⟩
/-- a, b = e -/
def mAsg (mg : MG) (m : ME) : MS := fun env => (m env).flow fun d e => match mg d e with
  | some e1 => .nx e1
  | none => .no
theorem ss_asg {ws : List Nat} {tg e : Expr} {m : ME} {mg : MG} {pos : Pos} (h : SE g W φ X e m) (hg : SG g φ X ws tg mg) (hs : swapsWithSole [tg] e pos.line X.env = pure false := by rfl) (hw : swappedStores [tg] e X.env = pure none := by rfl)
    (h1 : (assignEach [tg] X.env).map (·.2) = [assign tg X.env] := by rfl) : SS g W φ X (.Assign [tg] e pos) (mAsg mg m) := by
  intro F σ H env En hr hp
  refine ⟨_, ps_asg w_pe w_pg hs hw h1, h F σ H env _ hr (es hp fun d e1 v H1 F1 s1 r1 p1 hp1 => ?_)⟩
  cases e2 : mg d e1 with
  | none => simp only [e2] at hp1; exact hp1.elim
  | some e3 =>
    simp only [e2] at hp1
    exact hg F1 σ H1 e1 v d e3 _ r1 p1 e2 fun σ' _ r2 => hp1 _ _ _ (Same.refl _) r2
/-- x.append(e), x a list of one's own -/
def mAppend (i : Nat) (m : ME) : MS := fun env => match env[i]? with
  | some (.ow _ _) => (m env).flow fun d e => match e[i]? with
    | some (.ow b xs) => if xs.length < line then .nx (e.set i (.ow b (xs ++ [d]))) else .no
    | _ => .no
  | _ => .no
theorem ss_append (i : Nat) {x : Str} {e : Expr} {m : ME} {p apos cpos pos : Pos} (h : SE g W φ X e m) (hN : X.N[i]? = some x := by rfl) (hv : Vis X.env.scope x := by first | exact Or.inl rfl | exact Or.inr (Or.inl rfl) | exact Or.inr (Or.inr rfl))
    (hd : (x == ("__debug__" : Str)) = false := by decide) (hcd : (x == ("__classdict__" : Str)) = false := by decide) (hs1 : starEach (e :: []) X.env = (false, eval e X.env) :: starEach [] X.env := by rfl)
    (hbase : attributeBase (.Name x p) "append" X.env (eval (.Name x p) X.env) = eval (.Name x p) X.env := by rfl)
    (hfew : ((backTo cpos (starEach (e :: []) X.env)).all (fun x => !x.1) && (backToKw cpos (keywordEach [] X.env)).all (fun x => x.1.isSome)
      && decide ((e :: []).length + ([] : List Keyword).length + (if ([] : List Keyword).isEmpty then 0 else 1) < 30)) = true := by rfl)
    (hline : (apos.endLine == cpos.line) = true := by rfl) (hplain : (backTo cpos (starEach [] X.env)).any (·.1) = false := by rfl)
    (hs : swapsWith (.Call (.Attribute (.Name x p) "append" apos) [e] [] cpos) none pos.line X.env = pure false := by rfl) :
    SS g W φ X (.Expr (.Call (.Attribute (.Name x p) "append" apos) [e] [] cpos) pos) (mAppend i m) := by
  intro F σ H env En hr hp
  refine ⟨_, ps_expr (pe_bm PySem.F.plainAttrs_list PySem.F.slot_list_append PySem.F.type_list_append mt_append (pe_var hN hv hd hcd) (pa_cons w_pe pa_nil hs1) hbase hfew hline hs1 hplain) hs, ?_⟩
  unfold mAppend at hp
  cases e0 : env[i]? with
  | none => rw [e0] at hp; exact hp.elim
  | some s =>
    rw [e0] at hp
    cases s with
    | un => exact hp.elim
    | va d => exact hp.elim
    | ow b0 xs0 =>
      simp only at hp
      obtain ⟨a, vs0, g1, g2, _⟩ := hr.ow i b0 xs0 e0
      refine ⟨.ref a, g1, .inl ⟨rfl, vs0, SqL.of g2⟩, ?_⟩
      refine h F σ H env _ hr (es hp fun d e1 v H1 F1 s1 r1 p1 hp1 => ?_)
      cases e1' : e1[i]? with
      | none => simp only [e1'] at hp1; exact hp1.elim
      | some s =>
        cases s with
        | un => simp only [e1'] at hp1; exact hp1.elim
        | va d => simp only [e1'] at hp1; exact hp1.elim
        | ow b xs =>
          simp only [e1'] at hp1
          by_cases hz : xs.length < line
          · rw [if_pos hz] at hp1
            obtain ⟨a', vs, k1, k2, k3, k4, _⟩ := r1.ow i b xs e1'
            rw [g1] at k1
            cases k1
            refine ⟨a, vs, v, rfl, rfl, k2, by rw [k4.len, ← line_eq]; exact hz, ?_⟩
            exact hp1 _ _ _ (Same.refl _) (r1.updOw e1' g1 (k4.append (.cons p1 .nil)))
          · rw [if_neg hz] at hp1
            exact hp1.elim
/-- x[k] = e, x a list of one's own -/
def mStore (i : Nat) (mk m : ME) : MS := fun env => (m env).flow fun d e => match e[i]? with
  | some (.ow _ _) => (mk e).flow fun q e2 => match q, e2[i]? with
    | .int z, some (.ow b xs) => match ixN xs.length z with
      | some j => .nx (e2.set i (.ow b (xs.set j d)))
      | none => .no
    | _, _ => .no
  | _ => .no
theorem ss_store (i : Nat) {x : Str} {ke e : Expr} {m mk : ME} {p spos pos : Pos} (h : SE g W φ X e m) (hk : SE g W φ X ke mk) (hN : X.N[i]? = some x := by rfl) (hv : Vis X.env.scope x := by first | exact Or.inl rfl | exact Or.inr (Or.inl rfl) | exact Or.inr (Or.inr rfl))
    (hd : (x == ("__debug__" : Str)) = false := by decide) (hcd : (x == ("__classdict__" : Str)) = false := by decide)
    (hsw : swapsWithSole [.Subscript (.Name x p) ke spos] e pos.line X.env = pure false := by rfl) (hw : swappedStores [.Subscript (.Name x p) ke spos] e X.env = pure none := by rfl) (h1 : (assignEach [.Subscript (.Name x p) ke spos] X.env).map (·.2) = [assign (.Subscript (.Name x p) ke spos) X.env] := by rfl)
    (ha : ∀ v, assign (.Subscript (.Name x p) ke spos) X.env v = (do
      let ov ← holding [v] (eval (.Name x p) X.env)
      let iv ← holding [v, ov] (eval ke X.env)
      standAt spos
      holding [v, ov, iv] (setItem ov iv v)
      release [v, ov, iv] []) := by intro _; rfl) :
    SS g W φ X (.Assign [.Subscript (.Name x p) ke spos] e pos) (mStore i mk m) := by
  intro F σ H env En hr hp
  refine ⟨_, ps_asg w_pe (pg_sub (pe_var hN hv hd hcd) w_pe set_list ha) hsw hw h1, ?_⟩
  refine h F σ H env _ hr (es hp fun d e1 v H1 F1 s1 r1 p1 hp1 => ?_)
  cases e0 : e1[i]? with
  | none => simp only [e0] at hp1; exact hp1.elim
  | some s =>
    cases s with
    | un => simp only [e0] at hp1; exact hp1.elim
    | va d => simp only [e0] at hp1; exact hp1.elim
    | ow b0 xs0 =>
      simp only [e0] at hp1
      obtain ⟨a, vs0, g1, g2, _⟩ := r1.ow i b0 xs0 e0
      refine ⟨.ref a, g1, ?_⟩
      refine hk F1 σ H1 e1 _ r1 (es hp1 fun q e2 w H2 F2 s2 r2 p2 hp2 => ?_)
      cases q with
      | int z =>
        cases e2' : e2[i]? with
        | none => simp only [e2'] at hp2; exact hp2.elim
        | some s =>
          cases s with
          | un => simp only [e2'] at hp2; exact hp2.elim
          | va d => simp only [e2'] at hp2; exact hp2.elim
          | ow b xs =>
            simp only [e2'] at hp2
            obtain ⟨a', vs, k1, k2, k3, k4, _⟩ := r2.ow i b xs e2'
            rw [g1] at k1
            cases k1
            cases p2
            cases hj : ixN xs.length z with
            | none => simp only [hj] at hp2; exact hp2.elim
            | some j =>
              simp only [hj] at hp2
              refine ⟨a, vs, z, j, rfl, rfl, k2, by rw [k4.len]; exact hj, ?_⟩
              exact hp2 _ _ _ (Same.refl _) (r2.updOw e2' g1 (k4.set j (p1.mono s2)))
      | _ => exact hp2.elim
end

/-! ## loops -/
/-- the iterator J goes over ds -/
def Walks (g : Gc) (J : It) (F : Hp) (ds : List D) : Prop := ∀ (φ : Fc) F1 σ H env i, Same F F1 → Rel g φ F1 σ H env →
  (∀ d, ds[i]? = some d → J.go i H ∧ ∀ x H', J.yld i H x H' → ∃ F2, Same F1 F2 ∧ Same H H' ∧ (∀ b o, F2 b = some o → F1 b = some o ∨ H b = none) ∧ Rel g φ F2 σ H' env ∧ Rep g F2 x d) ∧ (ds.length ≤ i → J.stop i H)
def wIt (X : Cx) (tg iter : Expr) : TI := fun σ H R => ∃ wi, PI X tg iter wi ∧ wi σ H R
theorem w_pi {X : Cx} {tg iter : Expr} : PI X tg iter (wIt X tg iter) := ⟨fun pins s σ H R I ⟨_, h, q⟩ => h.run pins s σ H R I q⟩
section
variable (g : Gc) (W : WX) (φ : Fc)
def PoI (F : Hp) (σ : L2.St) (R : It → Hp → Prop) (r : Re (List D)) : Prop :=
  match r with
  | .ok ds e' => ∀ J H' F', Same F F' → Rel g φ F' σ H' e' → Walks g J F' ds → R J H'
  | .exc c v e' => XP g W φ F c v e'
  | .no => False
def SI (X : Cx) (tg iter : Expr) (m : ML) : Prop := ∀ F σ H env R, Rel g φ F σ H env → PoI g W φ F σ R (m env) → wIt X tg iter σ H R
end
def seqF : D → Option (List D)
  | .lst xs => some xs
  | .tup xs => some xs
  | .rol xs => some xs
  | _ => none
def lSeq (m : ME) : ML := fun env => (m env).bind fun d e => match seqF d with
  | some xs => .ok xs e
  | none => .no
def lRange1 (m : ME) : ML := fun env => (m env).bind fun d e => match d with
  | .int j => if -(2 ^ 62) ≤ j ∧ j < 2 ^ 62 then .ok ((List.range j.toNat).map fun (i : Nat) => D.int (0 + (i : Int))) e else .no
  | _ => .no
section
variable {g : Gc} {W : WX} {φ : Fc} {X : Cx} {k : Nat} {F F' H : Hp} {σ : L2.St}
theorem PoI.mono (e : Same F F') {Q : It → Hp → Prop} {r : Re (List D)} (h : PoI g W φ F σ Q r) : PoI g W φ F' σ Q r := by
  cases r with
  | ok d e' => exact fun J H' F2 a => h J H' F2 (e.trans a)
  | exc c v e' => exact XP.mono e h
  | no => exact h
theorem ei {r : Re D} {k : D → Env → Re (List D)} {Q : It → Hp → Prop} {Q1 : VK} (hp : PoI g W φ F σ Q (r.bind k))
    (h : ∀ x e1 v H1 F1, Same F F1 → Rel g φ F1 σ H1 e1 → Rep g F1 v x → PoI g W φ F1 σ Q (k x e1) → Q1 v H1) : PoE g W φ F σ Q1 r := by
  cases r with
  | ok x e1 => exact fun v H1 F1 a b c => h x e1 v H1 F1 a b c (hp.mono a)
  | exc c v e' => exact hp
  | no => exact hp
theorem walks_list {a : Addr} {vs : List V} {ds : List D} (h : SqL g.K F a vs) (r : Reps g F vs ds) : Walks g (Itl g.K a) F ds := by
  intro φ F1 σ H env i s1 r1
  have h1 : SqL g.K H a vs := (s1.trans r1.ex).seq h
  refine ⟨fun d e => ?_, fun e => ⟨vs, h1, by rw [r.len]; exact e⟩⟩
  obtain ⟨v, q1, q2⟩ := r.get e
  refine ⟨⟨vs, v, h1, q1⟩, fun x H' y => ?_⟩
  obtain ⟨y1, y2⟩ := y
  subst y1
  have := (y2 vs h1).symm.trans q1
  cases this
  exact ⟨F1, Same.refl _, Same.refl _, fun b o z => .inl z, r1, q2.mono s1⟩
theorem walks_tup {a : Addr} {vs : List V} {ds : List D} (h : SqT g.K F a vs) (r : Reps g F vs ds) : Walks g (Itt g.K a) F ds := by
  intro φ F1 σ H env i s1 r1
  have h1 : SqT g.K H a vs := same_t (s1.trans r1.ex) h
  refine ⟨fun d e => ?_, fun e => ⟨vs, h1, by rw [r.len]; exact e⟩⟩
  obtain ⟨v, q1, q2⟩ := r.get e
  refine ⟨⟨vs, v, h1, q1⟩, fun x H' y => ?_⟩
  obtain ⟨y1, y2⟩ := y
  subst y1
  have := (y2 vs h1).symm.trans q1
  cases this
  exact ⟨F1, Same.refl _, Same.refl _, fun b o z => .inl z, r1, q2.mono s1⟩
theorem walks_range {lo : Int} {n : Nat} : Walks g (Itr lo n) F ((List.range n).map fun (i : Nat) => D.int (lo + (i : Int))) := by
  intro φ F1 σ H env i s1 r1
  refine ⟨fun d e => ?_, fun e => (show n ≤ i by simpa using e)⟩
  rw [List.getElem?_map] at e
  obtain ⟨j, e1, e2⟩ := Option.map_eq_some_iff.mp e
  have hi : i < n := by
    have := lt_of_get e1
    simpa using this
  rw [List.getElem?_range hi] at e1
  cases e1
  subst e2
  refine ⟨hi, fun x H' y => ?_⟩
  obtain ⟨y1, y2⟩ := y
  subst y1 y2
  exact ⟨F1, Same.refl _, Same.refl _, fun b o z => .inl z, r1, .int _⟩
theorem si_seq {tg iter : Expr} {m : ME} (hK : X.K = g.K) (h : SE g W φ X iter m) : SI g W φ X tg iter (lSeq m) := by
  intro F σ H env R hr hp
  -- which kind of sequence it is, is known by the data alone
  unfold lSeq at hp
  cases e : m env with
  | exc c v e' =>
    rw [e] at hp
    exact ⟨_, pi_list w_pe, h F σ H env _ hr (by rw [e]; exact hp)⟩
  | no => rw [e] at hp; exact hp.elim
  | ok d e' =>
    rw [e] at hp
    cases d with
    | lst xs =>
      refine ⟨_, pi_list w_pe, h F σ H env _ hr ?_⟩
      rw [e]
      intro v H' F' s1 r1 p1
      cases p1 with
      | lst a vs ds h1 h2 h3 => exact ⟨a, rfl, ⟨vs, SqL.of (r1.ex _ _ h1)⟩, hp _ _ _ s1 r1 (hK ▸ walks_list (.inl (.inl h1)) ⟨h2, h3⟩)⟩
    | rol xs =>
      refine ⟨_, pi_list w_pe, h F σ H env _ hr ?_⟩
      rw [e]
      intro v H' F' s1 r1 p1
      cases p1 with
      | rol a vs ds h1 h2 h3 => exact ⟨a, rfl, ⟨vs, hK ▸ r1.ex.seq h1⟩, hp _ _ _ s1 r1 (hK ▸ walks_list h1 ⟨h2, h3⟩)⟩
    | tup xs =>
      refine ⟨_, pi_tup w_pe, h F σ H env _ hr ?_⟩
      rw [e]
      intro v H' F' s1 r1 p1
      cases p1 with
      | tup a vs ds h1 h2 h3 => exact ⟨a, rfl, ⟨vs, hK ▸ same_t r1.ex h1⟩, hp _ _ _ s1 r1 (hK ▸ walks_tup h1 ⟨h2, h3⟩)⟩
    | _ => exact hp.elim
theorem si_range1 {tg a : Expr} {m : ME} {p pos : Pos} (h : SE g W φ X a m) (hg : Gl X "range") (hm : X.mg "range" = none) (hs : starEach [a] X.env = [(false, eval a X.env)] := by rfl) (hs1 : starEach (a :: []) X.env = (false, eval a X.env) :: starEach [] X.env := by rfl) :
    SI g W φ X tg (.Call (.Name "range" p) [a] [] pos) (lRange1 m) := by
  intro F σ H env R hr hp
  refine ⟨_, pi_range1 hg hm (pa_cons w_pe pa_nil hs1) hs, ?_⟩
  refine h F σ H env _ hr (ei hp fun d e1 v H1 F1 s1 r1 p1 hp1 => ?_)
  cases d with
  | int j =>
    cases p1
    by_cases hz : -(2 ^ 62) ≤ j ∧ j < 2 ^ 62
    · simp only [hz, and_self, if_true] at hp1
      exact ⟨j, rfl, hz.1, hz.2, hp1 _ _ _ (Same.refl _) r1 walks_range⟩
    · simp only [hz, if_false] at hp1
      exact hp1.elim
  | _ => exact hp1.elim
def forF (tg : MG) (body : MS) : List D → Env → Fl
  | [], e => .nx e
  | d :: ds, e => match tg d e with
    | none => .no
    | some e1 => match body e1 with
      | .nx e2 => forF tg body ds e2
      | .ct e2 => forF tg body ds e2
      | .br e2 => .nx e2
      | .rt d e2 => .rt d e2
      | .exc c v e2 => .exc c v e2
      | .no => .no
def mFor (mi : ML) (tg : MG) (body : MS) : MS := fun env => (mi env).flow fun ds e => forF tg body ds e
theorem ss_for {ws : List Nat} {tg iter : Expr} {body : List Stmt} {mi : ML} {mg : MG} {mb : MS} {pos : Pos} (c : Cok g X W k) (hi : SI g W φ X tg iter mi) (hg : SG g φ X ws tg mg) (hb : SB g W φ X body mb)
    (hs : ∀ x, foldedSetIterable iter X.env x = pure x := by intro _; rfl) : SS g W φ X (.For tg iter body [] pos) (mFor mi mg mb) := by
  intro F σ H env En hr hp
  refine ⟨_, ps_for c.po c.calm w_pi w_pg w_pb hs, ?_⟩
  refine hi F σ H env _ hr ?_
  unfold mFor at hp
  cases e : mi env with
  | exc c v e' => rw [e] at hp; exact hp
  | no => rw [e] at hp; exact hp
  | ok ds e' =>
    rw [e] at hp
    have hp' : PoS g W φ F En (forF mg mb ds e') := hp
    intro J H1 F1 s1 r1 w1
    refine ⟨fun i m σ H => ∃ F2 env2, Same F1 F2 ∧ Rel g φ F2 σ H env2 ∧ PoS g W φ F2 En (forF mg mb (ds.drop i) env2) ∧ m = ds.length - i, ⟨ds.length, F1, e', Same.refl _, r1, ?_, rfl⟩, ?_⟩
    · exact hp'.mono s1
    rintro i m σ2 H2 ⟨F2, env2, s2, r2, hp2, rfl⟩
    obtain ⟨wgo, wstop⟩ := w1 φ F2 σ2 H2 env2 i s2 r2
    by_cases hl : i < ds.length
    · have ed : ds.drop i = ds[i] :: ds.drop (i + 1) := List.drop_eq_getElem_cons hl
      rw [ed] at hp2
      obtain ⟨go, yl⟩ := wgo ds[i] (List.getElem?_eq_getElem hl)
      refine .inr ⟨go, fun σ' H' => ∃ F3 env3, Same F1 F3 ∧ Rel g φ F3 σ' H' env3 ∧ PoS g W φ F3 En (forF mg mb (ds.drop (i + 1)) env3), fun σ' H' ⟨F3, env3, a1, a2, a3⟩ => ⟨_, by omega, F3, env3, a1, a2, a3, rfl⟩, fun x H' hy => ?_⟩
      obtain ⟨F3, s3, _, _, r3, p3⟩ := yl x H' hy
      unfold forF at hp2
      cases e1 : mg ds[i] env2 with
      | none => rw [e1] at hp2; exact hp2.elim
      | some e1' =>
        rw [e1] at hp2
        simp only at hp2
        refine hg F3 σ2 H' env2 x ds[i] e1' _ r3 p3 e1 fun σ4 _ r4 => ?_
        refine hb F3 σ4 H' e1' _ r4 ?_
        cases e2 : mb e1' with
        | nx e2' =>
          rw [e2] at hp2
          exact fun σ5 H5 F5 s5 r5 => ⟨F5, e2', s2.trans (s3.trans s5), r5, PoS.mono (s3.trans s5) hp2⟩
        | ct e2' =>
          rw [e2] at hp2
          exact fun σ5 H5 F5 s5 r5 => ⟨F5, e2', s2.trans (s3.trans s5), r5, PoS.mono (s3.trans s5) hp2⟩
        | br e2' =>
          rw [e2] at hp2
          exact fun σ5 H5 F5 s5 r5 => hp2 σ5 H5 F5 (s3.trans s5) r5
        | rt d e2' =>
          rw [e2] at hp2
          exact fun v σ5 H5 F5 s5 r5 => hp2 v σ5 H5 F5 (s3.trans s5) r5
        | exc c v e2' =>
          rw [e2] at hp2
          exact XP.mono s3 hp2
        | no => rw [e2] at hp2; exact hp2
    · have ed : ds.drop i = [] := List.drop_eq_nil_of_le (by omega)
      rw [ed] at hp2
      exact .inl ⟨wstop (by omega), hp2 _ _ _ (Same.refl _) r2⟩
end
end Mp
set_option Elab.async false
set_option linter.all false
set_option maxRecDepth 100000
namespace Mp
open PySem PySem.Spec PyProof.Rows L2

/-! ## defs as functions of data -/
inductive FR where
  | ok (d : D) (outs : List Sl) | exc (c : Str) (v : D) (outs : List Sl) | no
abbrev Fn := List Sl → FR
def ioL : Nat → List V → List Sl → List (Nat × Addr)
  | n, v :: vs, s :: ss => match v, s with
    | .ref a, .ow _ _ => (n, a) :: ioL (n + 1) vs ss
    | _, _ => ioL (n + 1) vs ss
  | _, _, _ => []
theorem mem_ioL : ∀ {n : Nat} {vs : List V} {ss : List Sl} {p : Nat × Addr}, p ∈ ioL n vs ss ↔ ∃ j b xs, p.1 = n + j ∧ vs[j]? = some (V.ref p.2) ∧ ss[j]? = some (Sl.ow b xs)
  | n, [], ss, p => by simp [ioL]
  | n, v :: vs, [], p => by simp [ioL]
  | n, v :: vs, s :: ss, p => by
    have ih := @mem_ioL (n + 1) vs ss p
    have tail : (∃ j b xs, p.1 = n + 1 + j ∧ vs[j]? = some (V.ref p.2) ∧ ss[j]? = some (Sl.ow b xs)) ↔ ∃ j b xs, p.1 = n + (j + 1) ∧ (v :: vs)[j + 1]? = some (V.ref p.2) ∧ (s :: ss)[j + 1]? = some (Sl.ow b xs) := by
      constructor
      · rintro ⟨j, b, xs, h1, h2, h3⟩
        exact ⟨j, b, xs, by omega, by simpa using h2, by simpa using h3⟩
      · rintro ⟨j, b, xs, h1, h2, h3⟩
        exact ⟨j, b, xs, by omega, by simpa using h2, by simpa using h3⟩
    have split_ : (∃ j b xs, p.1 = n + j ∧ (v :: vs)[j]? = some (V.ref p.2) ∧ (s :: ss)[j]? = some (Sl.ow b xs)) ↔ (p.1 = n ∧ v = .ref p.2 ∧ ∃ b xs, s = .ow b xs) ∨ p ∈ ioL (n + 1) vs ss := by
      rw [ih, tail]
      constructor
      · rintro ⟨j, b, xs, h1, h2, h3⟩
        cases j with
        | zero => exact .inl ⟨by simpa using h1, by simpa using h2, b, xs, by simpa using h3⟩
        | succ j => exact .inr ⟨j, b, xs, h1, h2, h3⟩
      · rintro (⟨h1, h2, b, xs, h3⟩ | ⟨j, b, xs, h⟩)
        · exact ⟨0, b, xs, by simpa using h1, by simp [h2], by simp [h3]⟩
        · exact ⟨j + 1, b, xs, h⟩
    rw [split_]
    cases s with
    | ow b xs =>
      cases v with
      | ref a =>
        simp only [ioL, List.mem_cons]
        constructor
        · rintro (h | h)
          · subst h
            exact .inl ⟨rfl, rfl, b, xs, rfl⟩
          · exact .inr h
        · rintro (⟨h1, h2, _⟩ | h)
          · left
            cases h2
            exact Prod.ext h1 rfl
          · exact .inr h
      | _ =>
        simp only [ioL]
        constructor
        · exact .inr
        · rintro (⟨_, h2, _⟩ | h)
          · cases h2
          · exact h
    | un =>
      have e : ioL n (v :: vs) (.un :: ss) = ioL (n + 1) vs ss := by cases v <;> rfl
      rw [e]
      constructor
      · exact .inr
      · rintro (⟨_, _, b, xs, h3⟩ | h)
        · cases h3
        · exact h
    | va d =>
      have e : ioL n (v :: vs) (.va d :: ss) = ioL (n + 1) vs ss := by cases v <;> rfl
      rw [e]
      constructor
      · exact .inr
      · rintro (⟨_, _, b, xs, h3⟩ | h)
        · cases h3
        · exact h
/-- what a call starts from -/
def fcOf (vs : List V) (args : List Sl) (H F : Hp) : Fc := ⟨ioL 0 vs args, H, F⟩
def spOf (g : Gc) (fn : Fn) : Sp := fun vs H Q E => ∃ (F : Hp) (args : List Sl), Rel g (fcOf vs args H F) F (vs.map some) H args ∧
  match fn args with
  | .ok d outs => ∀ v H' F', Same F F' → Rel g (fcOf vs args H F) F' (vs.map some) H' outs → Rep g F' v d → Q v H'
  | .exc c v outs => ∀ C fld dd vv H' F', g.xc c = some (C, fld) → Same F F' → Rel g (fcOf vs args H F) F' (vs.map some) H' outs → H' dd = some (.xd [(fld, vv)]) → Rep g F' vv v → E (.ref C) (some dd) H'
  | .no => False
/-- the def that stands under the name x does as fn says -/
structure Has (P : Program) (w : World) (mg : Str → Option Value) (base : Heap) (g : Gc) (k : Nat) (x : Str) (fn : Fn) : Prop where
  ex : ∃ (f : Addr) (fd : FuncData) (ps : List Str), FnOk P w g.K mg base (L2.CX P w) k f fd ps (spOf g fn) ∧ mg x = some (.ref f) ∧ PySem.W.keepIn g.K (.ref f) = true ∧ Binds g.K fd ps []

/-! ### arguments -/
def argsOf (e : Env) : List Av → Option (List Sl)
  | [] => some []
  | .va d :: as => match argsOf e as with
    | some ss => some (.va d :: ss)
    | none => none
  | .ix i :: as => match e[i]?, argsOf e as with
    | some (.ow _ xs), some ss => some (.ow true xs :: ss)
    | _, _ => none
def putB : Env → List Av → List Sl → Option Env
  | e, [], [] => some e
  | e, .va _ :: as, _ :: os => putB e as os
  | e, .ix j :: as, .ow true ys :: os => match e[j]? with
    | some (.ow b _) => putB (e.set j (.ow b ys)) as os
    | _ => none
  | _, _, _ => none
def ixs : List Av → List Nat
  | [] => []
  | .va _ :: as => ixs as
  | .ix i :: as => i :: ixs as
theorem ixs_mem : ∀ {as : List Av} {j : Nat}, j ∈ ixs as ↔ ∃ i : Nat, as[i]? = some (Av.ix j)
  | [], j => by simp [ixs]
  | .va d :: as, j => by
    simp only [ixs]
    rw [@ixs_mem as j]
    constructor
    · rintro ⟨i, h⟩
      exact ⟨i + 1, by simpa using h⟩
    · rintro ⟨i, h⟩
      cases i with
      | zero => simp at h
      | succ i => exact ⟨i, by simpa using h⟩
  | .ix q :: as, j => by
    simp only [ixs, List.mem_cons]
    rw [@ixs_mem as j]
    constructor
    · rintro (h | ⟨i, h⟩)
      · exact ⟨0, by simp [h]⟩
      · exact ⟨i + 1, by simpa using h⟩
    · rintro ⟨i, h⟩
      cases i with
      | zero =>
        simp only [List.getElem?_cons_zero, Option.some.injEq, Av.ix.injEq] at h
        exact .inl h.symm
      | succ i => exact .inr ⟨i, by simpa using h⟩
theorem ixs_inj : ∀ {as : List Av}, (ixs as).Nodup → ∀ {i i' j : Nat}, as[i]? = some (Av.ix j) → as[i']? = some (Av.ix j) → i = i'
  | [], _, i, _, _, h, _ => by simp at h
  | .va d :: as, hn, i, i', j, h, h' => by
    cases i with
    | zero => simp at h
    | succ i =>
      cases i' with
      | zero => simp at h'
      | succ i' =>
        have z := ixs_inj (as := as) (by simpa [ixs] using hn) (i := i) (i' := i') (j := j) (by simpa using h) (by simpa using h')
        rw [z]
  | .ix q :: as, hn, i, i', j, h, h' => by
    simp only [ixs, List.nodup_cons] at hn
    cases i with
    | zero =>
      cases i' with
      | zero => rfl
      | succ i' =>
        simp only [List.getElem?_cons_zero, Option.some.injEq, Av.ix.injEq] at h
        exact absurd (ixs_mem.mpr ⟨i', by simpa [h] using h'⟩) hn.1
    | succ i =>
      cases i' with
      | zero =>
        simp only [List.getElem?_cons_zero, Option.some.injEq, Av.ix.injEq] at h'
        exact absurd (ixs_mem.mpr ⟨i, by simpa [h'] using h⟩) hn.1
      | succ i' =>
        have z := ixs_inj (as := as) hn.2 (i := i) (i' := i') (j := j) (by simpa using h) (by simpa using h')
        rw [z]
theorem argsOf_at {e : Env} : ∀ {as : List Av} {args : List Sl}, argsOf e as = some args → args.length = as.length ∧
    (∀ (i : Nat) (d : D), as[i]? = some (Av.va d) → args[i]? = some (Sl.va d)) ∧ (∀ (i j : Nat), as[i]? = some (Av.ix j) → ∃ b xs, e[j]? = some (Sl.ow b xs) ∧ args[i]? = some (Sl.ow true xs))
  | [], args, h => by
    cases h
    exact ⟨rfl, fun i d z => by simp at z, fun i j z => by simp at z⟩
  | .va d :: as, args, h => by
    cases h1 : argsOf e as with
    | none => simp only [argsOf, h1, reduceCtorEq] at h
    | some ss =>
      simp only [argsOf, h1, Option.some.injEq] at h
      subst h
      obtain ⟨q1, q2, q3⟩ := argsOf_at h1
      refine ⟨by simp [q1], fun i d' z => ?_, fun i j z => ?_⟩
      · cases i with
        | zero => simpa using z
        | succ i => simpa using q2 i d' (by simpa using z)
      · cases i with
        | zero => simp at z
        | succ i => simpa using q3 i j (by simpa using z)
  | .ix q :: as, args, h => by
    cases h0 : e[q]? with
    | none => simp only [argsOf, h0, reduceCtorEq] at h
    | some s =>
      cases s with
      | un => simp only [argsOf, h0, reduceCtorEq] at h
      | va d => simp only [argsOf, h0, reduceCtorEq] at h
      | ow b xs =>
        cases h1 : argsOf e as with
        | none => simp only [argsOf, h0, h1, reduceCtorEq] at h
        | some ss =>
          simp only [argsOf, h0, h1, Option.some.injEq] at h
          subst h
          obtain ⟨q1, q2, q3⟩ := argsOf_at h1
          refine ⟨by simp [q1], fun i d' z => ?_, fun i j z => ?_⟩
          · cases i with
            | zero => simp at z
            | succ i => simpa using q2 i d' (by simpa using z)
          · cases i with
            | zero =>
              simp only [List.getElem?_cons_zero, Option.some.injEq, Av.ix.injEq] at z
              subst z
              exact ⟨b, xs, h0, by simp⟩
            | succ i => simpa using q3 i j (by simpa using z)
theorem putB_at : ∀ {as : List Av} {outs : List Sl} {e e' : Env}, putB e as outs = some e' → (ixs as).Nodup → e'.length = e.length ∧ outs.length = as.length ∧
    (∀ j : Nat, j ∉ ixs as → e'[j]? = e[j]?) ∧ (∀ i j : Nat, as[i]? = some (Av.ix j) → ∃ b xs ys, e[j]? = some (Sl.ow b xs) ∧ outs[i]? = some (Sl.ow true ys) ∧ e'[j]? = some (Sl.ow b ys))
  | [], outs, e, e', h, _ => by
    cases outs with
    | cons o os => simp [putB] at h
    | nil =>
      cases h
      exact ⟨rfl, rfl, fun _ _ => rfl, fun i j z => by simp at z⟩
  | .va d :: as, outs, e, e', h, hn => by
    cases outs with
    | nil => simp [putB] at h
    | cons o os =>
      simp only [putB] at h
      obtain ⟨q1, q2, q3, q4⟩ := putB_at h hn
      refine ⟨q1, by simp [q2], q3, fun i j z => ?_⟩
      cases i with
      | zero => simp at z
      | succ i => simpa using q4 i j (by simpa using z)
  | .ix q :: as, outs, e, e', h, hn => by
    simp only [ixs, List.nodup_cons] at hn
    cases outs with
    | nil => simp [putB] at h
    | cons o os =>
      cases o with
      | un => simp [putB] at h
      | va d => simp [putB] at h
      | ow bb ys =>
        cases bb with
        | false => simp [putB] at h
        | true =>
          cases h0 : e[q]? with
          | none => simp [putB, h0] at h
          | some s =>
            cases s with
            | un => simp [putB, h0] at h
            | va d => simp [putB, h0] at h
            | ow b xs =>
              simp only [putB, h0] at h
              have hq : q < e.length := lt_of_get h0
              obtain ⟨q1, q2, q3, q4⟩ := putB_at h hn.2
              refine ⟨by simpa using q1, by simp [q2], fun j hj => ?_, fun i j z => ?_⟩
              · simp only [ixs, List.mem_cons, not_or] at hj
                rw [q3 j hj.2, set_get_ne (Ne.symm hj.1)]
              · cases i with
                | zero =>
                  simp only [List.getElem?_cons_zero, Option.some.injEq, Av.ix.injEq] at z
                  subst z
                  exact ⟨b, xs, ys, h0, by simp, by rw [q3 q hn.1]; exact set_get hq⟩
                | succ i =>
                  have z' : as[i]? = some (Av.ix j) := by simpa using z
                  have hne : q ≠ j := fun w => hn.1 (w ▸ ixs_mem.mpr ⟨i, z'⟩)
                  obtain ⟨b', xs', ys', k1, k2, k3⟩ := q4 i j z'
                  rw [set_get_ne hne] at k1
                  exact ⟨b', xs', ys', k1, by simpa using k2, k3⟩
section
variable {g : Gc} {φ : Fc} {F F' : Hp} {σ : L2.St} {H H' : Hp} {env : Env}
theorem map_some_at {vs : List V} {i : Nat} {v : V} : (vs.map some)[i]? = some (some v) ↔ vs[i]? = some v := by
  rw [List.getElem?_map]
  cases vs[i]? <;> simp
theorem Rel.call_in (r : Rel g φ F σ H env) {vs : List V} {as : List Av} {args : List Sl} (p : AvsR g F σ vs as) (hn : (ixs as).Nodup) (ha : argsOf env as = some args) : Rel g (fcOf vs args H F) F (vs.map some) H args := by
  obtain ⟨q1, q2, q3⟩ := argsOf_at ha
  -- an argument by its place
  have kind : ∀ (i : Nat) (s : Sl), args[i]? = some s → (∃ d, as[i]? = some (Av.va d) ∧ s = .va d) ∨ ∃ (j : Nat) (b : Bool) (xs : List D), as[i]? = some (Av.ix j) ∧ env[j]? = some (Sl.ow b xs) ∧ s = .ow true xs := fun i s e => by
    have hi : i < as.length := by
      rw [← q1]
      exact lt_of_get e
    cases ea : as[i] with
    | va d =>
      have h1 : as[i]? = some (Av.va d) := by rw [List.getElem?_eq_getElem hi, ea]
      have h2 := q2 i d h1
      rw [e] at h2
      exact .inl ⟨d, h1, Option.some.inj h2⟩
    | ix j =>
      have h1 : as[i]? = some (Av.ix j) := by rw [List.getElem?_eq_getElem hi, ea]
      obtain ⟨b, xs, h2, h3⟩ := q3 i j h1
      rw [e] at h3
      exact .inr ⟨j, b, xs, h1, h2, Option.some.inj h3⟩
  have val : ∀ (i : Nat) (a : Av), as[i]? = some a → ∃ v, vs[i]? = some v ∧ AvR g F σ v a := fun i a e => by
    have hi : i < vs.length := by rw [p.len]; exact lt_of_get e
    exact ⟨vs[i], List.getElem?_eq_getElem hi, p.at_ i _ a (List.getElem?_eq_getElem hi) e⟩
  refine ⟨r.ex, Same.refl _, fun b o e => .inl e, fun b o e _ => e, by simp [p.len, q1], fun i d e => ?_, fun i b xs e => ?_, fun i j b c xs ys a e1 e2 e3 e4 => ?_, fun q hq => ?_⟩
  · rcases kind i _ e with ⟨d', h1, h2⟩ | ⟨j, b, xs, _, _, h2⟩
    · cases h2
      obtain ⟨v, k1, k2⟩ := val i _ h1
      exact ⟨v, map_some_at.mpr k1, k2⟩
    · cases h2
  · rcases kind i _ e with ⟨d', h1, h2⟩ | ⟨j, b', xs', h1, h2, h3⟩
    · cases h2
    · cases h3
      obtain ⟨v, k1, k2⟩ := val i _ h1
      obtain ⟨a, us, m1, m2, m3, m4, _⟩ := r.ow j b' xs h2
      have k2' : σ[j]? = some (some v) := k2
      rw [k2'] at m1
      cases m1
      exact ⟨a, us, map_some_at.mpr k1, m2, m3, m4, ⟨(fun z => by cases z), fun _ => (mem_ioL (p := (i, a))).mpr ⟨i, true, xs, (Nat.zero_add i).symm, k1, e⟩⟩⟩
  · rcases kind i _ e1 with ⟨d', _, h2⟩ | ⟨i', b1, xs1, h1, h2, h3⟩
    · cases h2
    · rcases kind j _ e2 with ⟨d', _, h5⟩ | ⟨j', b2, xs2, h4, h5, h6⟩
      · cases h5
      · obtain ⟨v, k1, k2⟩ := val i _ h1
        obtain ⟨u, k3, k4⟩ := val j _ h4
        have e3' := map_some_at.mp e3
        have e4' := map_some_at.mp e4
        rw [k1] at e3'
        rw [k3] at e4'
        cases e3'
        cases e4'
        have : i' = j' := r.dj i' j' b1 b2 xs1 xs2 a h2 h5 k2 k4
        subst this
        exact ixs_inj hn h1 h4
  · obtain ⟨j, b, xs, h1, h2, h3⟩ := mem_ioL.mp hq
    have h1' : q.1 = j := by simpa using h1
    rw [h1']
    refine ⟨map_some_at.mpr h2, ?_⟩
    rcases kind j _ h3 with ⟨d', _, h5⟩ | ⟨j', b2, xs2, h4, h5, h6⟩
    · cases h5
    · cases h6
      exact ⟨xs, h3⟩
theorem Rel.call_out (r : Rel g φ F σ H env) {vs : List V} {as : List Av} {args outs : List Sl} {env' : Env} (p : AvsR g F σ vs as) (hn : (ixs as).Nodup) (ha : argsOf env as = some args) (hb : putB env as outs = some env')
    (s : Same F F') (q : Rel g (fcOf vs args H F) F' (vs.map some) H' outs) : Rel g φ F' σ H' env' := by
  obtain ⟨q1, q2, q3⟩ := argsOf_at ha
  obtain ⟨t1, t2, t3, t4⟩ := putB_at hb hn
  have val : ∀ (i : Nat) (a : Av), as[i]? = some a → ∃ v, vs[i]? = some v ∧ AvR g F σ v a := fun i a e => by
    have hi : i < vs.length := by rw [p.len]; exact lt_of_get e
    exact ⟨vs[i], List.getElem?_eq_getElem hi, p.at_ i _ a (List.getElem?_eq_getElem hi) e⟩
  -- whose list an address of the call is
  have io : ∀ pr ∈ ioL 0 vs args, ∃ (i j : Nat) (b : Bool) (xs : List D), as[i]? = some (Av.ix j) ∧ env[j]? = some (Sl.ow b xs) ∧ σ[j]? = some (some (V.ref pr.2)) := fun pr hp => by
    obtain ⟨i, b, xs, h1, h2, h3⟩ := mem_ioL.mp hp
    have hi : i < as.length := by
      rw [← q1]
      exact lt_of_get h3
    cases ea : as[i] with
    | va d =>
      have h4 := q2 i d (by rw [List.getElem?_eq_getElem hi, ea])
      rw [h3] at h4
      cases h4
    | ix j =>
      have h4 : as[i]? = some (Av.ix j) := by rw [List.getElem?_eq_getElem hi, ea]
      obtain ⟨b', xs', h5, h6⟩ := q3 i j h4
      obtain ⟨v, k1, k2⟩ := val i _ h4
      rw [h2] at k1
      cases k1
      exact ⟨i, j, b', xs', h4, h5, k2⟩
  refine ⟨q.ex, r.ex0.trans s, fun b o e => ?_, fun b o e hb' => ?_, by rw [r.len, t1], fun i d e => ?_, fun i b xs e => ?_, fun i j b c xs ys a e1 e2 e3 e4 => ?_, fun pr hp => ?_⟩
  · rcases q.new b o e with h | h
    · exact r.new b o h
    · exact .inr (r.h0 h)
  · refine q.fr b o (r.fr b o e hb') fun pr hp z => ?_
    obtain ⟨i, j, b', xs', h1, h2, h3⟩ := io pr hp
    obtain ⟨a, us, m1, m2, m3, m4, m5, m6⟩ := r.ow j b' xs' h2
    rw [h3] at m1
    cases m1
    cases b' with
    | false =>
      rw [← z, m5 rfl] at e
      cases e
    | true => exact hb' _ (m6 rfl) z
  · by_cases hi : i ∈ ixs as
    · obtain ⟨i', h1⟩ := ixs_mem.mp hi
      obtain ⟨b, xs, ys, _, _, h2⟩ := t4 i' i h1
      rw [e] at h2
      cases h2
    · rw [t3 i hi] at e
      obtain ⟨v, h1, h2⟩ := r.va i d e
      exact ⟨v, h1, h2.mono s⟩
  · by_cases hi : i ∈ ixs as
    · obtain ⟨i', h1⟩ := ixs_mem.mp hi
      obtain ⟨b', xs', ys, h2, h3, h4⟩ := t4 i' i h1
      rw [e] at h4
      cases h4
      obtain ⟨a, us, m1, m2, m3, m4, m5, m6⟩ := r.ow i b xs' h2
      obtain ⟨v, k1, k2⟩ := val i' _ h1
      have k2' : σ[i]? = some (some v) := k2
      rw [k2'] at m1
      cases m1
      obtain ⟨a', us', n1, n2, n3, n4, _⟩ := q.ow i' true xs h3
      have n1' := map_some_at.mp n1
      rw [k1] at n1'
      cases n1'
      exact ⟨a, us', k2, n2, n3, n4, m5, m6⟩
    · rw [t3 i hi] at e
      obtain ⟨a, us, m1, m2, m3, m4, m5, m6⟩ := r.ow i b xs e
      refine ⟨a, us, m1, q.fr a _ m2 fun pr hp z => ?_, ?_, m4.mono s, m5, m6⟩
      · obtain ⟨i', j, b', xs', h1, h2, h3⟩ := io pr hp
        rw [z] at h3
        have : i = j := r.dj i j b b' xs xs' a e h2 m1 h3
        subst this
        exact hi (ixs_mem.mpr ⟨i', h1⟩)
      · cases ef : F' a with
        | none => rfl
        | some o =>
          rcases q.new a o ef with h | h
          · have h' : F a = some o := h
            rw [m3] at h'
            cases h'
          · have h' : H a = none := h
            rw [m2] at h'
            cases h'
  · have old : ∀ (i : Nat) (b : Bool) (xs : List D), env'[i]? = some (Sl.ow b xs) → ∃ (b' : Bool) (xs' : List D), env[i]? = some (Sl.ow b' xs') := fun i b xs e => by
      by_cases hi : i ∈ ixs as
      · obtain ⟨i', h1⟩ := ixs_mem.mp hi
        obtain ⟨b', xs', ys, h2, _⟩ := t4 i' i h1
        exact ⟨b', xs', h2⟩
      · rw [t3 i hi] at e
        exact ⟨b, xs, e⟩
    obtain ⟨b1, xs1, h1⟩ := old i b xs e1
    obtain ⟨b2, xs2, h2⟩ := old j c ys e2
    exact r.dj i j b1 b2 xs1 xs2 a h1 h2 e3 e4
  · obtain ⟨h1, xs, h2⟩ := r.ioh pr hp
    refine ⟨h1, ?_⟩
    by_cases hi : pr.1 ∈ ixs as
    · obtain ⟨i', h3⟩ := ixs_mem.mp hi
      obtain ⟨b', xs', ys, h4, h5, h6⟩ := t4 i' pr.1 h3
      rw [h2] at h4
      cases h4
      exact ⟨ys, h6⟩
    · exact ⟨xs, by rw [t3 _ hi]; exact h2⟩
end
def callF (fn : Fn) (as : List Av) (e : Env) : Re D := if (ixs as).Nodup then
    match argsOf e as with
    | none => .no
    | some args => match fn args with
      | .ok d outs => match putB e as outs with
        | some e' => .ok d e'
        | none => .no
      | .exc c v outs => match putB e as outs with
        | some e' => .exc c v e'
        | none => .no
      | .no => .no
  else .no
def mFn (fn : Fn) (m : MA) : ME := fun env => (m env).bind fun as e => callF fn as e
section
variable {g : Gc} {W : WX} {φ : Fc} {X : Cx} {k : Nat} {F F' H : Hp} {σ : L2.St}
theorem sp_call {fn : Fn} {vs : List V} {as : List Av} {env : Env} {Q : VK} (r : Rel g φ F σ H env) (p : AvsR g F σ vs as) (hp : PoE g W φ F σ Q (callF fn as env)) : spOf g fn vs H Q (L2.WE W σ) := by
  unfold callF at hp
  by_cases hn : (ixs as).Nodup
  · rw [if_pos hn] at hp
    cases ha : argsOf env as with
    | none => rw [ha] at hp; exact hp.elim
    | some args =>
      rw [ha] at hp
      simp only at hp
      refine ⟨F, args, r.call_in p hn ha, ?_⟩
      cases hf : fn args with
      | no => rw [hf] at hp; exact hp.elim
      | ok d outs =>
        rw [hf] at hp
        simp only at hp
        cases hb : putB env as outs with
        | none => rw [hb] at hp; exact hp.elim
        | some e' =>
          rw [hb] at hp
          exact fun v H' F' s q t => hp v H' F' s (r.call_out p hn ha hb s q) t
      | exc c v outs =>
        rw [hf] at hp
        simp only at hp
        cases hb : putB env as outs with
        | none => rw [hb] at hp; exact hp.elim
        | some e' =>
          rw [hb] at hp
          exact fun C fld dd vv H' F' x s q t u => hp C fld dd vv σ H' F' x s (r.call_out p hn ha hb s q) t u
  · rw [if_neg hn] at hp
    exact hp.elim
theorem se_fn {x : Str} {kk : Nat} {fn : Fn} {e : Expr} {es : List Expr} {m : MA} {p pos : Pos} (c : Cok g X W k) (h : Has X.prog X.w X.mg X.base g kk x fn) (hk : kk ≤ k) (hg : Gl X x) (ha : SA g W φ X (e :: es) m)
    (hdb : (x == ("__debug__" : Str)) = false := by decide) (he : starEach (e :: es) X.env = (false, eval e X.env) :: starEach es X.env := by rfl) (hpl : (backTo pos (starEach es X.env)).any (·.1) = false := by rfl) :
    SE g W φ X (.Call (.Name x p) (e :: es) [] pos) (mFn fn m) := by
  intro F σ H env Q hr hp
  obtain ⟨f, fd, ps, Fo, hm, hkp, hb⟩ := h.ex
  rw [← c.K] at Fo hkp hb
  refine ⟨_, pe_callS Fo (c.rm.mono hk) hg hm hkp hb (fun σ => passAt c.tk σ) w_pa hdb he hpl, ?_⟩
  refine ha F σ H env _ hr (ae hp fun as e1 vs H1 F1 s1 r1 p1 hp1 => ?_)
  exact sp_call r1 p1 hp1
/-! ### a def's body -/
def outsOf (n : Nat) (e : Env) : List Sl := (List.range n).map fun (i : Nat) => match e[i]? with
  | some (Sl.ow true xs) => Sl.ow true xs
  | _ => Sl.un
def fnOf (np n : Nat) (body : MS) : Fn := fun args => if args.length = np then
    match body (args ++ List.replicate (n - np) Sl.un) with
    | .rt d e => .ok d (outsOf np e)
    | .nx e => .ok .non (outsOf np e)
    | .exc c v e => .exc c v (outsOf np e)
    | _ => .no
  else .no
theorem outsOf_at {n : Nat} {e : Env} {i : Nat} {s : Sl} (h : (outsOf n e)[i]? = some s) : s = Sl.un ∨ ∃ xs, s = Sl.ow true xs ∧ e[i]? = some (Sl.ow true xs) ∧ i < n := by
  unfold outsOf at h
  rw [List.getElem?_map, Option.map_eq_some_iff] at h
  obtain ⟨j, h1, h2⟩ := h
  have hi : i < n := by have := lt_of_get h1; simpa using this
  rw [List.getElem?_range hi] at h1
  cases h1
  cases he : e[i]? with
  | none => rw [he] at h2; exact .inl h2.symm
  | some t =>
    rw [he] at h2
    cases t with
    | un => exact .inl h2.symm
    | va d => exact .inl h2.symm
    | ow b xs =>
      cases b with
      | false => exact .inl h2.symm
      | true => exact .inr ⟨xs, h2.symm, rfl, hi⟩
theorem Rel.start {N : List Str} {vs : List V} {args : List Sl} {n : Nat} (r : Rel g φ F (vs.map some) H args) (hn : N.length = n) (hl : vs.length ≤ n) : Rel g φ F (L2.start N vs) H (args ++ List.replicate (n - vs.length) Sl.un) := by
  have hl2 : vs.length = args.length := by have := r.len; simpa using this
  have atv : ∀ (i : Nat) (v : V), (vs.map some)[i]? = some (some v) → (L2.start N vs)[i]? = some (some v) := fun i v e => by
    unfold L2.start
    rw [List.getElem?_append_left (lt_of_get e)]
    exact e
  have ate : ∀ (i : Nat) (s : Sl), (args ++ List.replicate (n - vs.length) Sl.un)[i]? = some s → s = .un ∨ args[i]? = some s := fun i s e => by
    by_cases hi : i < args.length
    · rw [List.getElem?_append_left hi] at e
      exact .inr e
    · rw [List.getElem?_append_right (by omega), List.getElem?_replicate] at e
      split at e
      · exact .inl (Option.some.inj e).symm
      · cases e
  have atb : ∀ (i : Nat) (v : V), (L2.start N vs)[i]? = some (some v) → (vs.map some)[i]? = some (some v) := fun i v e => by
    unfold L2.start at e
    by_cases hi : i < (vs.map some).length
    · rw [List.getElem?_append_left hi] at e
      exact e
    · rw [List.getElem?_append_right (by omega), List.getElem?_replicate] at e
      split at e
      · cases e
      · cases e
  refine ⟨r.ex, r.ex0, r.new, r.fr, by unfold L2.start; simp [hl2, hn], fun i d e => ?_, fun i b xs e => ?_, fun i j b c xs ys a e1 e2 e3 e4 => ?_, fun p hp => ?_⟩
  · rcases ate i _ e with h | h
    · cases h
    · obtain ⟨v, h1, h2⟩ := r.va i d h
      exact ⟨v, atv i v h1, h2⟩
  · rcases ate i _ e with h | h
    · cases h
    · obtain ⟨a, us, h1, h2⟩ := r.ow i b xs h
      exact ⟨a, us, atv i _ h1, h2⟩
  · rcases ate i _ e1 with h | h
    · cases h
    · rcases ate j _ e2 with h' | h'
      · cases h'
      · exact r.dj i j b c xs ys a h h' (atb i _ e3) (atb j _ e4)
  · obtain ⟨h1, xs, h2⟩ := r.ioh p hp
    refine ⟨atv _ _ h1, xs, ?_⟩
    rw [List.getElem?_append_left (lt_of_get h2)]
    exact h2
theorem Rel.leave {vs : List V} {args : List Sl} {H0 F0 : Hp} {env : Env} {np : Nat} (r : Rel g (fcOf vs args H0 F0) F σ H env) (hv : vs.length = np) : Rel g (fcOf vs args H0 F0) F (vs.map some) H (outsOf np env) := by
  have low : ∀ (i : Nat) (b : Bool) (xs : List D), (outsOf np env)[i]? = some (Sl.ow b xs) → b = true ∧ env[i]? = some (Sl.ow true xs) ∧ ∃ a, (i, a) ∈ ioL 0 vs args ∧ σ[i]? = some (some (V.ref a)) ∧ (vs.map some)[i]? = some (some (V.ref a)) := fun i b xs e => by
    rcases outsOf_at e with h | ⟨ys, h1, h2, h3⟩
    · cases h
    · cases h1
      obtain ⟨a, us, m1, m2, m3, m4, m5, m6⟩ := r.ow i true xs h2
      have m7 : (i, a) ∈ ioL 0 vs args := m6 rfl
      obtain ⟨j, b', xs', k1, k2, k3⟩ := mem_ioL.mp m7
      have k1' : i = j := by simpa using k1
      subst k1'
      exact ⟨rfl, h2, a, m7, m1, map_some_at.mpr k2⟩
  refine ⟨r.ex, r.ex0, r.new, r.fr, by unfold outsOf; simp [hv], fun i d e => ?_, fun i b xs e => ?_, fun i j b c xs ys a e1 e2 e3 e4 => ?_, fun p hp => ?_⟩
  · rcases outsOf_at e with h | ⟨ys, h1, h2, h3⟩
    · cases h
    · cases h1
  · obtain ⟨hb, h1, a, h2, h3, h4⟩ := low i b xs e
    subst hb
    obtain ⟨a', us, m1, m2⟩ := r.ow i true xs h1
    rw [h3] at m1
    cases m1
    exact ⟨a, us, h4, m2⟩
  · obtain ⟨hb, h1, a1, h2, h3, h4⟩ := low i b xs e1
    subst hb
    obtain ⟨hc, k1, a2, k2, k3, k4⟩ := low j c ys e2
    subst hc
    rw [h4] at e3
    rw [k4] at e4
    cases e3
    cases e4
    exact r.dj i j true true xs ys a h1 k1 h3 k3
  · obtain ⟨h1, xs, h2⟩ := r.ioh p hp
    obtain ⟨j, b', xs', k1, k2, k3⟩ := mem_ioL.mp (show p ∈ ioL 0 vs args from hp)
    have k1' : p.1 = j := by simpa using k1
    rw [k1']
    rw [k1'] at h2
    refine ⟨map_some_at.mpr k2, xs, ?_⟩
    have hj : j < np := by
      rw [← hv]
      exact lt_of_get k2
    unfold outsOf
    rw [List.getElem?_map, List.getElem?_range hj, Option.map_some, h2]
theorem def_ok {P : Program} {w : World} {mg : Str → Option Value} {base : Heap} {x qual : Str} {st : Stmt} {f : Addr} {fd : FuncData} {N ps : List Str} {body : MS} (Fu : Fun g.K x qual st f fd) (S : FnScope N ps (defScope st)) (hl : ps.length ≤ N.length)
    (hbody : ∀ (cdv : Value) (A : Around) (outer : List PySem.Env) (s : Shared) (H : Hp) (E : XK) (φ : Fc), Cok g (cxOf (L2.CX P w) P w g.K mg base N qual (defScope st) f cdv A outer s H E) (fun cls d _ H => E cls d H) k →
      SB g (fun cls d _ H => E cls d H) φ (cxOf (L2.CX P w) P w g.K mg base N qual (defScope st) f cdv A outer s H E) (defBody st) body) :
    FnOk P w g.K mg base (L2.CX P w) (k + 1) f fd ps (spOf g (fnOf ps.length N.length body)) := by
  refine Fu.okX S (fun vs H Q E h => ?_) (fun cdv A outer s H vs Q E hr h => ?_)
  · obtain ⟨F, args, r, h⟩ := h
    have hl2 : vs.length = args.length := by have := r.len; simpa using this
    unfold fnOf at h
    by_cases hz : args.length = ps.length
    · rw [hl2, hz]
    · rw [if_neg hz] at h
      exact h.elim
  · obtain ⟨F, args, r, h⟩ := h
    have hl2 : vs.length = args.length := by have := r.len; simpa using this
    unfold fnOf at h
    by_cases hz : args.length = ps.length
    · rw [if_pos hz] at h
      have c : Cok g (cxOf (L2.CX P w) P w g.K mg base N qual (defScope st) f cdv A outer s H E) (fun cls d _ H => E cls d H) k := ⟨rfl, rfl, S.nd, takes_of rfl rfl rfl rfl, hr, passes_of rfl⟩
      have r0 := r.start (N := N) (n := N.length) rfl (by omega)
      rw [hl2, hz] at r0
      obtain ⟨t, h1, h2⟩ := hbody cdv A outer s H E (fcOf vs args H F) c F (L2.start N vs) H _ { nx := fun _ H' => Q .non H', rt := Q } r0 (by
        have fit : ∀ {F' : Hp} {σ' : L2.St} {H' : Hp} {e' : Env}, Rel g (fcOf vs args H F) F' σ' H' e' → Rel g (fcOf vs args H F) F' (vs.map some) H' (outsOf ps.length e') := fun {F' σ' H' e'} q => q.leave (by omega)
        cases hb : body (args ++ List.replicate (N.length - ps.length) Sl.un) with
        | no => rw [hb] at h; exact h.elim
        | br e => rw [hb] at h; exact h.elim
        | ct e => rw [hb] at h; exact h.elim
        | nx e =>
          rw [hb] at h
          exact fun σ' H' F' s1 r1 => h .non H' F' s1 (fit r1) .non
        | rt d e =>
          rw [hb] at h
          exact fun v σ' H' F' s1 r1 p1 => h v H' F' s1 (fit r1) p1
        | exc c v e =>
          rw [hb] at h
          exact fun C fld dd vv σ' H' F' q1 q2 q3 q4 q5 => h C fld dd vv H' F' q1 q2 (fit q3) q4 q5)
      exact ⟨t, h1, h2⟩
    · rw [if_neg hz] at h
      exact h.elim
end
end Mp
set_option Elab.async false
set_option linter.all false
set_option maxRecDepth 100000
namespace Mp
open PySem PySem.Spec PyProof.Rows L2

/-! ## list comprehensions -/
def wipeE (env : Env) : List Nat → Env
  | [] => env
  | v :: vs => (wipeE env vs).set v .un
def Sl.mark : Sl → Sl
  | .ow _ xs => .ow true xs
  | s => s
def Sl.back (s0 s : Sl) : Sl := match s0, s with
  | .ow b _, .ow _ xs => .ow b xs
  | s0, _ => s0
def enterE (own : List Nat) (env : Env) : Env := (wipeE env own).map Sl.mark
def backE (env e : Env) : Env := List.zipWith Sl.back env e
def free_ (own : List Nat) (env : Env) : Bool := own.all fun v => !isOw env[v]?
def ioE (σ : L2.St) (env : Env) : List (Nat × Addr) := (List.range env.length).filterMap fun i => match σ[i]?, env[i]? with
  | some (some (V.ref a)), some (Sl.ow _ _) => some (i, a)
  | _, _ => none
theorem mem_ioE {σ : L2.St} {env : Env} {p : Nat × Addr} : p ∈ ioE σ env ↔ σ[p.1]? = some (some (V.ref p.2)) ∧ ∃ b xs, env[p.1]? = some (Sl.ow b xs) := by
  unfold ioE
  rw [List.mem_filterMap]
  constructor
  · rintro ⟨i, _, h⟩
    split at h
    · rename_i a b xs h1 h2
      cases h
      exact ⟨h1, b, xs, h2⟩
    · cases h
  · rintro ⟨h1, b, xs, h2⟩
    refine ⟨p.1, List.mem_range.mpr (lt_of_get h2), ?_⟩
    rw [h1, h2]
theorem wipeE_length (env : Env) : ∀ vs : List Nat, (wipeE env vs).length = env.length
  | [] => rfl
  | v :: vs => by unfold wipeE; rw [List.length_set, wipeE_length env vs]
theorem wipeE_at {env : Env} {i : Nat} {s : Sl} : ∀ {vs : List Nat}, (wipeE env vs)[i]? = some s → (s = .un ∧ i ∈ vs) ∨ (i ∉ vs ∧ env[i]? = some s)
  | [], h => .inr ⟨by simp, h⟩
  | v :: vs, h => by
    unfold wipeE at h
    rcases get_set h with ⟨rfl, h2, _⟩ | ⟨hne, h2⟩
    · exact .inl ⟨h2, by simp⟩
    · rcases wipeE_at h2 with ⟨h3, h4⟩ | ⟨h3, h4⟩
      · exact .inl ⟨h3, by simp [h4]⟩
      · exact .inr ⟨by simp [h3, Ne.symm hne], h4⟩
theorem wipeE_out {env : Env} {i : Nat} : ∀ {vs : List Nat}, i ∉ vs → (wipeE env vs)[i]? = env[i]?
  | [], _ => rfl
  | v :: vs, h => by
    have h1 : v ≠ i := fun e => h (by rw [e]; exact List.mem_cons_self)
    have h2 : i ∉ vs := fun m => h (List.mem_cons_of_mem _ m)
    unfold wipeE
    rw [set_get_ne h1, wipeE_out h2]
theorem free_at {own : List Nat} {env : Env} (h : free_ own env = true) {i : Nat} (hi : i ∈ own) {b : Bool} {xs : List D} (e : env[i]? = some (Sl.ow b xs)) : False := by
  have := List.all_eq_true.mp h i hi
  rw [e] at this
  simp [isOw] at this
section
variable {g : Gc} {φ : Fc} {F F' : Hp} {σ σ' : L2.St} {H H' : Hp} {env e : Env} {own : List Nat}
def fcE (σ : L2.St) (env : Env) (H F : Hp) : Fc := ⟨ioE σ env, H, F⟩
theorem enterE_at {i : Nat} {s : Sl} (h : (enterE own env)[i]? = some s) : (s = .un) ∨ (i ∉ own ∧ ∃ t, env[i]? = some t ∧ s = t.mark) := by
  unfold enterE at h
  rw [List.getElem?_map, Option.map_eq_some_iff] at h
  obtain ⟨t, h1, h2⟩ := h
  rcases wipeE_at h1 with ⟨h3, h4⟩ | ⟨h3, h4⟩
  · subst h3
    exact .inl h2.symm
  · exact .inr ⟨h3, t, h4, h2.symm⟩
theorem Rel.enter (r : Rel g φ F σ H env) (hf : free_ own env = true) : Rel g (fcE σ env H F) F (L2.wipe σ own) H (enterE own env) := by
  have wo : ∀ {i : Nat}, i ∉ own → (L2.wipe σ own)[i]? = σ[i]? := fun h => L2.wipe_out h
  refine ⟨r.ex, Same.refl _, fun b o e => .inl e, fun b o e _ => e, by unfold enterE; rw [List.length_map, wipeE_length, L2.wipe_length]; exact r.len, fun i d e => ?_, fun i b xs e => ?_, fun i j b c xs ys a e1 e2 e3 e4 => ?_, fun p hp => ?_⟩
  · rcases enterE_at e with h | ⟨h, t, h1, h2⟩
    · cases h
    · cases t with
      | va d' =>
        cases h2
        obtain ⟨v, q1, q2⟩ := r.va i d h1
        exact ⟨v, by rw [wo h]; exact q1, q2⟩
      | un => cases h2
      | ow b xs => cases h2
  · rcases enterE_at e with h | ⟨h, t, h1, h2⟩
    · cases h
    · cases t with
      | va d' => cases h2
      | un => cases h2
      | ow b' xs' =>
        cases h2
        obtain ⟨a, vs, q1, q2, q3, q4, q5⟩ := r.ow i b' xs h1
        exact ⟨a, vs, by rw [wo h]; exact q1, q2, q3, q4, (fun z => by cases z), fun _ => (mem_ioE (p := (i, a))).mpr ⟨q1, b', xs, h1⟩⟩
  · rcases enterE_at e1 with h | ⟨h, t, h1, h2⟩
    · cases h
    · rcases enterE_at e2 with h' | ⟨h', t', h1', h2'⟩
      · cases h'
      · cases t with
        | va d' => cases h2
        | un => cases h2
        | ow b1 xs1 =>
          cases t' with
          | va d' => cases h2'
          | un => cases h2'
          | ow b2 xs2 =>
            rw [wo h] at e3
            rw [wo h'] at e4
            exact r.dj i j b1 b2 xs1 xs2 a h1 h1' e3 e4
  · obtain ⟨h1, b, xs, h2⟩ := mem_ioE.mp (show p ∈ ioE σ env from hp)
    have hn : p.1 ∉ own := fun z => free_at hf z h2
    refine ⟨by rw [wo hn]; exact h1, xs, ?_⟩
    unfold enterE
    rw [List.getElem?_map, wipeE_out hn, h2]
    all_goals rfl
theorem backE_at {i : Nat} {s : Sl} (h : (backE env e)[i]? = some s) : ∃ s0 s1, env[i]? = some s0 ∧ e[i]? = some s1 ∧ s = s0.back s1 := by
  unfold backE at h
  rw [List.getElem?_zipWith] at h
  cases h1 : env[i]? with
  | none => simp [h1] at h
  | some s0 =>
    cases h2 : e[i]? with
    | none => simp [h1, h2] at h
    | some s1 =>
      simp [h1, h2] at h
      exact ⟨s0, s1, rfl, rfl, h.symm⟩
theorem wipe_same {i : Nat} (h : L2.wipe σ' own = L2.wipe σ own) (hi : i ∉ own) : σ'[i]? = σ[i]? := by
  rw [← L2.wipe_out hi, h, L2.wipe_out hi]
theorem Rel.exit (r : Rel g φ F σ H env) (hf : free_ own env = true) (q : Rel g (fcE σ env H F) F' σ' H' e) (hw : L2.wipe σ' own = L2.wipe σ own) (s : Same F F') : Rel g φ F' σ H' (backE env e) := by
  have hl : e.length = env.length := by
    have h1 := q.len
    have h2 := r.len
    have h3 := congrArg List.length hw
    rw [L2.wipe_length, L2.wipe_length] at h3
    omega
  have io : ∀ p ∈ ioE σ env, ∃ b xs, env[p.1]? = some (Sl.ow b xs) ∧ σ[p.1]? = some (some (V.ref p.2)) := fun p hp => by
    obtain ⟨h1, b, xs, h2⟩ := mem_ioE.mp hp
    exact ⟨b, xs, h2, h1⟩
  -- a list of one's own ahead is one behind
  have own_ : ∀ (i : Nat) (b : Bool) (xs : List D), env[i]? = some (Sl.ow b xs) → ∃ a ys, σ[i]? = some (some (V.ref a)) ∧ e[i]? = some (Sl.ow true ys) := fun i b xs h => by
    obtain ⟨a, vs, q1, _⟩ := r.ow i b xs h
    obtain ⟨_, ys, q2⟩ := q.ioh (i, a) (mem_ioE.mpr ⟨q1, b, xs, h⟩)
    exact ⟨a, ys, q1, q2⟩
  refine ⟨q.ex, r.ex0.trans s, fun b o h => ?_, fun b o h hb => ?_, by unfold backE; rw [List.length_zipWith, hl, Nat.min_self]; exact r.len, fun i d h => ?_, fun i b xs h => ?_, fun i j b c xs ys a e1 e2 e3 e4 => ?_, fun p hp => ?_⟩
  · rcases q.new b o h with h1 | h1
    · exact r.new b o h1
    · exact .inr (r.h0 h1)
  · refine q.fr b o (r.fr b o h hb) fun p hp z => ?_
    obtain ⟨b', xs, h1, h2⟩ := io p hp
    obtain ⟨a, us, m1, m2, m3, m4, m5, m6⟩ := r.ow p.1 b' xs h1
    rw [h2] at m1
    cases m1
    cases b' with
    | false =>
      rw [← z, m5 rfl] at h
      cases h
    | true => exact hb _ (m6 rfl) z
  · obtain ⟨s0, s1, h1, h2, h3⟩ := backE_at h
    cases s0 with
    | va d' =>
      cases h3
      obtain ⟨v, q1, q2⟩ := r.va i d h1
      exact ⟨v, q1, q2.mono s⟩
    | un => cases h3
    | ow b xs =>
      obtain ⟨a, ys, _, q2⟩ := own_ i b xs h1
      rw [q2] at h2
      cases h2
      cases h3
  · obtain ⟨s0, s1, h1, h2, h3⟩ := backE_at h
    cases s0 with
    | va d' => cases h3
    | un => cases h3
    | ow b' xs' =>
      obtain ⟨a, ys, q1, q2⟩ := own_ i b' xs' h1
      rw [q2] at h2
      cases h2
      cases h3
      have hi : i ∉ own := fun z => free_at hf z h1
      obtain ⟨a', vs, m1, m2, m3, m4, m5, m6⟩ := r.ow i b xs' h1
      rw [q1] at m1
      cases m1
      obtain ⟨a', us, n1, n2, n3, n4, _⟩ := q.ow i true xs q2
      rw [wipe_same hw hi, q1] at n1
      cases n1
      exact ⟨a, us, q1, n2, n3, n4, m5, m6⟩
  · have old : ∀ (i : Nat) (b : Bool) (xs : List D), (backE env e)[i]? = some (Sl.ow b xs) → ∃ (b' : Bool) (xs' : List D), env[i]? = some (Sl.ow b' xs') := fun i b xs h => by
      obtain ⟨s0, s1, h1, h2, h3⟩ := backE_at h
      cases s0 with
      | va d' => cases h3
      | un => cases h3
      | ow b' xs' => exact ⟨b', xs', h1⟩
    obtain ⟨b1, xs1, h1⟩ := old i b xs e1
    obtain ⟨b2, xs2, h2⟩ := old j c ys e2
    exact r.dj i j b1 b2 xs1 xs2 a h1 h2 e3 e4
  · obtain ⟨h1, xs, h2⟩ := r.ioh p hp
    refine ⟨h1, ?_⟩
    obtain ⟨a, ys, q1, q2⟩ := own_ p.1 true xs h2
    refine ⟨ys, ?_⟩
    unfold backE
    rw [List.getElem?_zipWith, h2, q2]
    all_goals rfl
end
/-- what goes on only where nothing is raised -/
def Re.nx {α β : Type} (r : Re α) (k : α → Env → Re β) : Re β := match r with
  | .ok a e => k a e
  | _ => .no
def lcF (own : List Nat) (tg : MG) (ts : MT) (elt : ME) : List D → Env → Re (List D)
  | [], env => .ok [] env
  | d :: ds, env => if free_ own env = true then
      match tg d (enterE own env) with
      | none => .no
      | some e1 => (ts e1).nx fun b e2 => if b = true then (elt e2).nx fun x e3 => (lcF own tg ts elt ds (backE env e3)).nx fun xs e4 => .ok (x :: xs) e4 else lcF own tg ts elt ds (backE env e2)
    else .no
def lLc (own : List Nat) (mi : ML) (tg : MG) (ts : MT) (elt : ME) : ML := fun env => (mi env).bind fun ds e => if ds.length ≤ line then lcF own tg ts elt ds e else .no
def tYesF : MT := fun e => .ok true e
/-- a clause's tests -/
def STs (g : Gc) (W : WX) (φ : Fc) (X : Cx) (es : List Expr) (m : MT) : Prop := ∀ F σ H env Q, Rel g φ F σ H env → PoT g W φ F σ Q (m env) → ∃ t, PTs X es t ∧ t σ H Q
def W0 : WX := fun _ _ _ _ => False
section
variable {g : Gc} {W : WX} {φ : Fc} {X : Cx} {k : Nat} {F F' H : Hp} {σ : L2.St}
theorem sts_nil : STs g W φ X [] tYesF := fun F σ H env Q hr hp => ⟨_, pts_nil, hp _ _ (Same.refl _) hr⟩
theorem sts_one {c : Expr} {m : MT} (h : ST g W φ X c m) : STs g W φ X [c] m := fun F σ H env Q hr hp => ⟨_, pts_one w_pt, h F σ H env Q hr hp⟩
/-- the context of a comprehension's block -/
theorem Cok.blk (c : Cok g X W k) (s : Shared) (H : Hp) (scope : Scope) (cenv : PySem.Env) (fp : List Addr) : Cok g (X.blk s H scope cenv fp) W0 k := ⟨c.K, c.calm, c.nd, takes0, c.rm, PassesOwn.never⟩
theorem lcF_exc {own : List Nat} {tg : MG} {ts : MT} {elt : ME} {c : Str} {v : D} {e : Env} : ∀ (ds : List D) (env : Env), lcF own tg ts elt ds env ≠ .exc c v e
  | [], env => by simp [lcF]
  | d :: ds, env => by
    unfold lcF
    split
    · split
      · simp
      · rename_i e1 _
        cases ts e1 with
        | ok b e2 =>
          simp only [Re.nx]
          split
          · cases elt e2 with
            | ok x e3 =>
              simp only
              cases lcF own tg ts elt ds (backE env e3) <;> simp
            | _ => simp
          · exact lcF_exc ds _
        | _ => simp [Re.nx]
    · simp
theorem wipe_eq {vs ws : List Nat} {σ σ' : L2.St} (hw : ∀ i ∈ ws, i ∈ vs) (o : Off ws (L2.wipe σ vs) σ') : L2.wipe σ' vs = L2.wipe σ vs := by
  apply List.ext_getElem?
  intro i
  by_cases hi : i ∈ vs
  · have z : ∀ (τ : L2.St) (us : List Nat), i ∈ us → (L2.wipe τ us)[i]? = if i < τ.length then some none else none := fun τ us => by
      induction us with
      | nil => intro h; cases h
      | cons u us ih =>
        intro h
        show ((L2.wipe τ us).set u none)[i]? = _
        rw [List.getElem?_set, L2.wipe_length]
        by_cases hu : u = i
        · rw [if_pos hu, hu]
        · rw [if_neg hu]
          exact ih (by
            rcases List.mem_cons.mp h with q | q
            · exact absurd q.symm hu
            · exact q)
    rw [z σ' vs hi, z σ vs hi, o.1, L2.wipe_length]
  · rw [L2.wipe_out hi, o.2 i fun q => hi (hw i q)]
theorem il {r : Re (List D)} {k : List D → Env → Re (List D)} {Q : VK} {Q1 : It → Hp → Prop} (hp : PoL g W φ F σ Q (r.bind k))
    (h : ∀ ds e1 J H1 F1, Same F F1 → Rel g φ F1 σ H1 e1 → Walks g J F1 ds → PoL g W φ F1 σ Q (k ds e1) → Q1 J H1) : PoI g W φ F σ Q1 r := by
  cases r with
  | ok x e1 => exact fun v H1 F1 a b c => h x e1 v H1 F1 a b c (hp.mono a)
  | exc c v e' => exact hp
  | no => exact hp
theorem sl_lc_ {ws : List Nat} {elt tg iter : Expr} {ifs : List Expr} {scope : Scope} {own : List (Str × Nat)} {mi : ML} {mg : MG} {mt : MT} {me : ME} (c : Cok g X W k) (hi : SI g W φ X tg iter mi) (ok : BlkOk X.N X.env.scope scope own)
    (hg : ∀ (s : Shared) (H : Hp) (C : Addr) (cl : List (Str × Addr)) (fp : List Addr) (φ : Fc), SG g φ (X.blk s H scope (compEnvC scope cl C X.env) fp) ws tg mg) (hws : ∀ i ∈ ws, i ∈ own.map (·.2))
    (ht : ∀ (s : Shared) (H : Hp) (C : Addr) (cl : List (Str × Addr)) (fp : List Addr) (φ : Fc), STs g W0 φ (X.blk s H scope (compEnvC scope cl C X.env) fp) ifs mt)
    (he : ∀ (s : Shared) (H : Hp) (C : Addr) (cl : List (Str × Addr)) (fp : List Addr) (φ : Fc), SE g W0 φ (X.blk s H scope (compEnvC scope cl C X.env) fp) elt me)
    (hs : ∀ x, foldedSetIterable iter X.env x = pure x := by intro _; rfl) :
    ∀ F σ H env Q, Rel g φ F σ H env → PoL g W φ F σ Q (lLc (own.map (·.2)) mi mg mt me env) →
      ∃ t, PI X tg iter (wIt X tg iter) ∧ (∃ gg tt te, (∀ (s : Shared) (H : Hp) (C : Addr) (cl : List (Str × Addr)) (fp : List Addr), PG (X.blk s H scope (compEnvC scope cl C X.env) fp) tg gg) ∧
        (∀ (s : Shared) (H : Hp) (C : Addr) (cl : List (Str × Addr)) (fp : List Addr), PTs (X.blk s H scope (compEnvC scope cl C X.env) fp) ifs tt) ∧
        (∀ (s : Shared) (H : Hp) (C : Addr) (cl : List (Str × Addr)) (fp : List Addr), PE (X.blk s H scope (compEnvC scope cl C X.env) fp) elt te) ∧ t = tLc (wIt X tg iter) gg tt te (own.map (·.2))) ∧ t σ H Q := by
  intro F σ H env Q hr hp
  refine ⟨_, w_pi, ⟨fun v σ H Q => ∀ (s : Shared) (H' : Hp) (C : Addr) (cl : List (Str × Addr)) (fp : List Addr), wG (X.blk s H' scope (compEnvC scope cl C X.env) fp) tg v σ H Q,
    fun σ H Q => ∀ (s : Shared) (H' : Hp) (C : Addr) (cl : List (Str × Addr)) (fp : List Addr), ∃ t, PTs (X.blk s H' scope (compEnvC scope cl C X.env) fp) ifs t ∧ t σ H Q,
    fun σ H Q => ∀ (s : Shared) (H' : Hp) (C : Addr) (cl : List (Str × Addr)) (fp : List Addr), wE (X.blk s H' scope (compEnvC scope cl C X.env) fp) elt σ H Q,
    fun s H C cl fp => ⟨fun pins s1 σ H1 v u Q I r h => w_pg.run pins s1 σ H1 v u Q I r (h s H C cl fp)⟩,
    fun s H C cl fp => ⟨fun pins s1 σ H1 Q I h => by obtain ⟨t, h1, h2⟩ := h s H C cl fp; exact h1.run pins s1 σ H1 Q I h2⟩,
    fun s H C cl fp => ⟨fun pins s1 σ H1 Q I h => w_pe.run pins s1 σ H1 Q I (h s H C cl fp)⟩, rfl⟩, ?_⟩
  refine hi F σ H env _ hr (il hp fun ds e1 J H1 F1 s1 r1 w1 hp1 => ?_)
  generalize own.map (·.2) = vs at hp1 hws ⊢
  by_cases hz : ds.length ≤ line
  · rw [if_pos hz] at hp1
    intro p hp0
    -- what is wished of the rest, once acc is made
    let Rest : Hp → Nat → Env → List D → Prop := fun F2 i env2 acc =>
      PoL g W φ F2 σ Q ((lcF vs mg mt me (ds.drop i) env2).nx fun xs e => .ok (acc ++ xs) e)
    refine ⟨fun i m H2 => ∃ F2 env2 acc accd, Same F1 F2 ∧ Rel g φ F2 σ H2 env2 ∧ H2 p = some (.lst acc) ∧ F2 p = none ∧ φ.H0 p = none ∧ NotOwn σ env2 p ∧ Reps g F2 acc accd ∧ Rest F2 i env2 accd ∧ accd.length ≤ i ∧ m = ds.length - i,
      ⟨ds.length, F1, e1, [], [], Same.refl _, r1.loose hp0, upd_same, r1.ex.free hp0, r1.h0 hp0, r1.freshOwn hp0, .nil, ?_, Nat.le_refl _, rfl⟩, ?_⟩
    · show PoL g W φ F1 σ Q ((lcF vs mg mt me ds e1).nx fun xs e => .ok ([] ++ xs) e)
      cases hq : lcF vs mg mt me ds e1 with
      | ok xs e => rw [hq] at hp1; exact hp1
      | exc c v e => exact absurd hq (lcF_exc _ _)
      | no => rw [hq] at hp1; exact hp1
    rintro i m H2 ⟨F2, env2, acc, accd, s2, r2, hpa, hpF, hp00, hpo, ra, rest, hlen, rfl⟩
    obtain ⟨wgo, wstop⟩ := w1 φ F2 σ H2 env2 i s2 r2
    by_cases hl : i < ds.length
    · have ed : ds.drop i = ds[i] :: ds.drop (i + 1) := List.drop_eq_getElem_cons hl
      have rest' : PoL g W φ F2 σ Q ((lcF vs mg mt me (ds[i] :: ds.drop (i + 1)) env2).nx fun xs e => .ok (accd ++ xs) e) := by
        have := rest
        simp only [Rest] at this
        rw [ed] at this
        exact this
      obtain ⟨go, yl⟩ := wgo ds[i] (List.getElem?_eq_getElem hl)
      refine .inr ⟨go, fun H' => ∃ F3 env3 acc accd, Same F1 F3 ∧ Rel g φ F3 σ H' env3 ∧ H' p = some (.lst acc) ∧ F3 p = none ∧ φ.H0 p = none ∧ NotOwn σ env3 p ∧ Reps g F3 acc accd ∧ Rest F3 (i + 1) env3 accd ∧ accd.length ≤ i + 1,
        fun H' ⟨F3, env3, acc, accd, a1, a2, a3, a4, a5, a6, a7, a8, a9⟩ => ⟨_, by omega, F3, env3, acc, accd, a1, a2, a3, a4, a5, a6, a7, a8, a9, rfl⟩, fun x H' hy => ?_⟩
      obtain ⟨F3, s3, sH, nw, r3, p3⟩ := yl x H' hy
      -- the new list stands through the iterator's step
      have hpa' : H' p = some (.lst acc) := sH _ _ hpa
      have hpF' : F3 p = none := by
        cases ef : F3 p with
        | none => rfl
        | some o =>
          rcases nw p o ef with h | h
          · rw [hpF] at h; cases h
          · rw [hpa] at h; cases h
      unfold lcF at rest'
      by_cases hf : free_ vs env2 = true
      · rw [if_pos hf] at rest'
        have r4 := r3.enter hf
        cases et : mg ds[i] (enterE vs env2) with
        | none => rw [et] at rest'; exact rest'.elim
        | some e1' =>
          rw [et] at rest'
          simp only at rest'
          intro s5 H5 C5 cl5 fp5
          refine hg s5 H5 C5 cl5 fp5 (fcE σ env2 H' F3) F3 _ H' _ x ds[i] e1' _ r4 p3 et fun σ4 o4 r5 => ?_
          have hw := wipe_eq hws o4
          refine ⟨hw, ?_⟩
          intro s6 H6 C6 cl6 fp6
          cases em : mt e1' with
          | exc c v e => rw [em] at rest'; exact rest'.elim
          | no => rw [em] at rest'; exact rest'.elim
          | ok b e2 =>
            rw [em] at rest'
            simp only [Re.nx] at rest'
            refine ht s6 H6 C6 cl6 fp6 (fcE σ env2 H' F3) F3 σ4 H' e1' _ r5 ?_
            rw [em]
            intro H7 F7 s7 r7
            -- back in the def
            have back : ∀ {H8 F8 : Hp} {e8 : Env}, Same F7 F8 → Rel g (fcE σ env2 H' F3) F8 σ4 H8 e8 → Rel g φ F8 σ H8 (backE env2 e8) ∧ H8 p = some (.lst acc) ∧ F8 p = none ∧ NotOwn σ (backE env2 e8) p := fun {H8 F8 e8} s8 r8 => by
              refine ⟨r3.exit hf r8 hw (s7.trans s8), ?_, ?_, ?_⟩
              · refine r8.fr p _ hpa' fun q hq z => ?_
                obtain ⟨h1, b', xs', h2⟩ := mem_ioE.mp (show q ∈ ioE σ env2 from hq)
                exact hpo q.1 b' xs' q.2 h2 h1 z
              · cases ef : F8 p with
                | none => rfl
                | some o =>
                  rcases r8.new p o ef with h | h
                  · have h' : F3 p = some o := h
                    rw [hpF'] at h'; cases h'
                  · have h' : H' p = none := h
                    rw [hpa'] at h'; cases h'
              · intro j b' xs' a h1 h2
                obtain ⟨s0, s1, k1, k2, k3⟩ := backE_at h1
                cases s0 with
                | va d' => cases k3
                | un => cases k3
                | ow b0 xs0 => exact hpo j b0 xs0 a k1 h2
            cases b with
            | false =>
              refine iteF ?_
              simp only [Bool.false_eq_true, if_false] at rest'
              obtain ⟨q1, q2, q3, q4⟩ := back (Same.refl _) r7
              exact ⟨F7, _, acc, accd, s2.trans (s3.trans s7), q1, q2, q3, hp00, q4, ra.mono (s3.trans s7), PoL.mono (s3.trans s7) rest', by omega⟩
            | true =>
              refine iteT ?_
              simp only [if_true] at rest'
              intro s9 H9 C9 cl9 fp9
              cases ee' : me e2 with
              | exc c v e => rw [ee'] at rest'; exact rest'.elim
              | no => rw [ee'] at rest'; exact rest'.elim
              | ok xd e3 =>
                rw [ee'] at rest'
                simp only at rest'
                refine he s9 H9 C9 cl9 fp9 (fcE σ env2 H' F3) F7 σ4 H7 e2 _ r7 ?_
                rw [ee']
                intro y H8 F8 s8 r8 py
                obtain ⟨q1, q2, q3, q4⟩ := back s8 r8
                have ra' := ra.mono (s3.trans (s7.trans s8))
                have hal := ra.len
                refine ⟨acc, q2, by rw [← line_eq]; omega, F8, _, acc ++ [y], accd ++ [xd], s2.trans (s3.trans (s7.trans s8)), q1.mut q3 hp00 q4, upd_same, q3, hp00, q4, ra'.append (.cons py .nil), ?_, by simp; omega⟩
                refine PoL.mono (s3.trans (s7.trans s8)) ?_
                show PoL g W φ F2 σ Q ((lcF vs mg mt me (ds.drop (i + 1)) (backE env2 e3)).nx fun xs e => .ok ((accd ++ [xd]) ++ xs) e)
                cases el : lcF vs mg mt me (ds.drop (i + 1)) (backE env2 e3) with
                | ok xs e4 =>
                  rw [el] at rest'
                  simp only [Re.nx, List.append_assoc, List.singleton_append]
                  exact rest'
                | exc c v e => exact absurd el (lcF_exc _ _)
                | no => rw [el] at rest'; exact rest'
      · rw [if_neg hf] at rest'
        exact rest'.elim
    · have ed : ds.drop i = [] := List.drop_eq_nil_of_le (by omega)
      have rest' : PoL g W φ F2 σ Q (.ok (accd ++ []) env2) := by
        have := rest
        simp only [Rest] at this
        rw [ed] at this
        exact this
      rw [List.append_nil] at rest'
      exact .inl ⟨wstop (by omega), rest' p acc H2 F2 (Same.refl _) r2 hpa hpF hp00 hpo ra⟩
  · rw [if_neg hz] at hp1
    exact hp1.elim
theorem sl_lc {ws : List Nat} {elt tg iter : Expr} {ifs : List Expr} {scope : Scope} {own : List (Str × Nat)} {pos : Pos} {mi : ML} {mg : MG} {mt : MT} {me : ME} (c : Cok g X W k) (hi : SI g W φ X tg iter mi) (ok : BlkOk X.N X.env.scope scope own)
    (hg : ∀ (s : Shared) (H : Hp) (C : Addr) (cl : List (Str × Addr)) (fp : List Addr) (φ : Fc), SG g φ (X.blk s H scope (compEnvC scope cl C X.env) fp) ws tg mg) (hws : ∀ i ∈ ws, i ∈ own.map (·.2))
    (ht : ∀ (s : Shared) (H : Hp) (C : Addr) (cl : List (Str × Addr)) (fp : List Addr) (φ : Fc), STs g W0 φ (X.blk s H scope (compEnvC scope cl C X.env) fp) ifs mt)
    (he : ∀ (s : Shared) (H : Hp) (C : Addr) (cl : List (Str × Addr)) (fp : List Addr) (φ : Fc), SE g W0 φ (X.blk s H scope (compEnvC scope cl C X.env) fp) elt me)
    (hs : ∀ x, foldedSetIterable iter X.env x = pure x := by intro _; rfl) : SL g W φ X (.ListComp elt [⟨tg, iter, ifs, 0⟩] scope pos) (lLc (own.map (·.2)) mi mg mt me) := by
  intro F σ H env Q hr hp
  obtain ⟨t, h1, ⟨gg, tt, te, h2, h3, h4, rfl⟩, h5⟩ := sl_lc_ c hi ok hg hws ht he hs F σ H env Q hr hp
  exact ⟨_, pe_lc c.calm c.nd h1 ok h2 h3 h4 hs, h5⟩
/-- y = [..] on one line -/
theorem ss_setLc {i : Nat} {y : Str} {py : Pos} {ws : List Nat} {elt tg iter : Expr} {ifs : List Expr} {scope : Scope} {own : List (Str × Nat)} {pos spos : Pos} {mi : ML} {mg : MG} {mt : MT} {me : ME} (c : Cok g X W k) (hi : SI g W φ X tg iter mi) (ok : BlkOk X.N X.env.scope scope own)
    (hg : ∀ (s : Shared) (H : Hp) (C : Addr) (cl : List (Str × Addr)) (fp : List Addr) (φ : Fc), SG g φ (X.blk s H scope (compEnvC scope cl C X.env) fp) ws tg mg) (hws : ∀ i ∈ ws, i ∈ own.map (·.2))
    (ht : ∀ (s : Shared) (H : Hp) (C : Addr) (cl : List (Str × Addr)) (fp : List Addr) (φ : Fc), STs g W0 φ (X.blk s H scope (compEnvC scope cl C X.env) fp) ifs mt)
    (he : ∀ (s : Shared) (H : Hp) (C : Addr) (cl : List (Str × Addr)) (fp : List Addr) (φ : Fc), SE g W0 φ (X.blk s H scope (compEnvC scope cl C X.env) fp) elt me)
    (hy : X.N[i]? = some y := by rfl) (hyl : X.env.scope.names.lookup y = some .local := by rfl) (hsw : swapsWith (.ListComp elt [⟨tg, iter, ifs, 0⟩] scope pos) (some (.Name y py)) spos.line X.env = pure true := by exact sw_true rfl rfl rfl (by decide +kernel))
    (hs : ∀ x, foldedSetIterable iter X.env x = pure x := by intro _; rfl) : SS g W φ X (.Assign [.Name y py] (.ListComp elt [⟨tg, iter, ifs, 0⟩] scope pos) spos) (mSet i (mL (lLc (own.map (·.2)) mi mg mt me))) := by
  intro F σ H env En hr hp
  have hp' : PoL g W φ F σ (fun x H1 => gName i x σ H1 En.nx) (lLc (own.map (·.2)) mi mg mt me env) := by
    unfold mSet mL at hp
    cases e1 : lLc (own.map (·.2)) mi mg mt me env with
    | exc c v e' => rw [e1] at hp; exact hp
    | no => rw [e1] at hp; exact hp
    | ok xs e' =>
      rw [e1] at hp
      intro p vs H' F' s1 r1 h1 h2 h3 h4 h5
      obtain ⟨s2, r2⟩ := r1.settle h1 h2 h3 h4
      have hp2 : PoS g W φ F En (match putG i (.lst xs) e' with | some e1 => .nx e1 | none => .no) := hp
      cases e2 : putG i (.lst xs) e' with
      | none => rw [e2] at hp2; exact hp2.elim
      | some e3 =>
        rw [e2] at hp2
        obtain ⟨s, q1, q2, rfl⟩ := putG_ok e2
        exact hp2 _ _ _ (s1.trans s2) (r2.setVa q1 q2 (.mkLst upd_same (h5.mono s2)))
  obtain ⟨t, h1, ⟨gg, tt, te, h2, h3, h4, rfl⟩, h5⟩ := sl_lc_ c hi ok hg hws ht he hs F σ H env _ hr hp'
  exact ⟨_, ps_setLc c.calm c.nd hy hyl hsw h1 ok h2 h3 h4 hs, h5⟩
end
end Mp
set_option Elab.async false
set_option linter.all false
set_option maxRecDepth 100000
namespace Mp
open PySem PySem.Spec PyProof.Rows L2

/-! ## names for what the generator prints -/
def vOf (m : ME) : MV := fun env => (m env).bind fun d e1 => .ok (.va d) e1
def mNotV (m : ME) : ME := fun env => ((m env).bind asB).bind fun b e => .ok (.bl (!b)) e
def mTest (m : ME) : MT := fun env => (m env).bind asB
def mNext : MS := fun e => .nx e
def mBreak : MS := fun e => .br e
def mCont : MS := fun e => .ct e
def mDrop (m : ME) : MS := fun env => (m env).flow fun _ e1 => .nx e1
def mRet (m : ME) : MS := fun env => (m env).flow fun d e1 => .rt d e1
def mRetN : MS := fun e => .rt .non e
def negF : D → Option D
  | .int i => some (.int (-i))
  | _ => none
/-- a cut of a list or a tuple -/
def cutF (lo hi : Option Int) : D → Option D
  | .tup xs => some (.tup ((xs.drop (HT.sIx xs.length 0 lo)).take (HT.sIx xs.length xs.length hi - HT.sIx xs.length 0 lo)))
  | .lst xs => some (.lst ((xs.drop (HT.sIx xs.length 0 lo)).take (HT.sIx xs.length xs.length hi - HT.sIx xs.length 0 lo)))
  | .rol xs => some (.lst ((xs.drop (HT.sIx xs.length 0 lo)).take (HT.sIx xs.length xs.length hi - HT.sIx xs.length 0 lo)))
  | _ => none
def mCut (ma : MV) (ml mh : MO) : ME := fun env => (ma env).bind fun x e1 => (ml e1).bind fun lo e2 => (mh e2).bind fun hi e3 => use1 (cutF lo hi) x e3
section
variable {g : Gc} {W : WX} {φ : Fc} {X : Cx} {k : Nat}
theorem sv_of {e : Expr} {m : ME} (h : SE g W φ X e m) : SV g W φ X e (vOf m) := SV.of h
theorem se_neg {a : Expr} {m : MV} {pos : Pos} (h : SV g W φ X a m) : SE g W φ X (.UnaryOp .USub a pos) (mUn negF m) := by
  intro F σ H env Q hr hp
  refine ⟨_, pe_un un_neg w_pe, ?_⟩
  refine h F σ H env _ hr (ve hp fun x e1 v H1 F1 s1 r1 p1 hp1 => ?_)
  obtain ⟨d, z, g1, hf, hp2⟩ := use1_ok hp1
  have q := p1.get r1 g1
  cases d <;> simp only [negF, reduceCtorEq, Option.some.injEq] at hf
  subst hf
  rw [q.int]
  exact ⟨_, rfl, hp2 _ _ _ (Same.refl _) r1 (.int _)⟩
theorem se_cut {a : Expr} {lo hi : Option Expr} {ma : MV} {ml mh : MO} {p2 pos : Pos} (hK : X.K = g.K) (ha : SV g W φ X a ma) (hl : SO g W φ X lo ml) (hh : SO g W φ X hi mh) : SE g W φ X (.Subscript a (.Slice lo hi none p2) pos) (mCut ma ml mh) := by
  intro F σ H env Q hr hp
  refine ⟨_, pe_slice (SlR.or L2.sl_list sl_tupA) w_pe w_po w_po, ?_⟩
  refine ha F σ H env _ hr (ve hp fun x e1 v H1 F1 s1 r1 p1 hp1 => hl F1 σ H1 e1 _ r1 (oe hp1 fun l e2 H2 F2 s2 r2 hp2 => hh F2 σ H2 e2 _ r2 (oe hp2 fun h e3 H3 F3 s3 r3 hp3 => ?_)))
  obtain ⟨d, z, g1, hf, hp4⟩ := use1_ok hp3
  have q := ((p1.mono s2).mono s3).get r3 g1
  cases d <;> simp only [cutF, reduceCtorEq, Option.some.injEq] at hf
  case tup xs =>
    subst hf
    have q0 := q.tupR
    obtain ⟨b, vs, rfl, h1, h2⟩ := q.tup r3.ex
    refine .inr ⟨b, vs, rfl, hK ▸ h1, fun hw => ?_, fun hw p hn => ?_⟩
    · rw [h2.len] at hw
      have e : ∀ {n : Nat} {ys : List D}, n = ys.length → List.take (n - 0) (List.drop 0 ys) = ys := fun {n ys} e => by
        rw [e, Nat.sub_zero, List.drop_zero, List.take_length]
      rw [hw.1, hw.2, e rfl] at hp4
      exact hp4 _ _ _ (Same.refl _) r3 q0
    · obtain ⟨s4, r4⟩ := r3.laid (o := .tup (cutV vs l h)) hn
      refine hp4 _ _ _ s4 r4 (.mkTup upd_same (Reps.mono s4 ?_))
      unfold cutV
      rw [h2.len]
      exact (h2.drop _).take _
  case lst xs =>
    subst hf
    obtain ⟨b, vs, rfl, h1, h2⟩ := q.lst r3.ex
    refine .inl ⟨b, vs, rfl, SqL.of h1, fun p hn => ?_⟩
    obtain ⟨s4, r4⟩ := r3.laid (o := .lst (cutV vs l h)) hn
    refine hp4 _ _ _ s4 r4 (.mkLst upd_same (Reps.mono s4 ?_))
    unfold cutV
    rw [h2.len]
    exact (h2.drop _).take _
  case rol xs =>
    subst hf
    obtain ⟨b, vs, rfl, h1, h2⟩ := q.rol r3.ex
    refine .inl ⟨b, vs, rfl, hK ▸ h1, fun p hn => ?_⟩
    obtain ⟨s4, r4⟩ := r3.laid (o := .lst (cutV vs l h)) hn
    refine hp4 _ _ _ s4 r4 (.mkLst upd_same (Reps.mono s4 ?_))
    unfold cutV
    rw [h2.len]
    exact (h2.drop _).take _
end
/-- the def st stands under the module's name x -/
structure FnAt (g : Gc) (mg : Str → Option Value) (x qual : Str) (st : Stmt) (ps : List Str) : Prop where
  ex : ∃ (f : Addr) (fd : FuncData), Fun g.K x qual st f fd ∧ mg x = some (.ref f) ∧ Binds g.K fd ps []
section
variable {P : Program} {w : World} {mg : Str → Option Value} {base : Heap} {g : Gc} {k : Nat}
theorem has_of {x qual : Str} {st : Stmt} {N ps : List Str} {body : MS} (A : FnAt g mg x qual st ps) (S : FnScope N ps (defScope st)) (hl : ps.length ≤ N.length)
    (hbody : ∀ {f : Addr} (cdv : Value) (A : Around) (outer : List PySem.Env) (s : Shared) (H : Hp) (E : XK) (φ : Fc), Cok g (cxOf (L2.CX P w) P w g.K mg base N qual (defScope st) f cdv A outer s H E) (fun cls d _ H => E cls d H) k →
      SB g (fun cls d _ H => E cls d H) φ (cxOf (L2.CX P w) P w g.K mg base N qual (defScope st) f cdv A outer s H E) (defBody st) body) :
    Has P w mg base g (k + 1) x (fnOf ps.length N.length body) := by
  obtain ⟨f, fd, Fu, hm, hb⟩ := A.ex
  exact ⟨f, fd, ps, def_ok Fu S hl (hbody (f := f)), hm, Fu.kp, hb⟩
theorem has_no {x qual : Str} {st : Stmt} {ps : List Str} (A : FnAt g mg x qual st ps) : Has P w mg base g k x (fun _ => .no) := by
  obtain ⟨f, fd, Fu, hm, hb⟩ := A.ex
  exact ⟨f, fd, ps, ⟨fun vs H Q E h => by obtain ⟨F, args, r, h⟩ := h; exact h.elim, fun A outer s H args us vs Q E hr he hb hv h => by obtain ⟨F, args, r, h⟩ := h; exact h.elim⟩, hm, Fu.kp, hb⟩
end
end Mp
set_option Elab.async false
set_option linter.all false
set_option maxRecDepth 100000
set_option maxHeartbeats 4000000
/-! exceptions of the program's own, over Exception: made by their own __init__, raised, caught, read -/
namespace Mp
open PySem PySem.Spec PyProof.Rows L2

abbrev exT : List Value := [.type "Exception", .type "BaseException", .type "object"]
/-- what the written part says of such a class -/
structure ExC (K : PySem.W.Frag) (C : Addr) (fld : Str) : Prop where
  md : PySem.W.excInitIn K C exT "Exception.__new__" = true
  ov : PySem.W.excOver K C exT = true
  hd : PySem.W.hasDictIn K C = true
  tk : PySem.W.takerIn K C fld = some none
  sa : PySem.W.findIn K (.ref C) "__setattr__" = some (some (.builtin "object.__setattr__"))
  ga : PySem.W.findIn K (.ref C) "__getattribute__" = some (some (.builtin "BaseException.__getattribute__"))
  gg : PySem.W.findIn K (.ref C) "__getattr__" = some none
  no : PySem.W.findIn K (.ref C) fld = some none
  ex : PySem.W.subIn K (.ref C) (.type "BaseException") = some true
  ty : PySem.W.typeIn K (.ref C) = some (.type "type")
  kp : PySem.W.keepIn K (.ref C) = true
section
variable {X : Cx} {pins : List (Addr × Obj)} {σ : L2.St} {H : Hp} {s : Shared} {a C dx : Addr} {f : Str} {y : V} {u : Value} {Q : Unit → Shared → Prop} {E : Value → Shared → Prop} {A : Around}
/-- the store's own part, at library level -/
theorem lay_field {prog : Program} {w : World} {R : Result → Shared → Prop} {hp : Heap} {g : Array GenState} {d : Drawn} {t : Nat} {os : OsState} {K : PySem.W.Frag} {tk : Tok} {v : Value} {fv : Array Value} (Z : ExC K C f) (KI : K.In hp)
    (hx : hp.get? a = some { cls := .ref C, data := .fields fv })
    (fin : ∀ h' tk' dx, (∀ b o, b ≠ a → hp.get? b = some o → h'.get? b = some o) → hp.objs.size ≤ dx → dx ≠ a → h'.get? a = some { cls := .ref C, dict := some dx, data := .fields fv } →
      h'.Ns1 dx (fun y => if y = f then some v else none) → R (.ok (.ret .none)) ⟨h', g, d, tk', os⟩) :
    codeAny (model prog w) A (.call (.builtin "object.__setattr__") ⟨[.ref a, .str f tk, v], []⟩) R ⟨hp, g, d, t, os⟩ := by
  have hlt : a ≠ hp.objs.size := Nat.ne_of_lt (Heap.lt_size hx)
  refine PySem.W.osa_openX (s := ⟨hp, g, d, t, os⟩) (od := none) PySem.F.store_Exception KI ⟨hx, rfl, rfl, trivial⟩ Z.ov Z.tk fun b => ?_
  obtain ⟨cd, hcd, hd⟩ := PySem.W.any_some Z.hd
  have lk : PySem.W.Looks (model prog w) hp (classData C) cd := PySem.W.looks_clsIn KI hcd
  obtain ⟨c1, c2, c3, c4, c5, c6, c7, c8, c9, c10, c11⟩ := cd
  simp only at hd
  subst hd
  cases b <;>
  · unfold Builtin.ObjectAttr.storeInOwnDict Builtin.ObjectAttr.ownDictForStores
    repeat (first | with_reducible refine PySem.HandSPX.store_in_new ?_ ?_ | with_reducible refine wpAny_loadPart_at hx ?_ | with_reducible refine lk.at ?_ | wp_step)
    · exact ⟨_, #[], _, (Heap.get?_update_ne _ _ _ _ hlt.symm).trans (Heap.get?_push_at rfl rfl), rfl, fun e he => absurd he (by simp), fun _ => rfl⟩
    · intro h2 tk2 ns2 sb2
      have up : (hp.push { cls := .type "dict", data := .dict #[] }).get? a = some { cls := .ref C, data := .fields fv } := Heap.get?_push_of_some _ hx
      refine fin h2 tk2 hp.objs.size (fun q o hq ho => ?_) (Nat.le_refl _) hlt.symm ?_ ns2
      · exact (sb2.2 q (Nat.ne_of_lt (Heap.lt_size ho))).trans ((Heap.get?_update_ne _ _ _ _ hq).trans (Heap.get?_push_of_some _ ho))
      · exact (sb2.2 a hlt).trans (Heap.get?_update_self _ up rfl)
/-- self.f = y on an exception that has no dict yet -/
theorem first_field (Z : ExC X.K C f) (I : Inv X pins σ H s) (e : H a = some (exo a C none)) (ry : RelV y u)
    (go : ∀ dx s', H dx = none → dx ≠ a → Inv X pins σ (upd (upd H dx (exd dx [(f, y)])) a (exo a C (some dx))) s' → Q () s') : wpAny (model X.prog X.w) A (setAttr (.ref a) f u) Q E s := by
  obtain ⟨t1, ho⟩ := exo_at I.hok e
  obtain ⟨hp, g, d, t, os⟩ := s
  refine PySem.W.set_plain I.kIn (ox := { cls := .ref C, dict := none, data := .fields #[.ref t1, .none, .none, .none, .bool false, .none] }) (od := none) ⟨ho, rfl, rfl, trivial⟩ Z.sa ?_
  refine lay_field Z I.kIn ho fun h2 tk2 dx keep dn dne hx hn => ?_
  have hnd : H dx = none := I.hok.fresh dn
  have young : ∀ {b : Addr} {o : Obj}, hp.get? b = some o → b ≠ dx := fun {b o} q => Nat.ne_of_lt (Nat.lt_of_lt_of_le (Heap.lt_size q) dn)
  have other : ∀ {b : Addr}, H b = none → b ≠ a := fun {b} n z => by
    rw [z, e] at n
    cases n
  have U : Un X.fs [] H (upd (upd H dx (exd dx [(f, y)])) a (exo a C (some dx))) hp h2 := {
    keep := fun b o q n _ _ => keep b o (other n) q
    slot := fun b o q n _ _ => ⟨o.slots, keep b o (other n) q⟩
    free := fun b o q n _ => by
      rw [upd_ne (other n), upd_ne (young q)]
      exact n
    there := fun b o q _ => by
      by_cases hb : b = a
      · exact ⟨_, by rw [hb]; exact hx⟩
      · exact ⟨o, keep b o hb q⟩
    tups := fun b xs q => by
      rw [upd_ne (at_ne e q exo_tup), upd_ne (ne_of_none q hnd)]
      exact q
    frzs := fun b o v q => by
      rw [upd_ne (at_ne e q exo_frz), upd_ne (ne_of_none q hnd)]
      exact q
    tbls := fun b ps q => ⟨#[], by rw [upd_ne (at_ne e q exo_tbl), upd_ne (ne_of_none q hnd), q]; simp⟩ }
  refine go dx _ hnd dne (I.un (t' := tk2) U fun b o q => ?_)
  by_cases hb : b = a
  · subst hb
    rw [upd_same] at q
    cases q
    exact exo_ok hx
  · rw [upd_ne hb] at q
    by_cases hd : b = dx
    · subst hd
      rw [upd_same] at q
      cases q
      exact exd_ok hn (relO_put (fs := []) ry fun _ => True.intro)
    · rw [upd_ne hd] at q
      refine (I.hok b o q).stay (fun c v hc z => keep c v ?_ z) (fun c hc => ?_) fun c xs hc => ?_
      · rcases hc with hc | hc
        · rw [hc]
          exact hb
        · exact at_ne e hc exo_own
      · rw [upd_ne (at_ne e hc exo_own), upd_ne (ne_of_none hc hnd)]
        exact hc
      · rw [upd_ne (at_ne e hc exo_tup), upd_ne (ne_of_none hc hnd)]
        exact hc
/-- Exception.__init__(self, ..) -/
theorem base_init {us : List Value} {Q : Value → Shared → Prop} (Z : ExC X.K C f) (I : Inv X pins σ H s) (e : H a = some (exo a C none)) (hl : us.length ≤ sizeLine) (go : ∀ s', Inv X pins σ H s' → Q .none s') :
    wpAny (model X.prog X.w) A (call (.builtin "Exception.__init__") (.ref a :: us)) Q E s := by
  obtain ⟨_, _, _, _, _, _, _, _, _, _, _, _, _, _, _, _, hC, hT⟩ := PySem.W.excInit_of I.kIn Z.md
  obtain ⟨t1, ho⟩ := exo_at I.hok e
  obtain ⟨hp, g, d, t, os⟩ := s
  refine wpAny_call (PySem.HandSPX.init_base PySem.F.excBase_Exception hT hC ho hl fun h2 t2 keep hx => ?_)
  have J := I.write (t' := t) (x := a) (e := a) (o := exo a C none) (by rw [e]; exact True.intro) (.inl rfl) keep ⟨_, hx⟩ (exo_ok hx)
  have same : upd H a (exo a C none) = H := by
    funext b
    by_cases hb : b = a
    · rw [hb, upd_same, e]
    · rw [upd_ne hb]
  rw [same] at J
  exact go _ J
end
/-- what the written part says of the base class, read as a name -/
structure BaseT (K : PySem.W.Frag) (mg : Str → Option Value) (x : Str) (B : Addr) (mc : Value) : Prop where
  g : mg x = some (.ref B)
  sp : PySem.W.specialIn K (.ref B) "__getattribute__" = some (some (.builtin "type.__getattribute__"))
  rd : PySem.W.readsIn K B mc = true
  fi : PySem.W.findCls K (.ref B) mc "__init__" = some (.val (.builtin "Exception.__init__"))
section
variable {X : Cx} {e : Expr} {es : List Expr} {ta : TA} {p1 p2 pos : Pos} {x : Str} {B : Addr} {mc : Value}
/-- B.__init__(self, ..), B a class of the text right below Exception -/
theorem pe_binit {pl : Sem Bool} (hg : Gl X x) (Y : BaseT X.K X.mg x B mc) (ha : PA X (e :: es) ta) (hd : (x == ("__debug__" : Str)) = false := by decide)
    (hc : eval (.Call (.Attribute (.Name x p1) "__init__" p2) (e :: es) [] pos) X.env = (do
      let ov ← eval (.Name x p1) X.env
      standAt p2.atName
      let (f, first) ← holding [ov] (getMethod ov "__init__" pl)
      callWith pos f first (backTo pos (starEach (e :: es) X.env)) (backToKw pos (keywordEach [] X.env))) := by rfl)
    (he : starEach (e :: es) X.env = (false, eval e X.env) :: starEach es X.env := by rfl) (hpl : (backTo pos (starEach es X.env)).any (·.1) = false := by rfl) :
    PE X (.Call (.Attribute (.Name x p1) "__init__" p2) (e :: es) [] pos) (fun σ H Q => ta σ H fun vs H1 => ∃ (a C : Addr) (ws : List V) (fld : Str), vs = .ref a :: ws ∧ ws.length ≤ 1000 ∧ ExC X.K C fld ∧ H1 a = some (exo a C none) ∧ Q .non H1) := by
  refine ⟨fun pins s σ H Q I h => ?_⟩
  refine PySem.W.methodCall_KW (ld_glob I hg Y.g ?_ hd) hc
  refine PySem.W.method_cls I.kIn Y.sp (PySem.W.cls_value I.kIn Y.rd Y.fi (by decide +kernel) ?_)
  have I0 : Inv X pins σ H { s with toks := s.toks + 1 } := I.tok _
  show wpAny _ _ (callWith pos (Value.builtin "Exception.__init__") [] (backTo pos (starEach (e :: es) X.env)) []) _ _ _
  refine PyProof.Rows.callWith_method1 (thn (ha.run pos pins _ σ H _ I0 h) fun us s1 ⟨vs, H1, I1, r1, a, C, ws, fld, ev, hl, T, ea, q⟩ => ?_) he hpl
  subst ev
  cases r1 with
  | @cons _ u0 _ ur ra rw' =>
    obtain rfl : u0 = Value.ref a := ra
    have hlen : ur.length ≤ sizeLine := by
      rw [← Paired.length rw', sizeLine_eq]
      omega
    exact base_init T I1 ea hlen fun s' J => ⟨.non, H1, J, rfl, q⟩
end

/-! ### its own __init__ -/
def Fmt (v : V) : Prop := (∃ i : Int, v = .int i ∧ i.natAbs.log2 < 1000) ∨ ∃ y : Str, v = .str y ∧ y.length ≤ 1000
def fmtF : D → Bool
  | .int i => decide (i.natAbs.log2 < 1000)
  | .str y => decide (y.length ≤ 1000)
  | _ => false
theorem Rep.fmt {g : Gc} {F : Hp} {v : V} {d : D} (h : Rep g F v d) (e : fmtF d = true) : Fmt v := by
  cases h <;> simp only [fmtF, Bool.false_eq_true, decide_eq_true_eq] at e
  · exact .inl ⟨_, rfl, e⟩
  · exact .inr ⟨_, rfl, e⟩
/-- the promise of such an __init__ -/
def spEx (K : PySem.W.Frag) (fld : Str) : Sp := fun vs H Q _ => ∃ (a C : Addr) (v : V), vs = [.ref a, v] ∧ ExC K C fld ∧ H a = some (exo a C none) ∧ Fmt v ∧
  ∀ dx, H dx = none → dx ≠ a → Q .non (upd (upd H dx (exd dx [(fld, v)])) a (exo a C (some dx)))
section
variable {X : Cx} {o e : Expr} {to te : TE} {f : Str} {p p' pos : Pos}
theorem ps_first (ho : PE X o to) (he : PE X e te) (hs : swapsWith e (some (.Attribute o f p')) pos.line X.env = pure false := by rfl) :
    PS X (.Assign [.Attribute o f p'] e pos) (fun D σ H => te σ H fun y H1 => to σ H1 fun x H2 => ∃ a C : Addr, x = .ref a ∧ ExC X.K C f ∧ H2 a = some (exo a C none) ∧ ∀ dx, H2 dx = none → dx ≠ a → D.nx σ (upd (upd H2 dx (exd dx [(f, y)])) a (exo a C (some dx)))) := by
  refine ⟨fun pins s σ H D I h => ?_⟩
  refine plainObj_wpAny_Assign_Attribute (thn (he.run pins s σ H _ I h) fun v s1 ⟨y, H1, I1, r1, q1⟩ => thn (ho.run pins s1 σ H1 _ I1 q1) fun u s2 ⟨x, H2, I2, r2, a, C, ex, T, ea, q⟩ => ?_) hs
  subst ex
  obtain rfl : u = Value.ref a := r2
  exact first_field T I2 ea r1 fun dx s' n ne J => ⟨σ, _, J, q dx n ne⟩
/-- the text of an exception: a beginning and the value -/
theorem fmt_parts {pre : Str} {v : V} (hv : Fmt v) (hp : pre.length ≤ 1000) {σ : L2.St} {H : Hp} {i : Nat} (hs : σ[i]? = some (some v)) {Q : Str → Hp → Prop} (q : ∀ z, Q z H) : tJs [tC (.str pre), tFmt (tVar i)] Str.empty σ H Q := by
  have se : (Str.empty ++ pre).length ≤ 1000 := by
    rw [Str.length_append]
    have : Str.empty.length = 0 := rfl
    omega
  have line : sizeLine = 16777216 := sizeLine_eq
  refine ⟨pre, rfl, by omega, v, hs, ?_⟩
  rcases hv with ⟨j, rfl, hj⟩ | ⟨y, rfl, hy⟩
  · refine .inr ⟨j, rfl, by omega, _, rfl, ?_, q _⟩
    have hl : ((toString j : String) : Str).length ≤ 1001 := by
      have := int_text_length_le (a := j) (k := 1000) (by decide) hj
      show (Str.ofString (toString j)).length ≤ 1001
      rw [PySem.ofString_length]
      exact this
    rw [Str.length_append]
    omega
  · refine .inl ⟨y, rfl, by omega, y, rfl, ?_, q _⟩
    rw [Str.length_append]
    omega
end
/-! ### C(e): a new exception -/
def tMkE (fld : Str) (C : Addr) (ta : TA) : L2.St → Hp → XK → Prop := fun σ H Q => ta σ H fun vs H1 => ∃ v, vs = [v] ∧ Fmt v ∧ ∀ d H2, H1 d = none → H2 d = some (.xd [(fld, v)]) → (∀ b o, H1 b = some o → H2 b = some o) → (∀ b o, H2 b = some o → b ≠ d → H1 b = some o) → Q (.ref C) (some d) H2
section
variable {X : Cx} {e : Expr} {ta : TA} {fld x : Str} {C fI : Addr} {k : Nat} {fd : FuncData} {ps : List Str} {p pos : Pos}
theorem pmk_ex {CX : CXT} (Z : ExC X.K C fld) (iC : PySem.W.findIn X.K (.ref C) "__init__" = some (some (.ref fI))) (tI : PySem.W.typeIn X.K (.ref fI) = some (.type "function"))
    (F1 : FnOk X.prog X.w X.K X.mg X.base CX k fI fd ps (spEx X.K fld)) (hr : Room (k + 1) X.A) (hb : Binds X.K fd ps []) (hx : Passes CX X (fun _ _ _ => False)) (hg : Gl X x) (hm : X.mg x = some (.ref C)) (ha : PA X [e] ta)
    (hdb : (x == ("__debug__" : Str)) = false := by decide) (he : starEach (e :: []) X.env = (false, eval e X.env) :: starEach [] X.env := by rfl) (hpl : (backTo pos (starEach [] X.env)).any (·.1) = false := by rfl) :
    PMk X (.Call (.Name x p) [e] [] pos) (tMkE fld C ta) := by
  intro pins s σ H Q I h
  refine wpAny_Call_Name_kw (ld_glob I hg hm ?_ hdb)
  refine PySem.W.callWith_K (h₀ := X.base) I.ok.mod.kin Z.kp (thn (ha.run pos pins s σ H _ I h) fun us s1 ⟨vs, H1, I1, r1, v, ev, hv, q1⟩ => ⟨I1.kIn, ?_⟩) he hpl
  subst ev
  show wpAny _ _ (call (.ref C) us) _ _ _
  obtain ⟨_, _, _, _, _, _, _, _, _, _, _, _, _, _, _, _, hC, hT⟩ := PySem.W.excInit_of I1.kIn Z.md
  have hus : us.length ≤ sizeLine := by
    rw [← Paired.length r1, sizeLine_eq]
    exact (by decide : 1 ≤ 16777216)
  obtain ⟨hp, g, dr, tk, os⟩ := s1
  have young : hp.objs.size ≤ hp.objs.size + 1 := Nat.le_succ _
  have hn : H1 (hp.objs.size + 1) = none := I1.hok.fresh young
  have kk : ∀ b o, hp.get? b = some o → ((hp.push (PySem.W.kdv_tup us)).push (PySem.HandSPX.excO C hp.objs.size)).get? b = some o := fun b o e => Heap.get?_push_of_some _ (Heap.get?_push_of_some _ e)
  have hget : ((hp.push (PySem.W.kdv_tup us)).push (PySem.HandSPX.excO C hp.objs.size)).get? (hp.objs.size + 1) = some (PySem.HandSPX.excO C hp.objs.size) := by heap_get
  have I2 : Inv X pins σ (upd H1 (hp.objs.size + 1) (exo (hp.objs.size + 1) C none)) ⟨(hp.push (PySem.W.kdv_tup us)).push (PySem.HandSPX.excO C hp.objs.size), g, dr, tk, os⟩ :=
    I1.laid (t' := tk) (a := hp.objs.size + 1) (o := exo (hp.objs.size + 1) C none) (h' := (hp.push (PySem.W.kdv_tup us)).push (PySem.HandSPX.excO C hp.objs.size)) kk young (exo_ok hget)
  have r2 : Vals [V.ref (hp.objs.size + 1), v] (Value.ref (hp.objs.size + 1) :: us) := .cons rfl r1
  have wish : spEx X.K fld [V.ref (hp.objs.size + 1), v] (upd H1 (hp.objs.size + 1) (exo (hp.objs.size + 1) C none))
      (fun u H2 => u = .non ∧ ∃ d : Addr, H1 d = none ∧ d ≠ hp.objs.size + 1 ∧ H2 = upd (upd (upd H1 (hp.objs.size + 1) (exo (hp.objs.size + 1) C none)) d (exd d [(fld, v)])) (hp.objs.size + 1) (exo (hp.objs.size + 1) C (some d))) (fun _ _ _ => False) :=
    ⟨hp.objs.size + 1, C, v, rfl, Z, upd_same, hv, fun d hd hdz => ⟨rfl, d, by rw [upd_ne hdz] at hd; exact hd, hdz, rfl⟩⟩
  have hl : (Value.ref (hp.objs.size + 1) :: us).length = ps.length := by
    have e := r2.length
    rw [F1.len _ _ _ _ wish] at e
    exact e.symm
  have bd := hb ⟨(hp.push (PySem.W.kdv_tup us)).push (PySem.HandSPX.excO C hp.objs.size), g, dr, tk, os⟩ (Value.ref (hp.objs.size + 1) :: us) I2.kIn (by rw [List.append_nil]; exact hl)
  rw [List.append_nil] at bd
  have run := F1.run _ X.stack _ _ ⟨Value.ref (hp.objs.size + 1) :: us, []⟩ (Value.ref (hp.objs.size + 1) :: us) _ _ (fun _ _ _ => False) (hr.make C us []) (I2.env0.make C us []) bd r2 wish
  refine wpAny_call (PySem.HandSPX.call_own PySem.F.excBase_Exception hT hC (PySem.W.looks_findIn I1.kIn iC) (fun self => PySem.W.bind_fn I1.kIn self tI) hus (codeAny_mono run fun r s' hq' => ?_))
  cases r with
  | error er => exact hx pins σ _ _ er s' I2 hq'
  | ok fl =>
    cases fl with
    | ret u =>
      obtain ⟨w', H2, os2, bare2, un2, hok2, rv, ev, d, hd1, hdz, eH⟩ := hq'
      subst ev
      obtain ⟨h2, g2, d2, t2, os'⟩ := s'
      have ea : H2 (hp.objs.size + 1) = some (exo (hp.objs.size + 1) C (some d)) := by rw [eH, upd_same]
      have ed : H2 d = some (exd d [(fld, v)]) := by rw [eH, upd_ne hdz, upd_same]
      refine ⟨rv, mk_end (raises_own Z.ex Z.ty) I1 young kk un2 hok2 os2 bare2 ea ed hd1 ?_⟩
      refine q1 d _ hd1 upd_same (fun b o e => ?_) fun b o e hb => ?_
      · rw [upd_ne (ne_of_none e hd1), del_ne (ne_of_none e hn), eH, upd_ne (ne_of_none e hn), upd_ne (ne_of_none e hd1), upd_ne (ne_of_none e hn)]
        exact e
      · rw [upd_ne hb] at e
        have hbz : b ≠ hp.objs.size + 1 := fun q => by
          rw [q, del_same] at e
          cases e
        rw [del_ne hbz, eH, upd_ne hbz, upd_ne hb, upd_ne hbz] at e
        exact e
    | next => exact False.elim hq'
    | brk => exact False.elim hq'
    | cont => exact False.elim hq'
end
end Mp
set_option Elab.async false
set_option linter.all false
set_option maxRecDepth 100000
set_option maxHeartbeats 4000000
/-! raise, try .. except .. as -/
namespace Mp
open PySem PySem.Spec PyProof.Rows L2

section
variable {g : Gc} {W : WX} {φ : Fc} {X : Cx} {k : Nat} {F F' : Hp} {σ : L2.St} {H H' : Hp} {env : Env}
/-- the heap has grown, nothing is settled -/
theorem Rel.more (r : Rel g φ F σ H env) (h : ∀ b o, H b = some o → H' b = some o) : Rel g φ F σ H' env :=
  ⟨fun b o e => h b o (r.ex b o e), r.ex0, r.new, fun b o e hb => h b o (r.fr b o e hb), r.len, r.va,
    fun i b xs e => let ⟨a, vs, h1, h2, h3⟩ := r.ow i b xs e; ⟨a, vs, h1, h a _ h2, h3⟩, r.dj, r.ioh⟩
/-- .. and something is settled -/
theorem Rel.grow (r : Rel g φ F σ H env) (s : Same F F') (e : Same F' H') (n : ∀ b o, F' b = some o → F b = some o ∨ H b = none) (h : ∀ b o, H b = some o → H' b = some o) : Rel g φ F' σ H' env := by
  refine ⟨e, r.ex0.trans s, fun b o q => ?_, fun b o q hb => h b o (r.fr b o q hb), r.len, fun i d q => ?_, fun i b xs q => ?_, r.dj, r.ioh⟩
  · rcases n b o q with z | z
    · exact r.new b o z
    · exact .inr (r.h0 z)
  · obtain ⟨v, h1, h2⟩ := r.va i d q
    exact ⟨v, h1, h2.mono s⟩
  · obtain ⟨a, vs, h1, h2, h3, h4, h5⟩ := r.ow i b xs q
    refine ⟨a, vs, h1, h a _ h2, ?_, h4.mono s, h5⟩
    cases z : F' a with
    | none => rfl
    | some o =>
      rcases n a o z with z | z
      · rw [h3] at z
        cases z
      · rw [h2] at z
        cases z

/-! ### raise -/
def mRaise (cn : Str) (m : ME) : MS := fun env => (m env).flow fun d e => if fmtF d = true then .exc cn d e else .no
/-- the class cn of the text: an exception over Exception with one attribute -/
structure HasX (P : Program) (w : World) (mg : Str → Option Value) (base : Heap) (g : Gc) (k : Nat) (cn : Str) : Prop where
  ex : ∃ (C fI : Addr) (fd : FuncData) (ps : List Str) (fld : Str), ExC g.K C fld ∧ PySem.W.findIn g.K (.ref C) "__init__" = some (some (.ref fI)) ∧ PySem.W.typeIn g.K (.ref fI) = some (.type "function") ∧
    FnOk P w g.K mg base (L2.CX P w) k fI fd ps (spEx g.K fld) ∧ Binds g.K fd ps [] ∧ mg cn = some (.ref C) ∧ g.xc cn = some (C, fld)
theorem ss_raise {cn : Str} {kk : Nat} {e : Expr} {m : ME} {p cpos pos : Pos} (c : Cok g X W k) (h : HasX X.prog X.w X.mg X.base g kk cn) (hk : kk + 1 ≤ k) (hg : Gl X cn) (ha : SE g W φ X e m)
    (hdb : (cn == ("__debug__" : Str)) = false := by decide) (he : starEach (e :: []) X.env = (false, eval e X.env) :: starEach [] X.env := by rfl) (hpl : (backTo cpos (starEach [] X.env)).any (·.1) = false := by rfl) :
    SS g W φ X (.Raise (some (.Call (.Name cn p) [e] [] cpos)) none pos) (mRaise cn m) := by
  intro F σ H env En hr hp
  obtain ⟨C, fI, fd, ps, fld, Z, iC, tI, Fo, hb, hm, hx⟩ := h.ex
  rw [← c.K] at Z iC tI Fo hb
  refine ⟨_, ps_raise c.calm c.tk (pmk_ex Z iC tI Fo (c.rm.mono hk) hb passL hg hm w_pa hdb he hpl), ?_⟩
  refine sa_cons (SV.of ha) sa_nil he F σ H env _ hr ?_
  unfold mRaise at hp
  cases e1 : m env with
  | no => rw [e1] at hp; exact hp.elim
  | exc c2 v2 e2 => rw [e1] at hp; simp only [aCons, e1, Re.bind]; exact hp
  | ok d e2 =>
    rw [e1] at hp
    simp only [aCons, aNil, e1, Re.bind]
    have hp : PoS g W φ F En (if fmtF d = true then .exc cn d e2 else .no) := hp
    by_cases hf : fmtF d = true
    · rw [if_pos hf] at hp
      intro vs H1 F1 s1 r1 p1
      have hl := p1.len
      match vs, hl with
      | [v], _ =>
        have rv : Rep g F1 v d := p1.at_ 0 v (.va d) rfl rfl
        refine ⟨v, rfl, rv.fmt hf, fun dd H2 hn h2 h3 h4 => ?_⟩
        exact hp C fld dd v σ H2 F1 hx s1 (r1.more h3) h2 rv
    · rw [if_neg hf] at hp
      exact hp.elim

/-! ### try: body, except x as n: return f(n.at) -/
/-- n.fld, n the exception that the suite holds -/
theorem pe_held {a C : Addr} {oe : Obj} {cls : Value} {d : Option Addr} {pn : List (Addr × Obj)} {e : Expr} {te : TE} {fld : Str} {pos : Pos} (Z : ExC X.K C fld) (hz : Zc cls d oe) (hf : ∃ vs, oe.data = .fields vs) (he : PE (X.suite a ((a, oe) :: pn)) e te)
    (hb : attributeBase e fld X.env (eval e X.env) = eval e X.env) :
    PE (X.suite a ((a, oe) :: pn)) (.Attribute e fld pos) (fun σ H Q => te σ H fun x H1 => x = .ref a ∧ cls = .ref C ∧ ∃ (dd : Addr) (v : V), d = some dd ∧ H1 dd = some (.xd [(fld, v)]) ∧ Q v H1) := by
  refine ⟨fun pins s σ H Q I h => attr_of hb (thn (he.run pins s σ H _ I h) fun u s1 z => ?_)⟩
  obtain ⟨x, H1, I1, rx, rfl, rfl, dd, v, rfl, ea, q⟩ := z
  obtain rfl : u = Value.ref a := rx
  obtain ⟨vs, hd⟩ := hf
  have pin := (I1.pin (a, oe) (List.mem_append_left _ List.mem_cons_self)).1
  obtain ⟨mA, hns, hr⟩ := (show ObjOk X.prog X.w H1 s1.heap dd (.xd [(fld, v)]) from I1.hok dd _ ea)
  obtain ⟨od, ho, hl⟩ := lookIn_ns hns
  have l : List.lookup fld [(fld, v)] = some v := by simp [List.lookup]
  obtain ⟨y, hy, ry⟩ := RelO.some_of (v := v) (o := mA fld) (l ▸ hr fld)
  refine HandSPX.exc_get I1.kIn ⟨pin, hz.1, ?_, hz.2 ▸ ho⟩ Z.ga Z.gg Z.ex (PySem.W.findObj_own Z.hd Z.no rfl ((hl _).trans (congrArg some hy))) (handed_of ry) ⟨v, H1, I1.tok _, ry, q⟩
  unfold PySem.W.notCls
  rw [hd] <;> rfl
/-- does a clause for the class take an exception of the class, and with which attribute -/
structure Catch (g : Gc) (C : Value) (f : Str) (sub : Str → Option Bool) : Prop where
  ok : ∀ c' C' fld b, g.xc c' = some (C', fld) → sub c' = some b → PySem.W.exmOne g.K (.ref C') C = some b ∧ (b = true → fld = f ∧ ExC g.K C' f)
/-- try: body, except x as n: return n.f -/
def mTryAt (i : Nat) (sub : Str → Option Bool) (mb : MS) : MS := fun env => match mb env with
  | .exc c v e => match sub c with
    | some true => if i < e.length then .rt v e else .no
    | some false => .exc c v e
    | none => .no
  | r => r
theorem ss_tryAt {i : Nat} {x n f : Str} {C : Value} {sub : Str → Option Bool} {body : List Stmt} {mb : MS} {np npos fpos rpos pos' pos : Pos} (c : Cok g X W k) (hs : X.stack = X.env :: X.outer) (hf : X.env.frame = some X.env.locals)
    (K : Catch g C f sub) (hi : X.N[i]? = some n) (hln : X.env.kindOf n = some .local) (hc : Names X x C)
    (hb : ∀ (W' : WX) (pn : List (Addr × Obj)) (xe : Value → Shared → Prop), Cok g (X.tr pn xe) W' k → SB g W' φ (X.tr pn xe) body mb)
    (hab : attributeBase (.Name n npos) f X.env (eval (.Name n npos) X.env) = eval (.Name n npos) X.env := by rfl) (hd : (n == ("__debug__" : Str)) = false := by decide) (hcd : (n == ("__classdict__" : Str)) = false := by decide) :
    SS g W φ X (.Try body [.ExceptHandler (some (.Name x np)) (some n) [.Return (some (.Attribute (.Name n npos) f fpos)) rpos] pos'] [] [] pos) (mTryAt i sub mb) := by
  intro F σ H env En hr hp
  refine ⟨_, ps_try_as (Wout := W) (c := C) (i := i)
    (tb := fun W' => fun D σ H => ∀ pn xe, Takes (X.tr pn xe) W' → PassesOwn (model X.prog X.w) X.A X.env xe → wB (X.tr pn xe) body D σ H)
    (ts := fun a cls d => fun D σ H => ∃ (C' dd : Addr) (v : V), cls = .ref C' ∧ d = some dd ∧ ExC X.K C' f ∧ σ[i]? = some (some (.ref a)) ∧ H dd = some (.xd [(f, v)]) ∧ D.rt v H)
    hs hf c.nd hi hln hc c.tk (fun W' pn xe tk po => ⟨fun pins s σ H D I h => w_pb.run pins s σ H D I (h pn xe tk po)⟩)
    (fun a oe cls d pn hz hfl => ⟨fun pins s σ H D I h => ?_⟩), ?_⟩
  · obtain ⟨C', dd, v, rfl, rfl, Z, h1, h2, h3⟩ := h
    refine (pss_one (ps_ret (pe_held (pn := pn) Z hz hfl (pe_var (i := i) hi (.inl hln) hd hcd) hab))).run pins s σ H D I ?_
    exact ⟨.ref a, h1, rfl, rfl, dd, v, rfl, h2, h3⟩
  · intro pn xe tk po
    refine hb _ pn xe ⟨c.K, c.calm, c.nd, tk, c.rm, po⟩ F σ H env En hr ?_
    unfold mTryAt at hp
    cases e1 : mb env with
    | nx e2 => rw [e1] at hp; exact hp
    | rt d e2 => rw [e1] at hp; exact hp
    | br e2 => rw [e1] at hp; exact hp
    | ct e2 => rw [e1] at hp; exact hp
    | no => rw [e1] at hp; exact hp
    | exc cn v e2 =>
      rw [e1] at hp
      simp only at hp
      intro C' fld dd vv σ' H' F' hx s1 r1 h1 h2
      cases e3 : sub cn with
      | none => rw [e3] at hp; exact hp.elim
      | some b =>
        rw [e3] at hp
        obtain ⟨k1, k2⟩ := K.ok cn C' fld b hx e3
        refine ⟨b, c.K ▸ k1, fun hb1 a ha => ?_, fun hb1 => ?_⟩
        · subst hb1
          obtain ⟨rfl, Z⟩ := k2 rfl
          have hp : PoS g W φ F En (if i < e2.length then .rt v e2 else .no) := hp
          by_cases hlt : i < e2.length
          · rw [if_pos hlt] at hp
            exact ⟨C', dd, vv, rfl, rfl, c.K ▸ Z, set_get (r1.len ▸ hlt), h1, hp vv σ' H' F' s1 r1 h2⟩
          · rw [if_neg hlt] at hp
            exact hp.elim
        · subst hb1
          exact hp C' fld dd vv σ' H' F' hx s1 r1 h1 h2
end
end Mp
set_option Elab.async false
set_option linter.all false
set_option maxRecDepth 100000
set_option maxHeartbeats 4000000
/-! classes of the program: their __init__, attributes, properties, == -/
namespace Mp
open PySem PySem.Spec PyProof.Rows L2

def isOwS : Sl → Bool
  | .ow _ _ => true
  | _ => false
def noOw (e : Env) : Bool := e.all fun s => !isOwS s
theorem noOw_at {e : Env} (h : noOw e = true) {i : Nat} {b : Bool} {xs : List D} (q : e[i]? = some (Sl.ow b xs)) : False := by
  have := List.all_eq_true.mp h _ (List.mem_of_getElem? q)
  simp [isOwS] at this

section
variable {g : Gc} {W : WX} {φ : Fc} {X : Cx} {k : Nat} {F F' : Hp} {σ : L2.St} {H H' : Hp} {env : Env}
/-- nothing is one's own: the frame may begin anew -/
theorem Rel.fresh (hx : Same F H) (hl : σ.length = env.length) (hv : ∀ (i : Nat) (d : D), env[i]? = some (Sl.va d) → ∃ v, σ[i]? = some (some v) ∧ Rep g F v d) (hn : noOw env = true) : Rel g ⟨[], H, F⟩ F σ H env :=
  ⟨hx, Same.refl _, fun b o e => .inl e, fun b o e _ => e, hl, hv, fun i b xs e => (noOw_at hn e).elim, fun i j b c xs ys a e => (noOw_at hn e).elim, fun p hp => by cases hp⟩

theorem putF_new {f : Str} {v : V} : ∀ {ns : List Str} {vs : List V}, f ∉ ns → ns.length = vs.length → putF f v (ns.zip vs) = (ns ++ [f]).zip (vs ++ [v])
  | [], [], _, _ => rfl
  | [], _ :: _, _, h => by simp at h
  | _ :: _, [], _, h => by simp at h
  | n :: ns, w :: vs, hn, hl => by
    have ih := putF_new (f := f) (v := v) (ns := ns) (vs := vs) (fun h => hn (List.mem_cons_of_mem _ h)) (by simpa using hl)
    have ne : ¬ n = f := fun z => hn (z ▸ List.mem_cons_self)
    show (if n = f then _ else (n, w) :: putF f v (ns.zip vs)) = _
    rw [if_neg ne, ih]
    rfl
theorem lookup_zip {f : Str} : ∀ {ns : List Str} {vs : List V} {i : Nat} {v : V}, ns[i]? = some f → ns.Nodup → ns.length = vs.length → vs[i]? = some v → (ns.zip vs).lookup f = some v
  | [], _, i, _, h, _, _, _ => by simp at h
  | _ :: _, [], _, _, _, _, h, _ => by simp at h
  | n :: ns, w :: vs, i, v, h, hn, hl, hv => by
    cases i with
    | zero =>
      simp only [List.getElem?_cons_zero, Option.some.injEq] at h hv
      subst h hv
      simp [List.zip_cons_cons, List.lookup]
    | succ i =>
      simp only [List.getElem?_cons_succ] at h hv
      have ne : (f == n) = false := by
        refine beq_eq_false_iff_ne.mpr fun z => ?_
        rw [z] at h
        exact (List.nodup_cons.mp hn).1 (List.mem_of_getElem? h)
      simp only [List.zip_cons_cons, List.lookup, ne]
      exact lookup_zip h (List.nodup_cons.mp hn).2 (by simpa using hl) hv

/-! ### the stores at the end of an __init__ -/
/-- what a class of the text is, as far as its own attributes go -/
structure ClO (g : Gc) (cn : Str) (C : Addr) (ns : List Str) : Prop where
  cl : g.cl cn = some (C, ns)
  cls : Cls g.K C
  nd : ns.Nodup
  no : ∀ f ∈ ns, NoAttr g.K C f
  le : ns.length < 1000
/-- self.f = e, .. -/
inductive Stores (g : Gc) (X : Cx) : List Stmt → List (Str × ME) → Prop
  | nil : Stores g X [] []
  | cons {y f : Str} {e : Expr} {m : ME} {p p' pos : Pos} {body : List Stmt} {l : List (Str × ME)} (he : ∀ φ, SE g W0 φ X e m) (hs : swapsWith e (some (.Attribute (.Name y p) f p')) pos.line X.env = pure false)
      (hN : X.N[0]? = some y) (hv : Vis X.env.scope y) (hd : (y == ("__debug__" : Str)) = false) (hcd : (y == ("__classdict__" : Str)) = false) (r : Stores g X body l) : Stores g X (.Assign [.Attribute (.Name y p) f p'] e pos :: body) ((f, m) :: l)
def stF : List (Str × ME) → Env → Option (List D)
  | [], _ => some []
  | (_, m) :: l, env => if noOw env = true then match m env with
    | .ok d e' => (stF l e').map (d :: ·)
    | _ => none
    else none
theorem stores_ok {C x dx : Addr} {cn : Str} {ns : List Str} (hK : X.K = g.K) (c : ClO g cn C ns) : ∀ {body : List Stmt} {l : List (Str × ME)}, Stores g X body l → ∀ {done : List Str} {vs : List V} {ds : List D} {fs : List D} {En : Ends} {F : Hp} {σ : L2.St} {H : Hp} {env : Env},
    ns = done ++ l.map (·.1) → Same F H → σ.length = env.length → (∀ (i : Nat) (d : D), env[i]? = some (Sl.va d) → ∃ v, σ[i]? = some (some v) ∧ Rep g F v d) → σ[0]? = some (some (.ref x)) → H x = some (.ins C dx (done.zip vs)) → F x = none →
    done.length = vs.length → Reps g F vs ds → stF l env = some fs →
    (∀ H' F' us σ', Same F F' → Same F' H' → (∀ b o, F' b = some o → F b = some o ∨ H b = none) → (∀ b o, H b = some o → b ≠ x → H' b = some o) → H' x = some (.ins C dx (ns.zip us)) → F' x = none → ns.length = us.length → Reps g F' us (ds ++ fs) → En.nx σ' H') →
    wB X body En σ H := by
  intro body l hst
  induction hst with
  | nil =>
    intro done vs ds fs En F σ H env en hx hl hv h0 hH hF hd hr hs q
    simp only [stF, Option.some.injEq] at hs
    subst hs
    simp only [List.map_nil, List.append_nil] at en
    subst en
    refine ⟨_, pss_nil, q H F vs σ (Same.refl _) hx (fun b o e => .inl e) (fun b o e _ => e) hH hF hd ?_⟩
    rw [List.append_nil]
    exact hr
  | @cons y f e m p p' pos body l he hsw hN hvis hdb hcd r ih =>
    intro done vs ds fs En F σ H env en hx hl hv h0 hH hF hd hr hs q
    simp only [stF] at hs
    by_cases hn : noOw env = true
    · rw [if_pos hn] at hs
      cases em : m env with
      | no => simp only [em, reduceCtorEq] at hs
      | exc c2 v2 e2 => simp only [em, reduceCtorEq] at hs
      | ok d e' =>
        simp only [em, Option.map_eq_some_iff] at hs
        obtain ⟨fs', hs1, hs2⟩ := hs
        subst hs2
        refine ⟨_, pss_cons (ps_fld (pe_var (i := 0) hN hvis hdb hcd) w_pe hsw) w_pb, ?_⟩
        refine he ⟨[], H, F⟩ F σ H env _ (Rel.fresh hx hl hv hn) ?_
        rw [em]
        intro v H1 F1 s1 r1 p1
        have hx1 : H1 x = some (.ins C dx (done.zip vs)) := r1.fr x _ hH fun p hp => by cases hp
        have hF1 : F1 x = none := by
          cases z : F1 x with
          | none => rfl
          | some o =>
            rcases r1.new x o z with z | z
            · have z' : F x = some o := z
              rw [hF] at z'
              cases z'
            · have z' : H x = none := z
              rw [hH] at z'
              cases z'
        have hfn : f ∈ ns := by
          rw [en]
          simp
        have hfd : f ∉ done := fun z => by
          have nd := c.nd
          rw [en] at nd
          exact (List.nodup_append.mp nd).2.2 f z f (by simp) rfl
        have len : done.length < 1000 := by
          have := c.le
          rw [en, List.length_append] at this
          omega
        refine ⟨.ref x, h0, x, C, dx, done.zip vs, rfl, hx1, hK ▸ c.cls, hK ▸ c.no f hfn, by rw [List.length_zip]; omega, ?_⟩
        rw [putF_new hfd hd]
        refine ih (done := done ++ [f]) (vs := vs ++ [v]) (ds := ds ++ [d]) (F := F1) (env := e') (by rw [en]; simp) (fun b o z => ?_) r1.len r1.va h0 upd_same hF1 (by simp [hd]) ((hr.mono s1).append (.cons p1 .nil)) hs1 fun H' F' us σ' a1 a2 a3 a4 a5 a6 a7 a8 => ?_
        · rw [upd_ne (fun w => by rw [w, hF1] at z; cases z)]
          exact r1.ex b o z
        · refine q H' F' us σ' (s1.trans a1) a2 (fun b o z => ?_) (fun b o z hb => ?_) a5 a6 a7 (by simpa using a8)
          · rcases a3 b o z with z | z
            · rcases r1.new b o z with z | z
              · exact .inl z
              · exact .inr z
            · by_cases hb : b = x
              · subst hb
                rw [upd_same] at z
                cases z
              · rw [upd_ne hb] at z
                cases zz : H b with
                | none => exact .inr rfl
                | some o2 =>
                  rw [r1.fr b o2 zz fun p hp => by cases hp] at z
                  cases z
          · refine a4 b o ?_ hb
            rw [upd_ne hb]
            exact r1.fr b o z fun p hp => by cases hp
    · rw [if_neg hn] at hs
      cases hs
end
/-! ### its promise -/
inductive IR where
  | ok (fs : List D) | exc (c : Str) (v : D) | no
def spInit (g : Gc) (C : Addr) (ns : List Str) (fi : List D → IR) : Sp := fun vs H Q E => ∃ (F : Hp) (x dx : Addr) (vs' : List V) (ds : List D), vs = .ref x :: vs' ∧ H x = some (.ins C dx []) ∧ F x = none ∧ Same F H ∧ Reps g F vs' ds ∧
  match fi ds with
  | .ok fs => ∀ H' F' us, Same F F' → Same F' H' → (∀ b o, F' b = some o → F b = some o ∨ H b = none) → (∀ b o, H b = some o → b ≠ x → H' b = some o) → H' x = some (.ins C dx (ns.zip us)) → F' x = none → ns.length = us.length → Reps g F' us fs → Q .non H'
  | .exc c v => ∀ Cx fld dd vv H' F', g.xc c = some (Cx, fld) → Same F F' → Same F' H' → (∀ b o, F' b = some o → F b = some o ∨ H b = none) → (∀ b o, H b = some o → H' b = some o) → H' dd = some (.xd [(fld, vv)]) → Rep g F' vv v → E (.ref Cx) (some dd) H'
  | .no => False
/-- the run of an __init__: statements, then stores; x the object's place, n how many names -/
def runInit (np n : Nat) (pre : MS) (l : List (Str × ME)) (x : Addr) (ds : List D) : IR := if ds.length + 1 = np then
    match pre (.va (.adr x) :: ds.map .va ++ List.replicate (n - np) .un) with
    | .nx e => match e with
      | .va (.adr y) :: e' => if y = x then (match stF l (.va (.adr y) :: e') with
        | some fs => .ok fs
        | none => .no) else .no
      | _ => .no
    | .exc c v _ => .exc c v
    | _ => .no
  else .no

section
variable (g : Gc) (W : WX) (φ : Fc)
/-- statements, then the stores l -/
def IBody (X : Cx) (body : List Stmt) (m : MS) (l : List (Str × ME)) : Prop := ∀ F σ H env En, Rel g φ F σ H env →
  PoS g W φ F { En with nx := fun σ' H' => ∀ rest, Stores g X rest l → wB X rest En σ' H' } (m env) → wB X body En σ H
end
section
variable {g : Gc} {W : WX} {φ : Fc} {X : Cx} {k : Nat}
theorem ib_st {r : List Stmt} {l : List (Str × ME)} (h : Stores g X r l) : IBody g W φ X r (fun e => .nx e) l := fun F σ H env En hr hp => hp σ H F (Same.refl _) hr r h
theorem ib_cons {s : Stmt} {r : List Stmt} {m n : MS} {l : List (Str × ME)} (h : SS g W φ X s m) (t : IBody g W φ X r n l) : IBody g W φ X (s :: r) (mSeq m n) l := by
  intro F σ H env En hr hp
  refine ⟨_, pss_cons w_ps w_pb, h F σ H env _ hr ?_⟩
  unfold mSeq at hp
  cases e : m env with
  | nx e1 =>
    rw [e] at hp
    exact fun σ' H' F' s1 r1 => t F' σ' H' e1 En r1 (PoS.mono s1 hp)
  | rt d e1 => rw [e] at hp; exact hp
  | br e1 => rw [e] at hp; exact hp
  | ct e1 => rw [e] at hp; exact hp
  | exc c v e1 => rw [e] at hp; exact hp
  | no => rw [e] at hp; exact hp
theorem init_ok {P : Program} {w : World} {mg : Str → Option Value} {base : Heap} {nm qual cn : Str} {st : Stmt} {f C : Addr} {fd : FuncData} {N ps ns : List Str} {pre : MS} {l : List (Str × ME)} {fi : List D → IR} (Fu : Fun g.K nm qual st f fd) (S : FnScope N ps (defScope st)) (hl : ps.length ≤ N.length)
    (co : ClO g cn C ns) (hns : ns = l.map (·.1)) (hfi : ∀ x ds, runInit ps.length N.length pre l x ds = fi ds)
    (hbody : ∀ (cdv : Value) (A : Around) (outer : List PySem.Env) (s : Shared) (H : Hp) (E : XK) (φ : Fc), Cok g (cxOf (L2.CX P w) P w g.K mg base N qual (defScope st) f cdv A outer s H E) (fun cls d _ H => E cls d H) k →
      IBody g (fun cls d _ H => E cls d H) φ (cxOf (L2.CX P w) P w g.K mg base N qual (defScope st) f cdv A outer s H E) (defBody st) pre l) :
    FnOk P w g.K mg base (L2.CX P w) (k + 1) f fd ps (spInit g C ns fi) := by
  refine Fu.okX S (fun vs H Q E h => ?_) (fun cdv A outer s H vs Q E hr h => ?_)
  · obtain ⟨F, x, dx, vs', ds, rfl, hx, hF, hS, hR, h⟩ := h
    rw [← hfi x ds] at h
    unfold runInit at h
    by_cases hz : ds.length + 1 = ps.length
    · rw [List.length_cons, hR.len, hz]
    · rw [if_neg hz] at h
      exact h.elim
  · obtain ⟨F, x, dx, vs', ds, rfl, hx, hF, hS, hR, h⟩ := h
    rw [← hfi x ds] at h
    unfold runInit at h
    by_cases hz : ds.length + 1 = ps.length
    · rw [if_pos hz] at h
      have c : Cok g (cxOf (L2.CX P w) P w g.K mg base N qual (defScope st) f cdv A outer s H E) (fun cls d _ H => E cls d H) k := ⟨rfl, rfl, S.nd, takes_of rfl rfl rfl rfl, hr, passes_of rfl⟩
      have hlen : (V.ref x :: vs').length = ps.length := by rw [List.length_cons, hR.len, hz]
      have r1 : Rel g ⟨[], H, F⟩ F ((V.ref x :: vs').map some) H (.va (.adr x) :: ds.map .va) := by
        refine Rel.fresh hS (by simp [hR.len]) (fun i d e => ?_) ?_
        · cases i with
          | zero =>
            simp only [List.getElem?_cons_zero, Option.some.injEq, Sl.va.injEq] at e
            subst e
            exact ⟨.ref x, rfl, .adr x⟩
          | succ i =>
            simp only [List.getElem?_cons_succ, List.getElem?_map, Option.map_eq_some_iff, Sl.va.injEq, exists_eq_right] at e
            obtain ⟨v, q1, q2⟩ := hR.get e
            exact ⟨v, by simp [q1], q2⟩
        · unfold noOw
          rw [List.all_eq_true]
          intro q hq
          rcases List.mem_cons.mp hq with hq | hq
          · rw [hq]
            rfl
          · obtain ⟨d, _, rfl⟩ := List.mem_map.mp hq
            rfl
      have r0 := r1.start (N := N) (n := N.length) rfl (by omega)
      rw [hlen] at r0
      obtain ⟨t, h1, h2⟩ := hbody cdv A outer s H E ⟨[], H, F⟩ c F (L2.start N (.ref x :: vs')) H _ { nx := fun _ H' => Q .non H', rt := Q } r0 (by
        cases hb : pre (.va (.adr x) :: ds.map .va ++ List.replicate (N.length - ps.length) Sl.un) with
        | no => rw [hb] at h; exact h.elim
        | br e => rw [hb] at h; exact h.elim
        | ct e => rw [hb] at h; exact h.elim
        | rt d e => rw [hb] at h; exact h.elim
        | exc cn v e =>
          rw [hb] at h
          exact fun C' fld dd vv σ' H' F' q1 q2 q3 q4 q5 => h C' fld dd vv H' F' q1 q2 q3.ex (fun b o z => q3.new b o z) (fun b o z => q3.fr b o z fun p hp => by cases hp) q4 q5
        | nx e =>
          rw [hb] at h
          simp only at h
          match e, h with
          | .va (.adr y) :: e', h =>
            simp only at h
            by_cases hy : y = x
            · subst hy
              rw [if_pos rfl] at h
              cases hs : stF l (.va (.adr y) :: e') with
              | none => rw [hs] at h; exact h.elim
              | some fs =>
                rw [hs] at h
                intro σ' H' F' s1 r2 rest hrest
                obtain ⟨v0, z1, z2⟩ := r2.va 0 (.adr y) rfl
                have ev : v0 = .ref y := by cases z2; rfl
                subst ev
                have hx2 : H' y = some (.ins C dx []) := r2.fr y _ hx fun p hp => by cases hp
                have hF2 : F' y = none := by
                  cases z : F' y with
                  | none => rfl
                  | some o =>
                    rcases r2.new y o z with z | z
                    · have z' : F y = some o := z
                      rw [hF] at z'
                      cases z'
                    · have z' : H y = none := z
                      rw [hx] at z'
                      cases z'
                refine stores_ok c.K co hrest (done := []) (vs := []) (ds := []) (fs := fs) (by simpa using hns) r2.ex r2.len r2.va z1 hx2 hF2 rfl .nil hs fun H3 F3 us σ3 a1 a2 a3 a4 a5 a6 a7 a8 => ?_
                refine h H3 F3 us (s1.trans a1) a2 (fun b o z => ?_) (fun b o z hb => a4 b o (r2.fr b o z fun p hp => by cases hp) hb) a5 a6 a7 a8
                rcases a3 b o z with z | z
                · exact r2.new b o z
                · right
                  cases zz : H b with
                  | none => rfl
                  | some o2 =>
                    rw [r2.fr b o2 zz fun p hp => by cases hp] at z
                    cases z
            · rw [if_neg hy] at h
              exact h.elim)
      exact ⟨t, h1, h2⟩
    · rw [if_neg hz] at h
      exact h.elim
end

/-! ### C(e, ..) -/
structure HasMk (P : Program) (w : World) (mg : Str → Option Value) (base : Heap) (g : Gc) (k : Nat) (cn : Str) (fi : List D → IR) : Prop where
  ex : ∃ (C fI : Addr) (fd : FuncData) (ps ns : List Str), Mk g.K C fI ∧ FnOk P w g.K mg base (L2.CX P w) k fI fd ps (spInit g C ns fi) ∧ Binds g.K fd ps [] ∧ mg cn = some (.ref C) ∧ g.cl cn = some (C, ns)
def makeF (cn : Str) (fi : List D → IR) (as : List Av) (e : Env) : Re D := match vals as with
  | none => .no
  | some ds => match fi ds with
    | .ok fs => .ok (.obj cn fs) e
    | .exc c v => .exc c v e
    | .no => .no
def mMake (cn : Str) (fi : List D → IR) (m : MA) : ME := fun env => (m env).bind fun as e => makeF cn fi as e
section
variable {g : Gc} {W : WX} {φ : Fc} {X : Cx} {k : Nat} {F F' : Hp} {σ : L2.St} {H H' : Hp} {env : Env}
theorem run_makeS {CX : CXT} {pins : List (Addr × Obj)} {s : Shared} {Q : VK} {us : List Value} {vs : List V} {C f : Addr} {fd : FuncData} {ps : List Str} {sp : Sp} {E : L2.St → XK} (M : Mk X.K C f) (Fo : FnOk X.prog X.w X.K X.mg X.base CX k f fd ps sp) (hr : Room (k + 1) X.A) (hb : Binds X.K fd ps [])
    (hx : PassesAt CX X σ (E σ)) (I : Inv X pins σ H s) (r : Vals vs us) (h : ∀ x dx, H x = none → H dx = none → dx ≠ x → sp (.ref x :: vs) (upd (upd H dx (.own x)) x (.ins C dx [])) (fun v H2 => v = .non ∧ Q (.ref x) H2) (E σ)) :
    wpAny (model X.prog X.w) X.A (call (.ref C) us) (EP X pins σ Q) X.xe s := by
  have w := h (s.heap.objs.size + 1) s.heap.objs.size (I.hok.fresh (Nat.le_succ _)) (I.hok.fresh (Nat.le_refl _)) (Nat.ne_of_lt (Nat.lt_succ_self _))
  have J := Inv.made (C := C) I
  have rr : Vals (V.ref (s.heap.objs.size + 1) :: vs) (Value.ref (s.heap.objs.size + 1) :: us) := .cons rfl r
  have n : (Value.ref (s.heap.objs.size + 1) :: us).length = ps.length := rr.length.symm.trans (Fo.len _ _ _ _ w)
  have bd := hb _ (Value.ref (s.heap.objs.size + 1) :: us) J.kIn (by rw [List.append_nil]; exact n)
  rw [List.append_nil] at bd
  have run := Fo.run _ X.stack _ _ ⟨Value.ref (s.heap.objs.size + 1) :: us, []⟩ (Value.ref (s.heap.objs.size + 1) :: us) _ _ (E σ) (hr.make C us []) (J.env0.make C us []) bd rr w
  refine wpAny_call (make_map (f := f) I.kIn M.makes M.init (beq_iff_eq.mp M.fn) (codeAny_mono run fun q s' hq => ?_))
  match q, hq with
  | .error e, hq => exact hx pins _ _ e s' J hq
  | .ok (.ret u), hq =>
    obtain ⟨v, H', I3, rv, ev, q3⟩ := J.after hq
    subst ev
    exact ⟨rv, V.ref (s.heap.objs.size + 1), H', I3, rfl, q3⟩
theorem pe_makeS {CX : CXT} {C f : Addr} {fd : FuncData} {ps : List Str} {sp : Sp} {E : L2.St → XK} {x : Str} {p pos : Pos} {e : Expr} {es : List Expr} {t : TA} (M : Mk X.K C f) (Fo : FnOk X.prog X.w X.K X.mg X.base CX k f fd ps sp) (hr : Room (k + 1) X.A) (hg : Gl X x) (hm : X.mg x = some (.ref C))
    (hb : Binds X.K fd ps []) (hx : ∀ σ, PassesAt CX X σ (E σ)) (ha : PA X (e :: es) t) (hdb : (x == ("__debug__" : Str)) = false) (he : starEach (e :: es) X.env = (false, eval e X.env) :: starEach es X.env) (hpl : (backTo pos (starEach es X.env)).any (·.1) = false) :
    PE X (.Call (.Name x p) (e :: es) [] pos) (fun σ H Q => t σ H fun vs H1 => ∀ x dx, H1 x = none → H1 dx = none → dx ≠ x → sp (.ref x :: vs) (upd (upd H1 dx (.own x)) x (.ins C dx [])) (fun v H2 => v = .non ∧ Q (.ref x) H2) (E σ)) :=
  ⟨fun pins s σ H Q I h => wpAny_Call_Name_kw (ld_glob I hg hm (PySem.W.callWith_K (h₀ := X.base) I.ok.mod.kin M.kp (thn (ha.run pos pins s σ H _ I h) fun us s1 z => by
    obtain ⟨vs, H1, I1, r, q⟩ := z
    exact ⟨I1.kIn, run_makeS M Fo hr hb (hx σ) I1 r q⟩) he hpl) hdb)⟩
theorem se_make {cn : Str} {kk : Nat} {fi : List D → IR} {e : Expr} {es : List Expr} {m : MA} {p pos : Pos} (c : Cok g X W k) (h : HasMk X.prog X.w X.mg X.base g kk cn fi) (hk : kk + 1 ≤ k) (hg : Gl X cn) (ha : SA g W φ X (e :: es) m)
    (hdb : (cn == ("__debug__" : Str)) = false := by decide) (he : starEach (e :: es) X.env = (false, eval e X.env) :: starEach es X.env := by rfl) (hpl : (backTo pos (starEach es X.env)).any (·.1) = false := by rfl) :
    SE g W φ X (.Call (.Name cn p) (e :: es) [] pos) (mMake cn fi m) := by
  intro F σ H env Q hr hp
  obtain ⟨C, fI, fd, ps, ns, M, Fo, hb, hm, hcl⟩ := h.ex
  rw [← c.K] at M Fo hb
  refine ⟨_, pe_makeS M Fo (c.rm.mono hk) hg hm hb (fun σ => passAt c.tk σ) w_pa hdb he hpl, ?_⟩
  refine ha F σ H env _ hr (ae hp fun as e1 vs H1 F1 s1 r1 p1 hp1 => ?_)
  intro x dx hx hdx hne
  unfold makeF at hp1
  cases hv : vals as with
  | none => simp only [hv] at hp1; exact hp1.elim
  | some ds =>
    simp only [hv] at hp1
    have hF1 : F1 x = none := r1.ex.free hx
    have old : ∀ b o, H1 b = some o → (upd (upd H1 dx (.own x)) x (.ins C dx [])) b = some o := fun b o z => by
      rw [upd_ne (ne_of_none z hx), upd_ne (ne_of_none z hdx)]
      exact z
    have back : ∀ b, (upd (upd H1 dx (.own x)) x (.ins C dx [])) b = none → H1 b = none := fun b z => by
      cases zz : H1 b with
      | none => rfl
      | some o =>
        rw [old b o zz] at z
        cases z
    refine ⟨F1, x, dx, vs, ds, rfl, upd_same, hF1, fun b o z => old b o (r1.ex b o z), p1.vals hv, ?_⟩
    cases hf : fi ds with
    | no => simp only [hf] at hp1; exact hp1.elim
    | exc c2 v =>
      simp only [hf] at hp1
      exact fun Cx fld dd vv H' F' q1 q2 q3 q4 q5 q6 q7 => hp1 Cx fld dd vv σ H' F' q1 q2 (r1.grow q2 q3 (fun b o z => (q4 b o z).imp id (back b)) fun b o z => q5 b o (old b o z)) q6 q7
    | ok fs =>
      simp only [hf] at hp1
      intro H' F' us q1 q2 q3 q4 q5 q6 q7 q8
      refine ⟨rfl, ?_⟩
      have xo : ∀ b o, H1 b = some o → b ≠ x := fun b o z => ne_of_none z hx
      have r2 : Rel g φ F' σ H' e1 := r1.grow q1 q2 (fun b o z => (q3 b o z).imp id (back b)) fun b o z => q4 b o (old b o z) (xo b o z)
      have s2 : Same F' (upd F' x (.ins C dx (ns.zip us))) := same_new q6
      have r3 : Rel g φ (upd F' x (.ins C dx (ns.zip us))) σ H' e1 := by
        refine r1.grow (q1.trans s2) (fun b o z => ?_) (fun b o z => ?_) fun b o z => q4 b o (old b o z) (xo b o z)
        · by_cases hbx : b = x
          · subst hbx
            rw [upd_same] at z
            cases z
            exact q5
          · rw [upd_ne hbx] at z
            exact q2 b o z
        · by_cases hbx : b = x
          · subst hbx
            exact .inr hx
          · rw [upd_ne hbx] at z
            exact (q3 b o z).imp id (back b)
      exact hp1 (.ref x) H' _ (q1.trans s2) r3 (.obj x cn C dx ns us fs hcl upd_same q7 (Reps.mono s2 q8).len (Reps.mono s2 q8).at_)
end
end Mp
set_option Elab.async false
set_option linter.all false
set_option maxRecDepth 100000
set_option maxHeartbeats 4000000
/-! attributes, properties, own ==, isinstance, and more of the built-ins -/
namespace Mp
open PySem PySem.Spec PyProof.Rows L2

section
variable {g : Gc} {W : WX} {φ : Fc} {X : Cx} {k : Nat} {F F' : Hp} {σ : L2.St} {H H' : Hp} {env : Env}
/-- e.f, the i-th attribute of an instance of the class cn -/
def attF (cn : Str) (i : Nat) : D → Option D
  | .obj c fs => if c = cn then fs[i]? else none
  | _ => none
def mAtt (cn : Str) (i : Nat) (m : ME) : ME := fun env => (m env).bind fun d e => match attF cn i d with
  | some z => .ok z e
  | none => .no
theorem att_of {cn : Str} {i : Nat} {C : Addr} {ns : List Str} {f : Str} (co : ClO g cn C ns) (hf : ns[i]? = some f) {v : V} {d z : D} (r : Rep g F v d) (e : attF cn i d = some z) :
    ∃ a dx us u, v = .ref a ∧ F a = some (.ins C dx us) ∧ us.lookup f = some u ∧ Rep g F u z := by
  cases d <;> simp only [attF, reduceCtorEq] at e
  rename_i c fs
  by_cases hc : c = cn
  · subst hc
    rw [if_pos rfl] at e
    cases r with
    | obj a c C' dx ns' vs ds hc h hn hl hi =>
      rw [co.cl] at hc
      cases hc
      obtain ⟨u, q1, q2⟩ := (Reps.mk hl hi).get e
      exact ⟨a, dx, _, u, rfl, h, lookup_zip hf co.nd hn q1, q2⟩
  · rw [if_neg hc] at e
    cases e
/-- self.f -/
theorem se_fld {cn : Str} {i : Nat} {C : Addr} {ns : List Str} {f : Str} {e : Expr} {m : ME} {pos : Pos} (hK : X.K = g.K) (co : ClO g cn C ns) (hf : ns[i]? = some f) (h : SE g W φ X e m) (hb : attributeBase e f X.env (eval e X.env) = eval e X.env := by rfl) : SE g W φ X (.Attribute e f pos) (mAtt cn i m) := by
  intro F σ H env Q hr hp
  refine ⟨_, pe_fld w_pe hb, h F σ H env _ hr (ee hp fun d e1 v H1 F1 s1 r1 p1 hp1 => ?_)⟩
  cases ez : attF cn i d with
  | none => simp only [ez] at hp1; exact hp1.elim
  | some z =>
    simp only [ez] at hp1
    obtain ⟨a, dx, us, u, rfl, h1, h2, h3⟩ := att_of co hf p1 ez
    exact ⟨a, C, dx, us, u, rfl, r1.ex _ _ h1, hK ▸ co.cls, hK ▸ co.no f (List.mem_of_getElem? hf), h2, hp1 u H1 F1 (Same.refl _) r1 h3⟩
/-- the class cn has the property pn for its i-th attribute -/
structure HasPr (P : Program) (w : World) (mg : Str → Option Value) (base : Heap) (g : Gc) (k : Nat) (cn pn : Str) (i : Nat) : Prop where
  ex : ∃ (C p fG : Addr) (fd : FuncData) (ns : List Str) (f : Str), ClO g cn C ns ∧ ns[i]? = some f ∧ PropOf g.K C pn p fG ∧ FnOk P w g.K mg base (L2.CX P w) k fG fd ["self"] (getSp C f) ∧ Binds g.K fd ["self"] []
theorem se_prop {cn pn : Str} {i kk : Nat} {e : Expr} {m : ME} {pos : Pos} (c : Cok g X W k) (hq : HasPr X.prog X.w X.mg X.base g kk cn pn i) (hk : kk + 1 ≤ k) (h : SE g W φ X e m) (hb : attributeBase e pn X.env (eval e X.env) = eval e X.env := by rfl) :
    SE g W φ X (.Attribute e pn pos) (mAtt cn i m) := by
  intro F σ H env Q hr hp
  obtain ⟨C, p, fG, fd, ns, f, co, hf, pr, Fo, hbd⟩ := hq.ex
  have cls := co.cls
  rw [← c.K] at pr Fo hbd cls
  refine ⟨_, pe_prop w_pe cls pr Fo (c.rm.mono hk) hbd .nil (passL (X := X.nox)) hb, h F σ H env _ hr (ee hp fun d e1 v H1 F1 s1 r1 p1 hp1 => ?_)⟩
  cases ez : attF cn i d with
  | none => simp only [ez] at hp1; exact hp1.elim
  | some z =>
    simp only [ez] at hp1
    obtain ⟨a, dx, us, u, rfl, h1, h2, h3⟩ := att_of co hf p1 ez
    exact ⟨a, dx, us, rfl, r1.ex _ _ h1, a, dx, us, u, rfl, r1.ex _ _ h1, h2, hp1 u H1 F1 (Same.refl _) r1 h3⟩
/-- .. by the text of its getter -/
theorem has_pr {P : Program} {w : World} {mg : Str → Option Value} {base : Heap} {cn pn qual f : Str} {i : Nat} {C p fG : Addr} {ns : List Str} {st : Stmt} {fd : FuncData} {N : List Str} {p1 p2 p3 : Pos} (co : ClO g cn C ns) (hf : ns[i]? = some f) (pr : PropOf g.K C pn p fG) (Fu : Fun g.K pn qual st fG fd)
    (S : FnScope N ["self"] (defScope st)) (hN : N[0]? = some ("self" : Str)) (hbd : Binds g.K fd ["self"] []) (hv : Vis (defScope st) "self") (hb : defBody st = [.Return (some (.Attribute (.Name "self" p1) f p2)) p3]) : HasPr P w mg base g (k + 1) cn pn i := by
  refine ⟨C, p, fG, fd, ns, f, co, hf, pr, Fu.okX S (fun vs H Q E h => ?_) (fun cdv A outer s H vs Q E hr h => ?_), hbd⟩
  · obtain ⟨a, dx, fs, v, e, _⟩ := h
    rw [e]
    rfl
  · obtain ⟨a, dx, fs, v, e, ea, l, q⟩ := h
    subst e
    rw [hb]
    exact ⟨_, pss_one (ps_ret (pe_fld (pe_var (i := 0) hN hv) rfl)), .ref a, rfl, a, C, dx, fs, v, rfl, ea, co.cls, co.no f (List.mem_of_getElem? hf), l, q⟩

/-! ### == of two instances, by the class's own __eq__ -/
structure HasEq (P : Program) (w : World) (mg : Str → Option Value) (base : Heap) (g : Gc) (k : Nat) (cn : Str) (fn : Fn) : Prop where
  ex : ∃ (C f : Addr) (fd : FuncData) (ps ns : List Str), g.cl cn = some (C, ns) ∧ PySem.W.findIn g.K (.ref C) "__eq__" = some (some (.ref f)) ∧ PySem.W.isFn g.K (.ref f) = true ∧ FnOk P w g.K mg base (L2.CX P w) k f fd ps (spOf g fn) ∧ Binds g.K fd ps []
theorem op_ownI {C f : Addr} {fd : FuncData} {ps : List Str} {sp : Sp} (hs : PySem.W.findIn X.K (.ref C) "__eq__" = some (some (.ref f))) (hf : PySem.W.isFn X.K (.ref f) = true) (Fo : FnOk X.prog X.w X.K X.mg X.base (L2.CX X.prog X.w) k f fd ps sp) (hr : Room k X.A) (hb : Binds X.K fd ps []) :
    OpR X (compareOp .Eq) (fun x y H Q => ∃ a b dx dy fs gs, x = .ref a ∧ y = .ref b ∧ H a = some (.ins C dx fs) ∧ H b = some (.ins C dy gs) ∧ sp [x, y] H Q E0) := by
  intro pins s σ H x y v u Q I rx ry ⟨a, b, dx, dy, fs, gs, ex, ey, ha, hb', q⟩
  subst ex ey
  obtain rfl : v = Value.ref a := rx
  obtain rfl : u = Value.ref b := ry
  obtain ⟨_, O, _⟩ := ins_get I.hok ha
  obtain ⟨_, O', _⟩ := ins_get I.hok hb'
  obtain ⟨_, J, _⟩ := O.look
  obtain ⟨_, J', _⟩ := O'.look
  obtain ⟨_, fr⟩ := I.fr
  show wpAny _ _ (richCompare .Eq _ _) _ _ _
  refine PySem.W.cmp_K (op := .Eq) (tb := .ref C) hr.units0 fr I.ok.mod.kin J J'.type (by simp [PySem.W.notFirst]) hs hf ?_
  refine thn (run_fn (us := [.ref a, .ref b]) (vs := [.ref a, .ref b]) (dvs := []) (ds := []) (E := E0) Fo hr hb .nil passL I (.cons rfl (.cons rfl .nil)) q) fun w s' z => ?_
  obtain ⟨v', H', I', rv, qv⟩ := z
  exact SlX.cmpback rv ⟨v', H', I', rv, qv⟩
def eqOwn (cn : Str) (fn : Fn) : D → D → Option D
  | .obj c fs, .obj c' gs => if c = cn ∧ c' = cn then (match fn [.va (.obj c fs), .va (.obj c' gs)] with
    | .ok (.bl b) outs => if outs.length = 2 then some (.bl b) else none
    | _ => none) else none
  | _, _ => none
theorem op_eqOwn {cn : Str} {fn : Fn} {kk : Nat} (c : Cok g X W k) (h : HasEq X.prog X.w X.mg X.base g kk cn fn) (hk : kk ≤ k) : OpS g φ (wO X (compareOp .Eq)) (eqOwn cn fn) := by
  intro F σ H env v u x y z Q hr hx hy hf hq
  obtain ⟨C, f, fd, ps, ns, hcl, hs, hfn, Fo, hb⟩ := h.ex
  rw [← c.K] at hs hfn Fo hb
  refine ⟨_, op_ownI hs hfn Fo (c.rm.mono hk) hb, ?_⟩
  cases x <;> cases y <;> simp only [eqOwn, reduceCtorEq] at hf
  rename_i c1 fs c2 gs
  by_cases hcc : c1 = cn ∧ c2 = cn
  · rw [if_pos hcc] at hf
    obtain ⟨rfl, rfl⟩ := hcc
    have px : Rep g F v (.obj c2 fs) := by
      cases hx with
      | of hx => exact hx
    have py : Rep g F u (.obj c2 gs) := by
      cases hy with
      | of hy => exact hy
    have pp := px
    have qq := py
    cases px with
    | obj a c3 C1 dx ns1 vs ds hc1 h1 hn1 hl1 hi1 =>
      cases py with
      | obj b c4 C2 dy ns2 ws es hc2 h2 hn2 hl2 hi2 =>
        rw [hcl] at hc1 hc2
        cases hc1
        cases hc2
        refine ⟨a, b, dx, dy, _, _, rfl, rfl, hr.ex _ _ h1, hr.ex _ _ h2, ?_⟩
        cases hfo : fn [.va (.obj c2 fs), .va (.obj c2 gs)] with
        | no => rw [hfo] at hf; cases hf
        | exc c5 v5 o5 => rw [hfo] at hf; cases hf
        | ok d outs =>
          rw [hfo] at hf
          have pv : AvsR g F σ [V.ref a, V.ref b] [.va (.obj c2 fs), .va (.obj c2 gs)] := .cons pp (.cons qq .nil)
          refine sp_call (W := W0) hr pv ?_
          have ea : argsOf env [.va (.obj c2 fs), .va (.obj c2 gs)] = some [.va (.obj c2 fs), .va (.obj c2 gs)] := rfl
          unfold callF
          rw [if_pos (show (ixs [Av.va (.obj c2 fs), .va (.obj c2 gs)]).Nodup from List.nodup_nil), ea]
          simp only [hfo]
          cases d <;> simp only [reduceCtorEq] at hf
          rename_i bb
          by_cases hl : outs.length = 2
          · rw [if_pos hl] at hf
            cases hf
            match outs, hl with
            | [o1, o2], _ =>
              show PoE g W0 φ F σ Q (.ok (.bl bb) env)
              exact fun r H' F' s1 r1 p1 => hq r H' F' s1 r1 p1
          · rw [if_neg hl] at hf
            cases hf
  · rw [if_neg hcc] at hf
    cases hf
/-- a comparison that may call -/
theorem se_cmpS {op : CmpOp} {f : D → D → Option D} {a b : Expr} {ma mb : MV} {pos : Pos} (ho : OpS g φ (wO X (compareOp op)) f) (ha : SV g W φ X a ma) (hb : SV g W φ X b mb) (hm : behindInMarks op b = false := by first | exact nomark _ | rfl) :
    SE g W φ X (.Compare a [op] [b] pos) (mBin f ma mb) := by
  intro F σ H env Q hr hp
  refine ⟨_, pe_cmpR w_op w_pe w_pe hm, ?_⟩
  refine ha F σ H env _ hr (ve hp fun x e1 v H1 F1 s1 r1 p1 hp1 => hb F1 σ H1 e1 _ r1 (ve hp1 fun y e2 u H2 F2 s2 r2 p2 hp2 => ?_))
  obtain ⟨d, d', z, g1, g2, hf, hp3⟩ := use2_ok hp2
  exact ho F2 σ H2 e2 v u d d' z Q r2 ((p1.mono s2).get r2 g1) (p2.get r2 g2) hf hp3
theorem st_cmpS {op : CmpOp} {f : D → D → Option D} {a b : Expr} {ma mb : MV} {pos : Pos} (ho : OpS g φ (wO X (compareOp op)) f) (ha : SV g W φ X a ma) (hb : SV g W φ X b mb) (hm : behindInMarks op b = false := by first | exact nomark _ | rfl) :
    ST g W φ X (.Compare a [op] [b] pos) (fun env => (mBin f ma mb env).bind asB) := by
  intro F σ H env Q hr hp
  refine ⟨_, pt_cmpR w_op w_pe w_pe hm, ?_⟩
  have e0 : ∀ {α β γ : Type} (r : Re α) (k : α → Env → Re β) (k2 : β → Env → Re γ), (r.bind k).bind k2 = r.bind fun a e => (k a e).bind k2 := fun r k k2 => by cases r <;> rfl
  have hp : PoT g W φ F σ Q ((mBin f ma mb env).bind asB) := hp
  unfold mBin at hp
  rw [e0] at hp
  refine ha F σ H env _ hr (vt hp fun x e1 v H1 F1 s1 r1 p1 hp1 => ?_)
  rw [e0] at hp1
  refine hb F1 σ H1 e1 _ r1 (vt hp1 fun y e2 u H2 F2 s2 r2 p2 hp2 => ?_)
  unfold use2 at hp2
  cases g1 : x.get e2 with
  | none => rw [g1] at hp2; exact hp2.elim
  | some d =>
    cases g2 : y.get e2 with
    | none => rw [g1, g2] at hp2; exact hp2.elim
    | some d' =>
      rw [g1, g2] at hp2
      cases hf : f d d' with
      | none => simp only [hf] at hp2; exact hp2.elim
      | some z =>
        simp only [hf] at hp2
        refine ho F2 σ H2 e2 v u d d' z _ r2 ((p1.mono s2).get r2 g1) (p2.get r2 g2) hf fun r H3 F3 s3 r3 p3 => ?_
        cases z with
        | bl bb =>
          cases p3
          exact ⟨bb, rfl, hp2 _ _ s3 r3⟩
        | _ => exact hp2.elim
end
end Mp
set_option Elab.async false
set_option linter.all false
set_option maxRecDepth 100000
set_option maxHeartbeats 4000000
/-! isinstance with own classes and tuples of types, all, any, max, min, in, zip, enumerate, moved lists -/
namespace Mp
open PySem PySem.Spec PyProof.Rows L2

section
variable {g : Gc} {W : WX} {φ : Fc} {X : Cx} {k : Nat} {F F' : Hp} {σ : L2.St} {H H' : Hp} {env : Env}
/-! ### isinstance(x, C), C of the text -/
def isClF (cn : Str) : List D → Option D
  | [x, .cls c] => if c = cn then (match x with
    | .obj c' _ => some (.bl (decide (c' = cn)))
    | x => match tyName x with
      | some _ => some (.bl false)
      | none => none) else none
  | _ => none
/-- what the text says of the class and of the others -/
structure HasIs (g : Gc) (cn : Str) : Prop where
  ex : ∃ (C : Addr) (ns : List Str), g.cl cn = some (C, ns) ∧ (∀ t ∈ ["NoneType", "bool", "int", "str", "tuple", "list"], PySem.W.kitOne g.K (.type t) (.ref C) = some false) ∧
    ∀ c' C' ns', g.cl c' = some (C', ns') → Cls g.K C' ∧ PySem.W.findIn g.K (.ref C') "__class__" = some (some (.builtin "object.__class__")) ∧ PySem.W.mroIn g.K C' (.type "object") = some true ∧ PySem.W.kitOne g.K (.ref C') (.ref C) = some (decide (c' = cn))
  hn : PySem.W.specialIn g.K (.builtin "object.__class__") "__get__" = some (some (.builtin "getset_descriptor.__get__"))
  tk : PySem.W.takesIn g.K (.builtin "object.__class__") = some true
theorem tyName_mem {d : D} {t : String} (h : tyName d = some t) : t ∈ ["NoneType", "bool", "int", "str", "tuple", "list"] := by
  cases d <;> simp only [tyName, reduceCtorEq, Option.some.injEq] at h <;> subst h <;> decide
theorem ca_isCl {cn : Str} (hK : X.K = g.K) (h : HasIs g cn) : CaS g φ (wC X (.builtin "isinstance")) (isClF cn) := by
  intro F σ H env vs ds z Q hr hx hf hq
  obtain ⟨C, ns, hcl, hty, hob⟩ := h.ex
  cases hx with
  | nil => simp [isClF] at hf
  | @cons v d vs ds hv t =>
    cases t with
    | nil => simp [isClF] at hf
    | @cons v2 d2 vs ds h2 t =>
      cases t with
      | cons h3 t3 => cases d2 <;> simp [isClF] at hf
      | nil =>
        cases d2 <;> simp only [isClF, reduceCtorEq] at hf
        rename_i c
        by_cases hc : c = cn
        · subst hc
          rw [if_pos rfl] at hf
          have e2 : v2 = .ref C := by
            cases h2 with
            | of h2 =>
              cases h2 with
              | cls c C' ns' hc' =>
                rw [hcl] at hc'
                cases hc'
                rfl
          subst e2
          have other : ∀ t, tyName d = some t → z = .bl false → wC X (.builtin "isinstance") [v, .ref C] H Q := fun t e ez => by
            subst ez
            exact ⟨_, call_isi, v, .ref C, .type t, .ref C, false, rfl, .own C, hK ▸ hv.ty hr.ex e, hK ▸ hty t (tyName_mem e), hq _ _ _ (Same.refl _) hr (.bl false)⟩
          cases d with
          | obj c' fs =>
            simp only [Option.some.injEq] at hf
            subst hf
            cases hv with
            | of hv =>
              cases hv with
              | obj a c' C' dx ns' ws ds' hc' h1 hn1 hl1 hi1 =>
                obtain ⟨k1, k2, k3, k4⟩ := hob c' C' ns' hc'
                refine ⟨_, call_isi, .ref a, .ref C, .ref C', .ref C, _, rfl, .own C, .base (.ins (hr.ex _ _ h1) (hK ▸ k1) (hK ▸ k2) (hK ▸ h.hn) (hK ▸ h.tk) (hK ▸ k3)), hK ▸ k4, ?_⟩
                exact hq _ _ _ (Same.refl _) hr (.bl _)
          | _ =>
            simp only [tyName, Option.some.injEq, reduceCtorEq] at hf <;> exact other _ rfl hf.symm
        · rw [if_neg hc] at hf
          cases hf
/-! ### isinstance(x, (T, ..)) -/
def kitBs (t : String) : List String → Option Bool
  | [] => some false
  | n :: ns => match kitB t n, kitBs t ns with
    | some true, _ => some true
    | some false, some b => some b
    | _, _ => none
theorem kitBs_ok {K : PySem.W.Frag} {t : String} : ∀ {ns : List String} {b : Bool}, kitBs t ns = some b → PySem.W.kitAny K (.type t) (ns.map Value.type) = some b
  | [], b, h => by
    cases h
    rfl
  | n :: ns, b, h => by
    simp only [kitBs] at h
    cases e : kitB t n with
    | none => simp [e] at h
    | some b1 =>
      cases b1 with
      | true =>
        simp only [e, Option.some.injEq] at h
        subst h
        exact kitAny_cons (r := true) (kit_ty e) (fun z => by cases z) (fun _ => rfl)
      | false =>
        cases e2 : kitBs t ns with
        | none => simp [e, e2] at h
        | some b2 =>
          simp only [e, e2, Option.some.injEq] at h
          subst h
          exact kitAny_cons (kit_ty e) (fun _ => kitBs_ok e2) (fun z => by cases z)
def isTsF (ns : List String) (x : D) : Option D := match tyName x with
  | some t => (kitBs t ns).map D.bl
  | none => none
/-- the types' names, as an argument list -/
inductive Tys (X : Cx) : List Expr → List String → Prop
  | nil : Tys X [] []
  | cons {x : Str} {n : String} {p : Pos} {es : List Expr} {ns : List String} (hg : Gl X x) (hm : X.mg x = none) (hv : bootBuiltins x = some (.type n)) (hn : x ≠ "__name__") (hd : (x == ("__debug__" : Str)) = false)
      (hs : starEach (Expr.Name x p :: es) X.env = (false, eval (.Name x p) X.env) :: starEach es X.env) (r : Tys X es ns) : Tys X (.Name x p :: es) (n :: ns)
theorem tys_pa {es : List Expr} {ns : List String} (h : Tys X es ns) : PA X es (fun σ H Q => Q (ns.map V.ty) H) := by
  induction h with
  | nil => exact pa_nil
  | cons hg hm hv hn hd hs r ih => exact pa_cons (pe_bltn (v := .ty _) hg hm hv rfl hn hd) ih hs
theorem tys_paired : ∀ (ns : List String), Paired ClsV (ns.map V.ty) (ns.map Value.type)
  | [] => .nil
  | n :: ns => .cons (.ty n) (tys_paired ns)
theorem se_isTs {a : Expr} {ts : List Expr} {ns : List String} {m : MV} {x1 : Nat} {tp p pos : Pos} (hK : X.K = g.K) (ha : SV g W φ X a m) (ht : Tys X ts ns) (hg : Gl X "isinstance") (hm : X.mg "isinstance" = none) (hl : ns.length ≤ line)
    (hs : starEach (a :: [.Tuple ts x1 tp]) X.env = (false, eval a X.env) :: starEach [.Tuple ts x1 tp] X.env := by rfl) (hs2 : starEach (Expr.Tuple ts x1 tp :: []) X.env = (false, eval (.Tuple ts x1 tp) X.env) :: starEach [] X.env := by rfl)
    (hpl : (backTo pos (starEach [.Tuple ts x1 tp] X.env)).any (·.1) = false := by rfl) :
    SE g W φ X (.Call (.Name "isinstance" p) [a, .Tuple ts x1 tp] [] pos) (mUn (isTsF ns) m) := by
  intro F σ H env Q hr hp
  refine ⟨_, pe_callB call_isiT hg hm (by decide +kernel) (pa_cons w_pe (pa_cons (pe_tup (tys_pa ht)) pa_nil hs2) hs) (by decide) (by decide) hs hpl, ?_⟩
  refine ha F σ H env _ hr (ve hp fun x e1 v H1 F1 s1 r1 p1 hp1 => ?_)
  obtain ⟨d, z, g1, hf, hp2⟩ := use1_ok hp1
  refine ⟨by rw [List.length_map, ← line_eq]; exact hl, fun p hn => ?_⟩
  obtain ⟨s2, r2⟩ := r1.laid (o := .tup (ns.map V.ty)) hn
  unfold isTsF at hf
  cases e : tyName d with
  | none => simp [e] at hf
  | some t =>
    simp only [e, Option.map_eq_some_iff] at hf
    obtain ⟨b, hb, rfl⟩ := hf
    exact ⟨v, p, ns.map V.ty, .type t, ns.map Value.type, b, rfl, upd_same, tys_paired ns, hK ▸ ((p1.mono s2).get r2 g1).ty r2.ex e, kitBs_ok hb, hp2 _ _ _ s2 r2 (.bl b)⟩

/-! ### all, any; max, min of a list -/
def boolsOf : List D → Option (List Bool)
  | [] => some []
  | .bl b :: ds => (boolsOf ds).map (b :: ·)
  | _ :: _ => none
theorem boolsOf_ok : ∀ {ds : List D} {bs : List Bool} {vs : List V}, boolsOf ds = some bs → Reps g F vs ds → vs = bs.map V.bl
  | [], bs, vs, e, r => by
    cases e
    have := r.len
    match vs, this with
    | [], _ => rfl
  | d :: ds, bs, vs, e, r => by
    match vs, r with
    | [], r => have := r.len; simp at this
    | v :: vs, r =>
      cases d <;> simp only [boolsOf, reduceCtorEq, Option.map_eq_some_iff] at e
      obtain ⟨bs', e1, e2⟩ := e
      subst e2
      have h := r.head
      cases h
      rw [boolsOf_ok e1 r.tail]
      rfl
def allF : List D → Option D
  | [.lst xs] => (boolsOf xs).map fun bs => .bl (bs.all id)
  | _ => none
def anyF : List D → Option D
  | [.lst xs] => (boolsOf xs).map fun bs => .bl (bs.any id)
  | _ => none
theorem ca_all (hK : X.K = g.K) (hc : X.calm = true) : CaS g φ (wC X (.builtin "all")) allF := by
  intro F σ H env vs ds z Q hr hx hf hq
  cases hx with
  | nil => simp [allF] at hf
  | @cons v d vs ds hv t =>
    cases t with
    | cons _ _ => cases d <;> simp [allF] at hf
    | nil =>
      cases d <;> simp only [allF, reduceCtorEq, Option.map_eq_some_iff] at hf
      obtain ⟨bs, h1, rfl⟩ := hf
      obtain ⟨a, ws, rfl, h2, h3⟩ := hv.lst hr.ex
      have e := boolsOf_ok h1 h3
      subst e
      exact ⟨_, cr_all hc, a, bs, rfl, SqL.of h2, hq _ _ _ (Same.refl _) hr (.bl _)⟩
theorem ca_any (hK : X.K = g.K) (hc : X.calm = true) : CaS g φ (wC X (.builtin "any")) anyF := by
  intro F σ H env vs ds z Q hr hx hf hq
  cases hx with
  | nil => simp [anyF] at hf
  | @cons v d vs ds hv t =>
    cases t with
    | cons _ _ => cases d <;> simp [anyF] at hf
    | nil =>
      cases d <;> simp only [anyF, reduceCtorEq, Option.map_eq_some_iff] at hf
      obtain ⟨bs, h1, rfl⟩ := hf
      obtain ⟨a, ws, rfl, h2, h3⟩ := hv.lst hr.ex
      have e := boolsOf_ok h1 h3
      subst e
      exact ⟨_, cr_any hc, a, bs, rfl, SqL.of h2, hq _ _ _ (Same.refl _) hr (.bl _)⟩
/-! ### a list of one's own, given away -/
def mMove (i : Nat) : ME := fun env => match env[i]? with
  | some (.ow false xs) => .ok (.lst xs) (env.set i .un)
  | some (.va d) => .ok d env
  | _ => .no
theorem se_move (i : Nat) {x : Str} {p : Pos} (hN : X.N[i]? = some x := by rfl) (hv : Vis X.env.scope x := by first | exact Or.inl rfl | exact Or.inr (Or.inl rfl) | exact Or.inr (Or.inr rfl))
    (hd : (x == ("__debug__" : Str)) = false := by decide) (hcd : (x == ("__classdict__" : Str)) = false := by decide) : SE g W φ X (.Name x p) (mMove i) := by
  intro F σ H env Q hr hp
  unfold mMove at hp
  cases e : env[i]? with
  | none => rw [e] at hp; exact hp.elim
  | some s =>
    cases s with
    | un => rw [e] at hp; exact hp.elim
    | va d =>
      rw [e] at hp
      obtain ⟨v, h1, h2⟩ := hr.va i d e
      exact ⟨_, pe_var hN hv hd hcd, v, h1, hp v H F (Same.refl _) hr h2⟩
    | ow b xs =>
      cases b with
      | true => rw [e] at hp; exact hp.elim
      | false =>
        rw [e] at hp
        obtain ⟨a, vs, h1, h2, h3, h4⟩ := hr.give e
        exact ⟨_, pe_var hN hv hd hcd, .ref a, h1, hp (.ref a) H _ h2 h3 h4⟩
/-! ### zip, enumerate -/
def lZip (m : MA) : ML := fun env => (m env).bind fun as e => match vals as with
  | some [.tup xs, .tup ys] => .ok (List.zipWith (fun x y => D.tup [x, y]) xs ys) e
  | some [.lst xs, .lst ys] => .ok (List.zipWith (fun x y => D.tup [x, y]) xs ys) e
  | _ => .no
def pairsFrom : Nat → List D → List D
  | _, [] => []
  | n, d :: ds => .tup [.int (n : Nat), d] :: pairsFrom (n + 1) ds
def lEnum (m : MA) : ML := fun env => (m env).bind fun as e => match vals as with
  | some [.tup xs] => .ok (pairsFrom 0 xs) e
  | some [.lst xs] => .ok (pairsFrom 0 xs) e
  | _ => .no
theorem pairsFrom_at : ∀ {ds : List D} {n i : Nat}, (pairsFrom n ds)[i]? = (ds[i]?).map fun d => D.tup [.int ((n + i : Nat) : Int), d]
  | [], n, i => by simp [pairsFrom]
  | d :: ds, n, i => by
    cases i with
    | zero => simp [pairsFrom]
    | succ i =>
      simp only [pairsFrom, List.getElem?_cons_succ]
      rw [pairsFrom_at, show n + 1 + i = n + (i + 1) by omega]
theorem pairsFrom_length : ∀ {ds : List D} {n : Nat}, (pairsFrom n ds).length = ds.length
  | [], _ => rfl
  | _ :: ds, n => by simp [pairsFrom, pairsFrom_length]
theorem zip_at {xs ys : List D} {i : Nat} {d : D} (e : (List.zipWith (fun x y => D.tup [x, y]) xs ys)[i]? = some d) : ∃ x y, xs[i]? = some x ∧ ys[i]? = some y ∧ d = .tup [x, y] := by
  rw [List.getElem?_zipWith] at e
  cases h1 : xs[i]? with
  | none => simp [h1] at e
  | some x =>
    cases h2 : ys[i]? with
    | none => simp [h1, h2] at e
    | some y =>
      simp only [h1, h2, Option.some.injEq] at e
      exact ⟨x, y, rfl, rfl, e.symm⟩
theorem laid_pair {H' : Hp} {p : Addr} {u v : V} {x y : D} (r1 : Rel g φ F σ H env) (hn : H p = none) (hu : Rep g F u x) (hv : Rep g F v y) (eH : H' = upd H p (.tup [u, v])) :
    ∃ F2, Same F F2 ∧ Same H H' ∧ (∀ b o, F2 b = some o → F b = some o ∨ H b = none) ∧ Rel g φ F2 σ H' env ∧ Rep g F2 (.ref p) (.tup [x, y]) := by
  obtain ⟨s2, r2⟩ := r1.laid (o := .tup [u, v]) hn
  subst eH
  refine ⟨_, s2, same_new hn, fun b o z => ?_, r2, .mkTup upd_same (.cons (hu.mono s2) (.cons (hv.mono s2) .nil))⟩
  by_cases hb : b = p
  · subst hb
    exact .inr hn
  · rw [upd_ne hb] at z
    exact .inl z
theorem walks_zipL {a b : Addr} {us vs : List V} {xs ys : List D} (h1 : SqL g.K F a us) (h2 : SqL g.K F b vs) (q1 : Reps g F us xs) (q2 : Reps g F vs ys) : Walks g (L2.Itz g.K a b) F (List.zipWith (fun x y => D.tup [x, y]) xs ys) := by
  intro φ F1 σ H env i s1 r1
  have k1 : SqL g.K H a us := (s1.trans r1.ex).seq h1
  have k2 : SqL g.K H b vs := (s1.trans r1.ex).seq h2
  refine ⟨fun d e => ?_, fun e => ⟨us, vs, k1, k2, ?_⟩⟩
  · obtain ⟨x, y, e1, e2, rfl⟩ := zip_at e
    obtain ⟨u, m1, m2⟩ := q1.get e1
    obtain ⟨v, m3, m4⟩ := q2.get e2
    refine ⟨⟨us, vs, u, v, k1, k2, m1, m3⟩, fun w H' yl => ?_⟩
    obtain ⟨T, u', v', rfl, hn, eH, z1, z2⟩ := yl
    have t1 := (z1 us k1).symm.trans m1
    have t2 := (z2 vs k2).symm.trans m3
    cases t1
    cases t2
    exact laid_pair r1 hn (m2.mono s1) (m4.mono s1) eH
  · rw [List.length_zipWith] at e
    rw [q1.len, q2.len]
    omega
theorem walks_zipT {a b : Addr} {us vs : List V} {xs ys : List D} (h1 : SqT g.K F a us) (h2 : SqT g.K F b vs) (q1 : Reps g F us xs) (q2 : Reps g F vs ys) : Walks g (RZ.ItzT g.K a b) F (List.zipWith (fun x y => D.tup [x, y]) xs ys) := by
  intro φ F1 σ H env i s1 r1
  have k1 : SqT g.K H a us := same_t (s1.trans r1.ex) h1
  have k2 : SqT g.K H b vs := same_t (s1.trans r1.ex) h2
  refine ⟨fun d e => ?_, fun e => ⟨us, vs, k1, k2, ?_⟩⟩
  · obtain ⟨x, y, e1, e2, rfl⟩ := zip_at e
    obtain ⟨u, m1, m2⟩ := q1.get e1
    obtain ⟨v, m3, m4⟩ := q2.get e2
    refine ⟨⟨us, vs, u, v, k1, k2, m1, m3⟩, fun w H' yl => ?_⟩
    obtain ⟨T, u', v', rfl, hn, eH, z1, z2⟩ := yl
    have t1 := (z1 us k1).symm.trans m1
    have t2 := (z2 vs k2).symm.trans m3
    cases t1
    cases t2
    exact laid_pair r1 hn (m2.mono s1) (m4.mono s1) eH
  · rw [List.length_zipWith] at e
    rw [q1.len, q2.len]
    omega
theorem ai {r : Re (List Av)} {kk : List Av → Env → Re (List D)} {Q : It → Hp → Prop} {Q1 : List V → Hp → Prop} (hp : PoI g W φ F σ Q (r.bind kk))
    (h : ∀ x e1 vs H1 F1, Same F F1 → Rel g φ F1 σ H1 e1 → AvsR g F1 σ vs x → PoI g W φ F1 σ Q (kk x e1) → Q1 vs H1) : PoA g W φ F σ Q1 r := by
  cases r with
  | ok x e1 => exact fun v H1 F1 a b c => h x e1 v H1 F1 a b c (hp.mono a)
  | exc c v e' => exact hp
  | no => exact hp
theorem si_zip {e e2 : Expr} {elts : List Expr} {n : Nat} {m : MA} {p pos tpos : Pos} (hK : X.K = g.K) (ha : SA g W φ X [e, e2] m) (hg : Gl X "zip") (hm : X.mg "zip" = none)
    (hs : starEach [e, e2] X.env = (false, eval e X.env) :: starEach [e2] X.env := by rfl) (hpl : (backTo pos (starEach [e2] X.env)).any (·.1) = false := by rfl) : SI g W φ X (.Tuple elts n tpos) (.Call (.Name "zip" p) [e, e2] [] pos) (lZip m) := by
  intro F σ H env R hr hp
  refine ⟨_, RZ.pi_zipA hg hm w_pa hs hpl, ha F σ H env _ hr (ai hp fun as e1 vs H1 F1 s1 r1 p1 hp1 => ?_)⟩
  have key : ∀ (d1 d2 : D), vals as = some [d1, d2] → ∃ v1 v2, vs = [v1, v2] ∧ Rep g F1 v1 d1 ∧ Rep g F1 v2 d2 := fun d1 d2 hv => by
    have q := p1.vals hv
    have := q.len
    match vs, this with
    | [v1, v2], _ => exact ⟨v1, v2, rfl, q.head, q.tail.head⟩
  split at hp1
  · rename_i xs ys hv
    obtain ⟨v1, v2, rfl, k1, k2⟩ := key _ _ hv
    cases k1 with
    | tup a us xs' h1 hl1 hi1 =>
      cases k2 with
      | tup b ws ys' h2 hl2 hi2 =>
        exact ⟨a, b, us, ws, rfl, .inr ⟨hK ▸ same_t r1.ex h1, hK ▸ same_t r1.ex h2, hp1 _ _ _ (Same.refl _) r1 (hK ▸ walks_zipT h1 h2 ⟨hl1, hi1⟩ ⟨hl2, hi2⟩)⟩⟩
  · rename_i xs ys hv
    obtain ⟨v1, v2, rfl, k1, k2⟩ := key _ _ hv
    cases k1 with
    | lst a us xs' h1 hl1 hi1 =>
      cases k2 with
      | lst b ws ys' h2 hl2 hi2 =>
        exact ⟨a, b, us, ws, rfl, .inl ⟨SqL.of (r1.ex _ _ h1), SqL.of (r1.ex _ _ h2), hp1 _ _ _ (Same.refl _) r1 (hK ▸ walks_zipL (SqL.of h1) (SqL.of h2) ⟨hl1, hi1⟩ ⟨hl2, hi2⟩)⟩⟩
  · exact hp1.elim
end
end Mp
set_option Elab.async false
set_option linter.all false
set_option maxRecDepth 100000
set_option maxHeartbeats 4000000
/-! enumerate of a tuple -/
namespace Mp
open PySem PySem.Spec PyProof.Rows L2
/-- the tuple at a, each item in a new pair -/
def Iet (K : PySem.W.Frag) (a : Addr) : It where
  go i H := ∃ (xs : List V) (x : V), SqT K H a xs ∧ xs[i]? = some x
  yld i H v H' := ∃ (T : Addr) (x : V), v = .ref T ∧ H T = none ∧ H' = upd H T (.tup [.int (i : Nat), x]) ∧ ∀ xs, SqT K H a xs → xs[i]? = some x
  stop i H := ∃ xs : List V, SqT K H a xs ∧ xs.length ≤ i
theorem pair_mem {b e it : Addr} (h : b ∈ [e, it]) : b = e ∨ b = it := by simpa using h
theorem turn_enumT {P : Program} {w : World} {K : PySem.W.Frag} {elts : List Expr} {kk : Nat} {tpos : Pos} (a e it : Addr) :
    Turn P w K (.Tuple elts kk tpos) (Iet K a) [e, it] e (fun i h => (∃ old, IsEnum h e it ((i : Nat) : Int) old) ∧ h.IsTupleIter it a i ∧ e ≠ it ∧ e ≠ a ∧ a ≠ it) where
  mem := List.mem_cons_self
  obj i h st b hb := by
    obtain ⟨⟨old, he⟩, ⟨o, ho, _, hd⟩, _⟩ := st
    rcases pair_mem hb with z | z <;> subst z
    · exact ⟨_, he, fun v q => by cases q⟩
    · exact ⟨o, ho, fun v q => by rw [hd] at q; cases q⟩
  keep i h h' st k := by
    obtain ⟨⟨old, he⟩, hi, ne⟩ := st
    exact ⟨⟨old, k e List.mem_cons_self _ he⟩, hi.at fun o q => k it (by simp) o q, ne⟩
  item := by
    intro X hP hw hK hc i pins s σ H E I hf st hg
    subst hP hw hK
    obtain ⟨⟨old, he⟩, hit, n1, n2, n3⟩ := st
    obtain ⟨xs, x, hq, hx⟩ := hg
    obtain ⟨its, rv, p, _⟩ := I.tuple hq
    obtain ⟨u, hu, ru⟩ := rv.get hx
    have hpt : s.heap.IsTuple a its.toArray := p
    have le : e < s.heap.objs.size := Heap.lt_size he
    have li : it < s.heap.objs.size := by
      obtain ⟨_, q, _⟩ := hit
      exact Heap.lt_size q
    have hlt : i < its.toArray.size := by
      have := lt_of_get hu
      simpa using this
    have hu2 : its.toArray[i]? = some u := by simpa using hu
    refine wpAny_pyNext_enum_itemD (Draws.tuple (A := X.A.in1) (I.ok.hd hc) it a n3 its.toArray) he ⟨hit, hpt⟩ hlt n1 (by simp [n1, n2]) fun y h' tk hy ho hst hT hsz hk => ?_
    have ey : y = u := Option.some.inj (hy.symm.trans hu2)
    subst ey
    refine ⟨_, rfl, wpAny_letOwnedTupleGo_enum (s := { s with heap := h', toks := tk + 1 }) ho fun h'' he' sb => ?_⟩
    have other : ∀ b, b ≠ e → ∀ o, h'.get? b = some o → h''.get? b = some o := fun b hb o q => (sb.2 b hb).trans q
    have hT2 := other _ (Nat.ne_of_gt le) _ hT
    have I1 : Inv X pins σ (upd H s.heap.objs.size (.tup [.int (i : Nat), x])) { s with heap := h'', toks := tk + 1 } := by
      refine I.turnedNew (ch := [e, it]) (fun b ob hb q => ?_) hf (Nat.le_refl _) ⟨(show 2 ≤ sizeLine from by decide), [.int i tk, y], .cons ⟨_, rfl⟩ (.cons ru .nil), ⟨_, hT2, rfl, _, rfl⟩⟩
      have nb : b ≠ e ∧ b ≠ it := by
        constructor
        · intro z
          exact hb (by simp [z])
        · intro z
          exact hb (by simp [z])
      exact other b nb.1 _ (hk b ob nb.1 nb.2 q)
    refine ⟨.ref s.heap.objs.size, _, I1, rfl, ⟨_, x, rfl, I.hok.fresh (Nat.le_refl _), rfl, fun ys hy => ?_⟩, ⟨⟨y, ?_⟩, hst.1.at fun o q => other it (Ne.symm n1) o q, n1, n2, n3⟩, fun b hb => ?_⟩
    · rw [I.tuple_inj hy hq]
      exact hx
    · have e1 : ((i + 1 : Nat) : Int) = (i : Int) + 1 := by omega
      rw [e1]
      exact he'
    · have hb' : b ≠ s.heap.objs.size := by
        rcases pair_mem hb with z | z <;> subst z
        · exact Nat.ne_of_lt le
        · exact Nat.ne_of_lt li
      rw [upd_ne hb']
      exact (hf b hb).1
  done := by
    intro X hP hw hK hc i pins s σ H E I hf st hg
    subst hP hw hK
    obtain ⟨⟨old, he⟩, hit, n1, n2, n3⟩ := st
    obtain ⟨xs, hq, hx⟩ := hg
    obtain ⟨its, rv, p, _⟩ := I.tuple hq
    have hpt : s.heap.IsTuple a its.toArray := p
    obtain ⟨f0, f1, f2, f3, f4, f5⟩ := hf it (by simp)
    have hnone : its.toArray[i]? = none := by
      have := rv.length
      simp
      omega
    have dr : Draws X.prog X.w X.A.in1 it [it, a] i (fun _ _ => False) (fun j h => j = i ∧ h.IsTupleIter it a i ∧ h.IsTuple a its.toArray) := {
      live := fun _ _ st => let ⟨o, ho, _⟩ := st.2.1; ⟨o, ho⟩
      frame := fun _ _ _ st k => ⟨st.1, st.2.1.at fun o q => k it (by simp) o q, st.2.2.at fun o q => k a (by simp) o q⟩
      item := fun j s Q E hj st _ => absurd st.1 (Nat.ne_of_lt hj)
      done := fun s Q E st hE => wpAny_nextOf_tuple_end (I.ok.hd hc) st.2.1 st.2.2 hnone hE }
    exact wpAny_pyNext_enum_endD dr he ⟨rfl, hit, hpt⟩ fun h' eb => ⟨rfl, I.turned (t' := s.toks) (fun b o hb q => eb b o hb q) f0 f1 f3 f4 f5⟩
  self A i s Q E st h := by
    obtain ⟨⟨_, he⟩, _⟩ := st
    exact wpAny_pyIter_enum he h

theorem meets_enumT (l : Addr) (items : Array Value) (n : Nat) (dct : Option Addr) (sl : Array (Option Value)) :
    Meets (Builtin.«enumerate.__new__» ⟨[.type "enumerate", .ref l], []⟩) (fun _ R s => s.heap.get? l = some { cls := .type "tuple", dict := dct, data := .seq items n, slots := sl } ∧
      R (.ok (.ret (.ref (s.heap.push { cls := .type "tuple_iterator", data := .fields #[.ref l, .int 0 0] }).objs.size)))
        { s with heap := (s.heap.push { cls := .type "tuple_iterator", data := .fields #[.ref l, .int 0 0] }).push { cls := .type "enumerate", data := .fields #[.none, .bool false, .ref s.heap.objs.size, rawInt 0, .none, .none] } }) :=
  .of_wp fun prog w A R s h => by
    obtain ⟨hp, g, d, tk, os⟩ := s
    obtain ⟨hl, h⟩ := h
    have known := sub_enumerate
    have tup : Heap.IsTuple (Shared.heap ⟨hp, g, d, tk, os⟩) l items := ⟨_, hl, rfl, n, rfl⟩
    wp_walk using wpAny_loadPart' hl
    refine wpAny_stack_any fun st => wpAny_pure ?_
    split
    · rename_i c _ _ _ _ _
      cases (c == Value.type "enumerate")
      all_goals
        wp_walk using wpAny_loadPart' hl, wpAny_pyIter_tuple tup
        exact ⟨_, rfl, h⟩
    · wp_walk using wpAny_loadPart' hl, wpAny_pyIter_tuple tup
      exact ⟨_, rfl, h⟩
theorem call_enumT {prog : Program} {w : World} {A : Around} {E : Value → Shared → Prop} {s : Shared} {l : Addr} {items : Array Value} {Q : Value → Shared → Prop} (tup : s.heap.IsTuple l items)
    (h : ∀ h', IsEnum h' (s.heap.objs.size + 1) s.heap.objs.size 0 .none → h'.IsTupleIter s.heap.objs.size l 0 → (∀ b o, s.heap.get? b = some o → h'.get? b = some o) → Q (.ref (s.heap.objs.size + 1)) { s with heap := h' }) :
    wpAny (model prog w) A (call (.type "enumerate") [.ref l]) Q E s := by
  obtain ⟨⟨c, dct, dt, sl⟩, hl, hc, n, hd⟩ := tup
  obtain rfl : c = .type "tuple" := hc
  obtain rfl : dt = .seq items n := hd
  refine callType_new F.called_enumerate (by decide) (F.typeCall_enumerate_1 _) (F.newCall_enumerate_1 _) (fun obj => F.args_object_init_2 obj _) F.entry_enumerate_new (meets_enumT l items n dct sl) ⟨hl, ?_⟩
  have z : (s.heap.push { cls := .type "tuple_iterator", data := .fields #[.ref l, .int 0 0] }).objs.size = s.heap.objs.size + 1 := Heap.size_push ..
  have top := Heap.get?_push_size (s.heap.push { cls := .type "tuple_iterator", data := .fields #[.ref l, .int 0 0] }) (o := { cls := .type "enumerate", data := .fields #[.none, .bool false, .ref s.heap.objs.size, rawInt 0, .none, .none] }) rfl
  show _ ∧ _
  rw [z] at top ⊢
  exact ⟨⟨_, top, rfl⟩, h _ top ⟨_, Heap.get?_push_of_some _ (Heap.get?_push_size _ rfl), rfl, rfl⟩ fun b o q => Heap.get?_push_of_some _ (Heap.get?_push_of_some _ q)⟩
def iEnumT (K : PySem.W.Frag) (ta : TA) : TI := fun σ H R => ta σ H fun vs H1 => ∃ a xs, vs = [.ref a] ∧ SqT K H1 a xs ∧ R (Iet K a) H1
theorem pi_enumT {X : Cx} {e : Expr} {ta : TA} {p pos tpos : Pos} {elts : List Expr} {kk : Nat} (hg : Gl X "enumerate") (hm : X.mg "enumerate" = none) (ha : PA X [e] ta) (hs : starEach [e] X.env = [(false, eval e X.env)]) :
    PI X (.Tuple elts kk tpos) (.Call (.Name "enumerate" p) [e] [] pos) (iEnumT X.K ta) := by
  refine ⟨fun pins s σ H R I h => Call_ (ld_blt I hg hm boot_enumerate (PyProof.Rows.callWith_type1 (thn (ha.run pos pins s σ H _ I h) fun us s1 z => ?_) hs rfl))⟩
  obtain ⟨vs, H1, I1, r1, a, xs, ex, hq, q⟩ := z
  subst ex
  cases r1 with
  | cons r rr =>
    cases rr
    cases r
    obtain ⟨its, rv, p', _⟩ := I1.tuple hq
    have tup : s1.heap.IsTuple a its.toArray := p'
    have la : a < s1.heap.objs.size := by
      obtain ⟨_, q, _⟩ := tup
      exact Heap.lt_size q
    refine call_enumT tup fun h' he hit hk => wpAny_pyIter_enum he ?_
    have I2 : Inv X pins σ H1 { s1 with heap := h' } := I1.kept (t' := s1.toks) hk
    refine ⟨s1.heap.objs.size + 1, [s1.heap.objs.size + 1, s1.heap.objs.size], _, _, H1, rfl, I2, turn_enumT a (s1.heap.objs.size + 1) s1.heap.objs.size, ⟨⟨.none, he⟩, hit, Nat.succ_ne_self _, Nat.ne_of_gt (Nat.lt_succ_of_lt la), Nat.ne_of_lt la⟩, fun b hb => ?_, q⟩
    have hle : s1.heap.objs.size ≤ b := by
      rcases pair_mem hb with z | z <;> subst z
      · exact Nat.le_succ _
      · exact Nat.le_refl _
    exact I1.fpOk hle (I1.hok.fresh hle)
section
variable {g : Gc} {W : WX} {φ : Fc} {X : Cx} {k : Nat} {F F' : Hp} {σ : L2.St} {H H' : Hp} {env : Env}
theorem walks_enumL {a : Addr} {us : List V} {xs : List D} (h1 : SqL g.K F a us) (q1 : Reps g F us xs) : Walks g (Ite g.K a) F (pairsFrom 0 xs) := by
  intro φ F1 σ H env i s1 r1
  have k1 : SqL g.K H a us := (s1.trans r1.ex).seq h1
  refine ⟨fun d e => ?_, fun e => ⟨us, k1, ?_⟩⟩
  · rw [pairsFrom_at, Option.map_eq_some_iff] at e
    obtain ⟨x, e1, rfl⟩ := e
    obtain ⟨u, m1, m2⟩ := q1.get e1
    refine ⟨⟨us, u, k1, m1⟩, fun w H' yl => ?_⟩
    obtain ⟨T, u', rfl, hn, eH, z1⟩ := yl
    have t1 := (z1 us k1).symm.trans m1
    cases t1
    rw [Nat.zero_add]
    exact laid_pair r1 hn (.int _) (m2.mono s1) eH
  · rw [pairsFrom_length] at e
    rw [q1.len]
    exact e
theorem walks_enumT {a : Addr} {us : List V} {xs : List D} (h1 : SqT g.K F a us) (q1 : Reps g F us xs) : Walks g (Iet g.K a) F (pairsFrom 0 xs) := by
  intro φ F1 σ H env i s1 r1
  have k1 : SqT g.K H a us := same_t (s1.trans r1.ex) h1
  refine ⟨fun d e => ?_, fun e => ⟨us, k1, ?_⟩⟩
  · rw [pairsFrom_at, Option.map_eq_some_iff] at e
    obtain ⟨x, e1, rfl⟩ := e
    obtain ⟨u, m1, m2⟩ := q1.get e1
    refine ⟨⟨us, u, k1, m1⟩, fun w H' yl => ?_⟩
    obtain ⟨T, u', rfl, hn, eH, z1⟩ := yl
    have t1 := (z1 us k1).symm.trans m1
    cases t1
    rw [Nat.zero_add]
    exact laid_pair r1 hn (.int _) (m2.mono s1) eH
  · rw [pairsFrom_length] at e
    rw [q1.len]
    exact e
theorem si_enum {e : Expr} {elts : List Expr} {n : Nat} {m : MA} {p pos tpos : Pos} (hK : X.K = g.K) (ha : SA g W φ X [e] m) (hg : Gl X "enumerate") (hm : X.mg "enumerate" = none)
    (hs : starEach [e] X.env = [(false, eval e X.env)] := by rfl) : SI g W φ X (.Tuple elts n tpos) (.Call (.Name "enumerate" p) [e] [] pos) (lEnum m) := by
  intro F σ H env R hr hp
  -- which kind of sequence it is, the data tells
  unfold lEnum at hp
  cases e1 : m env with
  | no => rw [e1] at hp; exact hp.elim
  | exc c v e' =>
    rw [e1] at hp
    refine ⟨_, pi_enum hg hm w_pa hs, ha F σ H env _ hr ?_⟩
    rw [e1]
    exact hp
  | ok as e' =>
    rw [e1] at hp
    have hp : PoI g W φ F σ R (match vals as with
      | some [.tup xs] => .ok (pairsFrom 0 xs) e'
      | some [.lst xs] => .ok (pairsFrom 0 xs) e'
      | _ => .no) := hp
    have key : ∀ (d1 : D) (vs : List V) (F1 : Hp), vals as = some [d1] → AvsR g F1 σ vs as → ∃ v1, vs = [v1] ∧ Rep g F1 v1 d1 := fun d1 vs F1 hv p1 => by
      have q := p1.vals hv
      have := q.len
      match vs, this with
      | [v1], _ => exact ⟨v1, rfl, q.head⟩
    split at hp
    · rename_i xs hv
      refine ⟨_, pi_enumT hg hm w_pa hs, ha F σ H env _ hr ?_⟩
      rw [e1]
      intro vs H1 F1 s1 r1 p1
      obtain ⟨v1, rfl, k1⟩ := key _ _ _ hv p1
      cases k1 with
      | tup a us xs' h1 hl1 hi1 => exact ⟨a, us, rfl, hK ▸ same_t r1.ex h1, hp _ _ _ s1 r1 (hK ▸ walks_enumT h1 ⟨hl1, hi1⟩)⟩
    · rename_i xs hv
      refine ⟨_, pi_enum hg hm w_pa hs, ha F σ H env _ hr ?_⟩
      rw [e1]
      intro vs H1 F1 s1 r1 p1
      obtain ⟨v1, rfl, k1⟩ := key _ _ _ hv p1
      cases k1 with
      | lst a us xs' h1 hl1 hi1 => exact ⟨a, us, rfl, SqL.of (r1.ex _ _ h1), hp _ _ _ s1 r1 (hK ▸ walks_enumL (SqL.of h1) ⟨hl1, hi1⟩)⟩
    · exact hp.elim
/-! ### max, min of a list of numbers -/
def intsOf : List D → Option (List Int)
  | [] => some []
  | .int i :: ds => (intsOf ds).map (i :: ·)
  | _ :: _ => none
theorem intsOf_ok : ∀ {ds : List D} {is : List Int} {vs : List V}, intsOf ds = some is → Reps g F vs ds → vs = is.map V.int
  | [], is, vs, e, r => by
    cases e
    have := r.len
    match vs, this with
    | [], _ => rfl
  | d :: ds, is, vs, e, r => by
    match vs, r with
    | [], r => have := r.len; simp at this
    | v :: vs, r =>
      cases d <;> simp only [intsOf, reduceCtorEq, Option.map_eq_some_iff] at e
      obtain ⟨is', e1, e2⟩ := e
      subst e2
      have h := r.head
      cases h
      rw [intsOf_ok e1 r.tail]
      rfl
def bigOf : List Int → Option Int
  | [] => none
  | i :: is => some (is.foldl max i)
theorem foldl_max : ∀ (is : List Int) (i : Int), i ≤ is.foldl max i ∧ (∀ j ∈ is, j ≤ is.foldl max i) ∧ (is.foldl max i = i ∨ is.foldl max i ∈ is)
  | [], i => ⟨Int.le_refl _, (fun _ h => by cases h), .inl rfl⟩
  | j :: is, i => by
    obtain ⟨h1, h2, h3⟩ := foldl_max is (max i j)
    refine ⟨Int.le_trans (Int.le_max_left _ _) h1, fun q hq => ?_, ?_⟩
    · rcases List.mem_cons.mp hq with rfl | hq
      · exact Int.le_trans (Int.le_max_right _ _) h1
      · exact h2 q hq
    · rcases h3 with h3 | h3
      · rcases Int.le_total i j with z | z
        · right
          rw [show List.foldl max i (j :: is) = j from h3.trans (Int.max_eq_right z)]
          exact List.mem_cons_self
        · exact .inl (h3.trans (Int.max_eq_left z))
      · exact .inr (List.mem_cons_of_mem _ h3)
def maxLF : List D → Option D
  | [.lst xs] => match intsOf xs with
    | some is => (bigOf is).map D.int
    | none => none
  | _ => none
theorem ca_maxL (hK : X.K = g.K) (hc : X.calm = true) : CaS g φ (wC X (.builtin "max")) maxLF := by
  intro F σ H env vs ds z Q hr hx hf hq
  cases hx with
  | nil => simp [maxLF] at hf
  | @cons v d vs ds hv t =>
    cases t with
    | cons _ _ => cases d <;> simp [maxLF] at hf
    | nil =>
      cases d <;> simp only [maxLF, reduceCtorEq] at hf
      rename_i xs
      cases e1 : intsOf xs with
      | none => simp [e1] at hf
      | some is =>
        simp only [e1] at hf
        obtain ⟨a, ws, rfl, h2, h3⟩ := hv.lst hr.ex
        have e := intsOf_ok e1 h3
        subst e
        match is, hf with
        | i :: is, hf =>
          have ez : z = .int (is.foldl max i) := (Option.some.inj hf).symm
          subst ez
          refine ⟨_, cr_max hc, a, i :: is, rfl, SqL.of h2, by simp, fun m hm hle => ?_⟩
          obtain ⟨k1, k2, k3⟩ := foldl_max is i
          have em : m = is.foldl max i := by
            refine Int.le_antisymm ?_ (hle _ ?_)
            · rcases List.mem_cons.mp hm with rfl | hm
              · exact k1
              · exact k2 m hm
            · rcases k3 with k3 | k3
              · rw [k3]
                exact List.mem_cons_self
              · exact List.mem_cons_of_mem _ k3
          rw [em]
          exact hq _ _ _ (Same.refl _) hr (.int _)
/-! ### x in a list or tuple of plain values -/
def flatD : D → Bool
  | .non => true
  | .bl _ => true
  | .int _ => true
  | .str _ => true
  | _ => false
def eqD : D → D → Bool
  | .non, .non => true
  | .bl a, .bl b => a == b
  | .bl a, .int b => (if a then 1 else 0) == b
  | .int a, .bl b => a == (if b then 1 else 0)
  | .int a, .int b => a == b
  | .str a, .str b => a == b
  | _, _ => false
def inF (neg : Bool) (x y : D) : Option D := match seqF y with
  | some ys => if flatD x = true ∧ ys.all flatD = true then some (.bl (if neg = true then !(ys.any fun y => eqD y x) else ys.any fun y => eqD y x)) else none
  | none => none
theorem flat_rep {v : V} {d : D} (r : Rep g F v d) (h : flatD d = true) : flatV v = true := by
  cases r <;> first | rfl | (simp [flatD] at h)
theorem eq_rep {v u : V} {d e : D} (r : Rep g F v d) (r2 : Rep g F u e) (h : flatD d = true) (h2 : flatD e = true) : eqV v u = eqD d e := by
  cases r <;> cases r2 <;> first | rfl | (simp [flatD] at h) | (simp [flatD] at h2)
theorem flats_rep : ∀ {vs : List V} {ds : List D}, Reps g F vs ds → ds.all flatD = true → vs.all flatV = true
  | [], _, _, _ => rfl
  | v :: vs, [], r, _ => by have := r.len; simp at this
  | v :: vs, d :: ds, r, h => by
    rw [List.all_cons, Bool.and_eq_true] at h ⊢
    exact ⟨flat_rep r.head h.1, flats_rep r.tail h.2⟩
theorem in_rep {u : V} {e : D} (r2 : Rep g F u e) (h2 : flatD e = true) : ∀ {vs : List V} {ds : List D}, Reps g F vs ds → ds.all flatD = true → inV u vs = ds.any fun y => eqD y e
  | [], [], _, _ => rfl
  | [], _ :: _, r, _ => by have := r.len; simp at this
  | v :: vs, [], r, _ => by have := r.len; simp at this
  | v :: vs, d :: ds, r, h => by
    rw [List.all_cons, Bool.and_eq_true] at h
    have ih := in_rep r2 h2 r.tail h.2
    unfold inV at ih ⊢
    rw [List.any_cons, List.any_cons, ih, eq_rep r.head r2 h.1 h2]
theorem RepH.flat {v : V} {d : D} (h : RepH g F H v d) (e : flatD d = true) : Rep g F v d := by
  cases h with
  | of h => exact h
  | ow _ _ => simp [flatD] at e
theorem RepH.seq {v : V} {d : D} {xs : List D} (s : Same F H) (h : RepH g F H v d) (e : seqF d = some xs) : ∃ a vs, v = .ref a ∧ (SqL g.K H a vs ∨ SqT g.K H a vs) ∧ Reps g F vs xs := by
  cases d <;> simp only [seqF, reduceCtorEq, Option.some.injEq] at e <;> subst e
  · obtain ⟨a, vs, h1, h2, h3⟩ := h.tup s
    exact ⟨a, vs, h1, .inr h2, h3⟩
  · obtain ⟨a, vs, h1, h2, h3⟩ := h.lst s
    exact ⟨a, vs, h1, .inl (SqL.of h2), h3⟩
  · obtain ⟨a, vs, h1, h2, h3⟩ := h.rol s
    exact ⟨a, vs, h1, .inl h2, h3⟩
theorem op_in_ (hK : X.K = g.K) : OpS g φ (wO X (compareOp .In)) (inF false) := by
  intro F σ H env v u x y z Q hr hx hy hf hq
  unfold inF at hf
  cases e : seqF y with
  | none => simp [e] at hf
  | some ys =>
    simp only [e] at hf
    by_cases hc : flatD x = true ∧ ys.all flatD = true
    · rw [if_pos hc] at hf
      obtain ⟨a, vs, rfl, h1, h2⟩ := hy.seq hr.ex e
      have px := hx.flat hc.1
      have ei := in_rep px hc.1 h2 hc.2
      refine ⟨_, op_in_seq, a, vs, rfl, hK ▸ h1, flat_rep px hc.1, flats_rep h2 hc.2, ?_⟩
      have ez := (Option.some.inj hf).symm
      subst ez
      rw [ei]
      exact hq _ _ _ (Same.refl _) hr (.bl _)
    · rw [if_neg hc] at hf
      cases hf
end
end Mp
set_option Elab.async false
set_option linter.all false
set_option maxRecDepth 100000
set_option maxHeartbeats 4000000
/-! calls with every argument by its name, in the parameters' order -/
namespace Mp
open PySem PySem.Spec PyProof.Rows L2
def KwB (K : PySem.W.Frag) (fd : FuncData) (ps : List Str) : Prop := ∀ (s : Shared) (ws : List Value), K.In s.heap → ws.length = ps.length → BindsTo s fd ⟨[], ps.zip ws⟩ (ps.zip ws)
/-- .. with a value ahead (the new object) -/
def KwB1 (K : PySem.W.Frag) (fd : FuncData) (q : Str) (ps : List Str) : Prop := ∀ (s : Shared) (u : Value) (ws : List Value), K.In s.heap → ws.length = ps.length → BindsTo s fd ⟨[u], ps.zip ws⟩ ((q :: ps).zip (u :: ws))
structure HasK (P : Program) (w : World) (mg : Str → Option Value) (base : Heap) (g : Gc) (k : Nat) (x : Str) (ps : List Str) (fn : Fn) : Prop where
  ex : ∃ (f : Addr) (fd : FuncData), FnOk P w g.K mg base (L2.CX P w) k f fd ps (spOf g fn) ∧ mg x = some (.ref f) ∧ PySem.W.keepIn g.K (.ref f) = true ∧ KwB g.K fd ps
structure HasMkK (P : Program) (w : World) (mg : Str → Option Value) (base : Heap) (g : Gc) (k : Nat) (cn : Str) (ps : List Str) (fi : List D → IR) : Prop where
  ex : ∃ (C fI : Addr) (fd : FuncData) (q : Str) (ns : List Str), Mk g.K C fI ∧ FnOk P w g.K mg base (L2.CX P w) k fI fd (q :: ps) (spInit g C ns fi) ∧ KwB1 g.K fd q ps ∧ mg cn = some (.ref C) ∧ g.cl cn = some (C, ns)
section
variable {g : Gc} {W : WX} {φ : Fc} {X : Cx} {k : Nat} {F F' : Hp} {σ : L2.St} {H H' : Hp} {env : Env}
def SKw (g : Gc) (W : WX) (φ : Fc) (X : Cx) (kws : List Keyword) (m : MA) : Prop := ∀ F σ H env Q, Rel g φ F σ H env → PoA g W φ F σ Q (m env) → ∃ t, PK X kws t ∧ t σ H Q
def wK (X : Cx) (kws : List Keyword) : TA := fun σ H Q => ∃ t, PK X kws t ∧ t σ H Q
theorem w_pk {kws : List Keyword} : PK X kws (wK X kws) := ⟨fun pos pins s σ H Q I ⟨_, h, q⟩ => h.run pos pins s σ H Q I q⟩
theorem sk_nil : SKw g W φ X [] aNil := fun F σ H env Q hr hp => ⟨_, pk_nil, hp [] H F (Same.refl _) hr .nil⟩
theorem sk_cons {nm : Option Str} {e : Expr} {kpos : Pos} {kws : List Keyword} {m : MV} {n : MA} (h : SV g W φ X e m) (t : SKw g W φ X kws n) : SKw g W φ X (⟨nm, e, kpos⟩ :: kws) (aCons m n) := by
  intro F σ H env Q hr hp
  refine ⟨_, pk_cons w_pe w_pk, ?_⟩
  have hp : PoA g W φ F σ Q ((m env).bind fun a e => (n e).bind fun as e2 => .ok (a :: as) e2) := hp
  cases e1 : m env with
  | no => rw [e1] at hp; exact hp.elim
  | exc c v e' => rw [e1] at hp; exact h F σ H env _ hr (by rw [e1]; exact hp)
  | ok a e1' =>
    rw [e1] at hp
    refine h F σ H env _ hr ?_
    rw [e1]
    intro v H1 F1 s1 r1 p1
    have hp1 : PoA g W φ F1 σ Q ((n e1').bind fun as e2 => .ok (a :: as) e2) := PoA.mono s1 hp
    exact t F1 σ H1 e1' _ r1 (aa hp1 fun as e2 vs H2 F2 s2 r2 p2 hp2 => hp2 (v :: vs) H2 F2 (Same.refl _) r2 (.cons (p1.mono s2) p2))
theorem pe_kw0 {CX : CXT} {x : Str} {p pos : Pos} {f : Addr} {fd : FuncData} {ps : List Str} {sp : Sp} {E : L2.St → XK} {kws : List Keyword} {t : TA} (Fo : FnOk X.prog X.w X.K X.mg X.base CX k f fd ps sp) (hr : Room k X.A) (hg : Gl X x) (hm : X.mg x = some (.ref f)) (hk : PySem.W.keepIn X.K (.ref f) = true) (hb : KwB X.K fd ps)
    (hx : ∀ σ, PassesAt CX X σ (E σ)) (hkw : PK X kws t) (hall : (backToKw pos (keywordEach kws X.env)).all (·.1.isSome) = true) (hks : (backToKw pos (keywordEach kws X.env)).filterMap (·.1) = ps) (hdb : (x == ("__debug__" : Str)) = false)
    (hpl : ((backTo pos (starEach [] X.env)).any (·.1) || (backToKw pos (keywordEach kws X.env)).any (·.1.isNone)) = false) : PE X (.Call (.Name x p) [] kws pos) (fun σ H Q => t σ H fun vs H1 => sp vs H1 Q (E σ)) := by
  refine ⟨fun pins s σ H Q I h => wpAny_Call_Name_kw (ld_glob I hg hm (PySem.W.callWith_KW0 (h₀ := X.base) I.ok.mod.kin hk hall (thn (hkw.run pos pins s σ H _ I h) fun ws s2 z => ?_) hpl) hdb)⟩
  obtain ⟨vs, H2, I2, rz, q⟩ := z
  refine ⟨I2.kIn, ?_⟩
  rw [hks]
  have n : ws.length = ps.length := rz.length.symm.trans (Fo.len _ _ _ _ q)
  refine wpAny_call (codeAny_mono (Fo.run X.A X.stack s2 H2 ⟨[], ps.zip ws⟩ ws vs Q (E σ) hr I2.env0 (hb s2 ws I2.kIn n) rz q) fun r s' hq => ?_)
  match r, hq with
  | .error e, hq => exact hx σ pins H2 s2 e s' I2 hq
  | .ok (.ret u), hq => exact I2.after hq
theorem se_fnK {x : Str} {ps : List Str} {kk : Nat} {fn : Fn} {kws : List Keyword} {m : MA} {p pos : Pos} (c : Cok g X W k) (h : HasK X.prog X.w X.mg X.base g kk x ps fn) (hk : kk ≤ k) (hg : Gl X x) (ha : SKw g W φ X kws m)
    (hall : (backToKw pos (keywordEach kws X.env)).all (·.1.isSome) = true := by rfl) (hks : (backToKw pos (keywordEach kws X.env)).filterMap (·.1) = ps := by rfl) (hdb : (x == ("__debug__" : Str)) = false := by decide)
    (hpl : ((backTo pos (starEach [] X.env)).any (·.1) || (backToKw pos (keywordEach kws X.env)).any (·.1.isNone)) = false := by rfl) : SE g W φ X (.Call (.Name x p) [] kws pos) (mFn fn m) := by
  intro F σ H env Q hr hp
  obtain ⟨f, fd, Fo, hm, hkp, hb⟩ := h.ex
  rw [← c.K] at Fo hkp hb
  refine ⟨_, pe_kw0 Fo (c.rm.mono hk) hg hm hkp hb (fun σ => passAt c.tk σ) w_pk hall hks hdb hpl, ?_⟩
  exact ha F σ H env _ hr (ae hp fun as e1 vs H1 F1 s1 r1 p1 hp1 => sp_call r1 p1 hp1)
end
end Mp
set_option Elab.async false
set_option linter.all false
set_option maxRecDepth 100000
set_option maxHeartbeats 4000000
/-! classes and exceptions of the text, joined -/
namespace Mp
open PySem PySem.Spec PyProof.Rows L2
section
variable {P : Program} {w : World} {mg : Str → Option Value} {base : Heap} {g : Gc} {k : Nat}
/-- the class cn with its __init__ -/
structure ClAt (g : Gc) (mg : Str → Option Value) (cn : Str) (C : Addr) (ns : List Str) (st : Stmt) (q : Str) (qual : Str) (ps : List Str) (fI : Addr) (fd : FuncData) : Prop where
  co : ClO g cn C ns
  mkd : Mk g.K C fI
  gl : mg cn = some (.ref C)
  fn : Fun g.K "__init__" qual st fI fd
  bi : Binds g.K fd (q :: ps) []
  kw : KwB1 g.K fd q ps
theorem has_mk {cn q qual : Str} {C fI : Addr} {ns ps N : List Str} {st : Stmt} {fd : FuncData} {pre : MS} {l : List (Str × ME)} {fi : List D → IR} (A : ClAt g mg cn C ns st q qual ps fI fd) (S : FnScope N (q :: ps) (defScope st)) (hl : (q :: ps).length ≤ N.length) (hns : ns = l.map (·.1))
    (hfi : ∀ x ds, runInit (q :: ps).length N.length pre l x ds = fi ds)
    (hbody : ∀ (cdv : Value) (A : Around) (outer : List PySem.Env) (s : Shared) (H : Hp) (E : XK) (φ : Fc), Cok g (cxOf (L2.CX P w) P w g.K mg base N qual (defScope st) fI cdv A outer s H E) (fun cls d _ H => E cls d H) k →
      IBody g (fun cls d _ H => E cls d H) φ (cxOf (L2.CX P w) P w g.K mg base N qual (defScope st) fI cdv A outer s H E) (defBody st) pre l) :
    HasMk P w mg base g (k + 1) cn fi ∧ HasMkK P w mg base g (k + 1) cn ps fi := by
  have Fo := init_ok A.fn S hl A.co hns hfi hbody
  exact ⟨⟨C, fI, fd, q :: ps, ns, A.mkd, Fo, A.bi, A.gl, A.co.cl⟩, ⟨C, fI, fd, q, ns, A.mkd, Fo, A.kw, A.gl, A.co.cl⟩⟩
theorem has_eq {cn qual : Str} {C f : Addr} {ns ps N : List Str} {st : Stmt} {fd : FuncData} {body : MS} (hcl : g.cl cn = some (C, ns)) (hs : PySem.W.findIn g.K (.ref C) "__eq__" = some (some (.ref f))) (hf : PySem.W.isFn g.K (.ref f) = true) (Fu : Fun g.K "__eq__" qual st f fd) (hb : Binds g.K fd ps [])
    (S : FnScope N ps (defScope st)) (hl : ps.length ≤ N.length)
    (hbody : ∀ (cdv : Value) (A : Around) (outer : List PySem.Env) (s : Shared) (H : Hp) (E : XK) (φ : Fc), Cok g (cxOf (L2.CX P w) P w g.K mg base N qual (defScope st) f cdv A outer s H E) (fun cls d _ H => E cls d H) k →
      SB g (fun cls d _ H => E cls d H) φ (cxOf (L2.CX P w) P w g.K mg base N qual (defScope st) f cdv A outer s H E) (defBody st) body) :
    HasEq P w mg base g (k + 1) cn (fnOf ps.length N.length body) := ⟨C, f, fd, ps, ns, hcl, hs, hf, def_ok Fu S hl hbody, hb⟩
/-- a def by keywords -/
theorem has_k {x qual : Str} {st : Stmt} {N ps : List Str} {f : Addr} {fd : FuncData} {body : MS} (Fu : Fun g.K x qual st f fd) (hm : mg x = some (.ref f)) (hb : KwB g.K fd ps) (S : FnScope N ps (defScope st)) (hl : ps.length ≤ N.length)
    (hbody : ∀ (cdv : Value) (A : Around) (outer : List PySem.Env) (s : Shared) (H : Hp) (E : XK) (φ : Fc), Cok g (cxOf (L2.CX P w) P w g.K mg base N qual (defScope st) f cdv A outer s H E) (fun cls d _ H => E cls d H) k →
      SB g (fun cls d _ H => E cls d H) φ (cxOf (L2.CX P w) P w g.K mg base N qual (defScope st) f cdv A outer s H E) (defBody st) body) :
    HasK P w mg base g (k + 1) x ps (fnOf ps.length N.length body) := ⟨f, fd, def_ok Fu S hl hbody, hm, Fu.kp, hb⟩
/-- what an except clause takes -/
theorem exm_of {K : PySem.W.Frag} {S S' : Addr} {b : Bool} (h1 : PySem.W.subIn K (.ref S) (.type "BaseException") = some true) (h2 : PySem.W.isClsIn K S = true) (h3 : PySem.W.typeIn K (.ref S) = some (.type "type")) (h4 : PySem.W.subIn K (.ref S') (.ref S) = some b) : PySem.W.exmOne K (.ref S') (.ref S) = some b := by
  unfold PySem.W.exmOne PySem.W.kitCls
  have e : (PySem.W.clsIn K S).isSome = true := h2
  simp [h1, h3, h4, e, PySem.W.kitMeta]
theorem kit_of_sub {K : PySem.W.Frag} {S : Addr} {t : Value} {b : Bool} (h2 : PySem.W.isClsIn K S = true) (h3 : PySem.W.typeIn K (.ref S) = some (.type "type")) (h4 : PySem.W.subIn K t (.ref S) = some b) (hn : (t == Value.ref S) = true → b = true) : PySem.W.kitOne K t (.ref S) = some b := by
  unfold PySem.W.kitOne PySem.W.kitCls
  have e : (PySem.W.clsIn K S).isSome = true := h2
  by_cases z : (t == Value.ref S) = true
  · rw [if_pos z, hn z]
  · rw [if_neg z]
    simp [h3, h4, e]
end

section
variable {K : PySem.W.Frag} {S S' : Addr} {t : String} {b : Bool}
theorem kit_typ (h2 : PySem.W.isClsIn K S = true) (h3 : PySem.W.typeIn K (.ref S) = some (.type "type")) (h4 : PySem.W.subIn K (.type t) (.ref S) = some b) : PySem.W.kitOne K (.type t) (.ref S) = some b :=
  kit_of_sub h2 h3 h4 fun z => absurd (beq_iff_eq.mp z) (fun q => by cases q)
theorem kit_ref (h2 : PySem.W.isClsIn K S = true) (h3 : PySem.W.typeIn K (.ref S) = some (.type "type")) (hs : PySem.W.subIn K (.ref S) (.ref S) = some true) (h4 : PySem.W.subIn K (.ref S') (.ref S) = some b) : PySem.W.kitOne K (.ref S') (.ref S) = some b :=
  kit_of_sub h2 h3 h4 fun z => by
    cases beq_iff_eq.mp z
    rw [hs] at h4
    cases h4
    rfl
end
/-- a law's promise -/
def spLaw (K : PySem.W.Frag) : Sp := fun vs H Q _ => ∃ (a : Addr) (ns : List Int), vs = [.ref a] ∧ SqL K H a (ns.map V.int) ∧ ns.length ≤ 63 ∧ ∀ H', Q (.bl true) H'
theorem law_of {P : Program} {w : World} {mg : Str → Option Value} {base : Heap} {g : Gc} {k : Nat} {f : Addr} {fd : FuncData} {fn : Fn} {x : Str} (F : FnOk P w g.K mg base (L2.CX P w) k f fd [x] (spOf g fn))
    (h : ∀ ns : List Int, ns.length ≤ 63 → ∃ outs, fn [.va (.rol (ns.map D.int))] = .ok (.bl true) outs) : FnOk P w g.K mg base (L2.CX P w) k f fd [x] (spLaw g.K) := by
  refine F.imp fun vs H Q E q => ?_
  obtain ⟨a, ns, rfl, hS, hl, q⟩ := q
  obtain ⟨outs, e⟩ := h ns hl
  refine ⟨H, [.va (.rol (ns.map D.int))], Rel.fresh (Same.refl _) rfl (fun i d z => ?_) (by simp [noOw, isOwS]), ?_⟩
  · cases i with
    | zero =>
      simp only [List.getElem?_cons_zero, Option.some.injEq, Sl.va.injEq] at z
      subst z
      refine ⟨.ref a, rfl, .rol a _ _ hS (by simp) fun i v d h1 h2 => ?_⟩
      rw [List.getElem?_map, Option.map_eq_some_iff] at h1 h2
      obtain ⟨x1, e1, rfl⟩ := h1
      obtain ⟨x2, e2, rfl⟩ := h2
      rw [e1] at e2
      cases e2
      exact .int _
    | succ i => simp at z
  · rw [e]
    intro v H' F' _ _ r
    cases r
    exact q H'
/-! ### tuple(range(n)) -/
def mTupRange (m : ME) : ME := fun env => (m env).bind fun d e => match d with
  | .int j => if -(2 ^ 62) ≤ j ∧ j ≤ 16777216 then .ok (.tup ((List.range j.toNat).map fun (i : Nat) => D.int (i : Int))) e else .no
  | _ => .no
section
variable {g : Gc} {W : WX} {φ : Fc} {X : Cx} {k : Nat}
theorem reps_range (g : Gc) (F : Hp) (j : Int) : Reps g F (rgV 0 j) ((List.range j.toNat).map fun (i : Nat) => D.int (i : Int)) := by
  unfold rgV
  rw [Int.sub_zero]
  refine ⟨by simp, fun i v d a b => ?_⟩
  rw [List.getElem?_map, Option.map_eq_some_iff] at a b
  obtain ⟨x, a1, rfl⟩ := a
  obtain ⟨y, b1, rfl⟩ := b
  rw [a1] at b1
  cases b1
  rw [Int.zero_add]
  exact .int _
theorem se_tupRange {a : Expr} {m : ME} {p p2 pos pos2 : Pos} (c : Cok g X W k) (h : SE g W φ X a m) (hg : Gl X "tuple") (hm : X.mg "tuple" = none) (hg2 : Gl X "range") (hm2 : X.mg "range" = none)
    (na2 : starEach [a] X.env = (false, eval a X.env) :: starEach [] X.env := by rfl) (na : starEach [.Call (.Name "range" p2) [a] [] pos2] X.env = (false, eval (.Call (.Name "range" p2) [a] [] pos2) X.env) :: starEach [] X.env := by rfl) :
    SE g W φ X (.Call (.Name "tuple" p) [.Call (.Name "range" p2) [a] [] pos2] [] pos) (mTupRange m) := by
  intro F σ H env Q hr hp
  refine ⟨_, pe_tupRg c.calm hg hm (prg_1 hg2 hm2 w_pe na2) na, ?_⟩
  refine h F σ H env _ hr (ee hp fun d e1 v H1 F1 s1 r1 p1 hp1 => ?_)
  cases d with
  | int j =>
    cases p1
    by_cases hz : -(2 ^ 62) ≤ j ∧ j ≤ 16777216
    · simp only [hz, and_self, if_true] at hp1
      refine ⟨j, rfl, ⟨by decide, by decide, hz.1, by omega, by omega⟩, fun q hq => ?_⟩
      obtain ⟨s2, r2⟩ := r1.laid (o := .tup (rgV 0 j)) hq
      exact hp1 _ _ _ s2 r2 (.mkTup upd_same (reps_range g _ j))
    · simp only [hz, if_false] at hp1
      exact hp1.elim
  | _ => exact hp1.elim
theorem Cok.w0 (c : Cok g X W k) : Cok g X W0 k := ⟨c.K, c.calm, c.nd, takes0, c.rm, c.po⟩
end
end Mp
set_option Elab.async false
set_option linter.all false
set_option maxRecDepth 100000
/-! the denotations, for simp -/
namespace Mp
open PySem PySem.Spec PyProof.Rows L2
section
variable {α β : Type}
@[simp] theorem Re.bind_ok (a : α) (e : Env) (k : α → Env → Re β) : (Re.ok a e).bind k = k a e := rfl
@[simp] theorem Re.bind_exc (c : Str) (v : D) (e : Env) (k : α → Env → Re β) : (Re.exc c v e : Re α).bind k = .exc c v e := rfl
@[simp] theorem Re.bind_no (k : α → Env → Re β) : (Re.no : Re α).bind k = .no := rfl
@[simp] theorem Re.nx_ok (a : α) (e : Env) (k : α → Env → Re β) : (Re.ok a e).nx k = k a e := rfl
@[simp] theorem Re.flow_ok (a : α) (e : Env) (k : α → Env → Fl) : (Re.ok a e).flow k = k a e := rfl
@[simp] theorem Re.flow_exc (c : Str) (v : D) (e : Env) (k : α → Env → Fl) : (Re.exc c v e : Re α).flow k = .exc c v e := rfl
@[simp] theorem Re.flow_no (k : α → Env → Fl) : (Re.no : Re α).flow k = .no := rfl
@[simp] theorem Fl.seq_nx (e : Env) (k : Env → Fl) : (Fl.nx e).seq k = k e := rfl
@[simp] theorem Fl.seq_rt (d : D) (e : Env) (k : Env → Fl) : (Fl.rt d e).seq k = .rt d e := rfl
@[simp] theorem Fl.seq_br (e : Env) (k : Env → Fl) : (Fl.br e).seq k = .br e := rfl
@[simp] theorem Fl.seq_ct (e : Env) (k : Env → Fl) : (Fl.ct e).seq k = .ct e := rfl
@[simp] theorem Fl.seq_exc (c : Str) (v : D) (e : Env) (k : Env → Fl) : (Fl.exc c v e).seq k = .exc c v e := rfl
@[simp] theorem Fl.seq_no (k : Env → Fl) : Fl.no.seq k = .no := rfl
@[simp] theorem mVar_s (i : Nat) (env : Env) : mVar i env = match env[i]? with
  | some (.va d) => .ok d env
  | _ => .no := rfl
@[simp] theorem mOwn_s (i : Nat) (env : Env) : mOwn i env = match env[i]? with
  | some (.ow _ _) => .ok (.ix i) env
  | some (.va d) => .ok (.va d) env
  | _ => .no := rfl
@[simp] theorem mC_s (d : D) (env : Env) : mC d env = .ok d env := rfl
@[simp] theorem vOf_s (m : ME) (env : Env) : vOf m env = (m env).bind fun d e1 => .ok (.va d) e1 := rfl
@[simp] theorem mBin_s (f : D → D → Option β) (ma mb : MV) (env : Env) : mBin f ma mb env = (ma env).bind fun x e1 => (mb e1).bind fun y e2 => use2 f x y e2 := rfl
@[simp] theorem mUn_s (f : D → Option β) (ma : MV) (env : Env) : mUn f ma env = (ma env).bind fun x e1 => use1 f x e1 := rfl
@[simp] theorem use1_s (f : D → Option β) (d : D) (e : Env) : use1 f (.va d) e = match f d with
  | some z => .ok z e
  | none => .no := rfl
@[simp] theorem use1_i (f : D → Option β) (i : Nat) (e : Env) : use1 f (.ix i) e = match (Av.ix i).get e with
  | some d => match f d with
    | some z => .ok z e
    | none => .no
  | none => .no := rfl
@[simp] theorem use2_s (f : D → D → Option β) (x y : Av) (e : Env) : use2 f x y e = match x.get e, y.get e with
  | some d, some d' => match f d d' with
    | some z => .ok z e
    | none => .no
  | _, _ => .no := rfl
@[simp] theorem Av.get_va (e : Env) (d : D) : (Av.va d).get e = some d := rfl
@[simp] theorem Av.get_ix (e : Env) (i : Nat) : (Av.ix i).get e = match e[i]? with
  | some (.ow _ xs) => some (.lst xs)
  | _ => none := rfl
@[simp] theorem gets_nil (e : Env) : gets e [] = some [] := rfl
@[simp] theorem gets_cons (e : Env) (a : Av) (as : List Av) : gets e (a :: as) = match a.get e, gets e as with
  | some d, some ds => some (d :: ds)
  | _, _ => none := rfl
@[simp] theorem vals_nil : vals [] = some [] := rfl
@[simp] theorem use_s (f : List D → Option β) (as : List Av) (e : Env) : use f as e = match gets e as with
  | some ds => match f ds with
    | some z => .ok z e
    | none => .no
  | none => .no := rfl
@[simp] theorem mCall_s (f : List D → Option D) (m : MA) (env : Env) : mCall f m env = (m env).bind fun as e => use f as e := rfl
@[simp] theorem aNil_s (env : Env) : aNil env = .ok [] env := rfl
@[simp] theorem aCons_s (m : MV) (n : MA) (env : Env) : aCons m n env = (m env).bind fun a e => (n e).bind fun as e2 => .ok (a :: as) e2 := rfl
@[simp] theorem mTup_s (m : MA) (env : Env) : mTup m env = (m env).bind fun as e => match vals as with
  | some ds => if ds.length ≤ line then .ok (.tup ds) e else .no
  | none => .no := rfl
@[simp] theorem lLst_s (m : MA) (env : Env) : lLst m env = (m env).bind fun as e => match vals as with
  | some ds => if ds.length ≤ line then .ok ds e else .no
  | none => .no := rfl
@[simp] theorem mL_s (m : ML) (env : Env) : mL m env = (m env).bind fun xs e => .ok (.lst xs) e := rfl
@[simp] theorem lLc_s (own : List Nat) (mi : ML) (tg : MG) (ts : MT) (elt : ME) (env : Env) : lLc own mi tg ts elt env = (mi env).bind fun ds e => if ds.length ≤ line then lcF own tg ts elt ds e else .no := rfl
@[simp] theorem mIf_s (c : MT) (m n : ME) (env : Env) : mIf c m n env = (c env).bind fun b e => if b = true then m e else n e := rfl
@[simp] theorem mAndV_s (m n : ME) (env : Env) : mAndV m n env = ((m env).bind asB).bind fun b e => if b = true then n e else .ok (.bl false) e := rfl
@[simp] theorem mOrV_s (m n : ME) (env : Env) : mOrV m n env = ((m env).bind asB).bind fun b e => if b = true then .ok (.bl true) e else n e := rfl
@[simp] theorem asB_bl (b : Bool) (e : Env) : asB (.bl b) e = .ok b e := rfl
@[simp] theorem mNotV_s (m : ME) (env : Env) : mNotV m env = ((m env).bind asB).bind fun b e => .ok (.bl (!b)) e := rfl
@[simp] theorem mTest_s (m : ME) (env : Env) : mTest m env = (m env).bind asB := rfl
@[simp] theorem mNot_s (m : MT) (env : Env) : mNot m env = (m env).bind fun b e => .ok (!b) e := rfl
@[simp] theorem mAnd_s (m n : MT) (env : Env) : mAnd m n env = (m env).bind fun b e => if b = true then n e else .ok false e := rfl
@[simp] theorem mOr_s (m n : MT) (env : Env) : mOr m n env = (m env).bind fun b e => if b = true then .ok true e else n e := rfl
@[simp] theorem bl_ok (b : Bool) (e : Env) : bl (.ok b e) = .ok (.bl b) e := rfl
@[simp] theorem mChain_s (f f' : D → D → Option Bool) (ma mb mc : MV) (env : Env) : mChain f f' ma mb mc env = (ma env).bind fun x e1 => (mb e1).bind fun y e2 => (use2 f x y e2).bind fun b e3 => if b = true then (mc e3).bind fun z e4 => use2 f' y z e4 else .ok false e3 := rfl
@[simp] theorem mSeq_s (a b : MS) (env : Env) : mSeq a b env = (a env).seq b := rfl
@[simp] theorem mIfS_s (c : MT) (a b : MS) (env : Env) : mIfS c a b env = (c env).flow fun t e => if t = true then a e else b e := rfl
@[simp] theorem mSet_s (i : Nat) (m : ME) (env : Env) : mSet i m env = (m env).flow fun d e => match putG i d e with
  | some e1 => .nx e1
  | none => .no := rfl
@[simp] theorem mSetO_s (i : Nat) (m : ML) (env : Env) : mSetO i m env = (m env).flow fun xs e => ownG i xs e := rfl
@[simp] theorem mAsg_s (mg : MG) (m : ME) (env : Env) : mAsg mg m env = (m env).flow fun d e => match mg d e with
  | some e1 => .nx e1
  | none => .no := rfl
@[simp] theorem mRet_s (m : ME) (env : Env) : mRet m env = (m env).flow fun d e1 => .rt d e1 := rfl
@[simp] theorem mRetN_s (env : Env) : mRetN env = .rt .non env := rfl
@[simp] theorem mNext_s (env : Env) : mNext env = .nx env := rfl
@[simp] theorem mBreak_s (env : Env) : mBreak env = .br env := rfl
@[simp] theorem mCont_s (env : Env) : mCont env = .ct env := rfl
@[simp] theorem mDrop_s (m : ME) (env : Env) : mDrop m env = (m env).flow fun _ e1 => .nx e1 := rfl
@[simp] theorem mFor_s (mi : ML) (tg : MG) (body : MS) (env : Env) : mFor mi tg body env = (mi env).flow fun ds e => forF tg body ds e := rfl
@[simp] theorem lSeq_s (m : ME) (env : Env) : lSeq m env = (m env).bind fun d e => match seqF d with
  | some xs => .ok xs e
  | none => .no := rfl
@[simp] theorem mFn_s (fn : Fn) (m : MA) (env : Env) : mFn fn m env = (m env).bind fun as e => callF fn as e := rfl
@[simp] theorem mMake_s (cn : Str) (fi : List D → IR) (m : MA) (env : Env) : mMake cn fi m env = (m env).bind fun as e => makeF cn fi as e := rfl
@[simp] theorem mRaise_s (cn : Str) (m : ME) (env : Env) : mRaise cn m env = (m env).flow fun d e => if fmtF d = true then .exc cn d e else .no := rfl
@[simp] theorem putG_s (i : Nat) (d : D) (env : Env) : putG i d env = match env[i]? with
  | some (.ow _ _) => none
  | some _ => some (env.set i (.va d))
  | none => none := rfl
@[simp] theorem mMove_s (i : Nat) (env : Env) : mMove i env = match env[i]? with
  | some (.ow false xs) => .ok (.lst xs) (env.set i .un)
  | some (.va d) => .ok d env
  | _ => .no := rfl
end

@[simp] theorem addF_i (i j : Int) : addF (.int i) (.int j) = some (.int (i + j)) := rfl
@[simp] theorem subF_i (i j : Int) : subF (.int i) (.int j) = some (.int (i - j)) := rfl
@[simp] theorem mulF_i (i j : Int) : mulF (.int i) (.int j) = if (-(2 ^ 64) < i ∧ i < 2 ^ 64) ∨ (-(2 ^ 64) < j ∧ j < 2 ^ 64) then some (.int (i * j)) else none := rfl
@[simp] theorem modF_i (i j : Int) : modF (.int i) (.int j) = if 0 < j then some (.int (i % j)) else none := rfl
@[simp] theorem fdivF_i (i j : Int) : fdivF (.int i) (.int j) = if 0 < j ∧ j < 1073741824 then some (.int (i / j)) else none := rfl
@[simp] theorem ltF_i (i j : Int) : ltF (.int i) (.int j) = some (decide (i < j)) := rfl
@[simp] theorem leF_i (i j : Int) : leF (.int i) (.int j) = some (decide (i ≤ j)) := rfl
@[simp] theorem gtF_i (i j : Int) : gtF (.int i) (.int j) = some (decide (j < i)) := rfl
@[simp] theorem geF_i (i j : Int) : geF (.int i) (.int j) = some (decide (j ≤ i)) := rfl
@[simp] theorem intF_i (i : Int) : intF [.int i] = some (.int i) := rfl
@[simp] theorem minF_i (i j : Int) : minF [.int i, .int j] = some (.int (if j < i then j else i)) := rfl
@[simp] theorem lenF_l (xs : List D) : lenF [.lst xs] = some (.int xs.length) := rfl
@[simp] theorem lenF_t (xs : List D) : lenF [.tup xs] = some (.int xs.length) := rfl
@[simp] theorem tupF_l (xs : List D) : tupF [.lst xs] = some (.tup xs) := rfl
@[simp] theorem tupF_t (xs : List D) : tupF [.tup xs] = some (.tup xs) := rfl
@[simp] theorem atF_l (xs : List D) (i : Int) : atF (.lst xs) (.int i) = atI xs i := rfl
@[simp] theorem atF_t (xs : List D) (i : Int) : atF (.tup xs) (.int i) = atI xs i := rfl
@[simp] theorem seqF_l (xs : List D) : seqF (.lst xs) = some xs := rfl
@[simp] theorem seqF_t (xs : List D) : seqF (.tup xs) = some xs := rfl
@[simp] theorem seqF_r (xs : List D) : seqF (.rol xs) = some xs := rfl
@[simp] theorem vals_va (d : D) (as : List Av) : vals (.va d :: as) = (vals as).map (d :: ·) := rfl
theorem eqF_int (i j : Int) : eqF (.int i) (.int j) = some (decide (i = j)) := by
  have h : ∀ k : Int, SeqAt.shaped (.int k) = true := fun k => by rfl
  simp only [eqF, toPy, h, and_self, if_true, PyData.eqv, Option.some.injEq]
  by_cases e : i = j
  · simp [e]
  · simp [e]
theorem neF_int (i j : Int) : neF (.int i) (.int j) = some (!decide (i = j)) := by
  simp [neF, eqF_int]
def iL (l : List Int) : List D := l.map D.int
@[simp] theorem iL_length (l : List Int) : (iL l).length = l.length := List.length_map _
@[simp] theorem iL_snoc (l : List Int) (x : Int) : iL l ++ [.int x] = iL (l ++ [x]) := by simp [iL]
theorem iL_nil : ([] : List D) = iL [] := rfl
theorem iL_cons (x : Int) (l : List Int) : iL (x :: l) = .int x :: iL l := rfl
theorem mem_iL {d : D} {l : List Int} (h : d ∈ iL l) : ∃ i ∈ l, d = .int i := by
  obtain ⟨i, h1, h2⟩ := List.mem_map.mp h
  exact ⟨i, h1, h2.symm⟩
theorem atI_ints (row : List Int) (i : Int) (h0 : 0 ≤ i) (h1 : i < row.length) : atI (iL row) i = some (.int (row.getD i.toNat 0)) := by
  have hn : i.toNat < row.length := by omega
  unfold atI ixN
  rw [if_pos h0, if_pos (by simpa using h1)]
  simp [iL, List.getElem?_map, List.getElem?_eq_getElem hn, List.getD_eq_getElem?_getD]
theorem line_ok {n : Nat} (h : n ≤ 1000) : n ≤ line := Nat.le_trans h (by decide)
/-- a loop that keeps P -/
theorem forF_inv {tg : MG} {body : MS} (P : Env → Prop) : ∀ (ds : List D), (∀ d ∈ ds, ∀ e, P e → ∃ e1, tg d e = some e1 ∧ ∃ e2, (body e1 = .nx e2 ∨ body e1 = .br e2) ∧ P e2) → ∀ e, P e → ∃ e', forF tg body ds e = .nx e' ∧ P e'
  | [], _, e, he => ⟨e, rfl, he⟩
  | d :: ds, h, e, he => by
    obtain ⟨e1, h1, e2, h2, h3⟩ := h d List.mem_cons_self e he
    rcases h2 with h2 | h2
    · obtain ⟨e', h4, h5⟩ := forF_inv P ds (fun d hd => h d (List.mem_cons_of_mem _ hd)) e2 h3
      exact ⟨e', by simp only [forF, h1, h2]; exact h4, h5⟩
    · exact ⟨e2, by simp only [forF, h1, h2], h3⟩
/-- .. counted: P tells how many turns may come -/
theorem forF_invN {tg : MG} {body : MS} (P : Nat → Env → Prop) (hm : ∀ k e, P (k + 1) e → P k e) : ∀ (ds : List D), (∀ d ∈ ds, ∀ k e, P (k + 1) e → ∃ e1, tg d e = some e1 ∧ ∃ e2, (body e1 = .nx e2 ∨ body e1 = .br e2) ∧ P k e2) → ∀ n e, P (ds.length + n) e → ∃ e', forF tg body ds e = .nx e' ∧ P n e'
  | [], _, n, e, he => ⟨e, rfl, by simpa using he⟩
  | d :: ds, h, n, e, he => by
    have he' : P (ds.length + n + 1) e := by
      rw [List.length_cons, show ds.length + 1 + n = ds.length + n + 1 by omega] at he
      exact he
    obtain ⟨e1, h1, e2, h2, h3⟩ := h d List.mem_cons_self _ e he'
    rcases h2 with h2 | h2
    · obtain ⟨e', h4, h5⟩ := forF_invN P hm ds (fun d hd => h d (List.mem_cons_of_mem _ hd)) n e2 h3
      exact ⟨e', by simp only [forF, h1, h2]; exact h4, h5⟩
    · have down : ∀ j e, P (j + n) e → P n e := fun j => by
        induction j with
        | zero => intro e q; simpa using q
        | succ j ih => intro e q; exact ih e (hm _ _ (by rw [show j + 1 + n = j + n + 1 by omega] at q; exact q))
      exact ⟨e2, by simp only [forF, h1, h2], down _ _ h3⟩
/-- a slot that is no list of one's own -/
inductive Fr : Sl → Prop
  | un : Fr .un
  | va (d : D) : Fr (.va d)
end Mp
namespace Mp
open PySem PySem.Spec PyProof.Rows L2
theorem Fr.mark {s : Sl} (h : Fr s) : s.mark = s := by cases h <;> rfl
theorem Fr.back {s t : Sl} (h : Fr s) : s.back t = s := by cases h <;> rfl
theorem Fr.isOw {s : Sl} (h : Fr s) : Mp.isOw (some s) = false := by cases h <;> rfl
theorem Fr.put {s : Sl} (h : Fr s) (d : D) (e : Env) (i : Nat) (hi : e[i]? = some s) : putG i d e = some (e.set i (.va d)) := by
  cases h <;> simp [hi]
@[simp] theorem back_va (d : D) (s : Sl) : (Sl.va d).back s = .va d := rfl
@[simp] theorem back_un (s : Sl) : Sl.un.back s = .un := rfl
@[simp] theorem back_ow (b c : Bool) (xs ys : List D) : (Sl.ow b xs).back (.ow c ys) = .ow b ys := rfl
@[simp] theorem mark_va (d : D) : (Sl.va d).mark = .va d := rfl
@[simp] theorem mark_un : Sl.un.mark = .un := rfl
@[simp] theorem mark_ow (b : Bool) (xs : List D) : (Sl.ow b xs).mark = .ow true xs := rfl
end Mp
set_option Elab.async false
set_option linter.all false
set_option maxRecDepth 100000
set_option maxHeartbeats 4000000
/-! try with several clauses that bind one name -/
namespace Mp
open PySem PySem.Spec PyProof.Rows L2
abbrev SuT := Addr → Value → Option Addr → TS
/-- the ends of a suite whose name goes -/
def Ends.drop (D : Ends) (i : Nat) : Ends := { nx := fun σ' H' => D.nx (σ'.set i none) H', rt := D.rt, bk := fun σ' H' => D.bk (σ'.set i none) H', ct := fun σ' H' => D.ct (σ'.set i none) H' }
/-- what the clauses wish, in their order -/
def wClauses (K : PySem.W.Frag) (i : Nat) (Wout : WX) (D : Ends) : List (Value × SuT) → WX
  | [] => Wout
  | q :: r => fun cls d σ H => ∃ b, PySem.W.exmOne K cls q.1 = some b ∧ (b = false → wClauses K i Wout D r cls d σ H) ∧ (b = true → ∀ a, H a = none → q.2 a cls d (Ends.drop D i) (σ.set i (some (.ref a))) H)
/-- the clauses of the text -/
inductive Clauses (X : Cx) (n : Str) : List ExceptHandler → List (Value × SuT) → Prop
  | nil : Clauses X n [] []
  | cons {x : Str} {c : Value} {ts : SuT} {b₀ : Stmt} {su : List Stmt} {np p' : Pos} {hs : List ExceptHandler} {l : List (Value × SuT)} (nm : Names X x c)
      (ok : ∀ (a : Addr) (oe : Obj) (cls : Value) (d : Option Addr) (pn : List (Addr × Obj)), Zc cls d oe → (∃ vs, oe.data = .fields vs) → PSs (X.suite a ((a, oe) :: pn)) (b₀ :: su) (ts a cls d)) (r : Clauses X n hs l) :
      Clauses X n (.ExceptHandler (some (.Name x np)) (some n) (b₀ :: su) p' :: hs) ((c, ts) :: l)
section
variable {X : Cx} {n : Str} {i : Nat} {body : List Stmt} {h₀ : ExceptHandler} {hs : List ExceptHandler} {l : List (Value × SuT)} {pos : Pos} {tb : WX → TS} {Wout : WX}
theorem SP.ofTr {pins : List (Addr × Obj)} {xe : Value → Shared → Prop} {D : Ends} {f : Flow} {s : Shared} (ok : X.Ok) (h : SP (X.tr (X.pn ++ pins) xe) [] D f s) : SP X pins D f s := by
  match f, h with
  | .next, ⟨σ, H, J, q⟩ => exact ⟨σ, H, J.ofTry ok, q⟩
  | .brk, ⟨σ, H, J, q⟩ => exact ⟨σ, H, J.ofTry ok, q⟩
  | .cont, ⟨σ, H, J, q⟩ => exact ⟨σ, H, J.ofTry ok, q⟩
  | .ret u, ⟨v, σ, H, J, r, q⟩ => exact ⟨v, σ, H, J.ofTry ok, r, q⟩
/-- the end of a suite: the name goes, the frame is the outer one's again -/
theorem suite_end {pins : List (Addr × Obj)} {a : Addr} {oe : Obj} {D : Ends} {f : Flow} {s : Shared} {p' : Pos} (ok : X.Ok) (hN : X.N.Nodup) (hi : X.N[i]? = some n) (hln : X.env.kindOf n = some .local) (h : SP (X.suite a ((a, oe) :: (X.pn ++ pins))) [] (Ends.drop D i) f s) :
    wpAny (model X.prog X.w) X.A (do bindName X.env n .none; unbindBehindTheSuite X.env n p') (fun _ s' => SP X pins D f s') X.xe s := by
  match f, h with
  | .next, ⟨σ, H, J, q⟩ => exact gone_ok (J.unsuite ok) hN hi hln fun s' J' => ⟨_, _, J', q⟩
  | .brk, ⟨σ, H, J, q⟩ => exact gone_ok (J.unsuite ok) hN hi hln fun s' J' => ⟨_, _, J', q⟩
  | .cont, ⟨σ, H, J, q⟩ => exact gone_ok (J.unsuite ok) hN hi hln fun s' J' => ⟨_, _, J', q⟩
  | .ret u, ⟨v, σ, H, J, r, q⟩ => exact gone_ok (J.unsuite ok) hN hi hln fun s' J' => ⟨_, _, _, J', r, q⟩
theorem ps_clauses (hst : X.stack = X.env :: X.outer) (hf : X.env.frame = some X.env.locals) (hN : X.N.Nodup) (hi : X.N[i]? = some n) (hln : X.env.kindOf n = some .local) (tk : Takes X Wout)
    (hb : ∀ (W : WX) (pn : List (Addr × Obj)) (xe : Value → Shared → Prop), Takes (X.tr pn xe) W → PassesOwn (model X.prog X.w) X.A X.env xe → PSs (X.tr pn xe) body (tb W))
    (hc : Clauses X n (h₀ :: hs) l) : PS X (.Try body (h₀ :: hs) [] [] pos) (fun D σ H => tb (wClauses X.K i Wout D l) D σ H) := by
  refine ⟨fun pins s σ H D I h => wpAny_Try_except ?_⟩
  have ok := I.ok
  have hfr : X.A.frames = some (X.env :: X.outer) := ok.frames.trans (congrArg some hst)
  refine wpAny_mono ((hb (wClauses X.K i Wout D l) (X.pn ++ pins) _ (fun u s' z => ?_) PassesOwn.looking).run [] s σ H D (I.toTry _) h) (fun f s1 z => ?_) fun _ _ z => z
  · obtain ⟨a, B, sI, _, σ', H', cls, d, rfl, J', nb, up, sky, na, os, ag, w⟩ := z
    have J : Inv X pins σ' H' sI := J'.ofTry ok
    refine Sky.land Zc.steady hfr hf (hst ▸ sky) fun h3 fl up3 => ?_
    have J3 : Inv X pins σ' H' { s' with heap := h3 } := J.landed nb fl.1 (up.trans up3) os ag
    obtain ⟨oe, vs, he, hz, hd⟩ := fl.there
    have away : a ∉ frs (X.env :: X.outer) := fun hm => by
      obtain ⟨_, o, e, nf⟩ := fl.2.2.1.mem hm
      rw [he] at e
      cases e
      exact nf _ hd
    have nL : a ≠ X.env.locals := fun z => away (List.mem_filterMap.mpr ⟨X.env, List.mem_cons_self, z ▸ hf⟩)
    have nF : a ∉ X.fs := fun hm => by
      obtain ⟨e, he, q⟩ := List.mem_filterMap.mp hm
      exact away (List.mem_filterMap.mpr ⟨e, List.mem_cons_of_mem _ he, q⟩)
    have S3 := J3.suite he hd na nL nF
    clear hb h
    suffices go : ∀ {hs' : List ExceptHandler} {l' : List (Value × SuT)}, Clauses X n hs' l' → wClauses X.K i Wout D l' cls d σ' H' → wpAny (model X.prog X.w) X.A (handleBy (.ref a) X.env hs') (SP X pins D) X.xe { s' with heap := h3 } from go hc w
    intro hs' l' hk
    induction hk with
    | nil =>
      intro w
      refine wpAny_handleBy_nil ?_
      obtain ⟨_, _, _, _, _, T, _, _, e0, _, d0, v1, _⟩ := id fl
      unfold PySem.passOn
      refine wpAny_bind (wpAny_field e0 d0 v1 ?_)
      rw [if_neg (show ¬ ((Value.ref T == Value.none) = true) from by simp)]
      have last : wpAny (model X.prog X.w) X.A (setFlight (.ref a) X.env.frame) (fun _ s4 => wpAny (model X.prog X.w) X.A (throw (.ref a) : Sem Flow) (SP X pins D) X.xe s4) X.xe { s' with heap := h3 } := by
        rw [hf]
        refine HandSPX.setFlight_upZ fl fun h4 hh up4 => wpAny_throw (tk _ _ ⟨a, B, sI, pins, σ', H', cls, d, rfl, J, nb, (up.trans up3).trans up4, .inr (.inr (hst ▸ hh)), na, os, ag, w⟩)
      first
        | exact wpAny_bind (wpAny_pure (wpAny_bind last))
        | exact wpAny_bind last
    | @cons x c ts b₀ su np p' hs2 l2 nm ok2 r ih =>
      intro w
      obtain ⟨b, hb1, hno, hyes⟩ := w
      refine wpAny_handleBy_cons (codeAny_handlers_test ?_) (by intro q; cases q)
      have LT : PySem.W.Looks (model X.prog X.w) h3 (typeOf (.ref a)) cls := fun A Q E s k q => wpAny_typeOf_ref (k _ _ he) (by rw [hz.1]; exact q)
      have LM := PySem.W.exm_one (M := model X.prog X.w) J3.kIn LT hb1
      have cls_ : ∀ {Q : Value → Shared → Prop} {E : Value → Shared → Prop}, Q c { s' with heap := h3 } → wpAny (model X.prog X.w) (X.A.mark (some (.ref a))) (eval (.Name x np) X.env) Q E { s' with heap := h3 } := fun {Q E} q => by
        obtain ⟨hg, hdb, hm | ⟨hm, hv, hn⟩⟩ := nm
        · exact ld_glob (X := X.suite a ((a, oe) :: (X.pn ++ pins))) S3 hg hm q hdb
        · exact ld_blt (X := X.suite a ((a, oe) :: (X.pn ++ pins))) S3 hg hm hv q hn hdb
      refine cls_ (LM.here ?_)
      cases b with
      | false => exact ih (hno rfl)
      | true =>
        refine codeAny_handlers_suite_as (HandSPX.lands_againZ fl fun h4 fl4 up4 => ?_)
        obtain ⟨oe4, vs4, he4, hz4, hd4⟩ := fl4.there
        have S4 := (J.landed nb fl4.1 ((up.trans up3).trans up4) os ag : Inv X pins σ' H' { s' with heap := h4 }).suite he4 hd4 na nL nF
        refine store_ok (X := X.suite a ((a, oe4) :: (X.pn ++ pins))) (v := .ref a) S4 hN hi (.inl hln) rfl (fun s5 S5 => ?_) (.inr hln)
        exact wpAny_mono ((ok2 a oe4 cls d (X.pn ++ pins) hz4 ⟨_, hd4⟩).run [] s5 _ H' _ S5 (hyes rfl a na)) (fun f s6 z => suite_end ok hN hi hln z) fun _ _ z => z.elim
  · have z' := SP.ofTr ok z
    match f, z' with
    | .next, z' => exact wpAny_execs_nil z'
    | .brk, z' => exact z'
    | .cont, z' => exact z'
    | .ret u, z' => exact z'
end

/-! ### .. each of which returns (tag, n.f) -/
structure Cl where
  sub : Str → Option Bool
  f : Str
  tag : Str
def tsTag (K : PySem.W.Frag) (i : Nat) (f tag : Str) : SuT := fun a cls d D σ H => ∃ (C' dd : Addr) (v : V), cls = .ref C' ∧ d = some dd ∧ ExC K C' f ∧ σ[i]? = some (some (.ref a)) ∧ H dd = some (.xd [(f, v)]) ∧ ∀ p, H p = none → D.rt (.ref p) (upd H p (.tup [.str tag, v]))
inductive SCl (g : Gc) (X : Cx) (i : Nat) (n : Str) : List ExceptHandler → List Cl → List (Value × SuT) → Prop
  | nil : SCl g X i n [] [] []
  | cons {x f tag : Str} {C : Value} {sub : Str → Option Bool} {np p1 p2 p3 p4 p5 p6 : Pos} {j x1 : Nat} {hs : List ExceptHandler} {l : List Cl} {l' : List (Value × SuT)} (K : Catch g C f sub) (hc : Names X x C)
      (hab : attributeBase (.Name n p2) f X.env (eval (.Name n p2) X.env) = eval (.Name n p2) X.env)
      (h1 : starEach (Expr.Constant (.str tag) j p1 :: [.Attribute (.Name n p2) f p3]) X.env = (false, eval (.Constant (.str tag) j p1) X.env) :: starEach [.Attribute (.Name n p2) f p3] X.env)
      (h2 : starEach (Expr.Attribute (.Name n p2) f p3 :: []) X.env = (false, eval (.Attribute (.Name n p2) f p3) X.env) :: starEach [] X.env) (r : SCl g X i n hs l l') :
      SCl g X i n (.ExceptHandler (some (.Name x np)) (some n) [.Return (some (.Tuple [.Constant (.str tag) j p1, .Attribute (.Name n p2) f p3] x1 p4)) p5] p6 :: hs) (⟨sub, f, tag⟩ :: l) ((C, tsTag X.K i f tag) :: l')
def clF (i : Nat) (c : Str) (v : D) (e : Env) : List Cl → Fl
  | [] => .exc c v e
  | q :: r => match q.sub c with
    | some true => if i < e.length then .rt (.tup [.str q.tag, v]) e else .no
    | some false => clF i c v e r
    | none => .no
def mTryCl (i : Nat) (cl : List Cl) (mb : MS) : MS := fun env => match mb env with
  | .exc c v e => clF i c v e cl
  | r => r
section
variable {g : Gc} {W : WX} {φ : Fc} {X : Cx} {k : Nat}
theorem scl_clauses {i : Nat} {n : Str} (hi : X.N[i]? = some n) (hln : X.env.kindOf n = some .local) (hd : (n == ("__debug__" : Str)) = false) (hcd : (n == ("__classdict__" : Str)) = false) {hs : List ExceptHandler} {cl : List Cl} {l : List (Value × SuT)} (h : SCl g X i n hs cl l) : Clauses X n hs l := by
  induction h with
  | nil => exact .nil
  | cons K hc hab h1 h2 r ih =>
    refine .cons hc (fun a oe cls d pn hz hfl => ⟨fun pins s σ H D I w => ?_⟩) ih
    obtain ⟨C', dd, v, rfl, rfl, Z, q1, q2, q3⟩ := w
    refine (pss_one (ps_ret (pe_tup (pa_cons pe_str (pa_cons (pe_held (pn := pn) Z hz hfl (pe_var (i := i) hi (.inl hln) hd hcd) hab) pa_nil h2) h1)))).run pins s σ H D I ?_
    exact ⟨.ref a, q1, rfl, rfl, dd, v, rfl, q2, by rw [sizeLine_eq]; exact (by decide : 2 ≤ 16777216), q3⟩
theorem scl_wish {i : Nat} {n : Str} {En : Ends} {F : Hp} {c : Str} {v : D} {e : Env} (hK : X.K = g.K) {hs : List ExceptHandler} {cl : List Cl} {l : List (Value × SuT)} (h : SCl g X i n hs cl l) (hp : PoS g W φ F En (clF i c v e cl)) : XP g (wClauses X.K i W En l) φ F c v e := by
  induction h with
  | nil => exact hp
  | @cons x f tag C sub np p1 p2 p3 p4 p5 p6 j x1 hs l l' K hc hab h1 h2 r ih =>
    intro C' fld dd vv σ' H' F' hx s1 r1 q1 q2
    unfold clF at hp
    cases es : sub c with
    | none => simp only [es] at hp; exact hp.elim
    | some b =>
      obtain ⟨k1, k2⟩ := K.ok c C' fld b hx es
      refine ⟨b, hK ▸ k1, fun hb => ?_, fun hb a ha => ?_⟩
      · subst hb
        simp only [es] at hp
        exact ih hp C' fld dd vv σ' H' F' hx s1 r1 q1 q2
      · subst hb
        obtain ⟨rfl, Z⟩ := k2 rfl
        simp only [es] at hp
        by_cases hlt : i < e.length
        · rw [if_pos hlt] at hp
          refine ⟨C', dd, vv, rfl, rfl, hK ▸ Z, set_get (r1.len ▸ hlt), q1, fun p hn => ?_⟩
          obtain ⟨s2, r2⟩ := r1.laid (o := .tup [.str tag, vv]) hn
          exact hp (.ref p) σ' _ _ (s1.trans s2) r2 (.mkTup upd_same (.cons (.str tag) (.cons (q2.mono s2) .nil)))
        · rw [if_neg hlt] at hp
          exact hp.elim
theorem ss_tryCl {i : Nat} {n : Str} {h₀ : ExceptHandler} {hs : List ExceptHandler} {cl : List Cl} {l : List (Value × SuT)} {body : List Stmt} {mb : MS} {pos : Pos} (c : Cok g X W k) (hst : X.stack = X.env :: X.outer) (hf : X.env.frame = some X.env.locals)
    (h : SCl g X i n (h₀ :: hs) cl l) (hi : X.N[i]? = some n) (hln : X.env.kindOf n = some .local)
    (hb : ∀ (W' : WX) (pn : List (Addr × Obj)) (xe : Value → Shared → Prop), Cok g (X.tr pn xe) W' k → SB g W' φ (X.tr pn xe) body mb)
    (hd : (n == ("__debug__" : Str)) = false := by decide) (hcd : (n == ("__classdict__" : Str)) = false := by decide) : SS g W φ X (.Try body (h₀ :: hs) [] [] pos) (mTryCl i cl mb) := by
  intro F σ H env En hr hp
  refine ⟨_, ps_clauses (Wout := W) (i := i) (tb := fun W' => fun D σ H => ∀ pn xe, Takes (X.tr pn xe) W' → PassesOwn (model X.prog X.w) X.A X.env xe → wB (X.tr pn xe) body D σ H)
    hst hf c.nd hi hln c.tk (fun W' pn xe tk po => ⟨fun pins s σ H D I h => w_pb.run pins s σ H D I (h pn xe tk po)⟩) (scl_clauses hi hln hd hcd h), ?_⟩
  intro pn xe tk po
  refine hb _ pn xe ⟨c.K, c.calm, c.nd, tk, c.rm, po⟩ F σ H env En hr ?_
  unfold mTryCl at hp
  cases e1 : mb env with
  | nx e2 => rw [e1] at hp; exact hp
  | rt d e2 => rw [e1] at hp; exact hp
  | br e2 => rw [e1] at hp; exact hp
  | ct e2 => rw [e1] at hp; exact hp
  | no => rw [e1] at hp; exact hp
  | exc cn v e2 =>
    rw [e1] at hp
    exact scl_wish c.K h hp
end

/-! ### C(k = v, ..) -/
section
variable {g : Gc} {W : WX} {φ : Fc} {X : Cx} {k : Nat} {σ : L2.St}
theorem run_makeKw {CX : CXT} {pins : List (Addr × Obj)} {H : Hp} {s : Shared} {Q : VK} {ws : List Value} {vs : List V} {C f : Addr} {fd : FuncData} {q : Str} {ps : List Str} {sp : Sp} {E : L2.St → XK} (M : Mk X.K C f) (Fo : FnOk X.prog X.w X.K X.mg X.base CX k f fd (q :: ps) sp) (hr : Room (k + 1) X.A) (hb : KwB1 X.K fd q ps)
    (hx : PassesAt CX X σ (E σ)) (I : Inv X pins σ H s) (r : Vals vs ws) (h : ∀ x dx, H x = none → H dx = none → dx ≠ x → sp (.ref x :: vs) (upd (upd H dx (.own x)) x (.ins C dx [])) (fun v H2 => v = .non ∧ Q (.ref x) H2) (E σ)) :
    wpAny (model X.prog X.w) X.A (call (.ref C) [] (ps.zip ws)) (EP X pins σ Q) X.xe s := by
  have w := h (s.heap.objs.size + 1) s.heap.objs.size (I.hok.fresh (Nat.le_succ _)) (I.hok.fresh (Nat.le_refl _)) (Nat.ne_of_lt (Nat.lt_succ_self _))
  have J := Inv.made (C := C) I
  have rr : Vals (V.ref (s.heap.objs.size + 1) :: vs) (Value.ref (s.heap.objs.size + 1) :: ws) := .cons rfl r
  have n : ws.length = ps.length := by
    have := rr.length.symm.trans (Fo.len _ _ _ _ w)
    simpa using this
  have bd := hb _ (Value.ref (s.heap.objs.size + 1)) ws J.kIn n
  have run := Fo.run _ X.stack _ _ ⟨[Value.ref (s.heap.objs.size + 1)], ps.zip ws⟩ (Value.ref (s.heap.objs.size + 1) :: ws) _ _ (E σ) (hr.make C [] (ps.zip ws)) (J.env0.make C [] (ps.zip ws)) bd rr w
  refine wpAny_call (make_map (f := f) I.kIn M.makes M.init (beq_iff_eq.mp M.fn) (codeAny_mono run fun z s' hz => ?_))
  match z, hz with
  | .error e, hz => exact hx pins _ _ e s' J hz
  | .ok (.ret u), hz =>
    obtain ⟨v, H', I3, rv, ev, q3⟩ := J.after hz
    subst ev
    exact ⟨rv, V.ref (s.heap.objs.size + 1), H', I3, rfl, q3⟩
theorem pe_makeKw {CX : CXT} {C f : Addr} {fd : FuncData} {q : Str} {ps : List Str} {sp : Sp} {E : L2.St → XK} {x : Str} {p pos : Pos} {kws : List Keyword} {t : TA} (M : Mk X.K C f) (Fo : FnOk X.prog X.w X.K X.mg X.base CX k f fd (q :: ps) sp) (hr : Room (k + 1) X.A) (hg : Gl X x) (hm : X.mg x = some (.ref C))
    (hb : KwB1 X.K fd q ps) (hx : ∀ σ, PassesAt CX X σ (E σ)) (hkw : PK X kws t) (hall : (backToKw pos (keywordEach kws X.env)).all (·.1.isSome) = true) (hks : (backToKw pos (keywordEach kws X.env)).filterMap (·.1) = ps) (hdb : (x == ("__debug__" : Str)) = false)
    (hpl : ((backTo pos (starEach [] X.env)).any (·.1) || (backToKw pos (keywordEach kws X.env)).any (·.1.isNone)) = false) :
    PE X (.Call (.Name x p) [] kws pos) (fun σ H Q => t σ H fun vs H1 => ∀ x dx, H1 x = none → H1 dx = none → dx ≠ x → sp (.ref x :: vs) (upd (upd H1 dx (.own x)) x (.ins C dx [])) (fun v H2 => v = .non ∧ Q (.ref x) H2) (E σ)) := by
  refine ⟨fun pins s σ H Q I h => wpAny_Call_Name_kw (ld_glob I hg hm (PySem.W.callWith_KW0 (h₀ := X.base) I.ok.mod.kin M.kp hall (thn (hkw.run pos pins s σ H _ I h) fun ws s2 z => ?_) hpl) hdb)⟩
  obtain ⟨vs, H2, I2, rz, q2⟩ := z
  refine ⟨I2.kIn, ?_⟩
  rw [hks]
  exact run_makeKw M Fo hr hb (hx σ) I2 rz q2
/-- from a constructor's promise to the caller's wish -/
theorem make_sp {cn : Str} {fi : List D → IR} {C : Addr} {ns : List Str} {F1 H1 : Hp} {Q : VK} {as : List Av} {e1 : Env} {vs : List V} (hcl : g.cl cn = some (C, ns)) (r1 : Rel g φ F1 σ H1 e1) (p1 : AvsR g F1 σ vs as) (hp1 : PoE g W φ F1 σ Q (makeF cn fi as e1)) :
    ∀ x dx, H1 x = none → H1 dx = none → dx ≠ x → spInit g C ns fi (.ref x :: vs) (upd (upd H1 dx (.own x)) x (.ins C dx [])) (fun v H2 => v = .non ∧ Q (.ref x) H2) (L2.WE W σ) := by
  intro x dx hx hdx hne
  unfold makeF at hp1
  cases hv : vals as with
  | none => simp only [hv] at hp1; exact hp1.elim
  | some ds =>
    simp only [hv] at hp1
    have hF1 : F1 x = none := r1.ex.free hx
    have old : ∀ b o, H1 b = some o → (upd (upd H1 dx (.own x)) x (.ins C dx [])) b = some o := fun b o z => by
      rw [upd_ne (ne_of_none z hx), upd_ne (ne_of_none z hdx)]
      exact z
    have back : ∀ b, (upd (upd H1 dx (.own x)) x (.ins C dx [])) b = none → H1 b = none := fun b z => by
      cases zz : H1 b with
      | none => rfl
      | some o =>
        rw [old b o zz] at z
        cases z
    refine ⟨F1, x, dx, vs, ds, rfl, upd_same, hF1, fun b o z => old b o (r1.ex b o z), p1.vals hv, ?_⟩
    cases hf : fi ds with
    | no => simp only [hf] at hp1; exact hp1.elim
    | exc c2 v =>
      simp only [hf] at hp1
      exact fun Cx fld dd vv H' F' q1 q2 q3 q4 q5 q6 q7 => hp1 Cx fld dd vv σ H' F' q1 q2 (r1.grow q2 q3 (fun b o z => (q4 b o z).imp id (back b)) fun b o z => q5 b o (old b o z)) q6 q7
    | ok fs =>
      simp only [hf] at hp1
      intro H' F' us q1 q2 q3 q4 q5 q6 q7 q8
      refine ⟨rfl, ?_⟩
      have xo : ∀ b o, H1 b = some o → b ≠ x := fun b o z => ne_of_none z hx
      have s2 : Same F' (upd F' x (.ins C dx (ns.zip us))) := same_new q6
      have r3 : Rel g φ (upd F' x (.ins C dx (ns.zip us))) σ H' e1 := by
        refine r1.grow (q1.trans s2) (fun b o z => ?_) (fun b o z => ?_) fun b o z => q4 b o (old b o z) (xo b o z)
        · by_cases hbx : b = x
          · subst hbx
            rw [upd_same] at z
            cases z
            exact q5
          · rw [upd_ne hbx] at z
            exact q2 b o z
        · by_cases hbx : b = x
          · subst hbx
            exact .inr hx
          · rw [upd_ne hbx] at z
            exact (q3 b o z).imp id (back b)
      exact hp1 (.ref x) H' _ (q1.trans s2) r3 (.obj x cn C dx ns us fs hcl upd_same q7 (Reps.mono s2 q8).len (Reps.mono s2 q8).at_)
theorem se_makeK {cn : Str} {ps : List Str} {kk : Nat} {fi : List D → IR} {kws : List Keyword} {m : MA} {p pos : Pos} (c : Cok g X W k) (h : HasMkK X.prog X.w X.mg X.base g kk cn ps fi) (hk : kk + 1 ≤ k) (hg : Gl X cn) (ha : SKw g W φ X kws m)
    (hall : (backToKw pos (keywordEach kws X.env)).all (·.1.isSome) = true := by rfl) (hks : (backToKw pos (keywordEach kws X.env)).filterMap (·.1) = ps := by rfl) (hdb : (cn == ("__debug__" : Str)) = false := by decide)
    (hpl : ((backTo pos (starEach [] X.env)).any (·.1) || (backToKw pos (keywordEach kws X.env)).any (·.1.isNone)) = false := by rfl) : SE g W φ X (.Call (.Name cn p) [] kws pos) (mMake cn fi m) := by
  intro F σ H env Q hr hp
  obtain ⟨C, fI, fd, q, ns, M, Fo, hb, hm, hcl⟩ := h.ex
  rw [← c.K] at M Fo hb
  refine ⟨_, pe_makeKw M Fo (c.rm.mono hk) hg hm hb (fun σ => passAt c.tk σ) w_pk hall hks hdb hpl, ?_⟩
  refine ha F σ H env _ hr (ae hp fun as e1 vs H1 F1 s1 r1 p1 hp1 => ?_)
  exact make_sp hcl r1 p1 hp1
end
end Mp
set_option Elab.async false
set_option linter.all false
set_option maxRecDepth 100000
set_option maxHeartbeats 4000000
/-! sorted(numbers), <= of tuples of numbers -/
namespace Mp
open PySem PySem.Spec PyProof.Rows L2
/-- the sorted list -/
def insI (x : Int) : List Int → List Int
  | [] => [x]
  | y :: l => if x ≤ y then x :: y :: l else y :: insI x l
def sortI : List Int → List Int
  | [] => []
  | x :: l => insI x (sortI l)
theorem insI_perm (x : Int) : ∀ l : List Int, (insI x l).Perm (x :: l)
  | [] => .refl _
  | y :: l => by
    unfold insI
    by_cases h : x ≤ y
    · rw [if_pos h]
    · rw [if_neg h]
      exact ((insI_perm x l).cons y).trans (List.Perm.swap x y l)
theorem sortI_perm : ∀ l : List Int, (sortI l).Perm l
  | [] => .refl _
  | x :: l => (insI_perm x (sortI l)).trans ((sortI_perm l).cons x)
theorem insI_sorted (x : Int) : ∀ l : List Int, l.Pairwise (· ≤ ·) → (insI x l).Pairwise (· ≤ ·)
  | [], _ => by simp [insI]
  | y :: l, h => by
    unfold insI
    obtain ⟨h1, h2⟩ := List.pairwise_cons.mp h
    by_cases hx : x ≤ y
    · rw [if_pos hx]
      refine List.pairwise_cons.mpr ⟨fun z hz => ?_, h⟩
      rcases List.mem_cons.mp hz with rfl | hz
      · exact hx
      · exact Int.le_trans hx (h1 z hz)
    · rw [if_neg hx]
      refine List.pairwise_cons.mpr ⟨fun z hz => ?_, insI_sorted x l h2⟩
      rcases List.mem_cons.mp ((insI_perm x l).mem_iff.mp hz) with rfl | hz
      · omega
      · exact h1 z hz
theorem sortI_sorted : ∀ l : List Int, (sortI l).Pairwise (· ≤ ·)
  | [] => .nil
  | x :: l => insI_sorted x _ (sortI_sorted l)
theorem sorted_one : ∀ {l m : List Int}, l.Perm m → l.Pairwise (· ≤ ·) → m.Pairwise (· ≤ ·) → l = m
  | [], m, h, _, _ => (List.nil_perm.mp h).symm
  | x :: l, [], h, _, _ => by cases List.perm_nil.mp h
  | x :: l, y :: m, h, h1, h2 => by
    obtain ⟨a1, a2⟩ := List.pairwise_cons.mp h1
    obtain ⟨b1, b2⟩ := List.pairwise_cons.mp h2
    have xy : x = y := by
      rcases List.mem_cons.mp (h.mem_iff.mp (List.mem_cons_self (a := x))) with e | e
      · exact e
      · rcases List.mem_cons.mp (h.mem_iff.mpr (List.mem_cons_self (a := y))) with e2 | e2
        · exact e2.symm
        · exact Int.le_antisymm (a1 y e2) (b1 x e)
    subst xy
    rw [sorted_one (List.Perm.cons_inv h) a2 b2]
def sortF : List D → Option D
  | [.lst xs] => (intsOf xs).map fun is => .lst ((sortI is).map D.int)
  | _ => none
section
variable {g : Gc} {W : WX} {φ : Fc} {X : Cx} {k : Nat}
theorem reps_ints (g : Gc) (F : Hp) (is : List Int) : Reps g F (is.map V.int) (is.map D.int) := ⟨by simp, fun i v d a b => by
  rw [List.getElem?_map, Option.map_eq_some_iff] at a b
  obtain ⟨x, a1, rfl⟩ := a
  obtain ⟨y, b1, rfl⟩ := b
  rw [a1] at b1
  cases b1
  exact .int _⟩
theorem ca_sort (hK : X.K = g.K) : CaS g φ (wC X (.builtin "sorted")) sortF := by
  intro F σ H env vs ds z Q hr hx hf hq
  cases hx with
  | nil => simp [sortF] at hf
  | @cons v d vs ds hv t =>
    cases t with
    | cons _ _ => cases d <;> simp [sortF] at hf
    | nil =>
      cases d <;> simp only [sortF, reduceCtorEq, Option.map_eq_some_iff] at hf
      obtain ⟨is, h1, rfl⟩ := hf
      obtain ⟨a, ws, rfl, h2, h3⟩ := hv.lst hr.ex
      have e := intsOf_ok h1 h3
      subst e
      refine ⟨_, cr_sortedI, a, is, rfl, SqL.of h2, fun ns' p hp hs hn => ?_⟩
      have en : ns' = sortI is := sorted_one (hp.trans (sortI_perm is).symm) hs (sortI_sorted is)
      subst en
      obtain ⟨s2, r2⟩ := hr.laid (o := .lst ((sortI is).map V.int)) hn
      exact hq _ _ _ s2 r2 (.mkLst upd_same (reps_ints g _ _))
/-- x <= y: numbers, or tuples of numbers -/
def leTF : D → D → Option Bool
  | .int i, .int j => some (decide (i ≤ j))
  | .tup xs, .tup ys => match intsOf xs, intsOf ys with
    | some ns, some ms => some (Ob.lexAt (fun j => decide (ns.getD j 0 = ms.getD j 0)) (fun j => decide (ns.getD j 0 ≤ ms.getD j 0)) (decide (ns.length ≤ ms.length)) 0 (min ns.length ms.length))
    | _, _ => none
  | _, _ => none
theorem op_leT_ (hK : X.K = g.K) (rm : Room k X.A) : OpB g φ (wO X (compareOp .LtE)) leTF := by
  intro F σ H env v u x y z Q hr hx hy hf hq
  cases x <;> cases y <;> simp only [leTF, reduceCtorEq, Option.some.injEq] at hf
  · subst hf
    rw [hx.int, hy.int]
    exact ⟨_, op_le, _, _, rfl, rfl, hq⟩
  · rename_i xs ys
    cases e1 : intsOf xs with
    | none => simp [e1] at hf
    | some ns =>
      cases e2 : intsOf ys with
      | none => simp [e1, e2] at hf
      | some ms =>
        simp only [e1, e2, Option.some.injEq] at hf
        subst hf
        obtain ⟨a, vs, rfl, h1, h2⟩ := hx.tup hr.ex
        obtain ⟨b, ws, rfl, h3, h4⟩ := hy.tup hr.ex
        have q1 := intsOf_ok e1 h2
        have q2 := intsOf_ok e2 h4
        subst q1 q2
        exact ⟨_, op_leT (Nat.lt_of_le_of_lt (Nat.le_add_right _ _) rm.units), a, b, ns, ms, rfl, rfl, hK ▸ h1, hK ▸ h3, hq⟩
end
end Mp
set_option Elab.async false
set_option linter.all false
set_option maxRecDepth 100000
set_option maxHeartbeats 4000000
/-! x not in a list or tuple of plain values; [.. for .. in .. for .. in ..] -/
namespace Mp
open PySem PySem.Spec PyProof.Rows L2
section
variable {g : Gc} {W : WX} {φ : Fc} {X : Cx} {k : Nat}
theorem op_notin_ (hK : X.K = g.K) : OpS g φ (wO X (compareOp .NotIn)) (inF true) := by
  intro F σ H env v u x y z Q hr hx hy hf hq
  unfold inF at hf
  cases e : seqF y with
  | none => simp [e] at hf
  | some ys =>
    simp only [e] at hf
    by_cases hc : flatD x = true ∧ ys.all flatD = true
    · rw [if_pos hc] at hf
      obtain ⟨a, vs, rfl, h1, h2⟩ := hy.seq hr.ex e
      have px := hx.flat hc.1
      have ei := in_rep px hc.1 h2 hc.2
      refine ⟨_, op_notIn_seq, a, vs, rfl, hK ▸ h1, flat_rep px hc.1, flats_rep h2 hc.2, ?_⟩
      have ez := (Option.some.inj hf).symm
      subst ez
      rw [ei]
      exact hq _ _ _ (Same.refl _) hr (.bl _)
    · rw [if_neg hc] at hf
      cases hf
end
end Mp
set_option Elab.async false
set_option linter.all false
set_option maxRecDepth 100000
set_option maxHeartbeats 4000000
/-! [elt for tg in iter for tg1 in iter1] -/
namespace Mp
open PySem PySem.Spec PyProof.Rows L2
def allT (e : Env) : Bool := e.all fun s => match s with
  | .ow false _ => false
  | _ => true
def lcI (vs1 : List Nat) (tg1 : MG) (elt : ME) : List D → Env → Re (List D)
  | [], e => .ok [] e
  | d :: ds, e => match tg1 d e with
    | none => .no
    | some e1 => (elt e1).nx fun x e2 => if (free_ vs1 e2 && allT e2) = true then (lcI vs1 tg1 elt ds (wipeE e2 vs1)).nx fun xs e3 => .ok (x :: xs) e3 else .no
def lcO (own vs1 : List Nat) (tg : MG) (mi1 : ML) (tg1 : MG) (elt : ME) : List D → Env → Re (List D)
  | [], env => .ok [] env
  | d :: ds, env => if free_ own env = true then
      match tg d (enterE own env) with
      | none => .no
      | some e1 => (mi1 e1).nx fun ds1 e2 => if (free_ vs1 e2 && allT e2) = true then (lcI vs1 tg1 elt ds1 (wipeE e2 vs1)).nx fun xs e3 => (lcO own vs1 tg mi1 tg1 elt ds (backE env e3)).nx fun ys e4 => .ok (xs ++ ys) e4 else .no
    else .no
def lLc2 (own vs1 : List Nat) (mi : ML) (tg : MG) (mi1 : ML) (tg1 : MG) (elt : ME) : ML := fun env => (mi env).bind fun ds e => (lcO own vs1 tg mi1 tg1 elt ds e).nx fun xs e1 => if xs.length ≤ line then .ok xs e1 else .no
section
variable {g : Gc} {W : WX} {φ : Fc} {X : Cx} {k : Nat} {F F0 : Hp} {σ σ3 : L2.St} {H H0 H9 : Hp} {e ev ev' : Env} {vs1 : List Nat} {p : Addr}
theorem allT_at (h : allT e = true) {i : Nat} {xs : List D} (q : e[i]? = some (Sl.ow false xs)) : False := by
  have := List.all_eq_true.mp h _ (List.mem_of_getElem? q)
  simp at this
/-- the frame of a turn of the inner loop -/
theorem Rel.inner (q : Rel g (fcE σ ev H0 F0) F σ3 H e) (hH : ∀ b, b ≠ p → H9 b = H b) (hF : F p = none) (hno : NotOwn σ ev p) (hio : ioE σ ev' = ioE σ ev) (hf : free_ vs1 e = true) (ht : allT e = true) :
    Rel g (fcE σ ev' H9 F) F (L2.wipe σ3 vs1) H9 (wipeE e vs1) := by
  have wo : ∀ {i : Nat}, i ∉ vs1 → (L2.wipe σ3 vs1)[i]? = σ3[i]? := fun h => L2.wipe_out h
  refine ⟨fun b o z => ?_, Same.refl _, fun b o z => .inl z, fun b o z _ => z, by rw [wipeE_length, L2.wipe_length]; exact q.len, fun i d z => ?_, fun i b xs z => ?_, fun i j b c xs ys a e1 e2 e3 e4 => ?_, fun r hr => ?_⟩
  · rw [hH b (fun w => by rw [w, hF] at z; cases z)]
    exact q.ex b o z
  · rcases wipeE_at z with ⟨h, _⟩ | ⟨h, h1⟩
    · cases h
    · obtain ⟨v, k1, k2⟩ := q.va i d h1
      exact ⟨v, by rw [wo h]; exact k1, k2⟩
  · rcases wipeE_at z with ⟨h, _⟩ | ⟨h, h1⟩
    · cases h
    · cases b with
      | false => exact (allT_at ht h1).elim
      | true =>
        obtain ⟨a, vs, k1, k2, k3, k4, k5, k6⟩ := q.ow i true xs h1
        have hm : (i, a) ∈ ioE σ ev := k6 rfl
        obtain ⟨m1, b', xs', m2⟩ := mem_ioE.mp hm
        have hap : a ≠ p := hno i b' xs' a m2 m1
        refine ⟨a, vs, by rw [wo h]; exact k1, by rw [hH a hap]; exact k2, k3, k4, (fun w => by cases w), fun _ => ?_⟩
        show (i, a) ∈ ioE σ ev'
        rw [hio]
        exact hm
  · rcases wipeE_at e1 with ⟨h, _⟩ | ⟨h, h1⟩
    · cases h
    · rcases wipeE_at e2 with ⟨h', _⟩ | ⟨h', h1'⟩
      · cases h'
      · rw [wo h] at e3
        rw [wo h'] at e4
        exact q.dj i j b c xs ys a h1 h1' e3 e4
  · have hr' : r ∈ ioE σ ev := by
      rw [← hio]
      exact hr
    obtain ⟨h1, xs, h2⟩ := q.ioh r hr'
    have hn : r.1 ∉ vs1 := fun z => free_at hf z h2
    exact ⟨by rw [wo hn]; exact h1, xs, by rw [wipeE_out hn]; exact h2⟩
theorem backE_back {env e1 e2 : Env} (h1 : e1.length = env.length) (hk : ∀ (i : Nat) b xs, env[i]? = some (Sl.ow b xs) → ∃ c ys, e2[i]? = some (Sl.ow c ys)) : backE (backE env e1) e2 = backE env e2 := by
  apply List.ext_getElem?
  intro i
  unfold backE
  simp only [List.getElem?_zipWith]
  cases a : env[i]? with
  | none => rfl
  | some s0 =>
    have hi : i < e1.length := by rw [h1]; exact lt_of_get a
    rw [List.getElem?_eq_getElem hi]
    cases s0 with
    | un => cases e2[i]? <;> rfl
    | va d => cases e2[i]? <;> rfl
    | ow b xs =>
      obtain ⟨c, ys, h⟩ := hk i b xs a
      rw [h]
      cases e1[i] <;> rfl
theorem backE_wipe {env e2 : Env} {own : List Nat} (hf : free_ own env = true) (hv : ∀ i ∈ vs1, i ∈ own) : backE env (wipeE e2 vs1) = backE env e2 := by
  apply List.ext_getElem?
  intro i
  unfold backE
  simp only [List.getElem?_zipWith]
  by_cases hi : i ∈ vs1
  · cases a : env[i]? with
    | none => rfl
    | some s0 =>
      cases s0 with
      | ow b xs => exact (free_at hf (hv i hi) a).elim
      | un =>
        by_cases hl : i < e2.length
        · rw [List.getElem?_eq_getElem hl, List.getElem?_eq_getElem (by rw [wipeE_length]; exact hl)]
          rfl
        · rw [List.getElem?_eq_none (show e2.length ≤ i by omega), List.getElem?_eq_none (show (wipeE e2 vs1).length ≤ i by rw [wipeE_length]; omega)]
      | va d =>
        by_cases hl : i < e2.length
        · rw [List.getElem?_eq_getElem hl, List.getElem?_eq_getElem (by rw [wipeE_length]; exact hl)]
          rfl
        · rw [List.getElem?_eq_none (show e2.length ≤ i by omega), List.getElem?_eq_none (show (wipeE e2 vs1).length ≤ i by rw [wipeE_length]; omega)]
  · rw [wipeE_out hi]
theorem free_back {env e1 : Env} {own : List Nat} (hf : free_ own env = true) : free_ own (backE env e1) = true := by
  unfold free_ at hf ⊢
  rw [List.all_eq_true] at hf ⊢
  intro i hi
  have h := hf i hi
  unfold backE
  rw [List.getElem?_zipWith]
  cases a : env[i]? with
  | none => rfl
  | some s0 =>
    cases s0 with
    | ow b xs =>
      rw [a] at h
      simp [Mp.isOw] at h
    | un => cases e1[i]? <;> rfl
    | va d => cases e1[i]? <;> rfl
theorem io_back {env e1 : Env} (h1 : e1.length = env.length) (hk : ∀ (i : Nat) b xs, env[i]? = some (Sl.ow b xs) → ∃ ys, e1[i]? = some (Sl.ow true ys)) : ioE σ (backE env e1) = ioE σ env := by
  have hl : (backE env e1).length = env.length := by
    unfold backE
    rw [List.length_zipWith, h1, Nat.min_self]
  unfold ioE
  rw [hl]
  congr 1
  funext i
  cases a : env[i]? with
  | none =>
    have : (backE env e1)[i]? = none := List.getElem?_eq_none (by rw [hl]; exact List.getElem?_eq_none_iff.mp a)
    rw [this]
  | some s0 =>
    have hi : i < e1.length := by rw [h1]; exact lt_of_get a
    have : (backE env e1)[i]? = some (s0.back e1[i]) := by
      unfold backE
      rw [List.getElem?_zipWith, a, List.getElem?_eq_getElem hi]
    rw [this]
    cases s0 with
    | un => rfl
    | va d => rfl
    | ow b xs =>
      obtain ⟨ys, hy⟩ := hk i b xs a
      rw [List.getElem?_eq_getElem hi] at hy
      rw [Option.some.inj hy]
      cases σ[i]? with
      | none => rfl
      | some o =>
        cases o with
        | none => rfl
        | some v => cases v <;> rfl
theorem wipe_up {vs : List Nat} {σ σ' : L2.St} (hv : ∀ i ∈ vs1, i ∈ vs) (h : L2.wipe σ' vs1 = L2.wipe σ vs1) : L2.wipe σ' vs = L2.wipe σ vs := by
  have hl : σ'.length = σ.length := by
    have := congrArg List.length h
    rwa [L2.wipe_length, L2.wipe_length] at this
  refine wipe_eq (ws := vs) (fun i hi => hi) ⟨hl.trans (L2.wipe_length σ vs).symm, fun i hi => ?_⟩
  have h1 : i ∉ vs1 := fun z => hi (hv i z)
  rw [L2.wipe_out hi, ← L2.wipe_out (σ := σ') h1, h, L2.wipe_out h1]
theorem lcI_exc {tg1 : MG} {elt : ME} {c : Str} {v : D} {e' : Env} : ∀ (ds : List D) (e : Env), lcI vs1 tg1 elt ds e ≠ .exc c v e'
  | [], e => by simp [lcI]
  | d :: ds, e => by
    unfold lcI
    cases tg1 d e with
    | none => simp
    | some e1 =>
      simp only
      cases elt e1 with
      | exc c v e => simp [Re.nx]
      | no => simp [Re.nx]
      | ok x e2 =>
        simp only [Re.nx]
        split
        · cases h : lcI vs1 tg1 elt ds (wipeE e2 vs1) <;> simp
        · simp
theorem lcO_exc {own : List Nat} {tg tg1 : MG} {mi1 : ML} {elt : ME} {c : Str} {v : D} {e' : Env} : ∀ (ds : List D) (e : Env), lcO own vs1 tg mi1 tg1 elt ds e ≠ .exc c v e'
  | [], e => by simp [lcO]
  | d :: ds, e => by
    unfold lcO
    split
    · cases tg d (enterE own e) with
      | none => simp
      | some e1 =>
        simp only
        cases mi1 e1 with
        | exc c v e => simp [Re.nx]
        | no => simp [Re.nx]
        | ok ds1 e2 =>
          simp only [Re.nx]
          split
          · cases h : lcI vs1 tg1 elt ds1 (wipeE e2 vs1) with
            | exc c v e => simp
            | no => simp
            | ok xs e3 =>
              simp only
              cases h2 : lcO own vs1 tg mi1 tg1 elt ds (backE e e3) <;> simp
          · simp
    · simp
theorem sl_lc2 {ws ws1 : List Nat} {elt tg iter tg1 iter1 : Expr} {scope : Scope} {own : List (Str × Nat)} {pos : Pos} {mi mi1 : ML} {mg mg1 : MG} {me : ME} (c : Cok g X W k) (hi : SI g W φ X tg iter mi) (ok : BlkOk X.N X.env.scope scope own) (hv : ∀ i ∈ vs1, i ∈ own.map (·.2))
    (hg : ∀ (s : Shared) (H : Hp) (C : Addr) (cl : List (Str × Addr)) (fp : List Addr) (φ : Fc), SG g φ (X.blk s H scope (compEnvC scope cl C X.env) fp) ws tg mg) (hws : ∀ i ∈ ws, i ∈ own.map (·.2))
    (hi1 : ∀ (s : Shared) (H : Hp) (C : Addr) (cl : List (Str × Addr)) (fp : List Addr) (φ : Fc), SI g W0 φ (X.blk s H scope (compEnvC scope cl C X.env) fp) tg1 iter1 mi1)
    (hg1 : ∀ (s : Shared) (H : Hp) (C : Addr) (cl : List (Str × Addr)) (fp : List Addr) (φ : Fc), SG g φ (X.blk s H scope (compEnvC scope cl C X.env) fp) ws1 tg1 mg1) (hws1 : ∀ i ∈ ws1, i ∈ vs1)
    (he : ∀ (s : Shared) (H : Hp) (C : Addr) (cl : List (Str × Addr)) (fp : List Addr) (φ : Fc), SE g W0 φ (X.blk s H scope (compEnvC scope cl C X.env) fp) elt me)
    (hs : ∀ x, foldedSetIterable iter X.env x = pure x := by intro _; rfl) (hs1 : ∀ env x, foldedSetIterable iter1 env x = pure x := by intro _ _; rfl) :
    SL g W φ X (.ListComp elt [⟨tg, iter, [], 0⟩, ⟨tg1, iter1, [], 0⟩] scope pos) (lLc2 (own.map (·.2)) vs1 mi mg mi1 mg1 me) := by
  intro F σ H env Q hr hp
  refine ⟨_, pe_lc2 (vs1 := vs1) (tt := tYes) (tt1 := tYes)
    (g := fun v σ H Q => ∀ (s : Shared) (H' : Hp) (C : Addr) (cl : List (Str × Addr)) (fp : List Addr), wG (X.blk s H' scope (compEnvC scope cl C X.env) fp) tg v σ H Q)
    (wi1 := fun σ H R => ∀ (s : Shared) (H' : Hp) (C : Addr) (cl : List (Str × Addr)) (fp : List Addr), wIt (X.blk s H' scope (compEnvC scope cl C X.env) fp) tg1 iter1 σ H R)
    (g1 := fun v σ H Q => ∀ (s : Shared) (H' : Hp) (C : Addr) (cl : List (Str × Addr)) (fp : List Addr), wG (X.blk s H' scope (compEnvC scope cl C X.env) fp) tg1 v σ H Q)
    (te := fun σ H Q => ∀ (s : Shared) (H' : Hp) (C : Addr) (cl : List (Str × Addr)) (fp : List Addr), wE (X.blk s H' scope (compEnvC scope cl C X.env) fp) elt σ H Q)
    c.calm c.nd w_pi ok hv (fun s H C cl fp => ⟨fun pins s1 σ H1 v u Q I r h => w_pg.run pins s1 σ H1 v u Q I r (h s H C cl fp)⟩) (fun _ _ _ _ _ => pts_nil)
    (fun s H C cl fp => ⟨fun pins s1 σ H1 R I h => w_pi.run pins s1 σ H1 R I (h s H C cl fp)⟩) (fun s H C cl fp => ⟨fun pins s1 σ H1 v u Q I r h => w_pg.run pins s1 σ H1 v u Q I r (h s H C cl fp)⟩) (fun _ _ _ _ _ => pts_nil)
    (fun s H C cl fp => ⟨fun pins s1 σ H1 Q I h => w_pe.run pins s1 σ H1 Q I (h s H C cl fp)⟩) hs hs1, ?_⟩
  refine hi F σ H env _ hr (il hp fun ds e1 J H1 F1 s1 r1 w1 hp1 => ?_)
  generalize own.map (·.2) = vs at hp1 hws hv ⊢
  intro p hp0
  let Rest : Hp → Nat → Env → List D → Prop := fun F2 i env2 acc =>
    PoL g W φ F2 σ Q ((lcO vs vs1 mg mi1 mg1 me (ds.drop i) env2).nx fun xs e => if (acc ++ xs).length ≤ line then .ok (acc ++ xs) e else .no)
  refine ⟨fun i m H2 => ∃ F2 env2 acc accd, Same F1 F2 ∧ Rel g φ F2 σ H2 env2 ∧ H2 p = some (.lst acc) ∧ F2 p = none ∧ φ.H0 p = none ∧ NotOwn σ env2 p ∧ Reps g F2 acc accd ∧ Rest F2 i env2 accd ∧ m = ds.length - i,
    ⟨ds.length, F1, e1, [], [], Same.refl _, r1.loose hp0, upd_same, r1.ex.free hp0, r1.h0 hp0, r1.freshOwn hp0, .nil, ?_, rfl⟩, ?_⟩
  · exact hp1
  rintro i m H2 ⟨F2, env2, acc, accd, s2, r2, hpa, hpF, hp00, hpo, ra, rest, rfl⟩
  obtain ⟨wgo, wstop⟩ := w1 φ F2 σ H2 env2 i s2 r2
  by_cases hl : i < ds.length
  · have ed : ds.drop i = ds[i] :: ds.drop (i + 1) := List.drop_eq_getElem_cons hl
    simp only [Rest] at rest
    rw [ed] at rest
    obtain ⟨go, yl⟩ := wgo ds[i] (List.getElem?_eq_getElem hl)
    refine .inr ⟨go, fun H' => ∃ F3 env3 acc accd, Same F1 F3 ∧ Rel g φ F3 σ H' env3 ∧ H' p = some (.lst acc) ∧ F3 p = none ∧ φ.H0 p = none ∧ NotOwn σ env3 p ∧ Reps g F3 acc accd ∧ Rest F3 (i + 1) env3 accd,
      fun H' ⟨F3, env3, acc, accd, a1, a2, a3, a4, a5, a6, a7, a8⟩ => ⟨_, by omega, F3, env3, acc, accd, a1, a2, a3, a4, a5, a6, a7, a8, rfl⟩, fun x H' hy => ?_⟩
    obtain ⟨F3, s3, sH, nw, r3, p3⟩ := yl x H' hy
    have hpa' : H' p = some (.lst acc) := sH _ _ hpa
    have hpF' : F3 p = none := by
      cases ef : F3 p with
      | none => rfl
      | some o =>
        rcases nw p o ef with h | h
        · rw [hpF] at h; cases h
        · rw [hpa] at h; cases h
    unfold lcO at rest
    by_cases hf : free_ vs env2 = true
    · rw [if_pos hf] at rest
      have r4 := r3.enter hf
      cases et : mg ds[i] (enterE vs env2) with
      | none => rw [et] at rest; exact rest.elim
      | some e1' =>
        rw [et] at rest
        simp only at rest
        intro s5 H5 C5 cl5 fp5
        refine hg s5 H5 C5 cl5 fp5 (fcE σ env2 H' F3) F3 _ H' _ x ds[i] e1' _ r4 p3 et fun σ4 o4 r5 => ?_
        have hw := wipe_eq hws o4
        refine ⟨hw, ?_⟩
        dsimp only [tYes]
        rw [if_pos rfl]
        intro s6 H6 C6 cl6 fp6
        refine hi1 s6 H6 C6 cl6 fp6 (fcE σ env2 H' F3) F3 σ4 H' e1' _ r5 ?_
        cases em : mi1 e1' with
        | exc c v e => rw [em] at rest; exact rest.elim
        | no => rw [em] at rest; exact rest.elim
        | ok ds1 e2 =>
          rw [em] at rest
          simp only [Re.nx] at rest
          intro J1 H4 F4 s4 r6 wk
          by_cases hft : (free_ vs1 e2 && allT e2) = true
          · rw [if_pos hft] at rest
            rw [Bool.and_eq_true] at hft
            -- what holds at the beginning of the inner loop
            have hl4 : σ4.length = σ.length := by
              have := congrArg List.length hw
              rwa [L2.wipe_length, L2.wipe_length] at this
            have le2 : e2.length = env2.length := by rw [← r6.len, hl4, r3.len]
            have ok4 : ∀ (q : Nat) b xs, env2[q]? = some (Sl.ow b xs) → ∃ ys, e2[q]? = some (Sl.ow true ys) := fun q b xs h => by
              obtain ⟨a, vs', k1, _⟩ := r3.ow q b xs h
              obtain ⟨_, ys, k2⟩ := r6.ioh (q, a) (mem_ioE.mpr ⟨k1, b, xs, h⟩)
              exact ⟨ys, k2⟩
            have hp4 : H4 p = some (.lst acc) := r6.fr p _ hpa' fun q hq z => by
              obtain ⟨h1, b', xs', h2⟩ := mem_ioE.mp (show q ∈ ioE σ env2 from hq)
              exact hpo q.1 b' xs' q.2 h2 h1 z
            have hF4 : F4 p = none := by
              cases ef : F4 p with
              | none => rfl
              | some o =>
                rcases r6.new p o ef with h | h
                · have h' : F3 p = some o := h
                  rw [hpF'] at h'; cases h'
                · have h' : H' p = none := h
                  rw [hpa'] at h'; cases h'
            have bw : ∀ e : Env, backE env2 (wipeE e vs1) = backE env2 e := fun e => backE_wipe hf hv
            have out4 : Rel g φ F4 σ H4 (backE env2 (wipeE e2 vs1)) := by
              rw [bw]
              exact r3.exit hf r6 hw s4
            have noBack : ∀ e : Env, NotOwn σ (backE env2 e) p := fun e j b' xs' a h1 h2 => by
              obtain ⟨s0, s1, k1, k2, k3⟩ := backE_at h1
              cases s0 with
              | va d' => cases k3
              | un => cases k3
              | ow b0 xs0 => exact hpo j b0 xs0 a k1 h2
            have io4 : ioE σ (backE env2 (wipeE e2 vs1)) = ioE σ env2 := by
              rw [bw]
              exact io_back le2 ok4
            have in4 : Rel g (fcE σ (backE env2 (wipeE e2 vs1)) H4 F4) F4 (L2.wipe σ4 vs1) H4 (wipeE e2 vs1) := Rel.inner (p := p) r6 (fun b _ => rfl) hF4 hpo io4 hft.1 hft.2
            let RestI : Hp → Nat → Env → List D → Prop := fun F2 j ej acc =>
              PoL g W φ F2 σ Q ((lcI vs1 mg1 me (ds1.drop j) ej).nx fun xs e3 => (lcO vs vs1 mg mi1 mg1 me (ds.drop (i + 1)) (backE env2 e3)).nx fun ys e4 => if (acc ++ (xs ++ ys)).length ≤ line then .ok (acc ++ (xs ++ ys)) e4 else .no)
            refine ⟨fun j m H => ∃ Fj ej acc accd, Same F4 Fj ∧ Rel g φ Fj σ H (backE env2 ej) ∧ Rel g (fcE σ (backE env2 ej) H Fj) Fj (L2.wipe σ4 vs1) H ej ∧ ej.length = env2.length ∧ ioE σ (backE env2 ej) = ioE σ env2 ∧ H p = some (.lst acc) ∧ Fj p = none ∧ Reps g Fj acc accd ∧ RestI Fj j ej accd ∧ m = ds1.length - j,
              ⟨ds1.length, F4, wipeE e2 vs1, acc, accd, Same.refl _, out4, in4, by rw [wipeE_length, le2], io4, hp4, hF4, ra.mono (s3.trans s4), ?_, rfl⟩, ?_⟩
            · refine PoL.mono (s3.trans s4) ?_
              show PoL g W φ F2 σ Q ((lcI vs1 mg1 me ds1 (wipeE e2 vs1)).nx fun xs e3 => (lcO vs vs1 mg mi1 mg1 me (ds.drop (i + 1)) (backE env2 e3)).nx fun ys e4 => if (accd ++ (xs ++ ys)).length ≤ line then .ok (accd ++ (xs ++ ys)) e4 else .no)
              cases hq : lcI vs1 mg1 me ds1 (wipeE e2 vs1) with
              | exc c v e => exact absurd hq (lcI_exc _ _)
              | no => rw [hq] at rest; exact rest.elim
              | ok xs e3 =>
                rw [hq] at rest
                simp only at rest
                simp only [Re.nx]
                cases hq2 : lcO vs vs1 mg mi1 mg1 me (ds.drop (i + 1)) (backE env2 e3) with
                | exc c v e => exact absurd hq2 (lcO_exc _ _)
                | no => rw [hq2] at rest; exact rest.elim
                | ok ys e4 =>
                  rw [hq2] at rest
                  exact rest
            rintro j m H5 ⟨Fj, ej, acc, accd, s5, ro, rin, lej, ioj, hpj, hFj, raj, restI, rfl⟩
            obtain ⟨wgo1, wstop1⟩ := wk (fcE σ (backE env2 ej) H5 Fj) Fj (L2.wipe σ4 vs1) H5 ej j s5 rin
            by_cases hl1 : j < ds1.length
            · have ed1 : ds1.drop j = ds1[j] :: ds1.drop (j + 1) := List.drop_eq_getElem_cons hl1
              simp only [RestI] at restI
              rw [ed1] at restI
              obtain ⟨go1, yl1⟩ := wgo1 ds1[j] (List.getElem?_eq_getElem hl1)
              refine .inr ⟨go1, fun H => ∃ Fj ej acc accd, Same F4 Fj ∧ Rel g φ Fj σ H (backE env2 ej) ∧ Rel g (fcE σ (backE env2 ej) H Fj) Fj (L2.wipe σ4 vs1) H ej ∧ ej.length = env2.length ∧ ioE σ (backE env2 ej) = ioE σ env2 ∧ H p = some (.lst acc) ∧ Fj p = none ∧ Reps g Fj acc accd ∧ RestI Fj (j + 1) ej accd,
                fun H ⟨Fj, ej, acc, accd, a1, a2, a3, a4, a5, a6, a7, a8, a9⟩ => ⟨_, by omega, Fj, ej, acc, accd, a1, a2, a3, a4, a5, a6, a7, a8, a9, rfl⟩, fun x H6 hy6 => ?_⟩
              obtain ⟨F6, s6', sH6, nw6, r7, p7⟩ := yl1 x H6 hy6
              unfold lcI at restI
              cases et1 : mg1 ds1[j] ej with
              | none => rw [et1] at restI; exact restI.elim
              | some e1'' =>
                rw [et1] at restI
                simp only at restI
                intro s8 H8' C8 cl8 fp8
                refine hg1 s8 H8' C8 cl8 fp8 (fcE σ (backE env2 ej) H5 Fj) F6 _ H6 _ x ds1[j] e1'' _ r7 p7 et1 fun σ7 o7 r8 => ?_
                have hw7 := wipe_eq hws1 o7
                refine ⟨hw7, ?_⟩
                dsimp only [tYes]
                rw [if_pos rfl]
                intro s9 H9' C9 cl9 fp9
                cases ee : me e1'' with
                | exc c v e => rw [ee] at restI; exact restI.elim
                | no => rw [ee] at restI; exact restI.elim
                | ok xd e9 =>
                  rw [ee] at restI
                  simp only [Re.nx] at restI
                  refine he s9 H9' C9 cl9 fp9 (fcE σ (backE env2 ej) H5 Fj) F6 σ7 H6 e1'' _ r8 ?_
                  rw [ee]
                  intro y H9 F9 s9' r9 py
                  by_cases hft9 : (free_ vs1 e9 && allT e9) = true
                  · rw [if_pos hft9] at restI
                    rw [Bool.and_eq_true] at hft9
                    have nb := noBack ej
                    have hp9 : H9 p = some (.lst acc) := r9.fr p _ hpj fun q hq z => by
                      obtain ⟨h1, b', xs', h2⟩ := mem_ioE.mp (show q ∈ ioE σ (backE env2 ej) from hq)
                      exact nb q.1 b' xs' q.2 h2 h1 z
                    have hF9 : F9 p = none := by
                      cases ef : F9 p with
                      | none => rfl
                      | some o =>
                        rcases r9.new p o ef with h | h
                        · have h' : Fj p = some o := h
                          rw [hFj] at h'; cases h'
                        · have h' : H5 p = none := h
                          rw [hpj] at h'; cases h'
                    have hw9 : L2.wipe σ7 vs = L2.wipe σ vs := by
                      refine (wipe_up hv (σ := L2.wipe σ4 vs1) ?_).trans ?_
                      · exact hw7.trans (wipe_eq (ws := []) (fun _ h => by cases h) ⟨rfl, fun _ _ => rfl⟩).symm
                      · refine Eq.trans ?_ hw
                        refine wipe_up hv ?_
                        exact wipe_eq (ws := []) (fun _ h => by cases h) ⟨rfl, fun _ _ => rfl⟩
                    have hl7 : σ7.length = σ.length := by
                      have := congrArg List.length hw9
                      rwa [L2.wipe_length, L2.wipe_length] at this
                    have le9 : e9.length = env2.length := by rw [← r9.len, hl7, r3.len]
                    have ok9 : ∀ (q : Nat) b xs, env2[q]? = some (Sl.ow b xs) → ∃ ys, e9[q]? = some (Sl.ow true ys) := fun q b xs h => by
                      obtain ⟨a, vs', k1, _⟩ := r3.ow q b xs h
                      have hm : (q, a) ∈ ioE σ (backE env2 ej) := by
                        rw [ioj]
                        exact mem_ioE.mpr ⟨k1, b, xs, h⟩
                      obtain ⟨_, ys, k2⟩ := r9.ioh (q, a) hm
                      exact ⟨ys, k2⟩
                    have e9b : backE (backE env2 ej) e9 = backE env2 e9 := backE_back lej fun q b xs h => let ⟨ys, z⟩ := ok9 q b xs h; ⟨true, ys, z⟩
                    have out9 : Rel g φ F9 σ H9 (backE env2 (wipeE e9 vs1)) := by
                      rw [bw, ← e9b]
                      exact ro.exit (free_back hf) r9 hw9 (s6'.trans s9')
                    have io9 : ioE σ (backE env2 (wipeE e9 vs1)) = ioE σ (backE env2 ej) := by
                      rw [bw, ioj]
                      exact io_back le9 ok9
                    have in9 : Rel g (fcE σ (backE env2 (wipeE e9 vs1)) (upd H9 p (.lst (acc ++ [y]))) F9) F9 (L2.wipe σ7 vs1) (upd H9 p (.lst (acc ++ [y]))) (wipeE e9 vs1) := Rel.inner (p := p) r9 (fun b hb => upd_ne hb) hF9 nb io9 hft9.1 hft9.2
                    have hw79 : L2.wipe σ7 vs1 = L2.wipe σ4 vs1 := hw7
                    rw [hw79] at in9
                    have len : acc.length < line ∧ PoL g W φ Fj σ Q ((lcI vs1 mg1 me (ds1.drop (j + 1)) (wipeE e9 vs1)).nx fun xs e3 => (lcO vs vs1 mg mi1 mg1 me (ds.drop (i + 1)) (backE env2 e3)).nx fun ys e4 => if ((accd ++ [xd]) ++ (xs ++ ys)).length ≤ line then .ok ((accd ++ [xd]) ++ (xs ++ ys)) e4 else .no) := by
                      cases hq : lcI vs1 mg1 me (ds1.drop (j + 1)) (wipeE e9 vs1) with
                      | exc c v e => exact absurd hq (lcI_exc _ _)
                      | no => rw [hq] at restI; exact restI.elim
                      | ok xs e3 =>
                        rw [hq] at restI
                        simp only at restI
                        simp only [Re.nx]
                        cases hq2 : lcO vs vs1 mg mi1 mg1 me (ds.drop (i + 1)) (backE env2 e3) with
                        | exc c v e => exact absurd hq2 (lcO_exc _ _)
                        | no => rw [hq2] at restI; exact restI.elim
                        | ok ys e4 =>
                          rw [hq2] at restI
                          simp only at restI
                          have el : (accd ++ [xd]) ++ (xs ++ ys) = accd ++ (xd :: xs ++ ys) := by simp
                          dsimp only
                          rw [el]
                          by_cases hz : (accd ++ (xd :: xs ++ ys)).length ≤ line
                          · refine ⟨?_, restI⟩
                            have := raj.len
                            simp at hz
                            omega
                          · rw [if_neg hz] at restI
                            exact restI.elim
                    refine ⟨acc, hp9, by rw [← line_eq]; exact len.1, F9, wipeE e9 vs1, acc ++ [y], accd ++ [xd], s5.trans (s6'.trans s9'), out9.mut hF9 hp00 (noBack _), in9, by rw [wipeE_length, le9], io9.trans ioj, upd_same, hF9, (raj.mono (s6'.trans s9')).append (.cons py .nil), PoL.mono (s6'.trans s9') len.2⟩
                  · rw [if_neg hft9] at restI
                    exact restI.elim
            · have ed1 : ds1.drop j = [] := List.drop_eq_nil_of_le (by omega)
              simp only [RestI] at restI
              rw [ed1] at restI
              refine .inl ⟨wstop1 (by omega), Fj, backE env2 ej, acc, accd, s2.trans (s3.trans (s4.trans s5)), ro, hpj, hFj, hp00, noBack ej, raj, ?_⟩
              exact restI
          · rw [if_neg hft] at rest
            exact rest.elim
    · rw [if_neg hf] at rest
      exact rest.elim
  · have ed : ds.drop i = [] := List.drop_eq_nil_of_le (by omega)
    simp only [Rest] at rest
    rw [ed] at rest
    have rest' : PoL g W φ F2 σ Q (if (accd ++ []).length ≤ line then .ok (accd ++ []) env2 else .no) := rest
    by_cases hz : (accd ++ []).length ≤ line
    · rw [if_pos hz, List.append_nil] at rest'
      exact .inl ⟨wstop (by omega), rest' p acc H2 F2 (Same.refl _) r2 hpa hpF hp00 hpo ra⟩
    · rw [if_neg hz] at rest'
      exact rest'.elim
end
end Mp
set_option Elab.async false
set_option linter.all false
set_option maxRecDepth 100000
set_option maxHeartbeats 4000000
/-! len(x) by the class's own __len__ -/
namespace Mp
open PySem PySem.Spec PyProof.Rows L2
structure HasLen (P : Program) (w : World) (mg : Str → Option Value) (base : Heap) (g : Gc) (k : Nat) (cn : Str) (fn : Fn) : Prop where
  ex : ∃ (C f : Addr) (fd : FuncData) (ps ns : List Str), g.cl cn = some (C, ns) ∧ PySem.W.findIn g.K (.ref C) "__len__" = some (some (.ref f)) ∧ PySem.W.isFn g.K (.ref f) = true ∧ FnOk P w g.K mg base (L2.CX P w) k f fd ps (spOf g fn) ∧ Binds g.K fd ps []
def lenOwn (cn : Str) (fn : Fn) : List D → Option D
  | [.obj c fs] => if c = cn then (match fn [.va (.obj c fs)] with
    | .ok (.int i) outs => if outs.length = 1 ∧ 0 ≤ i ∧ i ≤ 16777216 then some (.int i) else none
    | _ => none) else none
  | _ => none
section
variable {g : Gc} {W : WX} {φ : Fc} {X : Cx} {k : Nat}
theorem cr_lenOwn {C f : Addr} {fd : FuncData} {ps : List Str} {sp : Sp} (hs : PySem.W.findIn X.K (.ref C) "__len__" = some (some (.ref f))) (hf : PySem.W.isFn X.K (.ref f) = true) (Fo : FnOk X.prog X.w X.K X.mg X.base (L2.CX X.prog X.w) k f fd ps sp) (hr : Room (k + 1) X.A) (hb : Binds X.K fd ps []) :
    CallR X (.builtin "len") (fun xs H Q => ∃ a dx fs, xs = [.ref a] ∧ H a = some (.ins C dx fs) ∧ sp xs H (fun v H' => ∃ i : Int, v = .int i ∧ 0 ≤ i ∧ i ≤ 16777216 ∧ Q v H') E0) := by
  intro pins s σ H xs us Q I r ⟨a, dx, fs, ex, ha, q⟩
  subst ex
  cases r with
  | cons r rr =>
    cases rr
    cases r
    obtain ⟨_, O, _⟩ := ins_get I.hok ha
    obtain ⟨_, J, _⟩ := O.look
    obtain ⟨_, fr⟩ := I.fr
    have hl : ps.length = 1 := (Fo.len _ _ _ _ q).symm
    have bd := hb s [.ref a] I.kIn (by simpa using hl.symm)
    rw [List.append_nil] at bd
    refine PySem.W.len_K fr I.ok.mod.kin J hs hf (wpAny_call (codeAny_mono (Fo.run X.A.in1 X.stack s H ⟨[.ref a], []⟩ [.ref a] [.ref a] _ E0 hr.in1 I.env0.in1 bd (.cons rfl .nil) q) fun z s' hz => ?_))
    match z, hz with
    | .error e, hz => exact passL pins σ H s e s' I hz
    | .ok (.ret u), hz =>
      obtain ⟨v, H', I3, rv, i, ev, h0, h1, q3⟩ := I.after hz
      subst ev
      obtain ⟨t, rfl⟩ := (show ∃ t, u = Value.int i t from rv)
      exact ⟨⟨h0, by omega⟩, .int i, H', I3.tok _, ⟨_, rfl⟩, q3⟩
theorem ca_lenOwn {cn : Str} {fn : Fn} {kk : Nat} (c : Cok g X W k) (h : HasLen X.prog X.w X.mg X.base g kk cn fn) (hk : kk + 1 ≤ k) : CaS g φ (wC X (.builtin "len")) (lenOwn cn fn) := by
  intro F σ H env vs ds z Q hr hx hf hq
  obtain ⟨C, f, fd, ps, ns, hcl, hs, hfn, Fo, hb⟩ := h.ex
  rw [← c.K] at hs hfn Fo hb
  cases hx with
  | nil => simp [lenOwn] at hf
  | @cons v d vs ds hv t =>
    cases t with
    | cons _ _ => cases d <;> simp [lenOwn] at hf
    | nil =>
      cases d <;> simp only [lenOwn, reduceCtorEq] at hf
      rename_i c1 fs
      by_cases hc : c1 = cn
      · rw [if_pos hc] at hf
        subst hc
        have pv : Rep g F v (.obj c1 fs) := by
          cases hv with
          | of hv => exact hv
        have pp := pv
        cases pv with
        | obj a c3 C1 dx ns1 ws es hc1 h1 hn1 hl1 hi1 =>
          rw [hcl] at hc1
          cases hc1
          refine ⟨_, cr_lenOwn hs hfn Fo (c.rm.mono hk) hb, a, dx, _, rfl, hr.ex _ _ h1, ?_⟩
          cases hfo : fn [.va (.obj c1 fs)] with
          | no => rw [hfo] at hf; cases hf
          | exc c5 v5 o5 => rw [hfo] at hf; cases hf
          | ok d outs =>
            rw [hfo] at hf
            cases d <;> simp only [reduceCtorEq] at hf
            rename_i i
            by_cases hl : outs.length = 1 ∧ 0 ≤ i ∧ i ≤ 16777216
            · rw [if_pos hl] at hf
              cases hf
              refine sp_call (W := W0) (env := env) (as := [.va (.obj c1 fs)]) hr (.cons pp .nil) ?_
              have ea : argsOf env [.va (.obj c1 fs)] = some [.va (.obj c1 fs)] := rfl
              unfold callF
              rw [if_pos (show (ixs [Av.va (.obj c1 fs)]).Nodup from List.nodup_nil), ea]
              simp only [hfo]
              match outs, hl.1 with
              | [o1], _ =>
                show PoE g W0 φ F σ _ (.ok (.int i) env)
                intro r H' F' s1 r1 p1
                cases p1
                exact ⟨i, rfl, hl.2.1, hl.2.2, hq _ _ _ s1 r1 (.int i)⟩
            · rw [if_neg hl] at hf
              cases hf
      · rw [if_neg hc] at hf
        cases hf
end
end Mp
set_option Elab.async false
set_option linter.all false
set_option maxRecDepth 100000
set_option maxHeartbeats 4000000
/-! defs with a default at their end -/
namespace Mp
open PySem PySem.Spec PyProof.Rows L2
/-- the def under x, called with the arguments ds left out -/
structure HasD (P : Program) (w : World) (mg : Str → Option Value) (base : Heap) (g : Gc) (k : Nat) (x : Str) (ds : List D) (fn : Fn) : Prop where
  ex : ∃ (f : Addr) (fd : FuncData) (ps : List Str) (vs : List V) (us : List Value), FnOk P w g.K mg base (L2.CX P w) k f fd ps (spOf g fn) ∧ mg x = some (.ref f) ∧ PySem.W.keepIn g.K (.ref f) = true ∧ Vals vs us ∧ Binds g.K fd ps us ∧ ∀ F, Reps g F vs ds
def mFnD (fn : Fn) (ds : List D) (m : MA) : ME := fun env => (m env).bind fun as e => callF fn (as ++ ds.map Av.va) e
section
variable {g : Gc} {W : WX} {φ : Fc} {X : Cx} {k : Nat}
theorem avs_more {F : Hp} {σ : L2.St} : ∀ {vs ws : List V} {as : List Av} {ds : List D}, AvsR g F σ vs as → Reps g F ws ds → AvsR g F σ (vs ++ ws) (as ++ ds.map Av.va)
  | [], ws, [], ds, _, r => ⟨by simp [r.len], fun i v a h1 h2 => by
    simp only [List.nil_append] at h1 h2
    rw [List.getElem?_map, Option.map_eq_some_iff] at h2
    obtain ⟨d, h3, rfl⟩ := h2
    exact r.at_ i v d h1 h3⟩
  | [], _, _ :: _, _, h, _ => by have := h.len; simp at this
  | _ :: _, _, [], _, h, _ => by have := h.len; simp at this
  | v :: vs, ws, a :: as, ds, h, r => .cons h.head (avs_more h.tail r)
theorem se_fnD {x : Str} {kk : Nat} {ds : List D} {fn : Fn} {e : Expr} {es : List Expr} {m : MA} {p pos : Pos} (c : Cok g X W k) (h : HasD X.prog X.w X.mg X.base g kk x ds fn) (hk : kk ≤ k) (hg : Gl X x) (ha : SA g W φ X (e :: es) m)
    (hdb : (x == ("__debug__" : Str)) = false := by decide) (he : starEach (e :: es) X.env = (false, eval e X.env) :: starEach es X.env := by rfl) (hpl : (backTo pos (starEach es X.env)).any (·.1) = false := by rfl) :
    SE g W φ X (.Call (.Name x p) (e :: es) [] pos) (mFnD fn ds m) := by
  intro F σ H env Q hr hp
  obtain ⟨f, fd, ps, vs0, us0, Fo, hm, hkp, hd, hb, hv⟩ := h.ex
  rw [← c.K] at Fo hkp hb
  refine ⟨_, pe_callSD Fo (c.rm.mono hk) hg hm hkp hb hd (fun σ => passAt c.tk σ) w_pa hdb he hpl, ?_⟩
  refine ha F σ H env _ hr (ae hp fun as e1 vs H1 F1 s1 r1 p1 hp1 => ?_)
  exact sp_call r1 (avs_more p1 (hv F1)) hp1
theorem def_okD {P : Program} {w : World} {mg : Str → Option Value} {base : Heap} {x qual : Str} {st : Stmt} {f : Addr} {fd : FuncData} {N ps : List Str} {body : MS} {dvs : List V} (Fu : FunD g.K x qual (defArgs st) (defBody st) (defScope st) dvs [] f fd) (S : FnScope N ps (defScope st)) (hl : ps.length ≤ N.length)
    (hbody : ∀ (cdv : Value) (A : Around) (outer : List PySem.Env) (s : Shared) (H : Hp) (E : XK) (φ : Fc), Cok g (cxOf (L2.CX P w) P w g.K mg base N qual (defScope st) f cdv A outer s H E) (fun cls d _ H => E cls d H) k →
      SB g (fun cls d _ H => E cls d H) φ (cxOf (L2.CX P w) P w g.K mg base N qual (defScope st) f cdv A outer s H E) (defBody st) body) :
    FnOk P w g.K mg base (L2.CX P w) (k + 1) f fd ps (spOf g (fnOf ps.length N.length body)) := by
  refine Fu.ok S (fun vs H Q E h => ?_) (fun cdv A outer s H vs Q E hr h => ?_)
  · obtain ⟨F, args, r, h⟩ := h
    have hl2 : vs.length = args.length := by have := r.len; simpa using this
    unfold fnOf at h
    by_cases hz : args.length = ps.length
    · rw [hl2, hz]
    · rw [if_neg hz] at h
      exact h.elim
  · obtain ⟨F, args, r, h⟩ := h
    have hl2 : vs.length = args.length := by have := r.len; simpa using this
    unfold fnOf at h
    by_cases hz : args.length = ps.length
    · rw [if_pos hz] at h
      have c : Cok g (cxOf (L2.CX P w) P w g.K mg base N qual (defScope st) f cdv A outer s H E) (fun cls d _ H => E cls d H) k := ⟨rfl, rfl, S.nd, takes_of rfl rfl rfl rfl, hr, passes_of rfl⟩
      have r0 := r.start (N := N) (n := N.length) rfl (by omega)
      rw [hl2, hz] at r0
      obtain ⟨t, h1, h2⟩ := hbody cdv A outer s H E (fcOf vs args H F) c F (L2.start N vs) H _ { nx := fun _ H' => Q .non H', rt := Q } r0 (by
        have fit : ∀ {F' : Hp} {σ' : L2.St} {H' : Hp} {e' : Env}, Rel g (fcOf vs args H F) F' σ' H' e' → Rel g (fcOf vs args H F) F' (vs.map some) H' (outsOf ps.length e') := fun {F' σ' H' e'} q => q.leave (by omega)
        cases hb : body (args ++ List.replicate (N.length - ps.length) Sl.un) with
        | no => rw [hb] at h; exact h.elim
        | br e => rw [hb] at h; exact h.elim
        | ct e => rw [hb] at h; exact h.elim
        | nx e =>
          rw [hb] at h
          exact fun σ' H' F' s1 r1 => h .non H' F' s1 (fit r1) .non
        | rt d e =>
          rw [hb] at h
          exact fun v σ' H' F' s1 r1 p1 => h v H' F' s1 (fit r1) p1
        | exc c v e =>
          rw [hb] at h
          exact fun C fld dd vv σ' H' F' q1 q2 q3 q4 q5 => h C fld dd vv H' F' q1 q2 (fit q3) q4 q5)
      exact ⟨t, h1, h2⟩
    · rw [if_neg hz] at h
      exact h.elim
end
end Mp
set_option Elab.async false
set_option linter.all false
set_option maxRecDepth 100000
set_option maxHeartbeats 4000000
/-! own == with None or a tuple on its right; lists in lists that change once they were handed in -/
namespace Mp
open PySem PySem.Spec PyProof.Rows L2

/-! ### own == -/
/-- no built-in class lies below the class cn -/
structure HasSb (g : Gc) (cn : Str) : Prop where
  ex : ∃ (C : Addr) (ns : List Str), g.cl cn = some (C, ns) ∧ ∀ t ∈ ["NoneType", "bool", "int", "str", "tuple", "list"], PySem.W.subIn g.K (.type t) (.ref C) = some false
section
variable {g : Gc} {W : WX} {φ : Fc} {X : Cx} {k : Nat} {F F' : Hp} {σ : L2.St} {H H' : Hp} {env : Env}
theorem looks_tup {pins : List (Addr × Obj)} {s : Shared} {a : Addr} {ws : List V} (I : Inv X pins σ H s) (h : SqT X.K H a ws) : PySem.W.Looks (model X.prog X.w) s.heap (typeOf (.ref a)) (.type "tuple") := by
  have key : ∃ o, s.heap.get? a = some o ∧ o.cls = .type "tuple" := by
    rcases h with (h | ⟨ob, h⟩) | ⟨o, its, n, h, hc, _⟩
    · obtain ⟨_, _, _, o, h1, h2, _⟩ := (show ObjOk X.prog X.w H s.heap a (.tup ws) from I.hok a _ h)
      exact ⟨o, h1, h2⟩
    · obtain ⟨_, _, _, _, o, h1, h2, _⟩ := (show ObjOk X.prog X.w H s.heap a (.frz ob (.tup ws)) from I.hok a _ h)
      exact ⟨o, h1, h2⟩
    · exact ⟨o, I.kIn a o h, hc⟩
  obtain ⟨o, h1, h2⟩ := key
  exact fun A Q E s k q => wpAny_typeOf_ref (k _ _ h1) (by rw [h2]; exact q)
theorem looks_non {M : Model} {h : Heap} : PySem.W.Looks M h (typeOf .none) (.type "NoneType") := fun A Q E s k q => wpAny_pure q
inductive TyT (K : PySem.W.Frag) (H : Hp) : V → String → Prop
  | non : TyT K H .non "NoneType"
  | tup {a : Addr} {ws : List V} (h : SqT K H a ws) : TyT K H (.ref a) "tuple"
theorem op_ownT {C f : Addr} {fd : FuncData} {ps : List Str} {sp : Sp} (hs : PySem.W.findIn X.K (.ref C) "__eq__" = some (some (.ref f))) (hf : PySem.W.isFn X.K (.ref f) = true) (Fo : FnOk X.prog X.w X.K X.mg X.base (L2.CX X.prog X.w) k f fd ps sp) (hr : Room k X.A) (hb : Binds X.K fd ps []) :
    OpR X (compareOp .Eq) (fun x y H Q => ∃ a dx fs t, x = .ref a ∧ H a = some (.ins C dx fs) ∧ TyT X.K H y t ∧ PySem.W.subIn X.K (.type t) (.ref C) = some false ∧ sp [x, y] H Q E0) := by
  intro pins s σ H x y v u Q I rx ry ⟨a, dx, fs, t, ex, ha, ty, hsub, q⟩
  subst ex
  obtain rfl : v = Value.ref a := rx
  obtain ⟨_, O, _⟩ := ins_get I.hok ha
  obtain ⟨_, J, _⟩ := O.look
  obtain ⟨_, fr⟩ := I.fr
  have lk : PySem.W.Looks (model X.prog X.w) s.heap (typeOf u) (.type t) := by
    cases ty with
    | non =>
      obtain rfl : u = Value.none := ry
      exact looks_non
    | tup h =>
      obtain rfl : u = Value.ref _ := ry
      exact looks_tup I h
  show wpAny _ _ (richCompare .Eq _ _) _ _ _
  refine PySem.W.cmp_K (op := .Eq) (tb := .type t) hr.units0 fr I.ok.mod.kin J lk (by simp [PySem.W.notFirst, hsub]) hs hf ?_
  refine thn (run_fn (us := [.ref a, u]) (vs := [.ref a, y]) (dvs := []) (ds := []) (E := E0) Fo hr hb .nil passL I (.cons rfl (.cons ry .nil)) q) fun w s' z => ?_
  obtain ⟨v', H', I', rv, qv⟩ := z
  exact SlX.cmpback rv ⟨v', H', I', rv, qv⟩
def eqTs : D → Bool
  | .non => true
  | .tup _ => true
  | _ => false
def eqOwnT (cn : Str) (fn : Fn) : D → D → Option D
  | .obj c fs, y => if c = cn ∧ eqTs y = true then (match fn [.va (.obj c fs), .va y] with
    | .ok (.bl b) outs => if outs.length = 2 then some (.bl b) else none
    | _ => none) else none
  | _, _ => none
theorem op_eqOwnT {cn : Str} {fn : Fn} {kk : Nat} (c : Cok g X W k) (h : HasEq X.prog X.w X.mg X.base g kk cn fn) (hk : kk ≤ k) (hsb : HasSb g cn) : OpS g φ (wO X (compareOp .Eq)) (eqOwnT cn fn) := by
  intro F σ H env v u x y z Q hr hx hy hf hq
  obtain ⟨C, f, fd, ps, ns, hcl, hs, hfn, Fo, hb⟩ := h.ex
  obtain ⟨C2, ns2, hcl2, hsub⟩ := hsb.ex
  rw [hcl] at hcl2
  cases hcl2
  rw [← c.K] at hs hfn Fo hb hsub
  refine ⟨_, op_ownT hs hfn Fo (c.rm.mono hk) hb, ?_⟩
  cases x <;> simp only [eqOwnT, reduceCtorEq] at hf
  rename_i c1 fs
  by_cases hcc : c1 = cn ∧ eqTs y = true
  · rw [if_pos hcc] at hf
    obtain ⟨rfl, hyt⟩ := hcc
    have px : Rep g F v (.obj c1 fs) := by
      cases hx with
      | of hx => exact hx
    have py : Rep g F u y := by
      cases hy with
      | of hy => exact hy
      | ow h1 h2 => simp [eqTs] at hyt
    have ty : ∃ t, t ∈ ["NoneType", "bool", "int", "str", "tuple", "list"] ∧ TyT X.K H u t := by
      cases py <;> simp only [eqTs, Bool.false_eq_true] at hyt
      · exact ⟨_, by decide, .non⟩
      · rename_i a ws ds h0 hl hi
        exact ⟨_, by decide, .tup (c.K ▸ same_t hr.ex h0)⟩
    obtain ⟨t, ht, ty⟩ := ty
    have pp := px
    cases px with
    | obj a c3 C1 dx ns1 vs ds hc1 h1 hn1 hl1 hi1 =>
        rw [hcl] at hc1
        cases hc1
        refine ⟨a, dx, _, t, rfl, hr.ex _ _ h1, ty, hsub t ht, ?_⟩
        cases hfo : fn [.va (.obj c1 fs), .va y] with
        | no => rw [hfo] at hf; cases hf
        | exc c5 v5 o5 => rw [hfo] at hf; cases hf
        | ok d outs =>
          rw [hfo] at hf
          have pv : AvsR g F σ [V.ref a, u] [.va (.obj c1 fs), .va y] := .cons pp (.cons py .nil)
          refine sp_call (W := W0) hr pv ?_
          have ea : argsOf env [.va (.obj c1 fs), .va y] = some [.va (.obj c1 fs), .va y] := rfl
          unfold callF
          rw [if_pos (show (ixs [Av.va (.obj c1 fs), .va y]).Nodup from List.nodup_nil), ea]
          simp only [hfo]
          cases d <;> simp only [reduceCtorEq] at hf
          rename_i bb
          by_cases hl : outs.length = 2
          · rw [if_pos hl] at hf
            cases hf
            match outs, hl with
            | [o1, o2], _ =>
              show PoE g W0 φ F σ Q (.ok (.bl bb) env)
              exact fun r H' F' s1 r1 p1 => hq r H' F' s1 r1 p1
          · rw [if_neg hl] at hf
            cases hf
  · rw [if_neg hcc] at hf
    cases hf
end

theorem has_len {P : Program} {w : World} {mg : Str → Option Value} {base : Heap} {g : Gc} {k : Nat} {cn qual : Str} {C f : Addr} {ns ps N : List Str} {st : Stmt} {fd : FuncData} {body : MS} (hcl : g.cl cn = some (C, ns)) (hs : PySem.W.findIn g.K (.ref C) "__len__" = some (some (.ref f))) (hf : PySem.W.isFn g.K (.ref f) = true) (Fu : Fun g.K "__len__" qual st f fd) (hb : Binds g.K fd ps [])
    (S : FnScope N ps (defScope st)) (hl : ps.length ≤ N.length)
    (hbody : ∀ (cdv : Value) (A : Around) (outer : List PySem.Env) (s : Shared) (H : Hp) (E : XK) (φ : Fc), Cok g (cxOf (L2.CX P w) P w g.K mg base N qual (defScope st) f cdv A outer s H E) (fun cls d _ H => E cls d H) k →
      SB g (fun cls d _ H => E cls d H) φ (cxOf (L2.CX P w) P w g.K mg base N qual (defScope st) f cdv A outer s H E) (defBody st) body) :
    HasLen P w mg base g (k + 1) cn (fnOf ps.length N.length body) := ⟨C, f, fd, ps, ns, hcl, hs, hf, def_ok Fu S hl hbody, hb⟩

/-! ### a, b = a tuple or a list -/
def tupX (n : Nat) (m : MGs) : MG := fun d env => match d with
  | .tup ds => if ds.length = n then m ds env else none
  | .lst ds => if ds.length = n then m ds env else none
  | _ => none
theorem sg_tupX {g : Gc} {φ : Fc} {X : Cx} {ws : List Nat} {es : List Expr} {kk : Nat} {m : MGs} {n : Nat} {pos : Pos} (hK : X.K = g.K) (hc : X.calm = true) (h : SGs g φ X ws es m) (hn : (assignEach es X.env).length = n := by rfl) (hst : (assignEach es X.env).findIdx? (·.1) = none := by rfl) : SG g φ X ws (.Tuple es kk pos) (tupX n m) := by
  intro F σ H env v d env' Q hr hv hm hq
  cases d <;> simp only [tupX, reduceCtorEq] at hm
  · rename_i ds
    split at hm
    · rename_i hl
      cases hv with
      | tup a vs ds h1 h2 h3 =>
        exact ⟨_, pg_tup hc w_pgs hn hst, a, vs, rfl, hK ▸ same_t hr.ex h1, by rw [h2]; exact hl, h F σ H env vs ds env' Q hr ⟨h2, h3⟩ hm hq⟩
    · cases hm
  · rename_i ds
    split at hm
    · rename_i hl
      cases hv with
      | lst a vs ds h1 h2 h3 =>
        exact ⟨_, pg_lst hc w_pgs hn hst, a, vs, rfl, SqL.of (hr.ex _ _ h1), by rw [h2]; exact hl, h F σ H env vs ds env' Q hr ⟨h2, h3⟩ hm hq⟩
    · cases hm

/-! ### lists in lists that change -/
mutual
def noL : D → Bool
  | .non => true
  | .bl _ => true
  | .int _ => true
  | .str _ => true
  | .ty _ => true
  | .cls _ => true
  | .adr _ => true
  | .tup xs => noLs xs
  | .obj _ fs => noLs fs
  | .lst _ => false
  | .rol _ => false
def noLs : List D → Bool
  | [] => true
  | d :: ds => noL d && noLs ds
end
theorem noLs_at : ∀ {ds : List D} {i : Nat} {d : D}, noLs ds = true → ds[i]? = some d → noL d = true
  | [], i, d, _, e => by simp at e
  | x :: ds, 0, d, h, e => by
    simp only [noLs, Bool.and_eq_true] at h
    simp only [List.getElem?_cons_zero, Option.some.injEq] at e
    exact e ▸ h.1
  | x :: ds, i + 1, d, h, e => by
    simp only [noLs, Bool.and_eq_true] at h
    exact noLs_at h.2 (by simpa using e)
def isL : HO → Bool
  | .lst _ => true
  | _ => false
section
variable {g : Gc} {W : WX} {φ : Fc} {X : Cx} {k : Nat} {F F' : Hp} {σ : L2.St} {H H' : Hp} {env : Env}
theorem Rep.noList {v : V} {d : D} (h : Rep g F v d) (hd : noL d = true) (e : ∀ b o, F b = some o → isL o = false → F' b = some o) : Rep g F' v d := by
  induction h with
  | non => exact .non
  | bl b => exact .bl b
  | int i => exact .int i
  | str x => exact .str x
  | ty n => exact .ty n
  | adr a => exact .adr a
  | cls c C ns hc => exact .cls c C ns hc
  | lst a vs ds h hl _ ih => simp [noL] at hd
  | rol a vs ds h hl _ ih => simp [noL] at hd
  | tup a vs ds h hl _ ih =>
    simp only [noL] at hd
    refine .tup a vs ds ?_ hl fun i v d p q => ih i v d p q (noLs_at hd q)
    rcases h with (h | ⟨o, h⟩) | h
    · exact .inl (.inl (e _ _ h rfl))
    · exact .inl (.inr ⟨o, e _ _ h rfl⟩)
    · exact .inr h
  | obj a c C dx ns vs ds hc h hn hl _ ih =>
    simp only [noL] at hd
    exact .obj a c C dx ns vs ds hc (e _ _ h rfl) hn hl fun i v d p q => ih i v d p q (noLs_at hd q)
/-- of the slots only the values without lists -/
def weakS : Sl → Sl
  | .va d => if noL d = true then .va d else .un
  | _ => .un
theorem weakS_va (d : D) : weakS (.va d) = if noL d = true then .va d else .un := rfl
def weakE (env : Env) : Env := env.map weakS
def noLists (F : Hp) : Hp := fun b => match F b with
  | some (.lst _) => none
  | o => o
def andNew (F F2 : Hp) : Hp := fun b => match F b with
  | some o => some o
  | none => noLists F2 b
theorem noLists_some {b : Addr} {o : HO} (h : noLists F b = some o) : F b = some o ∧ isL o = false := by
  unfold noLists at h
  split at h
  · cases h
  · rename_i x hx
    refine ⟨h, ?_⟩
    cases o <;> first | rfl | exact (hx _ h).elim
theorem noLists_of {b : Addr} {o : HO} (h : F b = some o) (hl : isL o = false) : noLists F b = some o := by
  unfold noLists
  split
  · rename_i vs e
    rw [h] at e
    cases e
    cases hl
  · exact h
theorem Rel.weak (r : Rel g φ F σ H env) : Rel g ⟨[], H, noLists F⟩ (noLists F) σ H (weakE env) := by
  refine Rel.fresh (fun b o e => r.ex b o (noLists_some e).1) (by simp [weakE, r.len]) (fun i d e => ?_) ?_
  · unfold weakE at e
    rw [List.getElem?_map, Option.map_eq_some_iff] at e
    obtain ⟨s, h1, h2⟩ := e
    cases s with
    | un => cases h2
    | ow b xs => cases h2
    | va d' =>
      rw [weakS_va] at h2
      by_cases hd : noL d' = true
      · rw [if_pos hd] at h2
        cases h2
        obtain ⟨v, q1, q2⟩ := r.va i d h1
        exact ⟨v, q1, q2.noList hd fun b o p q => noLists_of p q⟩
      · rw [if_neg hd] at h2
        cases h2
  · unfold noOw weakE
    rw [List.all_eq_true]
    intro s hs
    obtain ⟨t, _, rfl⟩ := List.mem_map.mp hs
    cases t with
    | un => rfl
    | ow b xs => rfl
    | va d =>
      rw [weakS_va]
      by_cases hd : noL d = true
      · rw [if_pos hd]; rfl
      · rw [if_neg hd]; rfl
/-- back from there, with two slots stored, one list of those made there changed, and the list of the slot i -/
theorem Rel.unweak {F2 H2 : Hp} {e3 : Env} {σ2 : L2.St} {i j : Nat} {a b0 : Addr} {vs ws vs' ws' : List V} {v0 v1 : V} {d : D} (r : Rel g φ F σ H env) (r4 : Rel g ⟨[], H, noLists F⟩ F2 σ2 H2 e3) (eσ : σ2 = (σ.set i (some v0)).set j (some v1))
    (hi : isOw env[i]? = false) (hj : isOw env[j]? = false) (hij : i ≠ j) (hlj : j < env.length) (p1 : Rep g F2 v1 d) (hd : noL d = true) (ha : F2 a = some (.lst vs)) (hb : F2 b0 = some (.lst ws)) :
    Rel g φ (andNew F F2) σ2 (upd (upd H2 b0 (.lst ws')) a (.lst vs')) ((env.set i .un).set j (.va d)) := by
  have fresh : ∀ {c : Addr} {us : List V}, F2 c = some (.lst us) → H c = none := fun {c us} h => by
    rcases r4.new c _ h with z | z
    · exact absurd (noLists_some z).2 (by simp [isL])
    · exact z
  have hHa := fresh ha
  have hHb := fresh hb
  have keep : ∀ c o, H c = some o → H2 c = some o := fun c o z => r4.fr c o z fun p hp => by cases hp
  have old : ∀ c o, H c = some o → (upd (upd H2 b0 (.lst ws')) a (.lst vs')) c = some o := fun c o z => by
    rw [upd_ne (ne_of_none z hHa), upd_ne (ne_of_none z hHb)]
    exact keep c o z
  have sF : Same F (andNew F F2) := fun c o z => by
    unfold andNew
    rw [z]
  have inv : ∀ {c : Addr} {o : HO}, andNew F F2 c = some o → F c = some o ∨ (F c = none ∧ F2 c = some o ∧ isL o = false) := fun {c o} z => by
    unfold andNew at z
    cases hF : F c with
    | some o' =>
      rw [hF] at z
      exact .inl z
    | none =>
      rw [hF] at z
      obtain ⟨q1, q2⟩ := noLists_some z
      exact .inr ⟨rfl, q1, q2⟩
  have two : ∀ c o, F2 c = some o → isL o = false → andNew F F2 c = some o := fun c o z hz => by
    unfold andNew
    cases hF : F c with
    | none => exact noLists_of z hz
    | some o' =>
      have h1 := keep c o' (r.ex _ _ hF)
      rw [r4.ex c o z] at h1
      exact h1.symm
  have so : ∀ {kx : Nat} {s : Sl}, kx ≠ i → kx ≠ j → ((env.set i .un).set j (.va d))[kx]? = some s → env[kx]? = some s ∧ σ2[kx]? = σ[kx]? := fun {kx s} h1 h2 z => by
    rw [set_get_ne (Ne.symm h2), set_get_ne (Ne.symm h1)] at z
    refine ⟨z, ?_⟩
    rw [eσ, set_get_ne (Ne.symm h2), set_get_ne (Ne.symm h1)]
  have own : ∀ {kx : Nat} {b : Bool} {xs : List D}, ((env.set i .un).set j (.va d))[kx]? = some (.ow b xs) → env[kx]? = some (.ow b xs) ∧ σ2[kx]? = σ[kx]? := fun {kx b xs} z => by
    have h2 : kx ≠ j := fun q => by
      subst q
      rcases get_set z with ⟨_, z2, _⟩ | ⟨z2, _⟩
      · cases z2
      · exact z2 rfl
    have h1 : kx ≠ i := fun q => by
      subst q
      rw [set_get_ne (Ne.symm h2)] at z
      rcases get_set z with ⟨_, z2, _⟩ | ⟨z2, _⟩
      · cases z2
      · exact z2 rfl
    exact so h1 h2 z
  refine ⟨fun c o z => ?_, r.ex0.trans sF, fun c o z => ?_, fun c o z hc => old c o (r.fr c o z hc), by rw [eσ]; simp [r.len], fun kx d' z => ?_, fun kx b xs z => ?_, fun k1 k2 b c xs ys u z1 z2 z3 z4 => ?_, fun p hp => ?_⟩
  · rcases inv z with z | ⟨_, z, hz⟩
    · exact old c o (r.ex _ _ z)
    · have h1 := r4.ex c o z
      have hca : c ≠ a := fun q => by
        rw [q, ha] at z
        cases z
        cases hz
      have hcb : c ≠ b0 := fun q => by
        rw [q, hb] at z
        cases z
        cases hz
      rw [upd_ne hca, upd_ne hcb]
      exact h1
  · rcases inv z with z | ⟨z0, z, hz⟩
    · exact r.new c o z
    · rcases r4.new c o z with q | q
      · have := (noLists_some q).1
        rw [z0] at this
        cases this
      · exact .inr (r.h0 q)
  · by_cases hkj : kx = j
    · subst hkj
      rcases get_set z with ⟨_, z2, _⟩ | ⟨z2, _⟩
      · cases z2
        refine ⟨v1, ?_, p1.noList hd two⟩
        rw [eσ]
        exact set_get (by simp [r.len]; exact hlj)
      · exact absurd rfl z2
    · by_cases hki : kx = i
      · subst hki
        rw [set_get_ne (Ne.symm hkj)] at z
        rcases get_set z with ⟨_, z2, _⟩ | ⟨z2, _⟩
        · cases z2
        · exact absurd rfl z2
      · obtain ⟨q1, q2⟩ := so hki hkj z
        obtain ⟨v, h1, h2⟩ := r.va kx d' q1
        exact ⟨v, by rw [q2]; exact h1, h2.mono sF⟩
  · obtain ⟨q1, q2⟩ := own z
    obtain ⟨a', us, h1, h2, h3, h4, h5⟩ := r.ow kx b xs q1
    refine ⟨a', us, by rw [q2]; exact h1, old _ _ h2, ?_, h4.mono sF, h5⟩
    cases hz : andNew F F2 a' with
    | none => rfl
    | some o =>
      rcases inv hz with z0 | ⟨_, z0, hl⟩
      · rw [h3] at z0
        cases z0
      · have h6 := r4.ex _ _ z0
        rw [keep _ _ h2] at h6
        cases h6
        cases hl
  · obtain ⟨q1, q2⟩ := own z1
    obtain ⟨q3, q4⟩ := own z2
    exact r.dj k1 k2 b c xs ys u q1 q3 (q2 ▸ z3) (q4 ▸ z4)
  · obtain ⟨h1, xs, h2⟩ := r.ioh p hp
    have n1 : p.1 ≠ i := fun q => by
      rw [q] at h2
      rw [h2] at hi
      cases hi
    have n2 : p.1 ≠ j := fun q => by
      rw [q] at h2
      rw [h2] at hj
      cases hj
    refine ⟨?_, xs, ?_⟩
    · rw [eσ, set_get_ne (Ne.symm n2), set_get_ne (Ne.symm n1)]
      exact h1
    · rw [set_get_ne (Ne.symm n2), set_get_ne (Ne.symm n1)]
      exact h2

/-- a store to the slot i of what m gives -/
def SSet (g : Gc) (W : WX) (φ : Fc) (X : Cx) (st : Stmt) (i : Nat) (m : ME) : Prop := ∀ F σ H env (En : Ends), Rel g φ F σ H env → PoE g W φ F σ (fun x H1 => En.nx (σ.set i (some x)) H1) (m env) → wS X st En σ H
theorem sset_e {i : Nat} {x : Str} {e : Expr} {m : ME} {pos pos' : Pos} (c : Cok g X W k) (h : SE g W φ X e m) (hi : X.N[i]? = some x := by rfl) (hx : Loc X.env.scope x := by first | exact Or.inl rfl | exact Or.inr rfl)
    (hs : swapsWith e (some (.Name x pos')) pos.line X.env = pure false := by rfl) (hf : X.fn x = true ∨ X.env.scope.names.lookup x = some .local := by first | exact .inl rfl | exact .inr rfl | assumption) : SSet g W φ X (.Assign [.Name x pos'] e pos) i m :=
  fun F σ H env En hr hp => ⟨_, ps_set c.nd hi hx w_pe hs hf, h F σ H env _ hr hp⟩
theorem sset_lc {i : Nat} {y : Str} {py : Pos} {ws : List Nat} {elt tg iter : Expr} {ifs : List Expr} {scope : Scope} {own : List (Str × Nat)} {pos spos : Pos} {mi : ML} {mg : MG} {mt : MT} {me : ME} (c : Cok g X W k) (hi : SI g W φ X tg iter mi) (ok : BlkOk X.N X.env.scope scope own)
    (hg : ∀ (s : Shared) (H : Hp) (C : Addr) (cl : List (Str × Addr)) (fp : List Addr) (φ : Fc), SG g φ (X.blk s H scope (compEnvC scope cl C X.env) fp) ws tg mg) (hws : ∀ i ∈ ws, i ∈ own.map (·.2))
    (ht : ∀ (s : Shared) (H : Hp) (C : Addr) (cl : List (Str × Addr)) (fp : List Addr) (φ : Fc), STs g W0 φ (X.blk s H scope (compEnvC scope cl C X.env) fp) ifs mt)
    (he : ∀ (s : Shared) (H : Hp) (C : Addr) (cl : List (Str × Addr)) (fp : List Addr) (φ : Fc), SE g W0 φ (X.blk s H scope (compEnvC scope cl C X.env) fp) elt me)
    (hy : X.N[i]? = some y := by rfl) (hyl : X.env.scope.names.lookup y = some .local := by rfl) (hsw : swapsWith (.ListComp elt [⟨tg, iter, ifs, 0⟩] scope pos) (some (.Name y py)) spos.line X.env = pure true := by exact sw_true rfl rfl rfl (by decide +kernel))
    (hs : ∀ x, foldedSetIterable iter X.env x = pure x := by intro _; rfl) : SSet g W φ X (.Assign [.Name y py] (.ListComp elt [⟨tg, iter, ifs, 0⟩] scope pos) spos) i (mL (lLc (own.map (·.2)) mi mg mt me)) := by
  intro F σ H env En hr hp
  have hp' : PoL g W φ F σ (fun x H1 => gName i x σ H1 En.nx) (lLc (own.map (·.2)) mi mg mt me env) := by
    unfold mL at hp
    cases e1 : lLc (own.map (·.2)) mi mg mt me env with
    | exc c v e' => rw [e1] at hp; exact hp
    | no => rw [e1] at hp; exact hp
    | ok xs e' =>
      rw [e1] at hp
      intro p vs H' F' s1 r1 h1 h2 h3 h4 h5
      obtain ⟨s2, r2⟩ := r1.settle h1 h2 h3 h4
      exact hp _ _ _ (s1.trans s2) r2 (.mkLst upd_same (h5.mono s2))
  obtain ⟨t, h1, ⟨gg, tt, te, h2, h3, h4, rfl⟩, h5⟩ := sl_lc_ c hi ok hg hws ht he hs F σ H env _ hr hp'
  exact ⟨_, ps_setLc c.calm c.nd hy hyl hsw h1 ok h2 h3 h4 hs, h5⟩
/-- x = e0; y = e1; o[k] = e2; x.append(c): x is a list of lists made here, and isn't read behind -/
def mLoose (i j : Nat) (m0 m1 me mo mk : ME) (n : MS) : MS := fun env =>
  if isOw env[i]? = false ∧ isOw env[j]? = false ∧ i < env.length ∧ j < env.length ∧ i ≠ j then
    match m0 (weakE env) with
    | .ok (.lst xs) ea => match putG i (.lst xs) ea with
      | some eb => match m1 eb with
        | .ok d ec => match putG j d ec with
          | some ed => match me ed with
            | .ok z e1 => match mo e1 with
              | .ok (.lst ys) e2 => match mk e2 with
                | .ok (.int q) e3 => match ixN ys.length q, e3[i]? with
                  | some _, some (.va (.lst xs')) => if noL d = true ∧ xs'.length < line then n ((env.set i .un).set j (.va d)) else .no
                  | _, _ => .no
                | _ => .no
              | _ => .no
            | _ => .no
          | none => .no
        | _ => .no
      | none => .no
    | _ => .no
  else .no
theorem sb_loose {i j : Nat} {x y : Str} {s0 : Stmt} {e1 ez o ke : Expr} {cc : Int} {jj : Nat} {m0 m1 me mo mk : ME} {n : MS} {rest : List Stmt} {p p1 q1 q2 q3 cp spos apos cpos : Pos} (c : Cok g X W k)
    (h0 : ∀ φ, SSet g W φ X s0 i m0) (h1 : ∀ φ, SE g W φ X e1 m1) (hz : ∀ φ, SE g W φ X ez me) (ho : ∀ φ, SE g W φ X o mo) (hk : ∀ φ, SE g W φ X ke mk) (t : SB g W φ X rest n)
    (hi : X.N[i]? = some x := by rfl) 
    (hj : X.N[j]? = some y := by rfl) (hy : Loc X.env.scope y := by first | exact Or.inl rfl | exact Or.inr rfl) (hs1 : swapsWith e1 (some (.Name y p1)) q1.line X.env = pure false := by rfl) (hf1 : X.fn y = true ∨ X.env.scope.names.lookup y = some .local := by first | exact .inl rfl | exact .inr rfl | assumption)
    (hsw : swapsWithSole [.Subscript o ke spos] ez q2.line X.env = pure false := by rfl) (hw : swappedStores [.Subscript o ke spos] ez X.env = pure none := by rfl) (ha1 : (assignEach [.Subscript o ke spos] X.env).map (·.2) = [assign (.Subscript o ke spos) X.env] := by rfl)
    (ha : ∀ v, assign (.Subscript o ke spos) X.env v = (do
      let ov ← holding [v] (eval o X.env)
      let iv ← holding [v, ov] (eval ke X.env)
      standAt spos
      holding [v, ov, iv] (setItem ov iv v)
      release [v, ov, iv] []) := by intro _; rfl)
    (hv : Vis X.env.scope x := by first | exact Or.inl rfl | exact Or.inr (Or.inl rfl) | exact Or.inr (Or.inr rfl))
    (hd : (x == ("__debug__" : Str)) = false := by decide) (hcd : (x == ("__classdict__" : Str)) = false := by decide) (hs3 : starEach (Expr.Constant (.int cc) jj cp :: []) X.env = (false, eval (Expr.Constant (.int cc) jj cp) X.env) :: starEach [] X.env := by rfl)
    (hbase : attributeBase (.Name x p) "append" X.env (eval (.Name x p) X.env) = eval (.Name x p) X.env := by rfl)
    (hfew : ((backTo cpos (starEach (Expr.Constant (.int cc) jj cp :: []) X.env)).all (fun x => !x.1) && (backToKw cpos (keywordEach [] X.env)).all (fun x => x.1.isSome)
      && decide ((Expr.Constant (.int cc) jj cp :: []).length + ([] : List Keyword).length + (if ([] : List Keyword).isEmpty then 0 else 1) < 30)) = true := by rfl)
    (hline : (apos.endLine == cpos.line) = true := by rfl) (hplain : (backTo cpos (starEach [] X.env)).any (·.1) = false := by rfl)
    (hs4 : swapsWith (.Call (.Attribute (.Name x p) "append" apos) [Expr.Constant (.int cc) jj cp] [] cpos) none q3.line X.env = pure false := by rfl) :
    SB g W φ X (s0 :: .Assign [.Name y p1] e1 q1 :: .Assign [.Subscript o ke spos] ez q2 :: .Expr (.Call (.Attribute (.Name x p) "append" apos) [Expr.Constant (.int cc) jj cp] [] cpos) q3 :: rest) (mLoose i j m0 m1 me mo mk n) := by
  intro F σ H env En hr hp
  refine ⟨_, pss_cons w_ps (pss_cons (ps_set c.nd hj hy w_pe hs1 hf1) (pss_cons (ps_asg w_pe (pg_sub w_pe w_pe set_list ha) hsw hw ha1)
    (pss_cons (ps_expr (pe_bm PySem.F.plainAttrs_list PySem.F.slot_list_append PySem.F.type_list_append mt_append (pe_var hi hv hd hcd) (pa_cons pe_int pa_nil hs3) hbase hfew hline hs3 hplain) hs4) w_pb))), ?_⟩
  unfold mLoose at hp
  by_cases hc : isOw env[i]? = false ∧ isOw env[j]? = false ∧ i < env.length ∧ j < env.length ∧ i ≠ j
  · rw [if_pos hc] at hp
    obtain ⟨c1, c2, c3, c4, c5⟩ := hc
    refine h0 _ (noLists F) σ H (weakE env) _ hr.weak ?_
    cases em0 : m0 (weakE env) with
    | no => rw [em0] at hp; exact hp.elim
    | exc cx v e => rw [em0] at hp; exact hp.elim
    | ok d0 ea =>
      rw [em0] at hp
      cases d0 with
      | lst xs =>
        simp only at hp
        intro v0 H1 F1 s1 r1 p1
        cases eb0 : putG i (.lst xs) ea with
        | none => simp only [eb0] at hp; exact hp.elim
        | some eb =>
          simp only [eb0] at hp
          obtain ⟨sl, g1, g2, rfl⟩ := putG_ok eb0
          refine h1 _ F1 _ H1 _ _ (r1.setVa g1 g2 p1) ?_
          cases em1 : m1 (ea.set i (.va (.lst xs))) with
          | no => rw [em1] at hp; exact hp.elim
          | exc cx v e => rw [em1] at hp; exact hp.elim
          | ok d ec =>
            rw [em1] at hp
            simp only at hp
            intro v1 H2 F2 s2 r2 p2
            cases ed0 : putG j d ec with
            | none => simp only [ed0] at hp; exact hp.elim
            | some ed =>
              simp only [ed0] at hp
              obtain ⟨sl2, g3, g4, rfl⟩ := putG_ok ed0
              refine hz _ F2 _ H2 _ _ (r2.setVa g3 g4 p2) ?_
              cases eme : me (ec.set j (.va d)) with
              | no => rw [eme] at hp; exact hp.elim
              | exc cx v e => rw [eme] at hp; exact hp.elim
              | ok z e1 =>
                rw [eme] at hp
                simp only at hp
                intro vz H3 F3 s3 r3 p3
                refine ho _ F3 _ H3 _ _ r3 ?_
                cases emo : mo e1 with
                | no => rw [emo] at hp; exact hp.elim
                | exc cx v e => rw [emo] at hp; exact hp.elim
                | ok dl e2 =>
                  rw [emo] at hp
                  cases dl with
                  | lst ys =>
                    simp only at hp
                    intro vo H4 F4 s4 r4 p4
                    refine hk _ F4 _ H4 _ _ r4 ?_
                    cases emk : mk e2 with
                    | no => rw [emk] at hp; exact hp.elim
                    | exc cx v e => rw [emk] at hp; exact hp.elim
                    | ok dq e3 =>
                      rw [emk] at hp
                      cases dq with
                      | int q =>
                        simp only at hp
                        intro vq H5 F5 s5 r5 p5
                        cases hq : ixN ys.length q with
                        | none => simp only [hq] at hp; exact hp.elim
                        | some jx =>
                          simp only [hq] at hp
                          cases hsl : e3[i]? with
                          | none => simp only [hsl] at hp; exact hp.elim
                          | some sli =>
                            cases sli with
                            | un => simp only [hsl] at hp; exact hp.elim
                            | ow b zs => simp only [hsl] at hp; exact hp.elim
                            | va dl2 =>
                              cases dl2 with
                              | lst xs' =>
                                simp only [hsl] at hp
                                by_cases hfin : noL d = true ∧ xs'.length < line
                                · rw [if_pos hfin] at hp
                                  obtain ⟨k1, k2⟩ := hfin
                                  cases p5
                                  have p4' := p4.mono s5
                                  cases p4' with
                                  | lst b0 ws ds hb hlb hib =>
                                    obtain ⟨vi, m1', m2⟩ := r5.va i _ hsl
                                    cases m2 with
                                    | lst a vs ds ha0 hla hia =>
                                      have hj5 : ixN ws.length q = some jx := by rw [hlb]; exact hq
                                      refine ⟨b0, ws, q, jx, rfl, rfl, r5.ex _ _ hb, hj5, ?_⟩
                                      have hB : (upd H5 b0 (.lst (ws.set jx vz))) a = some (.lst (if a = b0 then ws.set jx vz else vs)) := by
                                        by_cases hab : a = b0
                                        · subst hab
                                          rw [upd_same, if_pos rfl]
                                        · rw [upd_ne hab, if_neg hab]
                                          exact r5.ex _ _ ha0
                                      have hlen : (if a = b0 then ws.set jx vz else vs).length < sizeLine := by
                                        by_cases hab : a = b0
                                        · rw [if_pos hab, List.length_set]
                                          subst hab
                                          rw [ha0] at hb
                                          cases hb
                                          rw [hla, ← line_eq]
                                          exact k2
                                        · rw [if_neg hab, hla, ← line_eq]
                                          exact k2
                                      refine ⟨.ref a, m1', .inl ⟨rfl, _, SqL.of hB⟩, ?_⟩
                                      refine ⟨a, _, .int cc, rfl, rfl, hB, hlen, ?_⟩
                                      refine t (andNew F F5) _ _ _ _ (Rel.unweak hr r5 rfl c1 c2 c5 c4 (p2.mono (s3.trans (s4.trans s5))) k1 ha0 hb) ?_
                                      exact PoS.mono (fun b o e => by unfold andNew; rw [e]) hp
                                · rw [if_neg hfin] at hp
                                  exact hp.elim
                              | _ => simp only [hsl] at hp; exact hp.elim
                      | _ => exact hp.elim
                  | _ => exact hp.elim
      | _ => exact hp.elim
  · rw [if_neg hc] at hp
    exact hp.elim
end
end Mp
set_option Elab.async false
set_option linter.all false
set_option maxRecDepth 100000
set_option maxHeartbeats 4000000
/-! sorted(x), x a list or a tuple of data that can be compared -/
namespace Mp
open PySem PySem.Spec PySem.Calls PyProof.Rows L2

section
variable {prog : Program} {w : World} {A : Around} {E : Value → Shared → Prop} {s : Shared}
/-- the empty list D takes the items of the tuple l -/
theorem take_tup {l D : Addr} {vs : List Value} {r : Value} {R : PySem.Fin → Shared → Prop} (t : IsTup s.heap l vs.toArray) (hD : s.heap.get? D = some (seqObj "list" #[] 0)) (hz : vs.length ≤ sizeLine)
    (k : R (.done (.ret r)) { s with heap := s.heap.update D (Obj.mapSeq (· ++ vs.toArray)) }) : wpAny (model prog w) A (Builtin.List.listExtendWith (.ref D) (.ref l) r) R E s := by
  rcases t with ⟨o, e, c, n, d⟩
  have tt : s.TypeIs (.ref l) "tuple" := ⟨o, e, c⟩
  unfold Builtin.List.listExtendWith
  apply wpAny_bind
  apply wpAny_typeOf tt
  have yes : (Builtin.List.listSameRef (.ref D) (.ref l) || Value.type "tuple" == Value.type "list" || Value.type "tuple" == Value.type "tuple") = true := by simp
  rw [if_pos yes]
  apply wpAny_bind
  apply listItems_at e d
  apply wpAny_bind
  apply listItems_at hD rfl
  rw [if_neg (show ¬ _ from by simp)]
  apply wpAny_bind
  apply listUpdate_at hD rfl (hsz := Nat.zero_le _) (hsz2 := by simp; omega)
  exact wpAny_pure k
/-- the items of a tuple, by way of a list of their own -/
theorem items_tup {l : Addr} {vs : List Value} {R : List Value → Shared → Prop} (t : IsTup s.heap l vs.toArray) (hz : vs.length ≤ sizeLine) (k : R vs { s with heap := (s.heap.push (seqObj "list" #[] 0)).update s.heap.objs.size (Obj.mapSeq (· ++ vs.toArray)) }) :
    wpAny (model prog w) A (collect (.ref l)) R E s := by
  have new : (s.heap.push (seqObj "list" #[] 0)).get? s.heap.objs.size = some (seqObj "list" #[] 0) := Heap.get?_push_size _ rfl
  have old : IsTup (s.heap.push (seqObj "list" #[] 0)) l vs.toArray := t.keeps fun b o e => Heap.get?_push_of_some _ e
  unfold collect
  apply wpAny_bind
  apply wpAny_runValue
  apply codeAny_builtin entry_proto_collect'
  change wpAny _ _ (newList [] >>= fun x => again (.builtin "list.__iadd__" ⟨[x, .ref l], []⟩)) _ _ _
  apply wpAny_bind
  refine wpAny_newList ?_ (Nat.zero_le _)
  apply wpAny_pure
  refine ⟨Code.quiet_builtin _ (by decide +kernel), ?_⟩
  apply codeAny_builtin entry_list_iadd'
  change wpAny _ _ (Builtin.List.listExtendWith (Value.ref s.heap.objs.size) (Value.ref l) (Value.ref s.heap.objs.size)) _ _ ⟨s.heap.push (seqObj "list" #[] 0), s.gens, s.drawn, s.toks, s.os⟩
  apply take_tup (s := ⟨s.heap.push (seqObj "list" #[] 0), s.gens, s.drawn, s.toks, s.os⟩) old new hz
  change wpAny _ A (load s.heap.objs.size >>= _) _ _ _
  apply wpAny_bind
  apply wpAny_load (get?_update_seq new _)
  have e : ((#[] : Array Value) ++ vs.toArray).toList = vs := by simp
  change wpAny _ _ (pure ((#[] : Array Value) ++ vs.toArray).toList) _ _ _
  rw [e]
  exact wpAny_pure k
/-- sorted(x), by what gives x's items and what sorts the new list -/
theorem sort_call {l : Addr} {vs : List Value} {Q : Value → Shared → Prop} (its : ∀ {R : List Value → Shared → Prop}, R vs { s with heap := (s.heap.push (seqObj "list" #[] 0)).update s.heap.objs.size (Obj.mapSeq (· ++ vs.toArray)) } → wpAny (model prog w) A.in1 (collect (.ref l)) R (fun e s' => E e s') s) (hz : vs.length ≤ sizeLine)
    (srt : ∀ E' : Value → Shared → Prop, wpAny (model prog w) A.in1.in1 (Builtin.«list.sort» ⟨[.ref (s.heap.objs.size + 1)], []⟩) (fun f s' => f = .done (.ret .none) ∧ Q (.ref (s.heap.objs.size + 1)) s') E' { s with heap := PySem.W.copyHeap s.heap vs }) :
    wpAny (model prog w) A (call (.builtin "sorted") [.ref l]) Q E s := by
  have place : ((s.heap.push (seqObj "list" #[] 0)).update s.heap.objs.size (Obj.mapSeq (· ++ vs.toArray))).objs.size = s.heap.objs.size + 1 := (Heap.size_update _ _ _).trans (size_push' _ _)
  apply call_function_entry_kw kind_sorted plain_sorted entry_sorted (args_sorted1 _)
  unfold Builtin.«sorted»
  apply wpAny_bind (m := checkCount "sorted" 1 1 _)
  apply wpAny_pure
  apply wpAny_bind
  apply its
  apply wpAny_bind
  refine wpAny_newList (hsz := hz) ?_
  change wpAny _ _ _ _ _ ⟨PySem.W.copyHeap s.heap vs, s.gens, s.drawn, s.toks, s.os⟩
  rw [place]
  apply wpAny_bind
  apply wpAny_holding
  refine wpAny_call_entry_kw slot_list_sort ⟨_, PySem.W.copyHeap_at s.heap vs, rfl⟩ entry_list_sort ?_ (args_list_sort _)
  change wpAny _ A.in1.in1 (Builtin.«list.sort» ⟨[Value.ref (s.heap.objs.size + 1)], []⟩) _ _ _
  refine wpAny_mono (srt _) ?_ fun _ _ z => z
  rintro f s' ⟨rfl, q⟩
  exact ⟨_, rfl, wpAny_pure ⟨_, rfl, q⟩⟩
end

/-! ### on data -/
def allAlikeB (ps : List PyData) : Bool := ps.all fun d => ps.all fun d' => PySem.W.alike d d'
def sortableB (ps : List PyData) : Bool := (ps.all fun d => match d with
    | .tuple (_ :: _) => true
    | _ => false) || ps.all fun d => match d with
    | .none => false
    | .tuple _ => false
    | _ => true
def depB (ps : List PyData) : Bool := ps.all fun d => decide (d.depth ≤ 60)
def sortL (xs : List D) (ps : List PyData) : List D := ((xs.zip ps).mergeSort (PySem.W.dataLe false fun b => b.2)).map (·.1)
def seqLT : D → Option (List D)
  | .lst xs => some xs
  | .tup xs => some xs
  | _ => none
def sortDF : List D → Option D
  | [d] => match seqLT d with
    | some xs => match toPys xs with
      | some ps => if (allAlikeB ps && (sortableB ps && depB ps)) = true then some (.lst (sortL xs ps)) else none
      | none => none
    | none => none
  | _ => none
section
variable {g : Gc} {W : WX} {φ : Fc} {X : Cx} {k : Nat} {F : Hp} {σ : L2.St} {H : Hp} {env : Env}
theorem toPys_len : ∀ {xs : List D} {ps : List PyData}, toPys xs = some ps → xs.length = ps.length
  | [], ps, h => by
    simp only [toPys, Option.some.injEq] at h
    subst h
    rfl
  | x :: xs, ps, h => by
    rw [toPys] at h
    cases e1 : toPy x with
    | none => simp [e1] at h
    | some p =>
      cases e2 : toPys xs with
      | none => simp [e1, e2] at h
      | some qs =>
        simp only [e1, e2, Option.some.injEq] at h
        subst h
        simp [toPys_len e2]
theorem each_of {pins : List (Addr × Obj)} {s : Shared} (I : Inv X pins σ H s) (hK : X.K = g.K) (sF : Same F H) : ∀ {vs : List V} {us : List Value} {xs : List D} {ps : List PyData}, Vals vs us → Reps g F vs xs → toPys xs = some ps →
    PySem.W.EachIs (fun u (b : D × PyData) => ∃ v, RelV v u ∧ Rep g F v b.1) us (xs.zip ps) ∧ PySem.W.EachIs (fun u (b : D × PyData) => ∃ as, Reads s.heap u b.2 as) us (xs.zip ps)
  | [], [], [], ps, _, _, h => by
    simp only [toPys, Option.some.injEq] at h
    subst h
    exact ⟨.nil, .nil⟩
  | [], _ :: _, _, _, h, _, _ => by cases h
  | _ :: _, [], _, _, h, _, _ => by cases h
  | [], [], _ :: _, _, _, r, _ => by have := r.len; simp at this
  | _ :: _, _ :: _, [], _, _, r, _ => by have := r.len; simp at this
  | v :: vs, u :: us, x :: xs, ps, hv, r, h => by
    rw [toPys] at h
    cases e1 : toPy x with
    | none => simp [e1] at h
    | some p =>
      cases e2 : toPys xs with
      | none => simp [e1, e2] at h
      | some qs =>
        simp only [e1, e2, Option.some.injEq] at h
        subst h
        cases hv with
        | cons h1 h2 =>
          obtain ⟨i1, i2⟩ := each_of I hK sF h2 r.tail e2
          have dp := Rep.dp sF x v p e1 r.head
          rw [← hK] at dp
          exact ⟨.cons ⟨v, h1, r.head⟩ i1, .cons (Dp.reads I p v u dp h1) i2⟩
theorem each_back : ∀ {us : List Value} {bs : List (D × PyData)}, PySem.W.EachIs (fun u (b : D × PyData) => ∃ v, RelV v u ∧ Rep g F v b.1) us bs → ∃ vs, Vals vs us ∧ Reps g F vs (bs.map (·.1))
  | _, _, .nil => ⟨[], .nil, .nil⟩
  | _, _, .cons h t => by
    obtain ⟨v, h1, h2⟩ := h
    obtain ⟨vs, h3, h4⟩ := each_back t
    exact ⟨v :: vs, .cons h1 h3, .cons h2 h4⟩
theorem alike_of {xs : List D} {ps : List PyData} (hl : xs.length = ps.length) (h : allAlikeB ps = true) : PySem.W.AllAlike ((xs.zip ps).map fun b => b.2) := by
  have e : (xs.zip ps).map (fun b => b.2) = ps := List.map_snd_zip (by omega)
  rw [e]
  intro d hd d' hd'
  exact List.all_eq_true.mp (List.all_eq_true.mp h d hd) d' hd'
theorem sortable_of {xs : List D} {ps : List PyData} (hl : xs.length = ps.length) (h : sortableB ps = true) : PySem.W.Sortable ((xs.zip ps).map fun b => b.2) := by
  have e : (xs.zip ps).map (fun b => b.2) = ps := List.map_snd_zip (by omega)
  rw [e]
  rcases Bool.or_eq_true_iff.mp h with h | h
  · left
    intro d hd
    have := List.all_eq_true.mp h d hd
    split at this
    · exact ⟨_, _, rfl⟩
    · cases this
  · right
    intro d hd
    have := List.all_eq_true.mp h d hd
    split at this
    · cases this
    · cases this
    · rename_i h1 h2
      exact ⟨h1, h2⟩
theorem run_sortD {pins : List (Addr × Obj)} {s : Shared} {Q : Value → Shared → Prop} {E : Value → Shared → Prop} {a : Addr} {ws : List V} {xs : List D} {ps : List PyData} (hK : X.K = g.K) (rm : Room k X.A) (I : Inv X pins σ H s) (sF : Same F H) (hs : SqL X.K H a ws ∨ SqT X.K H a ws) (r : Reps g F ws xs)
    (hp : toPys xs = some ps) (h1 : allAlikeB ps = true) (h2 : sortableB ps = true) (h3 : depB ps = true)
    (q : ∀ (ws' : List V) (out : List Value), Vals ws' out → out.length ≤ sizeLine → Reps g F ws' (sortL xs ps) → ∀ its, Q (.ref (s.heap.objs.size + 1)) { s with heap := sortedAll s.heap its (List.toArray out) }) :
    wpAny (model X.prog X.w) X.A (call (.builtin "sorted") [.ref a]) Q E s := by
  have hl := toPys_len hp
  have fin : ∀ its : List Value, Vals ws its → ws.length ≤ sizeLine → (∀ {Q : List Value → Shared → Prop}, Q its { s with heap := (s.heap.push (seqObj "list" #[] 0)).update s.heap.objs.size (Obj.mapSeq (· ++ its.toArray)) } → wpAny (model X.prog X.w) X.A.in1 (collect (.ref a)) Q (fun e s' => E e s') s) →
      wpAny (model X.prog X.w) X.A (call (.builtin "sorted") [.ref a]) Q E s := fun its rv hz hcol => by
    obtain ⟨e, er⟩ := each_of I hK sF rv r hp
    have hL : its.length ≤ sizeLine := by rw [← rv.length]; exact hz
    have er' : PySem.W.EachIs (fun u (b : D × PyData) => ∃ as, Reads (PySem.W.sortingHeap (PySem.W.copyHeap s.heap its) (s.heap.objs.size + 1) its) u b.2 as) its (xs.zip ps) := er.mono fun _ _ ⟨as, r⟩ => ⟨as, PyProof.Rows.Reads.keeps (fun _ _ => PySem.W.sorting_copy_old) r⟩
    have hu : ∀ b, b ∈ xs.zip ps → X.A.units + 2 + b.2.depth < cLine := fun b hb => by
      have := List.all_eq_true.mp h3 b.2 (List.of_mem_zip hb).2
      have d60 : b.2.depth ≤ 60 := of_decide_eq_true this
      have := rm.un
      omega
    refine sort_call hcol hL fun E' => ?_
    refine PySem.W.list_sort_vals (s := { s with heap := PySem.W.copyHeap s.heap its }) (PySem.W.copyHeap_at s.heap its) (PySem.W.SortsAt.data (s := { s with heap := PySem.W.sortingHeap (PySem.W.copyHeap s.heap its) (s.heap.objs.size + 1) its })
      (PySem.W.each_map (R := fun v d => ∃ as, Reads (PySem.W.sortingHeap (PySem.W.copyHeap s.heap its) (s.heap.objs.size + 1) its) v d as) (fun b : D × PyData => b.2) er') (alike_of hl h1) (sortable_of hl h2) (PySem.W.bound_map hu)) hL ⟨rfl, ?_⟩
    obtain ⟨ws', k1, k2⟩ := each_back (PySem.W.sortVals_data false e er' (alike_of hl h1))
    refine q ws' _ k1 ?_ k2 its
    rw [PySem.W.sortVals_length false rfl]
    exact hL
  rcases hs with hs | hs
  · obtain ⟨its, rv, pl, hz⟩ := I.list hs
    exact fin its rv hz fun {Q} h => collect_list pl.isList h (by rw [← rv.length]; exact hz)
  · obtain ⟨its, rv, pl, hz⟩ := I.tuple hs
    exact fin its rv hz fun {Q} h => items_tup pl (by rw [← rv.length]; exact hz) h
theorem ca_sortD (hK : X.K = g.K) (rm : Room k X.A) : CaS g φ (wC X (.builtin "sorted")) sortDF := by
  intro F σ H env vs ds z Q hr hx hf hq
  cases hx with
  | nil => simp [sortDF] at hf
  | @cons v d vs ds hv t =>
    cases t with
    | cons _ _ => simp [sortDF] at hf
    | nil =>
      simp only [sortDF] at hf
      cases e1 : seqLT d with
      | none => simp [e1] at hf
      | some xs =>
        simp only [e1] at hf
        cases e2 : toPys xs with
        | none => simp [e2] at hf
        | some ps =>
          simp only [e2] at hf
          by_cases hc : (allAlikeB ps && (sortableB ps && depB ps)) = true
          · rw [if_pos hc] at hf
            cases hf
            simp only [Bool.and_eq_true] at hc
            have key : ∃ a ws, v = .ref a ∧ (SqL g.K H a ws ∨ SqT g.K H a ws) ∧ Reps g F ws xs := by
              cases d <;> simp only [seqLT, reduceCtorEq, Option.some.injEq] at e1
              · subst e1
                obtain ⟨a, ws, q1, q2, q3⟩ := hv.tup hr.ex
                exact ⟨a, ws, q1, .inr q2, q3⟩
              · subst e1
                obtain ⟨a, ws, q1, q2, q3⟩ := hv.lst hr.ex
                exact ⟨a, ws, q1, .inl (SqL.of q2), q3⟩
            obtain ⟨a, ws, rfl, hs, rr⟩ := key
            refine ⟨fun vs' H' Q' => vs' = [.ref a] ∧ H' = H ∧ ∀ ws' p, Reps g F ws' (sortL xs ps) → H p = none → Q' (.ref p) (upd H p (.lst ws')), ?_, rfl, rfl, fun ws' p h1 h2 => ?_⟩
            · intro pins s σ2 H' xs' us Q' I rv ⟨ex, eH, q⟩
              subst ex eH
              rw [Vals.ref1 rv]
              refine run_sortD hK rm I hr.ex (hK ▸ hs) rr e2 hc.1 hc.2.1 hc.2.2 fun ws' out k1 k2 k3 its => ?_
              obtain ⟨ep, he'⟩ := PyProof.Rows.sortedAll_at s.heap its (List.toArray out)
              have hlen : ws'.length ≤ sizeLine := by rw [k1.length]; exact k2
              exact ⟨.ref _, upd H' (s.heap.objs.size + 1) (.lst ws'), I.laid (t' := s.toks) (fun _ _ => PyProof.Rows.sortedAll_old) (Nat.le_succ _) ⟨hlen, out, ep, k1, he'⟩, rfl, q ws' _ k3 (I.hok.fresh (Nat.le_succ _))⟩
            · obtain ⟨s2, r2⟩ := hr.laid (o := .lst ws') h2
              exact hq _ _ _ s2 r2 (.mkLst upd_same (h1.mono s2))
          · rw [if_neg hc] at hf
            cases hf
end
end Mp
set_option Elab.async false
set_option linter.all false
set_option maxRecDepth 100000
set_option maxHeartbeats 4000000
namespace Mp
open PySem PySem.Spec L2
/-! Sets of whole numbers, written as a comprehension of one `for`. -/
/-- what is wished of {elt for tg in iter}: `Wd i m H` stands ahead of turn i, `Aft` behind it -/
def tSI (w : World) (wi : TI) (g : TG) (te : TE) (vs : List Nat) : TE := fun σ H Q =>
  wi σ H fun J H1 => ∀ p : Addr, H1 p = none →
    ∃ Wd : Nat → Nat → Hp → Prop, (∃ m0, Wd 0 m0 (upd H1 p (SetO w p (fun _ => false) 0))) ∧
      ∀ i m G, Wd i m G → (J.stop i G ∧ Q (.ref p) G) ∨
        (J.go i G ∧ ∃ Aft : Hp → Prop, (∀ G', Aft G' → ∃ l, l < m ∧ Wd (i + 1) l G') ∧
          ∀ x G', J.yld i G x G' → g x (wipe σ vs) G' fun σ2 G2 => wipe σ2 vs = wipe σ vs ∧
            te σ2 G2 fun y G3 => ∃ k S n, y = .int k ∧ G3 p = some (SetO w p S n) ∧ n + 1 < scanBound ∧
              Aft (upd G3 p (SetO w p (fun j => S j || decide (j = k)) (if S k = true then n else n + 1))))

theorem sc_coreI {X : Cx} {pins : List (Addr × Obj)} {s : Shared} {σ : St} {H : Hp} {Q : VK} {elt tg iter : Expr} {scope : Scope} {own : List (Str × Nat)} {pos pos' : Pos} {wi : TI} {g : TG} {te : TE}
    (hc : X.calm = true) (hN : X.N.Nodup) (I : L2.Inv X pins σ H s) (hw : PI X tg iter wi) (ok : BlkOk X.N X.env.scope scope own)
    (hg : ∀ (s : Shared) (H : Hp) (C : Addr) (cl : List (Str × Addr)) (fp : List Addr), PG (X.blk s H scope (compEnvC scope cl C X.env) fp) tg g)
    (he : ∀ (s : Shared) (H : Hp) (C : Addr) (cl : List (Str × Addr)) (fp : List Addr), PE (X.blk s H scope (compEnvC scope cl C X.env) fp) elt te)
    (hs : ∀ x, foldedSetIterable iter X.env x = pure x) (t : tSI X.w wi g te (own.map (·.2)) σ H Q) :
    wpAny (model X.prog X.w) X.A (comprehension (elt.SetComp [⟨tg, iter, [], 0⟩] scope pos) scope X.env pos' (newSet (.type "set")) false (eval iter X.env)) (EP X pins σ Q) X.xe s := by
  refine wpAny_comprehension_free rfl hs (closure_ok fun y hy hf => ?_) ok.kind (fun y hy hl => by rw [ok.uniq y hy, hl]) ?_
  · rcases ok.free y hy hf with h | h
    · exact I.ok.has _ (.inl h)
    · exact I.ok.has _ (.inr h)
  refine thn (hw.run pins s σ H _ I t) fun v s1 h1 => thn h1 fun itv s2 h2 => ?_
  obtain ⟨it, fp, tn, J, H1, rfl, I2, T, t2, hfp, hR⟩ := h2
  refine PpSet.newSet_ok ?_
  generalize hD : s2.heap.objs.size = p
  have hp1 : H1 p = none := I2.hok.fresh (by omega)
  obtain ⟨Wd, ⟨m0, w0⟩, go⟩ := hR p hp1
  have I3 := I2.laid (h' := s2.heap.push { cls := Value.type "set", data := Data.set #[] 0 (SetTable.fresh 0 0 !X.w.params.followText "set-order") }) (a := p) (o := SetO X.w p (fun _ => false) 0) (t' := s2.toks) (fun b u hu => Heap.get?_push_of_some _ hu) (by omega) (setO_new (by rw [← hD]; exact setR_fresh X.w))
  generalize hs3 : ({ heap := s2.heap.push { cls := Value.type "set", data := Data.set #[] 0 (SetTable.fresh 0 0 !X.w.params.followText "set-order") }, gens := s2.gens, drawn := s2.drawn, toks := s2.toks, os := s2.os } : Shared) = s3 at I3 ⊢
  have hk3 : ∀ b u, s2.heap.get? b = some u → s3.heap.get? b = some u := fun b u hu => by rw [← hs3]; exact Heap.get?_push_of_some _ hu
  have hz3 : s3.heap.objs.size = s2.heap.objs.size + 1 := by rw [← hs3]; simp [Heap.push]
  have hf3 : ∀ b ∈ fp, FpOk X pins (upd H1 p (SetO X.w p (fun _ => false) 0)) b ∧ b < s3.heap.objs.size := fun b hb => by
    obtain ⟨o, ho, _⟩ := T.obj 0 _ t2 b hb
    have hlt := Heap.lt_size ho
    have hne : b ≠ p := by rw [← hD]; exact Nat.ne_of_lt hlt
    obtain ⟨q1, q2⟩ := hfp b hb
    exact ⟨⟨by rw [upd_ne hne]; exact q1, q2⟩, by rw [hz3]; exact Nat.lt_succ_of_lt hlt⟩
  refine newEnv_comp ?_
  have IB := block_start I3 ok hN hf3
  obtain ⟨s4, hs4⟩ : ∃ s4 : Shared, s4 = { heap := pushCells (s3.heap.push { cls := Value.type "dict", data := Data.dict #[] }) scope.names, gens := s3.gens, drawn := s3.drawn, toks := s3.toks, os := s3.os } := ⟨_, rfl⟩
  have t4 : tn 0 s4.heap := by
    rw [hs4]
    exact T.keep 0 _ _ t2 fun b hb o ho => pushCells_keeps _ _ _ _ (Heap.get?_push_of_some _ (hk3 b o ho))
  rw [← hs4] at IB ⊢
  obtain ⟨C, hC⟩ : ∃ C : Addr, C = s3.heap.objs.size := ⟨_, rfl⟩
  obtain ⟨cl, hcl⟩ : ∃ cl, cl = cellsFrom (s3.heap.objs.size + 1) scope.names (cloFrom X.env.cells scope.names []) := ⟨_, rfl⟩
  rw [← hcl, ← hC] at IB
  have hcenv : (fun (e : PySem.Env) => ({ scope := relabel scope X.env, locals := e.locals, globals := e.globals, cells := e.cells, qual := e.qual, func := e.func, code := e.code, frame := e.frame, builtins := e.builtins } : PySem.Env)) (newEnv scope s3.heap.objs.size X.env.globals (cellsFrom (s3.heap.objs.size + 1) scope.names (cloFrom X.env.cells scope.names [])) X.env.qual none Value.none (some X.env) builtinsNs) = compEnvC scope cl C X.env := by
    rw [hcl, hC]
    rfl
  clear hs4
  generalize own.map (·.2) = vs at go IB w0
  obtain ⟨H3, hH3⟩ : ∃ H3, H3 = upd H1 p (SetO X.w p (fun _ => false) 0) := ⟨_, rfl⟩
  rw [← hH3] at IB I3 w0 hf3
  obtain ⟨XB, hXB⟩ : ∃ XB, XB = X.blk s3 H3 scope (compEnvC scope cl C X.env) fp := ⟨_, rfl⟩
  have fpk : ∀ G : Hp, ∀ b ∈ fp, G b = none → FpOk (X.blk s3 H3 scope (compEnvC scope cl C X.env) fp) [] G b := fun G b hb hn =>
    ⟨hn, (IB.ok.exf b hb).1, IB.ok.exfs b hb, .inl hb, (IB.ok.exf b hb).2, fun q hq => by cases hq⟩
  have back : ∀ (G : Hp) (s5 : Shared), L2.Inv (X.blk s3 H3 scope (compEnvC scope cl C X.env) fp) [] (wipe σ vs) G s5 → Q (.ref p) G →
      compPost (model X.prog X.w) X.A X.xe none (EP X pins σ Q) (.ref p) C (.ok .next) s5 := fun G s5 I5 hq => by
    have IX : L2.Inv X pins σ G s5 := I3.call' I5.os I5.base I5.hok I5.bare fun b hb => (hf3 b hb).1.2.2.2.imp id fun q => ⟨(hf3 b hb).1.2.1, q⟩
    obtain ⟨m, hm, _⟩ := I5.loc
    obtain ⟨q1, q2, _, q4, q5, q6⟩ := I3.fpOk (H' := G) (b := C) (by rw [hC]; exact Nat.le_refl _) I5.free
    exact ⟨m, hm, fun h' hb => ⟨.ref p, G, IX.turned (it := C) (fun b o hne ho => by rw [hb.2 b hne]; exact ho) q1 q2 q4 q5 q6, rfl, hq⟩⟩
  have loop : codeAny (model X.prog X.w) X.A (Code.compLoop (elt.SetComp [⟨tg, iter, [], 0⟩] scope pos) 0 (.ref it) (.ref p) (compEnvC scope cl C X.env)) (compPost (model X.prog X.w) X.A X.xe none (EP X pins σ Q) (.ref p) C) s4 := by
    refine PpSet.compLoopS_any (fun m st => ∃ i G, L2.Inv (X.blk s3 H3 scope (compEnvC scope cl C X.env) fp) [] (wipe σ vs) G st ∧ tn i st.heap ∧ (∀ b ∈ fp, G b = none) ∧ Wd i m G) ?_ m0 ⟨0, H3, IB, t4, fun b hb => (hf3 b hb).1.1, w0⟩
    rintro m st ⟨i, G, IG, tG, fG, wd⟩
    rcases go i m G wd with ⟨hst, hq⟩ | ⟨hgo, Aft, aft, nxt⟩
    · refine thnF (T.done (X.blk s3 H3 scope (compEnvC scope cl C X.env) fp) rfl rfl rfl hc i [] st _ G (fun _ _ => False) IG (fun b hb => fpk G b hb (fG b hb)) tG hst) fun r s5 h5 => ?_
      obtain ⟨rfl, I5⟩ := h5
      exact back G s5 I5 hq
    · refine thnF (T.item (X.blk s3 H3 scope (compEnvC scope cl C X.env) fp) rfl rfl rfl hc i [] st _ G (fun _ _ => False) IG (fun b hb => fpk G b hb (fG b hb)) tG hgo) fun r s5 h5 => ?_
      obtain ⟨u, rfl, h5⟩ := h5
      refine thnF h5 fun _ s6 h6 => ?_
      obtain ⟨x, G', I6, rx, hy, t6, f6⟩ := h6
      have P6 := I6.pinned (fun b hb => fpk G' b hb (f6 b hb)) (T.obj _ _ t6)
      refine thnF ((hg s3 H3 C cl fp).run _ s6 _ G' x u _ P6 rx (nxt x G' hy)) fun _ s7 h7 => ?_
      obtain ⟨σ2, G2, I7, hw2, h7⟩ := h7
      refine wpAny_pure ?_
      rw [if_pos rfl]
      refine thnF ((he s3 H3 C cl fp).run _ s7 σ2 G2 _ I7 h7) fun y s8 h8 => ?_
      obtain ⟨yv, G3, I8, ry, k, S, n, rfl, hS, hn, haft⟩ := h8
      refine thnF (mt_sadd (X := X.blk s3 H3 scope (compEnvC scope cl C X.env) fp) _ s8 σ2 G3 (.ref p) [.int k] (.ref p) [y] (fun _ G4 => G4 = upd G3 p (SetO X.w p (fun j => S j || decide (j = k)) (if S k = true then n else n + 1))) I8 rfl (.cons ry .nil) ⟨p, k, S, n, rfl, rfl, hS, hn, rfl⟩) fun _ s9 h9 => ?_
      obtain ⟨_, G4, I9, _, rfl⟩ := h9
      obtain ⟨l, hl, wd'⟩ := aft _ haft
      have pin9 : ∀ b ∈ fp, ∀ o, s6.heap.get? b = some o → s9.heap.get? b = some o ∧ upd G3 p (SetO X.w p (fun j => S j || decide (j = k)) (if S k = true then n else n + 1)) b = none := fun b hb o ho => by
        have := I9.pin (b, o) (List.mem_append_right _ (List.mem_append_right _ (mem_pinsAt hb ho)))
        exact ⟨this.1, this.2.1⟩
      refine ⟨l, hl, i + 1, _, I9.unpinned.weak ?_ ?_, T.keep _ _ _ t6 fun b hb o ho => (pin9 b hb o ho).1, fun b hb => ?_, wd'⟩
      · rw [← hw2, wipe_length]
      · intro j v hv
        rw [← hw2] at hv
        exact (wipe_some hv).1
      · obtain ⟨o, ho, _⟩ := T.obj _ _ t6 b hb
        exact (pin9 b hb o ho).2
  have fin := PpSet.codeAny_compStart_set loop (T.self _ 0 _ _ _ t4 loop)
  rw [← hcenv] at fin
  rw [hC] at fin
  exact fin
theorem pe_scI {X : Cx} {elt tg iter : Expr} {scope : Scope} {own : List (Str × Nat)} {pos : Pos} {wi : TI} {g : TG} {te : TE}
    (hc : X.calm = true) (hN : X.N.Nodup) (hw : PI X tg iter wi) (ok : BlkOk X.N X.env.scope scope own)
    (hg : ∀ (s : Shared) (H : Hp) (C : Addr) (cl : List (Str × Addr)) (fp : List Addr), PG (X.blk s H scope (compEnvC scope cl C X.env) fp) tg g)
    (he : ∀ (s : Shared) (H : Hp) (C : Addr) (cl : List (Str × Addr)) (fp : List Addr), PE (X.blk s H scope (compEnvC scope cl C X.env) fp) elt te)
    (hs : ∀ x, foldedSetIterable iter X.env x = pure x := by intro _; rfl) :
    PE X (.SetComp elt [⟨tg, iter, [], 0⟩] scope pos) (tSI X.w wi g te (own.map (·.2))) :=
  ⟨fun pins s σ H Q I t => by rw [PpSet.eval_SetComp]; exact sc_coreI hc hN I hw ok hg he hs t⟩
end Mp
set_option Elab.async false
set_option linter.all false
set_option maxRecDepth 100000
set_option maxHeartbeats 4000000
/-! sorted({elt for tg in iter}), whole numbers -/
namespace Mp
open PySem PySem.Spec L2
/-- each number once -/
def dd : List Int → List Int
  | [] => []
  | k :: ks => if k ∈ ks then dd ks else k :: dd ks
theorem dd_mem : ∀ {ks : List Int} {j : Int}, j ∈ dd ks ↔ j ∈ ks
  | [], j => by simp [dd]
  | k :: ks, j => by
    unfold dd
    split
    · rename_i h
      rw [dd_mem, List.mem_cons]
      exact ⟨.inr, fun q => q.elim (fun z => z ▸ h) id⟩
    · rw [List.mem_cons, List.mem_cons, dd_mem]
theorem dd_nodup : ∀ {ks : List Int}, (dd ks).Nodup
  | [] => by simp [dd]
  | k :: ks => by
    unfold dd
    split
    · exact dd_nodup
    · rename_i h
      exact List.nodup_cons.mpr ⟨fun q => h (dd_mem.mp q), dd_nodup⟩
theorem dd_len : ∀ {ks : List Int}, (dd ks).length ≤ ks.length
  | [] => by simp [dd]
  | k :: ks => by
    have := @dd_len ks
    unfold dd
    split
    · simp; omega
    · simp; omega
/-- the sorted list of what stands in ks -/
def setI (ks : List Int) : List Int := sortI (dd ks)
theorem setI_uniq {ks ns : List Int} (h1 : ns.Pairwise (· < ·)) (h2 : ∀ j, j ∈ ns ↔ j ∈ ks) : ns = setI ks := by
  have hn : ns.Nodup := h1.imp fun h => Int.ne_of_lt h
  have hp : ns.Perm (dd ks) := (List.perm_ext_iff_of_nodup hn dd_nodup).mpr fun j => by rw [h2, dd_mem]
  exact sorted_one (hp.trans (sortI_perm _).symm) (h1.imp fun h => Int.le_of_lt h) (sortI_sorted _)
def ssF (acc : List Int) (xs : List D) (e : Env) : Re D := match intsOf xs with
  | some is => if (dd (is.reverse ++ acc)).length < 64 then .ok (.lst ((setI (is.reverse ++ acc)).map D.int)) e else .no
  | none => .no
def mSS (own : List Nat) (mi : ML) (tg : MG) (elt : ME) : ME := fun env => (mi env).bind fun ds e => if ds.length ≤ 4000 then (lcF own tg tYesF elt ds e).nx fun xs e' => ssF [] xs e' else .no
theorem ssF_cons {acc : List Int} {x : D} {xs : List D} {e : Env} (h : ssF acc (x :: xs) e ≠ .no) : ∃ k, x = .int k ∧ ssF acc (x :: xs) e = ssF (k :: acc) xs e := by
  cases x with
  | int k =>
    refine ⟨k, rfl, ?_⟩
    unfold ssF
    simp only [intsOf]
    cases intsOf xs with
    | none => rfl
    | some is => simp
  | _ => exact absurd (by simp [ssF, intsOf]) h
theorem ssF_nil {acc : List Int} {e : Env} : ssF acc [] e = if (dd acc).length < 64 then .ok (.lst ((setI acc).map D.int)) e else .no := rfl
section
variable {g : Gc} {W : WX} {φ : Fc} {X : Cx} {k : Nat}
theorem iE {F : Hp} {σ : L2.St} {r : Re (List D)} {k : List D → Env → Re D} {Q : VK} {Q1 : It → Hp → Prop} (hp : PoE g W φ F σ Q (r.bind k))
    (h : ∀ ds e1 J H1 F1, Same F F1 → Rel g φ F1 σ H1 e1 → Walks g J F1 ds → PoE g W φ F1 σ Q (k ds e1) → Q1 J H1) : PoI g W φ F σ Q1 r := by
  cases r with
  | ok x e1 => exact fun v H1 F1 a b c => h x e1 v H1 F1 a b c (PoE.mono a hp)
  | exc c v e' => exact hp
  | no => exact hp
theorem se_sortSet {x : Str} {ws : List Nat} {elt tg iter : Expr} {scope : Scope} {own : List (Str × Nat)} {p pos pos' : Pos} {mi : ML} {mg : MG} {me : ME} (c : Cok g X W k) (hi : SI g W φ X tg iter mi) (ok : BlkOk X.N X.env.scope scope own)
    (hg : ∀ (s : Shared) (H : Hp) (C : Addr) (cl : List (Str × Addr)) (fp : List Addr) (φ : Fc), SG g φ (X.blk s H scope (compEnvC scope cl C X.env) fp) ws tg mg) (hws : ∀ i ∈ ws, i ∈ own.map (·.2))
    (he : ∀ (s : Shared) (H : Hp) (C : Addr) (cl : List (Str × Addr)) (fp : List Addr) (φ : Fc), SE g W0 φ (X.blk s H scope (compEnvC scope cl C X.env) fp) elt me)
    (hgl : Gl X x) (hm : X.mg x = none) (hv : bootBuiltins x = some (.builtin "sorted"))
    (hs : ∀ x, foldedSetIterable iter X.env x = pure x := by intro _; rfl)
    (hn : x ≠ "__name__" := by decide) (hdb : (x == ("__debug__" : Str)) = false := by decide) :
    SE g W φ X (.Call (.Name x p) [.SetComp elt [⟨tg, iter, [], 0⟩] scope pos] [] pos') (mSS (own.map (·.2)) mi mg me) := by
  intro F σ H env Q hr hp
  refine ⟨_, pe_callB (cr_sortedSet c.calm) hgl hm hv (pa_cons (pe_scI
    (g := fun v σ H Q => ∀ (s : Shared) (H' : Hp) (C : Addr) (cl : List (Str × Addr)) (fp : List Addr), wG (X.blk s H' scope (compEnvC scope cl C X.env) fp) tg v σ H Q)
    (te := fun σ H Q => ∀ (s : Shared) (H' : Hp) (C : Addr) (cl : List (Str × Addr)) (fp : List Addr), wE (X.blk s H' scope (compEnvC scope cl C X.env) fp) elt σ H Q)
    c.calm c.nd w_pi ok (fun s H C cl fp => ⟨fun pins s1 σ H1 v u Q I r h => w_pg.run pins s1 σ H1 v u Q I r (h s H C cl fp)⟩)
    (fun s H C cl fp => ⟨fun pins s1 σ H1 Q I h => w_pe.run pins s1 σ H1 Q I (h s H C cl fp)⟩) hs) pa_nil) hn hdb, ?_⟩
  refine hi F σ H env _ hr (iE hp fun ds e1 J H1 F1 s1 r1 w1 hp1 => ?_)
  generalize own.map (·.2) = vs at hp1 hws ⊢
  by_cases hz : ds.length ≤ 4000
  · rw [if_pos hz] at hp1
    intro p hp0
    let Rest : Hp → Nat → Env → List Int → Prop := fun F2 i env2 acc =>
      PoE g W φ F2 σ Q ((lcF vs mg tYesF me (ds.drop i) env2).nx fun xs e => ssF acc xs e)
    refine ⟨fun i m H2 => ∃ F2 env2 acc, Same F1 F2 ∧ Rel g φ F2 σ H2 env2 ∧ H2 p = some (SetO X.w p (fun j => decide (j ∈ acc)) (dd acc).length) ∧ F2 p = none ∧ φ.H0 p = none ∧ NotOwn σ env2 p ∧ Rest F2 i env2 acc ∧ acc.length ≤ i ∧ m = ds.length - i,
      ⟨ds.length, F1, e1, [], Same.refl _, r1.loose hp0, ?_, r1.ex.free hp0, r1.h0 hp0, r1.freshOwn hp0, hp1, Nat.le_refl _, rfl⟩, ?_⟩
    · rw [upd_same]
      simp [dd]
    rintro i m H2 ⟨F2, env2, acc, s2, r2, hpa, hpF, hp00, hpo, rest, hlen, rfl⟩
    obtain ⟨wgo, wstop⟩ := w1 φ F2 σ H2 env2 i s2 r2
    by_cases hl : i < ds.length
    · have ed : ds.drop i = ds[i] :: ds.drop (i + 1) := List.drop_eq_getElem_cons hl
      have rest' : PoE g W φ F2 σ Q ((lcF vs mg tYesF me (ds[i] :: ds.drop (i + 1)) env2).nx fun xs e => ssF acc xs e) := by
        have := rest
        simp only [Rest] at this
        rw [ed] at this
        exact this
      obtain ⟨go, yl⟩ := wgo ds[i] (List.getElem?_eq_getElem hl)
      refine .inr ⟨go, fun H' => ∃ F3 env3 acc, Same F1 F3 ∧ Rel g φ F3 σ H' env3 ∧ H' p = some (SetO X.w p (fun j => decide (j ∈ acc)) (dd acc).length) ∧ F3 p = none ∧ φ.H0 p = none ∧ NotOwn σ env3 p ∧ Rest F3 (i + 1) env3 acc ∧ acc.length ≤ i + 1,
        fun H' ⟨F3, env3, acc, a1, a2, a3, a4, a5, a6, a8, a9⟩ => ⟨_, by omega, F3, env3, acc, a1, a2, a3, a4, a5, a6, a8, a9, rfl⟩, fun x H' hy => ?_⟩
      obtain ⟨F3, s3, sH, nw, r3, p3⟩ := yl x H' hy
      have hpa' : H' p = some (SetO X.w p (fun j => decide (j ∈ acc)) (dd acc).length) := sH _ _ hpa
      have hpF' : F3 p = none := by
        cases ef : F3 p with
        | none => rfl
        | some o =>
          rcases nw p o ef with h | h
          · rw [hpF] at h; cases h
          · rw [hpa] at h; cases h
      unfold lcF at rest'
      by_cases hf : free_ vs env2 = true
      · rw [if_pos hf] at rest'
        have r4 := r3.enter hf
        cases et : mg ds[i] (enterE vs env2) with
        | none => rw [et] at rest'; exact rest'.elim
        | some e1' =>
          rw [et] at rest'
          simp only [tYesF, Re.nx, if_true] at rest'
          intro s5 H5 C5 cl5 fp5
          refine hg s5 H5 C5 cl5 fp5 (fcE σ env2 H' F3) F3 _ H' _ x ds[i] e1' _ r4 p3 et fun σ4 o4 r5 => ?_
          have hw := wipe_eq hws o4
          refine ⟨hw, ?_⟩
          intro s9 H9 C9 cl9 fp9
          cases ee' : me e1' with
          | exc c v e => rw [ee'] at rest'; exact rest'.elim
          | no => rw [ee'] at rest'; exact rest'.elim
          | ok xd e3 =>
            rw [ee'] at rest'
            simp only at rest'
            refine he s9 H9 C9 cl9 fp9 (fcE σ env2 H' F3) F3 σ4 H' e1' _ r5 ?_
            rw [ee']
            intro y H8 F8 s8 r8 py
            have q1 : Rel g φ F8 σ H8 (backE env2 e3) := r3.exit hf r8 hw s8
            have q2 : H8 p = some (SetO X.w p (fun j => decide (j ∈ acc)) (dd acc).length) := by
              refine r8.fr p _ hpa' fun q hq z => ?_
              obtain ⟨h1, b', xs', h2⟩ := mem_ioE.mp (show q ∈ ioE σ env2 from hq)
              exact hpo q.1 b' xs' q.2 h2 h1 z
            have q3 : F8 p = none := by
              cases ef : F8 p with
              | none => rfl
              | some o =>
                rcases r8.new p o ef with h | h
                · have h' : F3 p = some o := h
                  rw [hpF'] at h'; cases h'
                · have h' : H' p = none := h
                  rw [hpa'] at h'; cases h'
            have q4 : NotOwn σ (backE env2 e3) p := by
              intro j b' xs' a h1 h2
              obtain ⟨s0, s1, k1, k2, k3⟩ := backE_at h1
              cases s0 with
              | va d' => cases k3
              | un => cases k3
              | ow b0 xs0 => exact hpo j b0 xs0 a k1 h2
            cases el : lcF vs mg tYesF me (ds.drop (i + 1)) (backE env2 e3) with
            | no => rw [el] at rest'; exact rest'.elim
            | exc c v e => exact absurd el (lcF_exc _ _)
            | ok xs e4 =>
              rw [el] at rest'
              simp only [Re.nx] at rest'
              obtain ⟨k, rfl, ek⟩ := ssF_cons (acc := acc) (x := xd) (xs := xs) (e := e4) (fun h => by rw [h] at rest'; exact rest')
              have hd := @dd_len acc
              refine ⟨k, _, _, (by cases py; rfl), q2, by show (dd acc).length + 1 < 4096; omega, F8, _, k :: acc, s2.trans (s3.trans s8), q1.mut q3 hp00 q4, ?_, q3, hp00, q4, ?_, by simp; omega⟩
              · rw [upd_same]
                congr 2
                · funext j
                  by_cases a : j ∈ acc <;> by_cases b : j = k <;> simp [a, b]
                · simp only [decide_eq_true_eq, dd]
                  split <;> simp
              · refine PoE.mono (s3.trans s8) ?_
                show PoE g W φ F2 σ Q ((lcF vs mg tYesF me (ds.drop (i + 1)) (backE env2 e3)).nx fun xs e => ssF (k :: acc) xs e)
                rw [el]
                simp only [Re.nx]
                rw [← ek]
                exact rest'
      · rw [if_neg hf] at rest'
        exact rest'.elim
    · have ed : ds.drop i = [] := List.drop_eq_nil_of_le (by omega)
      have rest' : PoE g W φ F2 σ Q (ssF acc [] env2) := by
        have := rest
        simp only [Rest] at this
        rw [ed] at this
        exact this
      rw [ssF_nil] at rest'
      refine .inl ⟨wstop (by omega), ?_⟩
      by_cases h64 : (dd acc).length < 64
      · rw [if_pos h64] at rest'
        refine ⟨p, _, _, rfl, hpa, h64, fun ns p' hs hm hl' hn' => ?_⟩
        have en : ns = setI acc := setI_uniq hs fun j => by rw [hm]; simp
        subst en
        obtain ⟨s3, r3⟩ := r2.laid (o := .lst ((setI acc).map V.int)) hn'
        exact rest' _ _ _ s3 r3 (.mkLst upd_same (reps_ints g _ _))
      · rw [if_neg h64] at rest'
        exact rest'.elim
  · rw [if_neg hz] at hp1
    exact hp1.elim
end
end Mp
set_option Elab.async false
set_option linter.all false
set_option maxRecDepth 100000
set_option maxHeartbeats 4000000
/-! t[::-1], t a tuple; x in t, t a tuple of data -/
namespace Mp
open PySem PySem.Spec L2
theorem fm_map {α β : Type} {f : α → Option β} {q : α → β} : ∀ {l : List α}, (∀ m ∈ l, f m = some (q m)) → l.filterMap f = l.map q
  | [], _ => rfl
  | m :: l, h => by
    rw [List.filterMap_cons, h m (List.mem_cons_self ..), List.map_cons, fm_map fun x hx => h x (List.mem_cons_of_mem _ hx)]
theorem back_pick (xs : Array Value) : (List.filterMap (fun m : Nat => xs[((xs.size : Int) - 1 + (m : Int) * (-1)).toNat]?) (List.range xs.size)).toArray = xs.toList.reverse.toArray := by
  congr 1
  apply List.ext_getElem?
  intro i
  have e : List.filterMap (fun m : Nat => xs[((xs.size : Int) - 1 + (m : Int) * (-1)).toNat]?) (List.range xs.size) = (List.range xs.size).map fun m => xs.toList.getD (xs.size - 1 - m) .none := by
    refine fm_map fun m hm => ?_
    have hm := List.mem_range.mp hm
    have e1 : ((xs.size : Int) - 1 + (m : Int) * (-1)).toNat = xs.size - 1 - m := by omega
    rw [e1]
    have h2 : xs.size - 1 - m < xs.size := by omega
    simp [List.getD, h2]
  rw [e]
  by_cases hi : i < xs.size
  · rw [List.getElem?_map, List.getElem?_range hi, List.getElem?_reverse (by simpa using hi)]
    have h2 : xs.size - 1 - i < xs.size := by omega
    simp [List.getD, h2]
  · rw [List.getElem?_eq_none (by simp; omega), List.getElem?_eq_none (by simp; omega)]
section
variable {prog : Program} {w : World} {A : Around} {E : Value → Shared → Prop} {s : Shared}
theorem slice_back {sl : Addr} {tk : Tok} {n : Nat} {Q : Int × Int × Nat → Shared → Prop} (h : s.heap.IsSliceOf sl .none .none (.int (-1) tk)) (q : Q ((n : Int) - 1, -1, n) s) :
    wpAny (model prog w) A (Builtin.Slice.sliceApplied (.ref sl) (pure ↑n)) Q E s := by
  obtain ⟨o, h1, _, h3⟩ := h
  unfold Builtin.Slice.sliceApplied Builtin.Slice.sliceFields
  refine wpAny_bind (wpAny_bind (wpAny_field h1 h3 rfl (wpAny_bind (wpAny_field h1 h3 rfl (wpAny_bind (wpAny_field h1 h3 rfl (wpAny_pure ?_)))))))
  refine wpAny_bind (HT.slicePart_ (IsPart.int (-1) tk) ?_)
  simp only [Option.getD_some]
  rw [if_neg (by decide)]
  refine wpAny_bind (PyProof.Rows.slicePart_none (wpAny_bind (PyProof.Rows.slicePart_none (wpAny_bind (wpAny_pure (wpAny_pure ?_))))))
  have e : Builtin.Slice.slicePlaces ((n : Int) - 1) (-1) (-1) = n := by
    unfold Builtin.Slice.slicePlaces
    simp
    split <;> omega
  simpa [Builtin.Slice.sliceAdjust, e] using q
theorem getItem_back {t sl : Addr} {items : Array Value} {tk : Tok} {Q : Value → Shared → Prop} (h : PyProof.Rows.IsTup s.heap t items) (hs : s.heap.IsSliceOf sl .none .none (.int (-1) tk)) (hz : items.size ≤ sizeLine)
    (q : Q (.ref s.heap.objs.size) { s with heap := s.heap.push { cls := Value.type "tuple", data := Data.seq items.toList.reverse.toArray } }) :
    wpAny (model prog w) A (getItem (.ref t) (.ref sl)) Q E s := by
  have ty : s.TypeIs (.ref sl) "slice" := by
    obtain ⟨o, h1, h2, _⟩ := hs
    exact ⟨o, h1, h2⟩
  refine wpAny_holding (wpAny_bind (wpAny_sequenceKey h.typeIs (by decide) (wpAny_bind (wpAny_callSpecial?_slot h.typeIs PyProof.Rows.slot_tuple_getitem (wpAny_call_entry PyProof.Rows.slot_tuple_getitem h.typeIs PyProof.Rows.entry_tuple_getitem ?_ (PyProof.Rows.args_tuple_getitem _ _))))))
  refine wpAny_bind (wpAny_pure ?_)
  refine wpAny_bind (PyProof.Rows.tupleItemsOf_ h (wpAny_bind (wpAny_typeOf ty ?_)))
  rw [if_pos (by decide)]
  refine wpAny_bind (slice_back hs ?_)
  dsimp only
  rw [if_neg (by simp), back_pick]
  refine wpAny_bind (wpAny_newObj_type (wpAny_pure ⟨_, rfl, wpAny_pure q⟩) ?_)
  show _ ≤ sizeLine
  simpa using hz
end
def tRevT (K : PySem.W.Frag) (te : TE) : TE := fun σ H Q => te σ H fun x G => ∃ a xs, x = .ref a ∧ SqT K G a xs ∧ ∀ p, G p = none → Q (.ref p) (upd G p (.tup xs.reverse))
theorem pe_revT {X : Cx} {e : Expr} {te : TE} {k : Nat} {p1 p2 p3 pos : Pos} (h : PE X e te) : PE X (.Subscript e (.Slice none none (some (.UnaryOp .USub (.Constant (.int 1) k p1) p2)) p3) pos) (tRevT X.K te) := by
  refine ⟨fun pins s σ H Q I t => PyProof.Rows.Subscript_ (thn (h.run pins s σ H _ I t) fun u s1 h1 => ?_)⟩
  obtain ⟨v, H1, I1, rv, a, xs, rfl, hT, q⟩ := h1
  cases rv
  refine wpAny_Slice (thn (po_none.run pins s1 σ H1 (fun o G => o = none ∧ G = H1) I1 ⟨rfl, rfl⟩) fun u1 s2 h2 => ?_)
  obtain ⟨o1, G1, I2, ip1, rfl, rfl⟩ := h2
  cases ip1
  refine thn (po_none.run pins s2 σ G1 (fun o G => o = none ∧ G = G1) I2 ⟨rfl, rfl⟩) fun u2 s3 h3 => ?_
  obtain ⟨o2, G2, I3, ip2, rfl, rfl⟩ := h3
  cases ip2
  refine thn ((po_some (pe_un un_neg pe_int)).run pins s3 σ G2 (fun o G => o = some (-1) ∧ G = G2) I3 ⟨1, rfl, -1, rfl, rfl, rfl⟩) fun u3 s4 h4 => ?_
  obtain ⟨o3, G3, I4, ip3, rfl, rfl⟩ := h4
  cases ip3
  rename_i tk
  have I5 := I4.kept (h' := s4.heap.push { cls := Value.type "slice", data := Data.fields #[.none, .none, .int (-1) tk] }) (t' := s4.toks) fun b u hu => Heap.get?_push_of_some _ hu
  obtain ⟨its, vi, it, hz⟩ := I5.tuple hT
  have hz' : its.toArray.size ≤ sizeLine := by rw [List.size_toArray, ← vi.length]; exact hz
  refine PyProof.Rows.tail_any it.typeIs PyProof.Rows.slot_tuple_getitem.lookup (getItem_back it (Heap.IsSliceOf.new _ _ _ _) hz' ?_) rfl
  refine ⟨.ref _, _, I5.laid (o := .tup xs.reverse) (t' := s4.toks) (fun b u hu => Heap.get?_push_of_some _ hu) (Nat.le_refl _) ?_, rfl, q _ (I5.hok.fresh (Nat.le_refl _))⟩
  exact ⟨by simpa [← vi.length] using hz, its.reverse, vi.reverse, _, Heap.get?_push_size (ho := rfl) .., rfl, _, rfl⟩
/-- x in t: data -/
def inTF (neg : Bool) (x y : D) : Option D := match inF neg x y with
  | some z => some z
  | none => match y with
    | .tup ys => match toPys ys, toPy x with
      | some ps, some d => if (PyData.canLayAll0 ps && (d.canLay0 && decide (d.depth ≤ 40))) = true then some (.bl ((ps.any fun z => z.eqv d) != neg)) else none
      | _, _ => none
    | _ => none
theorem op_in_data {X : Cx} (hu : X.A.units + 64 < cLine) : OpR X (compareOp .In) (fun x y H Q => ∃ d ds, Dp X.K H x d ∧ Dp X.K H y (.tuple ds) ∧ PyData.canLayAll0 ds = true ∧ d.canLay0 = true ∧ d.depth ≤ 40 ∧ Q (.bl (ds.any fun z => z.eqv d)) H) := by
  rintro pins s σ H x y v u Q I rv ru ⟨d, ds, h1, h2, h3, h4, h5, q⟩
  obtain ⟨as, r1⟩ := Dp.reads I d x v h1 rv
  obtain ⟨bs, r2⟩ := Dp.reads I _ y u h2 ru
  refine PySem.SeqAt.in_tuple_reads r2 r1 h3 h4 ?_ ⟨.bl _, H, I, rfl, q⟩
  have := Nat.min_le_right (PyData.depthAll ds) d.depth
  omega
section
variable {g : Gc} {W : WX} {φ : Fc} {X : Cx} {k : Nat}
theorem op_inT_ (hK : X.K = g.K) (rm : Room k X.A) : OpS g φ (wO X (compareOp .In)) (inTF false) := by
  intro F σ H env v u x y z Q hr hx hy hf hq
  unfold inTF at hf
  cases e0 : inF false x y with
  | some z' =>
    simp only [e0, Option.some.injEq] at hf
    subst hf
    exact op_in_ hK F σ H env v u x y _ Q hr hx hy e0 hq
  | none =>
    simp only [e0] at hf
    cases y <;> simp only [reduceCtorEq] at hf
    rename_i ys
    cases e1 : toPys ys with
    | none => simp [e1] at hf
    | some ps =>
      cases e2 : toPy x with
      | none => simp [e1, e2] at hf
      | some d =>
        simp only [e1, e2] at hf
        by_cases hc : (PyData.canLayAll0 ps && (d.canLay0 && decide (d.depth ≤ 40))) = true
        · rw [if_pos hc] at hf
          cases hf
          simp only [Bool.and_eq_true, decide_eq_true_eq] at hc
          refine ⟨_, op_in_data rm.units, d, ps, hK ▸ hx.dp hr.ex e2, hK ▸ hy.dp hr.ex (by simp [toPy, e1]), hc.1, hc.2.1, hc.2.2, ?_⟩
          refine hq _ H F (Same.refl _) hr ?_
          rw [Bool.bne_false]
          exact .bl _
        · rw [if_neg hc] at hf
          cases hf
/-- a[::-1], a a tuple -/
def mRev (m : ME) : ME := fun env => (m env).bind fun d e => match d with
  | .tup xs => .ok (.tup xs.reverse) e
  | _ => .no
theorem Reps.reverse {F : Hp} {vs : List V} {ds : List D} (h : Reps g F vs ds) : Reps g F vs.reverse ds.reverse := by
  have hl := h.len
  refine ⟨by simpa using hl, fun i v d h1 h2 => ?_⟩
  have hi : i < vs.length := by
    have := List.getElem?_eq_some_iff.mp h1
    obtain ⟨q, _⟩ := this
    simpa using q
  rw [List.getElem?_reverse hi] at h1
  rw [List.getElem?_reverse (by omega), ← hl] at h2
  exact h.at_ _ _ _ h1 h2
theorem se_rev {a : Expr} {m : ME} {j : Nat} {p1 p2 p3 pos : Pos} (hK : X.K = g.K) (ha : SE g W φ X a m) :
    SE g W φ X (.Subscript a (.Slice none none (some (.UnaryOp .USub (.Constant (.int 1) j p1) p2)) p3) pos) (mRev m) := by
  intro F σ H env Q hr hp
  refine ⟨_, pe_revT w_pe, ha F σ H env _ hr ?_⟩
  unfold mRev at hp
  cases e : m env with
  | exc c v e' => rw [e] at hp; exact hp
  | no => rw [e] at hp; exact hp
  | ok d e' =>
    rw [e] at hp
    cases d <;> try exact hp.elim
    rename_i xs
    intro v H1 F1 s1 r1 p1
    obtain ⟨a, vs, rfl, h1, h2⟩ := (RepH.of p1).tup r1.ex
    refine ⟨a, vs, rfl, hK ▸ h1, fun p hn => ?_⟩
    obtain ⟨s2, r2⟩ := r1.laid (o := .tup vs.reverse) hn
    exact hp _ _ _ (s1.trans s2) r2 (.mkTup upd_same ((Reps.reverse h2).mono s2))
end
end Mp
set_option Elab.async false
set_option linter.all false
set_option maxRecDepth 100000
set_option maxHeartbeats 4000000
/-! where a def with defaults stands -/
namespace Mp
open PySem PySem.Spec L2
structure FnAtD (g : Gc) (mg : Str → Option Value) (x qual : Str) (st : Stmt) (ps : List Str) (ds : List D) : Prop where
  ex : ∃ (f : Addr) (fd : FuncData) (vs : List V) (us : List Value), FunD g.K x qual (defArgs st) (defBody st) (defScope st) vs [] f fd ∧ mg x = some (.ref f) ∧ Binds g.K fd ps [] ∧ (Vals vs us ∧ Binds g.K fd ps us) ∧ ∀ F, Reps g F vs ds
section
variable {P : Program} {w : World} {mg : Str → Option Value} {base : Heap} {g : Gc} {k : Nat}
theorem has_ofD {x qual : Str} {st : Stmt} {N ps : List Str} {body : MS} {ds : List D} (A : FnAtD g mg x qual st ps ds) (S : FnScope N ps (defScope st)) (hl : ps.length ≤ N.length)
    (hbody : ∀ {f : Addr} (cdv : Value) (A : Around) (outer : List PySem.Env) (s : Shared) (H : Hp) (E : XK) (φ : Fc), Cok g (cxOf (L2.CX P w) P w g.K mg base N qual (defScope st) f cdv A outer s H E) (fun cls d _ H => E cls d H) k →
      SB g (fun cls d _ H => E cls d H) φ (cxOf (L2.CX P w) P w g.K mg base N qual (defScope st) f cdv A outer s H E) (defBody st) body) :
    Has P w mg base g (k + 1) x (fnOf ps.length N.length body) ∧ HasD P w mg base g (k + 1) x ds (fnOf ps.length N.length body) := by
  obtain ⟨f, fd, vs, us, Fu, hm, hb, ⟨hv, hd⟩, hr⟩ := A.ex
  have Fo := def_okD Fu S hl (hbody (f := f))
  exact ⟨⟨f, fd, ps, Fo, hm, Fu.kp, hb⟩, ⟨f, fd, ps, vs, us, Fo, hm, Fu.kp, hv, hd, hr⟩⟩
theorem fnAtD_int {x qual : Str} {st : Stmt} {ps : List Str} {f T : Addr} {n : Nat} {c : Int} {tk : Tok} {oc oc2 kV dc pm cd ct : Value} {od od2 an : Option Addr} {sl sl2 : Array (Option Value)} {nn : Nat}
    (hl : g.K.lookup f = some ⟨oc, od, .func (PySem.W.fnOf x qual (defArgs st) (defBody st) (defScope st) (.ref T) kV dc pm an cd ct), sl⟩) (hc : PySem.W.codeIn g.K cd qual = true) (hk : PySem.W.keepIn g.K (.ref f) = true)
    (hT : g.K.lookup T = some ⟨oc2, od2, .seq #[.int c tk] nn, sl2⟩) (hm : mg x = some (.ref f)) (hn : n + 1 = ps.length)
    (h0 : ∀ (s : Shared) (us : List Value), us.length = ps.length → BindsTo s (PySem.W.fnOf x qual (defArgs st) (defBody st) (defScope st) (.ref T) kV dc pm an cd ct) ⟨us, []⟩ (ps.zip us))
    (h1 : ∀ (T : Addr) (kV doc pm : Value) (an : Option Addr) (cdv ct : Value) (us its : List Value), us.length = n → its.length = 1 →
      ∃ k, bindArgs (PySem.W.fnOf x qual (defArgs st) (defBody st) (defScope st) (.ref T) kV doc pm an cdv ct) { pos := us } = seqItems? (.ref T) >>= k ∧ k (some its.toArray) = pure (ps.zip (us ++ List.drop 0 its))) :
    FnAtD g mg x qual st ps [.int c] := by
  have Fu : FunD g.K x qual (defArgs st) (defBody st) (defScope st) [.int c] [] f _ := ⟨⟨_, _, _, _, _, _, _, _, _, _, rfl, hl, hc, .inr ⟨by simp, T, _, [.int c tk], nn, rfl, hT, rfl, .cons ⟨_, rfl⟩ .nil⟩, .inl rfl⟩, hk⟩
  obtain ⟨us, hv, hb⟩ := Fu.binds1 (ps := ps) n 0 (by simp) (by simpa using hn) h1
  refine ⟨f, _, [.int c], us, Fu, hm, fun s us _ hl => ?_, ⟨hv, hb⟩, fun F => ⟨rfl, fun i v d a b => ?_⟩⟩
  · simp only [List.append_nil] at hl ⊢
    exact h0 s us hl
  · cases i with
    | zero =>
      cases a
      cases b
      exact .int _
    | succ i => simp at a
end
end Mp
set_option Elab.async false
set_option linter.all false
set_option maxRecDepth 100000
set_option maxHeartbeats 4000000
/-! a test that reads a list of one's own: it is lent as a settled one, all else stands still -/
namespace Mp
open PySem PySem.Spec L2
def onlyVa : Sl → Sl
  | .va d => .va d
  | _ => .un
def lendE (env : Env) (i : Nat) (xs : List D) : Env := (env.map onlyVa).set i (.va (.lst xs))
def mLend (i : Nat) (m : ME) : ME := fun env => match env[i]? with
  | some (.ow _ xs) => match m (lendE env i xs) with
    | .ok (.bl t) _ => .ok (.bl t) env
    | _ => .no
  | _ => .no
section
variable {g : Gc} {W : WX} {φ : Fc} {X : Cx} {k : Nat} {F F' : Hp} {σ : L2.St} {H H' : Hp} {env : Env}
theorem Rel.lend {i : Nat} {xs : List D} {a : Addr} {vs : List V} (r : Rel g φ F σ H env) (hs : σ[i]? = some (some (.ref a))) (ha : H a = some (.lst vs)) (hF : F a = none) (hv : Reps g F vs xs) :
    Rel g ⟨[], H, upd F a (.lst vs)⟩ (upd F a (.lst vs)) σ H (lendE env i xs) := by
  have sF : Same F (upd F a (.lst vs)) := same_new hF
  refine Rel.fresh (fun b o e => ?_) (by simp [lendE, r.len]) (fun j d e => ?_) ?_
  · by_cases hb : b = a
    · subst hb
      rw [upd_same] at e
      cases e
      exact ha
    · rw [upd_ne hb] at e
      exact r.ex b o e
  · unfold lendE at e
    by_cases hj : i = j
    · subst hj
      have hlen : i < (env.map onlyVa).length := by
        have := (List.getElem?_eq_some_iff.mp hs).1
        rw [r.len] at this
        simpa using this
      rw [List.getElem?_set_self hlen] at e
      cases e
      exact ⟨_, hs, .mkLst upd_same (hv.mono sF)⟩
    · rw [List.getElem?_set_ne hj, List.getElem?_map, Option.map_eq_some_iff] at e
      obtain ⟨s, h1, h2⟩ := e
      cases s with
      | un => cases h2
      | ow b xs => cases h2
      | va d' =>
        cases h2
        obtain ⟨v, q1, q2⟩ := r.va j d h1
        exact ⟨v, q1, q2.mono sF⟩
  · unfold noOw lendE
    rw [List.all_eq_true]
    intro s hs
    rcases List.mem_or_eq_of_mem_set hs with h | h
    · obtain ⟨t, _, rfl⟩ := List.mem_map.mp h
      cases t <;> rfl
    · subst h
      rfl
theorem Rel.unlend {F1 F2 : Hp} {e' : Env} (r : Rel g φ F σ H env) (r' : Rel g ⟨[], H, F1⟩ F2 σ H' e') : Rel g φ F σ H' env := by
  have keep : ∀ b o, H b = some o → H' b = some o := fun b o h => r'.fr b o h fun q hq => by cases hq
  exact ⟨fun b o e => keep _ _ (r.ex b o e), r.ex0, r.new, fun b o e hb => keep _ _ (r.fr b o e hb), r.len, r.va, fun i b xs e => by
    obtain ⟨a, vs, h1, h2, h3⟩ := r.ow i b xs e
    exact ⟨a, vs, h1, keep _ _ h2, h3⟩, r.dj, r.ioh⟩
theorem se_lend {i : Nat} {e : Expr} {m : ME} (h : ∀ φ, SE g W φ X e m) : SE g W φ X e (mLend i m) := by
  intro F σ H env Q hr hp
  unfold mLend at hp
  cases e0 : env[i]? with
  | none => rw [e0] at hp; exact hp.elim
  | some s =>
    rw [e0] at hp
    cases s with
    | un => exact hp.elim
    | va d => exact hp.elim
    | ow b xs =>
      obtain ⟨a, vs, h1, h2, h3, h4, _⟩ := hr.ow i b xs e0
      refine h _ _ σ H _ Q (hr.lend h1 h2 h3 h4) ?_
      simp only at hp
      cases em : m (lendE env i xs) with
      | no => rw [em] at hp; exact hp.elim
      | exc c v e' => rw [em] at hp; exact hp.elim
      | ok d e' =>
        rw [em] at hp
        cases d <;> try exact hp.elim
        rename_i t
        intro v H1 F1 s1 r1 p1
        cases p1
        exact hp _ _ _ (Same.refl _) (hr.unlend r1) (.bl t)
def mLendT (i : Nat) (m : MT) : MT := fun env => match env[i]? with
  | some (.ow _ xs) => match m (lendE env i xs) with
    | .ok t _ => .ok t env
    | _ => .no
  | _ => .no
theorem st_lend {i : Nat} {e : Expr} {m : MT} (h : ∀ φ, ST g W φ X e m) : ST g W φ X e (mLendT i m) := by
  intro F σ H env Q hr hp
  unfold mLendT at hp
  cases e0 : env[i]? with
  | none => rw [e0] at hp; exact hp.elim
  | some s =>
    rw [e0] at hp
    cases s with
    | un => exact hp.elim
    | va d => exact hp.elim
    | ow b xs =>
      obtain ⟨a, vs, h1, h2, h3, h4, _⟩ := hr.ow i b xs e0
      refine h _ _ σ H _ Q (hr.lend h1 h2 h3 h4) ?_
      simp only at hp
      cases em : m (lendE env i xs) with
      | no => rw [em] at hp; exact hp.elim
      | exc c v e' => rw [em] at hp; exact hp.elim
      | ok t e' =>
        rw [em] at hp
        intro H1 F1 s1 r1
        exact hp _ _ (Same.refl _) (hr.unlend r1)
end
end Mp
set_option Elab.async false
set_option linter.all false
set_option maxRecDepth 100000
set_option maxHeartbeats 4000000
/-! a def with one default, called with all or without the last -/
namespace Mp
open PySem PySem.Spec L2
theorem fnAtD_one {g : Gc} {mg : Str → Option Value} {x qual : Str} {st : Stmt} {ps : List Str} {f T : Addr} {n : Nat} {c : Int} {tk : Tok} {oc oc2 kV dc pm cd ct : Value} {od od2 an : Option Addr} {sl sl2 : Array (Option Value)} {nn : Nat}
    (hl : g.K.lookup f = some ⟨oc, od, .func (PySem.W.fnOf x qual (defArgs st) (defBody st) (defScope st) (.ref T) kV dc pm an cd ct), sl⟩) (hc : PySem.W.codeIn g.K cd qual = true) (hk : PySem.W.keepIn g.K (.ref f) = true)
    (hT : g.K.lookup T = some ⟨oc2, od2, .seq #[.int c tk] nn, sl2⟩) (hm : mg x = some (.ref f)) (hn : n + 1 = ps.length)
    (h0 : ∀ (T : Addr) (kV doc pm : Value) (an : Option Addr) (cdv ct : Value) (us its : List Value), us.length = ps.length → its.length = 1 →
      ∃ k, bindArgs (PySem.W.fnOf x qual (defArgs st) (defBody st) (defScope st) (.ref T) kV doc pm an cdv ct) { pos := us } = seqItems? (.ref T) >>= k ∧ k (some its.toArray) = pure (ps.zip (us ++ List.drop 1 its)))
    (h1 : ∀ (T : Addr) (kV doc pm : Value) (an : Option Addr) (cdv ct : Value) (us its : List Value), us.length = n → its.length = 1 →
      ∃ k, bindArgs (PySem.W.fnOf x qual (defArgs st) (defBody st) (defScope st) (.ref T) kV doc pm an cdv ct) { pos := us } = seqItems? (.ref T) >>= k ∧ k (some its.toArray) = pure (ps.zip (us ++ List.drop 0 its))) :
    FnAtD g mg x qual st ps [.int c] := by
  have Fu : FunD g.K x qual (defArgs st) (defBody st) (defScope st) [.int c] [] f _ := ⟨⟨_, _, _, _, _, _, _, _, _, _, rfl, hl, hc, .inr ⟨by simp, T, _, [.int c tk], nn, rfl, hT, rfl, .cons ⟨_, rfl⟩ .nil⟩, .inl rfl⟩, hk⟩
  obtain ⟨us, hv, hb⟩ := Fu.binds1 (ps := ps) n 0 (by simp) (by simpa using hn) h1
  obtain ⟨vs, hw, hb0⟩ := Fu.binds1 (ps := ps) ps.length 1 (by simp) (by simp) h0
  have hn0 : vs = [] := by
    have := hw.length
    simp at this
    exact List.eq_nil_of_length_eq_zero this.symm
  subst hn0
  refine ⟨f, _, [.int c], us, Fu, hm, hb0, ⟨hv, hb⟩, fun F => ⟨rfl, fun i v d a b => ?_⟩⟩
  cases i with
  | zero =>
    cases a
    cases b
    exact .int _
  | succ i => simp at a
end Mp
set_option Elab.async false
set_option linter.all false
set_option maxRecDepth 100000
set_option maxHeartbeats 4000000
namespace K10
open PySem PySem.Spec PyProof.Rows L2 Mp
/-! the text by places -/
def topS (i : Nat) : Stmt := PySem.Challenge.pw_promisedesk_k10_tickets_that_come.main.body.getD i (.Pass ⟨0, 0, 0, 0⟩)
/-- what the walk asks of the module's names -/
structure Txt (g : Gc) (mg : Str → Option Value) : Prop where
  z_all : mg "all" = none
  z_bool : mg "bool" = none
  z_enumerate : mg "enumerate" = none
  z_int : mg "int" = none
  z_isinstance : mg "isinstance" = none
  z_len : mg "len" = none
  z_list : mg "list" = none
  z_min : mg "min" = none
  z_range : mg "range" = none
  z_sorted : mg "sorted" = none
  z_str : mg "str" = none
  z_tuple : mg "tuple" = none
  z_zip : mg "zip" = none
  v_JOINS : ∃ t, mg "JOINS" = some (.int 4 t)
  v_MOST_AGENTS : ∃ t, mg "MOST_AGENTS" = some (.int 3 t)
  v_MOST_ARCS : ∃ t, mg "MOST_ARCS" = some (.int 4 t)
  v_MOST_COMING : ∃ t, mg "MOST_COMING" = some (.int 3 t)
  v_MOST_KINDS : ∃ t, mg "MOST_KINDS" = some (.int 3 t)
  v_MOST_PROMISE : ∃ t, mg "MOST_PROMISE" = some (.int 12 t)
  v_MOST_STATES : ∃ t, mg "MOST_STATES" = some (.int 8 t)
  v_MOST_TICKETS_AHEAD : ∃ t, mg "MOST_TICKETS_AHEAD" = some (.int 37 t)
  v_MOST_WORK : ∃ t, mg "MOST_WORK" = some (.int 4 t)
  v_PROMISE : ∃ t, mg "PROMISE" = some (.int 1 t)
  v_WORK : ∃ t, mg "WORK" = some (.int 0 t)
  c_Desk : ∃ C, mg "Desk" = some (.ref C) ∧ g.cl "Desk" = some (C, (["_agents", "_kinds"] : List Str))
  c_Stream : ∃ C, mg "Stream" = some (.ref C) ∧ g.cl "Stream" = some (C, (["_states"] : List Str))
  is_Desk : HasIs g "Desk"
  is_Stream : HasIs g "Stream"
  co_Stream : ∃ C, ClO g "Stream" C ["_states"]
abbrev s_BadValue_init : Stmt := inClass (topS 2) 0
theorem sc_BadValue_init : FnScope ["self", "at"] ["self", "at"] (defScope s_BadValue_init) := ⟨rfl, rfl, rfl, by decide +kernel, rfl, by decide +kernel, by decide +kernel⟩
theorem x_BadValue {P : Program} {w : World} {mg : Str → Option Value} {base : Heap} {g : Gc} {C fI B : Addr} {mc : Value} {fd : FuncData} (Z : ExC g.K C "at") (iC : PySem.W.findIn g.K (.ref C) "__init__" = some (some (.ref fI))) (tI : PySem.W.typeIn g.K (.ref fI) = some (.type "function"))
    (Fu : Fun g.K "__init__" "BadValue.__init__" s_BadValue_init fI fd) (hb : Binds g.K fd ["self", "at"] []) (hm : mg "BadValue" = some (.ref C)) (hx : g.xc "BadValue" = some (C, ("at" : Str))) (Y : BaseT g.K mg "DeskError" B mc) : HasX P w mg base g 1 "BadValue" := by
  refine ⟨C, fI, fd, ["self", "at"], "at", Z, iC, tI, Fu.okX sc_BadValue_init (fun vs H Q E h => ?_) (fun cdv A outer s H vs Q E hr h => ?_), hb, hm, hx⟩
  · obtain ⟨a, C', v, e, _⟩ := h
    rw [e]
    rfl
  · obtain ⟨a, C', v, e, Z', ha, hv, q⟩ := h
    subst e
    refine ⟨_, pss_cons (ps_expr (pe_binit (by rfl) Y (pa_cons (pv 0) (pa_cons (pe_joined (PJ.cons pe_str (PJ.cons (pe_fmt (pv 1)) PJ.nil))) pa_nil)))) (pss_one (ps_first (pv 0) (pv 1))), ?_⟩
    refine ⟨.ref a, rfl, fmt_parts (i := 1) hv (by decide) rfl fun z => ?_⟩
    exact ⟨a, C', [.str z], "at", rfl, by simp, Z', ha, v, rfl, .ref a, rfl, a, C', rfl, Z', ha, fun dx h1 h2 => q dx h1 h2⟩
abbrev s_BadKind_init : Stmt := inClass (topS 3) 0
theorem sc_BadKind_init : FnScope ["self", "at"] ["self", "at"] (defScope s_BadKind_init) := ⟨rfl, rfl, rfl, by decide +kernel, rfl, by decide +kernel, by decide +kernel⟩
theorem x_BadKind {P : Program} {w : World} {mg : Str → Option Value} {base : Heap} {g : Gc} {C fI B : Addr} {mc : Value} {fd : FuncData} (Z : ExC g.K C "at") (iC : PySem.W.findIn g.K (.ref C) "__init__" = some (some (.ref fI))) (tI : PySem.W.typeIn g.K (.ref fI) = some (.type "function"))
    (Fu : Fun g.K "__init__" "BadKind.__init__" s_BadKind_init fI fd) (hb : Binds g.K fd ["self", "at"] []) (hm : mg "BadKind" = some (.ref C)) (hx : g.xc "BadKind" = some (C, ("at" : Str))) (Y : BaseT g.K mg "DeskError" B mc) : HasX P w mg base g 1 "BadKind" := by
  refine ⟨C, fI, fd, ["self", "at"], "at", Z, iC, tI, Fu.okX sc_BadKind_init (fun vs H Q E h => ?_) (fun cdv A outer s H vs Q E hr h => ?_), hb, hm, hx⟩
  · obtain ⟨a, C', v, e, _⟩ := h
    rw [e]
    rfl
  · obtain ⟨a, C', v, e, Z', ha, hv, q⟩ := h
    subst e
    refine ⟨_, pss_cons (ps_expr (pe_binit (by rfl) Y (pa_cons (pv 0) (pa_cons (pe_joined (PJ.cons pe_str (PJ.cons (pe_fmt (pv 1)) PJ.nil))) pa_nil)))) (pss_one (ps_first (pv 0) (pv 1))), ?_⟩
    refine ⟨.ref a, rfl, fmt_parts (i := 1) hv (by decide) rfl fun z => ?_⟩
    exact ⟨a, C', [.str z], "at", rfl, by simp, Z', ha, v, rfl, .ref a, rfl, a, C', rfl, Z', ha, fun dx h1 h2 => q dx h1 h2⟩
abbrev s_BadState_init : Stmt := inClass (topS 4) 0
theorem sc_BadState_init : FnScope ["self", "at"] ["self", "at"] (defScope s_BadState_init) := ⟨rfl, rfl, rfl, by decide +kernel, rfl, by decide +kernel, by decide +kernel⟩
theorem x_BadState {P : Program} {w : World} {mg : Str → Option Value} {base : Heap} {g : Gc} {C fI B : Addr} {mc : Value} {fd : FuncData} (Z : ExC g.K C "at") (iC : PySem.W.findIn g.K (.ref C) "__init__" = some (some (.ref fI))) (tI : PySem.W.typeIn g.K (.ref fI) = some (.type "function"))
    (Fu : Fun g.K "__init__" "BadState.__init__" s_BadState_init fI fd) (hb : Binds g.K fd ["self", "at"] []) (hm : mg "BadState" = some (.ref C)) (hx : g.xc "BadState" = some (C, ("at" : Str))) (Y : BaseT g.K mg "DeskError" B mc) : HasX P w mg base g 1 "BadState" := by
  refine ⟨C, fI, fd, ["self", "at"], "at", Z, iC, tI, Fu.okX sc_BadState_init (fun vs H Q E h => ?_) (fun cdv A outer s H vs Q E hr h => ?_), hb, hm, hx⟩
  · obtain ⟨a, C', v, e, _⟩ := h
    rw [e]
    rfl
  · obtain ⟨a, C', v, e, Z', ha, hv, q⟩ := h
    subst e
    refine ⟨_, pss_cons (ps_expr (pe_binit (by rfl) Y (pa_cons (pv 0) (pa_cons (pe_joined (PJ.cons pe_str (PJ.cons (pe_fmt (pv 1)) PJ.nil))) pa_nil)))) (pss_one (ps_first (pv 0) (pv 1))), ?_⟩
    refine ⟨.ref a, rfl, fmt_parts (i := 1) hv (by decide) rfl fun z => ?_⟩
    exact ⟨a, C', [.str z], "at", rfl, by simp, Z', ha, v, rfl, .ref a, rfl, a, C', rfl, Z', ha, fun dx h1 h2 => q dx h1 h2⟩
abbrev s_law_numbers : Stmt := topS 46
abbrev N_law_numbers : List Str := ["script", "row", "cell", "left", "k", "mixed"]
theorem sc_law_numbers : FnScope N_law_numbers ["script"] (defScope s_law_numbers) := ⟨rfl, rfl, rfl, by decide +kernel, rfl, by decide +kernel, by decide +kernel⟩
def b_law_numbers : MS :=
    (mSeq (mSetO 1 (lLst aNil))
    (mSeq (mFor (lSeq (mCut (mOwn 0) oNone (oSome (mC (.int 63))))) (putG 2)
    (mIfS (mBin geF (mOwn 2) (vOf (mBin powF (vOf (mC (.int 10))) (vOf (mC (.int 18)))))) (mSeq (mSet 3 (mVar 2))
    (mFor (lRange1 (mC (.int 60))) (putG 4)
    (mSeq (mIfS (mBin eqF (mOwn 3) (vOf (mC (.int 0)))) mBreak mNext)
    (mSeq (mAppend 1 (mBin modF (vOf (mCall intF (aCons (mOwn 3) aNil))) (vOf (mC (.int 997)))))
    (mSet 3 (mBin fdivF (mOwn 3) (vOf (mC (.int 997))))))))) (mFor (lRange1 (mC (.int 4))) (putG 4)
    (mSeq (mSet 5 (mBin modF (vOf (mCall intF (aCons (vOf (mBin addF (vOf (mBin addF (vOf (mBin mulF (mOwn 2) (vOf (mC (.int 48271))))) (vOf (mBin mulF (mOwn 4) (vOf (mC (.int 69621))))))) (vOf (mC (.int 11))))) aNil))) (vOf (mC (.int 2147483647)))))
    (mAppend 1 (mBin modF (vOf (mCall intF (aCons (vOf (mBin addF (vOf (mBin mulF (mOwn 5) (vOf (mC (.int 16807))))) (mOwn 4))) aNil))) (vOf (mC (.int 2147483629)))))))))
    (mSeq (mIfS (mBin eqF (vOf (mCall lenF (aCons (mOwn 1) aNil))) (vOf (mC (.int 0)))) (mAppend 1 (mC (.int 0))) mNext)
    (retOwn 1))))
def fn_law_numbers : Fn := fnOf 1 6 b_law_numbers
theorem ok_law_numbers {P : Program} {w : World} {mg : Str → Option Value} {base : Heap} {g : Gc} (T : Txt g mg) (A : FnAt g mg "_law_numbers" "_law_numbers" s_law_numbers ["script"]) : Has P w mg base g 1 "_law_numbers" fn_law_numbers := by
  refine has_of (k := 1 - 1) (N := N_law_numbers) A sc_law_numbers (by decide) (fun cdv A outer s H E φ c => ?_)
  exact (sb_cons (ss_setO (i := 1) c.nd (sl_lst sa_nil))
    (sb_cons (ss_for c (si_seq c.K (se_cut c.K (sv_own 0) so_none (so_some se_int))) (sg_name (i := 2) c.nd)
    (sb_one (ss_if (st_cmp op_ge_ (sv_own 2) (sv_of (se_bin op_pow_ (sv_of se_int) (sv_of se_int)))) (sb_cons (ss_set (i := 3) c.nd (se_var 2))
    (sb_one (ss_for c (si_range1 se_int (by rfl) T.z_range) (sg_name (i := 4) c.nd)
    (sb_cons (ss_if (st_cmp (op_eq_ c.K c.rm) (sv_own 3) (sv_of se_int)) (sb_one ss_break) sb_nil)
    (sb_cons (ss_append 1 (se_bin op_mod_ (sv_of (se_callT ca_int (by rfl) T.z_int (by decide +kernel) (sa_cons (sv_own 3) sa_nil))) (sv_of se_int)))
    (sb_one (ss_set (i := 3) c.nd (se_bin op_fdiv_ (sv_own 3) (sv_of se_int))))))))) (sb_one (ss_for c (si_range1 se_int (by rfl) T.z_range) (sg_name (i := 4) c.nd)
    (sb_cons (ss_set (i := 5) c.nd (se_bin op_mod_ (sv_of (se_callT ca_int (by rfl) T.z_int (by decide +kernel) (sa_cons (sv_of (se_bin (op_add_ c.K) (sv_of (se_bin (op_add_ c.K) (sv_of (se_bin op_mul_ (sv_own 2) (sv_of se_int))) (sv_of (se_bin op_mul_ (sv_own 4) (sv_of se_int))))) (sv_of se_int))) sa_nil))) (sv_of se_int)))
    (sb_one (ss_append 1 (se_bin op_mod_ (sv_of (se_callT ca_int (by rfl) T.z_int (by decide +kernel) (sa_cons (sv_of (se_bin (op_add_ c.K) (sv_of (se_bin op_mul_ (sv_own 5) (sv_of se_int))) (sv_own 4))) sa_nil))) (sv_of se_int))))))))))
    (sb_cons (ss_if (st_cmp (op_eq_ c.K c.rm) (sv_of (se_callB (ca_len c.K) (by rfl) T.z_len (by decide +kernel) (sa_cons (sv_own 1) sa_nil))) (sv_of se_int)) (sb_one (ss_append 1 se_int)) sb_nil)
    (sb_one (ss_retOwn 1)))))
abbrev s_law_draw : Stmt := topS 47
abbrev N_law_draw : List Str := ["row", "at", "limit", "mixed"]
theorem sc_law_draw : FnScope N_law_draw ["row", "at", "limit"] (defScope s_law_draw) := ⟨rfl, rfl, rfl, by decide +kernel, rfl, by decide +kernel, by decide +kernel⟩
def b_law_draw : MS :=
    (mSeq (mIfS (mBin ltF (mOwn 1) (vOf (mCall lenF (aCons (mOwn 0) aNil)))) (mRet (mBin modF (vOf (mCall intF (aCons (vOf (mBin atF (mOwn 0) (mOwn 1))) aNil))) (mOwn 2))) mNext)
    (mSeq (mSet 3 (mBin modF (vOf (mCall intF (aCons (vOf (mBin addF (vOf (mBin addF (vOf (mBin mulF (vOf (mBin atF (mOwn 0) (vOf (mBin modF (vOf (mCall intF (aCons (mOwn 1) aNil))) (vOf (mCall lenF (aCons (mOwn 0) aNil))))))) (vOf (mC (.int 40692))))) (vOf (mBin mulF (mOwn 1) (vOf (mC (.int 7919))))))) (vOf (mC (.int 3))))) aNil))) (vOf (mC (.int 2147483399)))))
    (mRet (mBin modF (vOf (mCall intF (aCons (vOf (mBin modF (vOf (mCall intF (aCons (vOf (mBin addF (vOf (mBin mulF (mOwn 3) (vOf (mC (.int 48271))))) (mOwn 1))) aNil))) (vOf (mC (.int 2147483647))))) aNil))) (mOwn 2)))))
def fn_law_draw : Fn := fnOf 3 4 b_law_draw
theorem ok_law_draw {P : Program} {w : World} {mg : Str → Option Value} {base : Heap} {g : Gc} (T : Txt g mg) (A : FnAt g mg "_law_draw" "_law_draw" s_law_draw ["row", "at", "limit"]) : Has P w mg base g 1 "_law_draw" fn_law_draw := by
  refine has_of (k := 1 - 1) (N := N_law_draw) A sc_law_draw (by decide) (fun cdv A outer s H E φ c => ?_)
  exact (sb_cons (ss_if (st_cmp op_lt_ (sv_own 1) (sv_of (se_callB (ca_len c.K) (by rfl) T.z_len (by decide +kernel) (sa_cons (sv_own 0) sa_nil)))) (sb_one (ss_ret (se_bin op_mod_ (sv_of (se_callT ca_int (by rfl) T.z_int (by decide +kernel) (sa_cons (sv_of (se_ix (ix_at_ c.K) (sv_own 0) (sv_own 1))) sa_nil))) (sv_own 2)))) sb_nil)
    (sb_cons (ss_set (i := 3) c.nd (se_bin op_mod_ (sv_of (se_callT ca_int (by rfl) T.z_int (by decide +kernel) (sa_cons (sv_of (se_bin (op_add_ c.K) (sv_of (se_bin (op_add_ c.K) (sv_of (se_bin op_mul_ (sv_of (se_ix (ix_at_ c.K) (sv_own 0) (sv_of (se_bin op_mod_ (sv_of (se_callT ca_int (by rfl) T.z_int (by decide +kernel) (sa_cons (sv_own 1) sa_nil))) (sv_of (se_callB (ca_len c.K) (by rfl) T.z_len (by decide +kernel) (sa_cons (sv_own 0) sa_nil))))))) (sv_of se_int))) (sv_of (se_bin op_mul_ (sv_own 1) (sv_of se_int))))) (sv_of se_int))) sa_nil))) (sv_of se_int)))
    (sb_one (ss_ret (se_bin op_mod_ (sv_of (se_callT ca_int (by rfl) T.z_int (by decide +kernel) (sa_cons (sv_of (se_bin op_mod_ (sv_of (se_callT ca_int (by rfl) T.z_int (by decide +kernel) (sa_cons (sv_of (se_bin (op_add_ c.K) (sv_of (se_bin op_mul_ (sv_own 3) (sv_of se_int))) (sv_own 1))) sa_nil))) (sv_of se_int))) sa_nil))) (sv_own 2))))))
abbrev s_law_take : Stmt := topS 48
abbrev N_law_take : List Str := ["row", "spot", "limit"]
theorem sc_law_take : FnScope N_law_take ["row", "spot", "limit"] (defScope s_law_take) := ⟨rfl, rfl, rfl, by decide +kernel, rfl, by decide +kernel, by decide +kernel⟩
def b_law_take : MS :=
    (mSeq (mStore 1 (mC (.int 0)) (mBin addF (vOf (mBin atF (mOwn 1) (vOf (mC (.int 0))))) (vOf (mC (.int 1)))))
    (mRet (mFn fn_law_draw (aCons (mOwn 0) (aCons (vOf (mBin subF (vOf (mBin atF (mOwn 1) (vOf (mC (.int 0))))) (vOf (mC (.int 1))))) (aCons (mOwn 2) aNil))))))
def fn_law_take : Fn := fnOf 3 3 b_law_take
theorem ok_law_take {P : Program} {w : World} {mg : Str → Option Value} {base : Heap} {g : Gc} (T : Txt g mg) (A : FnAt g mg "_law_take" "_law_take" s_law_take ["row", "spot", "limit"]) (h_law_draw : Has P w mg base g 1 "_law_draw" fn_law_draw) : Has P w mg base g 2 "_law_take" fn_law_take := by
  refine has_of (k := 2 - 1) (N := N_law_take) A sc_law_take (by decide) (fun cdv A outer s H E φ c => ?_)
  exact (sb_cons (ss_store 1 (se_bin (op_add_ c.K) (sv_of (se_ix (ix_at_ c.K) (sv_own 1) (sv_of se_int))) (sv_of se_int)) se_int)
    (sb_one (ss_ret (se_fn c h_law_draw (by omega) (by rfl) (sa_cons (sv_own 0) (sa_cons (sv_of (se_bin op_sub_ (sv_of (se_ix (ix_at_ c.K) (sv_own 1) (sv_of se_int))) (sv_of se_int))) (sa_cons (sv_own 2) sa_nil)))))))
abbrev s_law_twin_case : Stmt := topS 53
abbrev N_law_twin_case : List Str := ["row", "spot", "more", "kinds", "calm", "bring", "states", "k"]
theorem sc_law_twin_case : FnScope N_law_twin_case ["row", "spot"] (defScope s_law_twin_case) := ⟨rfl, rfl, rfl, by decide +kernel, rfl, by decide +kernel, by decide +kernel⟩
def b_law_twin_case : MS :=
    (mSeq (mSet 2 (mFn fn_law_take (aCons (mOwn 0) (aCons (mOwn 1) (aCons (vOf (mC (.int 3))) aNil)))))
    (mSeq (mSet 3 (mTup (aCons (vOf (mTup (aCons (vOf (mC (.int 1))) (aCons (vOf (mBin addF (vOf (mC (.int 4))) (mOwn 2))) (aCons (vOf (mTup (aCons (vOf (mC (.int 0))) aNil))) (aCons (vOf (mTup aNil)) (aCons (vOf (mC (.bl false))) aNil))))))) (aCons (vOf (mTup (aCons (vOf (mC (.int 1))) (aCons (vOf (mC (.int 2))) (aCons (vOf (mTup (aCons (vOf (mC (.int 0))) aNil))) (aCons (vOf (mTup aNil)) (aCons (vOf (mBin (fun x y => (eqF x y).map D.bl) (vOf (mFn fn_law_take (aCons (mOwn 0) (aCons (mOwn 1) (aCons (vOf (mC (.int 4))) aNil))))) (vOf (mC (.int 0))))) aNil))))))) (aCons (vOf (mTup (aCons (vOf (mC (.int 1))) (aCons (vOf (mBin addF (vOf (mC (.int 1))) (vOf (mBin fdivF (vOf (mFn fn_law_take (aCons (mOwn 0) (aCons (mOwn 1) (aCons (vOf (mC (.int 4))) aNil))))) (vOf (mC (.int 3))))))) (aCons (vOf (mTup (aCons (vOf (mC (.int 1))) aNil))) (aCons (vOf (mTup (aCons (vOf (mC (.int 0))) aNil))) (aCons (vOf (mC (.bl false))) aNil))))))) aNil)))))
    (mSeq (mSet 4 (mBin addF (vOf (mBin addF (vOf (mC (.int 3))) (mOwn 2))) (vOf (mFn fn_law_take (aCons (mOwn 0) (aCons (mOwn 1) (aCons (vOf (mC (.int 3))) aNil)))))))
    (mSeq (mSet 5 (mIf (mBin gtF (vOf (mFn fn_law_take (aCons (mOwn 0) (aCons (mOwn 1) (aCons (vOf (mC (.int 4))) aNil))))) (vOf (mC (.int 0)))) (mTup (aCons (vOf (mC (.int 1))) (aCons (vOf (mC (.int 1))) aNil))) (mTup (aCons (vOf (mC (.int 1))) aNil))))
    (mSeq (mSetO 6 (lLst (aCons (vOf (mTup (aCons (vOf (mTup (aCons (vOf (mTup (aCons (vOf (mC (.int 0))) (aCons (vOf (mC (.int 1))) aNil)))) (aCons (vOf (mC (.int 1))) aNil)))) aNil))) (aCons (vOf (mTup (aCons (vOf (mTup (aCons (vOf (mTup (aCons (vOf (mC (.int 2))) aNil))) (aCons (vOf (mC (.int 2))) aNil)))) (aCons (vOf (mTup (aCons (mOwn 5) (aCons (vOf (mC (.int 2))) aNil)))) aNil)))) aNil))))
    (mSeq (mFor (lRange1 (mVar 4)) (putG 7)
    (mAppend 6 (mTup (aCons (vOf (mTup (aCons (vOf (mTup aNil)) (aCons (vOf (mIf (mBin eqF (mOwn 7) (vOf (mBin subF (mOwn 4) (vOf (mC (.int 1)))))) (mC (.int 0)) (mBin addF (vOf (mC (.int 3))) (mOwn 7)))) aNil)))) aNil))))
    (mRet (mTup (aCons (vOf (mTup (aCons (vOf (mC (.int 2))) (aCons (mOwn 3) aNil)))) (aCons (vOf (mIf (mBin leTF (vOf (mCall lenF (aCons (mOwn 6) aNil))) (vOf (mC (.int 8)))) (mCall tupF (aCons (vOf (mCut (mOwn 6) oNone (oSome (mC (.int 8))))) aNil)) (mBin addF (vOf (mCall tupF (aCons (vOf (mCut (mOwn 6) oNone (oSome (mC (.int 7))))) aNil))) (vOf (mTup (aCons (vOf (mTup (aCons (vOf (mTup (aCons (vOf (mTup aNil)) (aCons (vOf (mC (.int 7))) aNil)))) aNil))) aNil)))))) aNil))))))))))
def fn_law_twin_case : Fn := fnOf 2 8 b_law_twin_case
theorem ok_law_twin_case {P : Program} {w : World} {mg : Str → Option Value} {base : Heap} {g : Gc} (T : Txt g mg) (A : FnAt g mg "_law_twin_case" "_law_twin_case" s_law_twin_case ["row", "spot"]) (h_law_take : Has P w mg base g 2 "_law_take" fn_law_take) : Has P w mg base g 3 "_law_twin_case" fn_law_twin_case := by
  refine has_of (k := 3 - 1) (N := N_law_twin_case) A sc_law_twin_case (by decide) (fun cdv A outer s H E φ c => ?_)
  exact (sb_cons (ss_set (i := 2) c.nd (se_fn c h_law_take (by omega) (by rfl) (sa_cons (sv_own 0) (sa_cons (sv_own 1) (sa_cons (sv_of se_int) sa_nil)))))
    (sb_cons (ss_set (i := 3) c.nd (se_tup (sa_cons (sv_of (se_tup (sa_cons (sv_of se_int) (sa_cons (sv_of (se_bin (op_add_ c.K) (sv_of se_int) (sv_own 2))) (sa_cons (sv_of (se_tup (sa_cons (sv_of se_int) sa_nil))) (sa_cons (sv_of (se_tup sa_nil)) (sa_cons (sv_of se_bl) sa_nil))))))) (sa_cons (sv_of (se_tup (sa_cons (sv_of se_int) (sa_cons (sv_of se_int) (sa_cons (sv_of (se_tup (sa_cons (sv_of se_int) sa_nil))) (sa_cons (sv_of (se_tup sa_nil)) (sa_cons (sv_of (se_cmp (op_eq_ c.K c.rm) (sv_of (se_fn c h_law_take (by omega) (by rfl) (sa_cons (sv_own 0) (sa_cons (sv_own 1) (sa_cons (sv_of se_int) sa_nil))))) (sv_of se_int))) sa_nil))))))) (sa_cons (sv_of (se_tup (sa_cons (sv_of se_int) (sa_cons (sv_of (se_bin (op_add_ c.K) (sv_of se_int) (sv_of (se_bin op_fdiv_ (sv_of (se_fn c h_law_take (by omega) (by rfl) (sa_cons (sv_own 0) (sa_cons (sv_own 1) (sa_cons (sv_of se_int) sa_nil))))) (sv_of se_int))))) (sa_cons (sv_of (se_tup (sa_cons (sv_of se_int) sa_nil))) (sa_cons (sv_of (se_tup (sa_cons (sv_of se_int) sa_nil))) (sa_cons (sv_of se_bl) sa_nil))))))) sa_nil)))))
    (sb_cons (ss_set (i := 4) c.nd (se_bin (op_add_ c.K) (sv_of (se_bin (op_add_ c.K) (sv_of se_int) (sv_own 2))) (sv_of (se_fn c h_law_take (by omega) (by rfl) (sa_cons (sv_own 0) (sa_cons (sv_own 1) (sa_cons (sv_of se_int) sa_nil)))))))
    (sb_cons (ss_set (i := 5) c.nd (se_if (st_cmp op_gt_ (sv_of (se_fn c h_law_take (by omega) (by rfl) (sa_cons (sv_own 0) (sa_cons (sv_own 1) (sa_cons (sv_of se_int) sa_nil))))) (sv_of se_int)) (se_tup (sa_cons (sv_of se_int) (sa_cons (sv_of se_int) sa_nil))) (se_tup (sa_cons (sv_of se_int) sa_nil))))
    (sb_cons (ss_setO (i := 6) c.nd (sl_lst (sa_cons (sv_of (se_tup (sa_cons (sv_of (se_tup (sa_cons (sv_of (se_tup (sa_cons (sv_of se_int) (sa_cons (sv_of se_int) sa_nil)))) (sa_cons (sv_of se_int) sa_nil)))) sa_nil))) (sa_cons (sv_of (se_tup (sa_cons (sv_of (se_tup (sa_cons (sv_of (se_tup (sa_cons (sv_of se_int) sa_nil))) (sa_cons (sv_of se_int) sa_nil)))) (sa_cons (sv_of (se_tup (sa_cons (sv_own 5) (sa_cons (sv_of se_int) sa_nil)))) sa_nil)))) sa_nil))))
    (sb_cons (ss_for c (si_range1 (se_var 4) (by rfl) T.z_range) (sg_name (i := 7) c.nd)
    (sb_one (ss_append 6 (se_tup (sa_cons (sv_of (se_tup (sa_cons (sv_of (se_tup sa_nil)) (sa_cons (sv_of (se_if (st_cmp (op_eq_ c.K c.rm) (sv_own 7) (sv_of (se_bin op_sub_ (sv_own 4) (sv_of se_int)))) se_int (se_bin (op_add_ c.K) (sv_of se_int) (sv_own 7)))) sa_nil)))) sa_nil)))))
    (sb_one (ss_ret (se_tup (sa_cons (sv_of (se_tup (sa_cons (sv_of se_int) (sa_cons (sv_own 3) sa_nil)))) (sa_cons (sv_of (se_if (st_cmp (op_leT_ c.K c.rm) (sv_of (se_callB (ca_len c.K) (by rfl) T.z_len (by decide +kernel) (sa_cons (sv_own 6) sa_nil))) (sv_of se_int)) (se_callT (ca_tup c.K) (by rfl) T.z_tuple (by decide +kernel) (sa_cons (sv_of (se_cut c.K (sv_own 6) so_none (so_some se_int))) sa_nil)) (se_bin (op_add_ c.K) (sv_of (se_callT (ca_tup c.K) (by rfl) T.z_tuple (by decide +kernel) (sa_cons (sv_of (se_cut c.K (sv_own 6) so_none (so_some se_int))) sa_nil))) (sv_of (se_tup (sa_cons (sv_of (se_tup (sa_cons (sv_of (se_tup (sa_cons (sv_of (se_tup sa_nil)) (sa_cons (sv_of se_int) sa_nil)))) sa_nil))) sa_nil)))))) sa_nil)))))))))))
abbrev s_law_desk : Stmt := topS 51
abbrev N_law_desk : List Str := ["row", "spot", "most", "agents", "kinds", "k", "work", "promise", "able", "behind", "j"]
theorem sc_law_desk : FnScope N_law_desk ["row", "spot", "most"] (defScope s_law_desk) := ⟨rfl, rfl, rfl, by decide +kernel, rfl, by decide +kernel, by decide +kernel⟩
def b_law_desk : MS :=
    (mSeq (mSet 3 (mBin addF (vOf (mC (.int 1))) (vOf (mFn fn_law_take (aCons (mOwn 0) (aCons (mOwn 1) (aCons (mOwn 2) aNil)))))))
    (mSeq (mSetO 4 (lLst aNil))
    (mSeq (mFor (lRange1 (mBin addF (vOf (mC (.int 1))) (vOf (mFn fn_law_take (aCons (mOwn 0) (aCons (mOwn 1) (aCons (vOf (mC (.int 3))) aNil))))))) (putG 5)
    (mSeq (mSet 6 (mBin atF (vOf (mL (lLst (aCons (vOf (mC (.int 1))) (aCons (vOf (mC (.int 1))) (aCons (vOf (mC (.int 2))) (aCons (vOf (mC (.int 3))) (aCons (vOf (mC (.int 4))) aNil)))))))) (vOf (mFn fn_law_take (aCons (mOwn 0) (aCons (mOwn 1) (aCons (vOf (mC (.int 5))) aNil)))))))
    (mSeq (mSet 7 (mIf (mBin gtF (vOf (mFn fn_law_take (aCons (mOwn 0) (aCons (mOwn 1) (aCons (vOf (mC (.int 6))) aNil))))) (vOf (mC (.int 0)))) (mCall minF (aCons (vOf (mC (.int 12))) (aCons (vOf (mBin addF (mOwn 6) (vOf (mFn fn_law_take (aCons (mOwn 0) (aCons (mOwn 1) (aCons (vOf (mC (.int 3))) aNil))))))) aNil))) (mBin addF (vOf (mC (.int 1))) (vOf (mFn fn_law_take (aCons (mOwn 0) (aCons (mOwn 1) (aCons (vOf (mC (.int 4))) aNil))))))))
    (mSeq (mIfS (mBin eqF (vOf (mFn fn_law_take (aCons (mOwn 0) (aCons (mOwn 1) (aCons (vOf (mC (.int 12))) aNil))))) (vOf (mC (.int 0)))) (mSet 7 (mBin addF (vOf (mC (.int 7))) (vOf (mFn fn_law_take (aCons (mOwn 0) (aCons (mOwn 1) (aCons (vOf (mC (.int 6))) aNil))))))) mNext)
    (mSeq (mSet 8 (mCall tupF (aCons (vOf (mL (lLc [10] (lRange1 (mVar 3)) (putG 10) (mBin gtF (vOf (mFn fn_law_take (aCons (mOwn 0) (aCons (mOwn 1) (aCons (vOf (mC (.int 4))) aNil))))) (vOf (mC (.int 0)))) (mVar 10)))) aNil)))
    (mSeq (mSet 9 (mCall tupF (aCons (vOf (mL (lLc [10] (lRange1 (mVar 5)) (putG 10) (mBin eqF (vOf (mFn fn_law_take (aCons (mOwn 0) (aCons (mOwn 1) (aCons (vOf (mC (.int 5))) aNil))))) (vOf (mC (.int 0)))) (mVar 10)))) aNil)))
    (mSeq (mIfS (mBin eqF (vOf (mFn fn_law_take (aCons (mOwn 0) (aCons (mOwn 1) (aCons (vOf (mC (.int 8))) aNil))))) (vOf (mC (.int 0)))) (mSet 9 (mTupRange (mVar 5))) mNext)
    (mAppend 4 (mTup (aCons (mOwn 6) (aCons (mOwn 7) (aCons (mOwn 8) (aCons (mOwn 9) (aCons (vOf (mBin (fun x y => (eqF x y).map D.bl) (vOf (mFn fn_law_take (aCons (mOwn 0) (aCons (mOwn 1) (aCons (vOf (mC (.int 3))) aNil))))) (vOf (mC (.int 0))))) aNil))))))))))))))
    (mRet (mTup (aCons (mOwn 3) (aCons (vOf (mCall tupF (aCons (mOwn 4) aNil))) aNil)))))))
def fn_law_desk : Fn := fnOf 3 11 b_law_desk
theorem ok_law_desk {P : Program} {w : World} {mg : Str → Option Value} {base : Heap} {g : Gc} (T : Txt g mg) (A : FnAt g mg "_law_desk" "_law_desk" s_law_desk ["row", "spot", "most"]) (h_law_take : Has P w mg base g 2 "_law_take" fn_law_take) : Has P w mg base g 3 "_law_desk" fn_law_desk := by
  refine has_of (k := 3 - 1) (N := N_law_desk) A sc_law_desk (by decide) (fun cdv A outer s H E φ c => ?_)
  exact (sb_cons (ss_set (i := 3) c.nd (se_bin (op_add_ c.K) (sv_of se_int) (sv_of (se_fn c h_law_take (by omega) (by rfl) (sa_cons (sv_own 0) (sa_cons (sv_own 1) (sa_cons (sv_own 2) sa_nil)))))))
    (sb_cons (ss_setO (i := 4) c.nd (sl_lst sa_nil))
    (sb_cons (ss_for c (si_range1 (se_bin (op_add_ c.K) (sv_of se_int) (sv_of (se_fn c h_law_take (by omega) (by rfl) (sa_cons (sv_own 0) (sa_cons (sv_own 1) (sa_cons (sv_of se_int) sa_nil)))))) (by rfl) T.z_range) (sg_name (i := 5) c.nd)
    (sb_cons (ss_set (i := 6) c.nd (se_ix (ix_at_ c.K) (sv_of (SE.ofL (sl_lst (sa_cons (sv_of se_int) (sa_cons (sv_of se_int) (sa_cons (sv_of se_int) (sa_cons (sv_of se_int) (sa_cons (sv_of se_int) sa_nil)))))))) (sv_of (se_fn c h_law_take (by omega) (by rfl) (sa_cons (sv_own 0) (sa_cons (sv_own 1) (sa_cons (sv_of se_int) sa_nil)))))))
    (sb_cons (ss_set (i := 7) c.nd (se_if (st_cmp op_gt_ (sv_of (se_fn c h_law_take (by omega) (by rfl) (sa_cons (sv_own 0) (sa_cons (sv_own 1) (sa_cons (sv_of se_int) sa_nil))))) (sv_of se_int)) (se_callB (ca_min c.calm) (by rfl) T.z_min (by decide +kernel) (sa_cons (sv_of se_int) (sa_cons (sv_of (se_bin (op_add_ c.K) (sv_own 6) (sv_of (se_fn c h_law_take (by omega) (by rfl) (sa_cons (sv_own 0) (sa_cons (sv_own 1) (sa_cons (sv_of se_int) sa_nil))))))) sa_nil))) (se_bin (op_add_ c.K) (sv_of se_int) (sv_of (se_fn c h_law_take (by omega) (by rfl) (sa_cons (sv_own 0) (sa_cons (sv_own 1) (sa_cons (sv_of se_int) sa_nil))))))))
    (sb_cons (ss_if (st_cmp (op_eq_ c.K c.rm) (sv_of (se_fn c h_law_take (by omega) (by rfl) (sa_cons (sv_own 0) (sa_cons (sv_own 1) (sa_cons (sv_of se_int) sa_nil))))) (sv_of se_int)) (sb_one (ss_set (i := 7) c.nd (se_bin (op_add_ c.K) (sv_of se_int) (sv_of (se_fn c h_law_take (by omega) (by rfl) (sa_cons (sv_own 0) (sa_cons (sv_own 1) (sa_cons (sv_of se_int) sa_nil)))))))) sb_nil)
    (sb_cons (ss_set (i := 8) c.nd (se_callT (ca_tup c.K) (by rfl) T.z_tuple (by decide +kernel) (sa_cons (sv_of (SE.ofL (sl_lc c (si_range1 (se_var 3) (by rfl) T.z_range) (own := [("j", 10)]) (blkOk_by (N := N_law_desk) (sc := defScope s_law_desk) (by decide +kernel)) (fun s H C cl fp φ => let c := c.blk s H _ _ fp; (sg_name (i := 10) c.nd)) (by decide) (fun s H C cl fp φ => let c := c.blk s H _ _ fp; (sts_one (st_cmp op_gt_ (sv_of (se_fn c h_law_take (by omega) (by rfl) (sa_cons (sv_own 0) (sa_cons (sv_own 1) (sa_cons (sv_of se_int) sa_nil))))) (sv_of se_int)))) (fun s H C cl fp φ => (se_var 10))))) sa_nil)))
    (sb_cons (ss_set (i := 9) c.nd (se_callT (ca_tup c.K) (by rfl) T.z_tuple (by decide +kernel) (sa_cons (sv_of (SE.ofL (sl_lc c (si_range1 (se_var 5) (by rfl) T.z_range) (own := [("j", 10)]) (blkOk_by (N := N_law_desk) (sc := defScope s_law_desk) (by decide +kernel)) (fun s H C cl fp φ => let c := c.blk s H _ _ fp; (sg_name (i := 10) c.nd)) (by decide) (fun s H C cl fp φ => let c := c.blk s H _ _ fp; (sts_one (st_cmp (op_eq_ c.K c.rm) (sv_of (se_fn c h_law_take (by omega) (by rfl) (sa_cons (sv_own 0) (sa_cons (sv_own 1) (sa_cons (sv_of se_int) sa_nil))))) (sv_of se_int)))) (fun s H C cl fp φ => (se_var 10))))) sa_nil)))
    (sb_cons (ss_if (st_cmp (op_eq_ c.K c.rm) (sv_of (se_fn c h_law_take (by omega) (by rfl) (sa_cons (sv_own 0) (sa_cons (sv_own 1) (sa_cons (sv_of se_int) sa_nil))))) (sv_of se_int)) (sb_one (ss_set (i := 9) c.nd (se_tupRange c (se_var 5) (by rfl) T.z_tuple (by rfl) T.z_range))) sb_nil)
    (sb_one (ss_append 4 (se_tup (sa_cons (sv_own 6) (sa_cons (sv_own 7) (sa_cons (sv_own 8) (sa_cons (sv_own 9) (sa_cons (sv_of (se_cmp (op_eq_ c.K c.rm) (sv_of (se_fn c h_law_take (by omega) (by rfl) (sa_cons (sv_own 0) (sa_cons (sv_own 1) (sa_cons (sv_of se_int) sa_nil))))) (sv_of se_int))) sa_nil)))))))))))))))
    (sb_one (ss_ret (se_tup (sa_cons (sv_own 3) (sa_cons (sv_of (se_callT (ca_tup c.K) (by rfl) T.z_tuple (by decide +kernel) (sa_cons (sv_own 4) sa_nil))) sa_nil))))))))
abbrev s_law_stream : Stmt := topS 52
abbrev N_law_stream : List Str := ["row", "spot", "kinds", "wide", "states", "count", "k", "arcs", "j", "many", "ones", "one"]
theorem sc_law_stream : FnScope N_law_stream ["row", "spot", "kinds", "wide"] (defScope s_law_stream) := ⟨rfl, rfl, rfl, by decide +kernel, rfl, by decide +kernel, by decide +kernel⟩
def b_law_stream : MS :=
    (mSeq (mSetO 4 (lLst aNil))
    (mSeq (mSet 5 (mBin addF (vOf (mC (.int 1))) (vOf (mFn fn_law_take (aCons (mOwn 0) (aCons (mOwn 1) (aCons (mOwn 3) aNil)))))))
    (mSeq (mFor (lRange1 (mVar 5)) (putG 6)
    (mSeq (mSetO 7 (lLst aNil))
    (mSeq (mFor (lRange1 (mBin addF (vOf (mC (.int 1))) (vOf (mFn fn_law_take (aCons (mOwn 0) (aCons (mOwn 1) (aCons (vOf (mC (.int 4))) aNil))))))) (putG 8)
    (mSeq (mSet 9 (mBin atF (vOf (mL (lLst (aCons (vOf (mC (.int 0))) (aCons (vOf (mC (.int 0))) (aCons (vOf (mC (.int 1))) (aCons (vOf (mC (.int 1))) (aCons (vOf (mC (.int 1))) (aCons (vOf (mC (.int 2))) (aCons (vOf (mC (.int 3))) aNil)))))))))) (vOf (mFn fn_law_take (aCons (mOwn 0) (aCons (mOwn 1) (aCons (vOf (mC (.int 7))) aNil)))))))
    (mSeq (mSet 10 (mCall tupF (aCons (vOf (mCall sortDF (aCons (vOf (mL (lLc [11] (lRange1 (mVar 9)) (putG 11) tYesF (mFn fn_law_take (aCons (mOwn 0) (aCons (mOwn 1) (aCons (mOwn 2) aNil))))))) aNil))) aNil)))
    (mAppend 7 (mTup (aCons (mOwn 10) (aCons (vOf (mFn fn_law_take (aCons (mOwn 0) (aCons (mOwn 1) (aCons (mOwn 5) aNil))))) aNil)))))))
    (mAppend 4 (mCall tupF (aCons (mOwn 7) aNil))))))
    (mRet (mCall tupF (aCons (mOwn 4) aNil))))))
def fn_law_stream : Fn := fnOf 4 12 b_law_stream
theorem ok_law_stream {P : Program} {w : World} {mg : Str → Option Value} {base : Heap} {g : Gc} (T : Txt g mg) (A : FnAt g mg "_law_stream" "_law_stream" s_law_stream ["row", "spot", "kinds", "wide"]) (h_law_take : Has P w mg base g 2 "_law_take" fn_law_take) : Has P w mg base g 3 "_law_stream" fn_law_stream := by
  refine has_of (k := 3 - 1) (N := N_law_stream) A sc_law_stream (by decide) (fun cdv A outer s H E φ c => ?_)
  exact (sb_cons (ss_setO (i := 4) c.nd (sl_lst sa_nil))
    (sb_cons (ss_set (i := 5) c.nd (se_bin (op_add_ c.K) (sv_of se_int) (sv_of (se_fn c h_law_take (by omega) (by rfl) (sa_cons (sv_own 0) (sa_cons (sv_own 1) (sa_cons (sv_own 3) sa_nil)))))))
    (sb_cons (ss_for c (si_range1 (se_var 5) (by rfl) T.z_range) (sg_name (i := 6) c.nd)
    (sb_cons (ss_setO (i := 7) c.nd (sl_lst sa_nil))
    (sb_cons (ss_for c (si_range1 (se_bin (op_add_ c.K) (sv_of se_int) (sv_of (se_fn c h_law_take (by omega) (by rfl) (sa_cons (sv_own 0) (sa_cons (sv_own 1) (sa_cons (sv_of se_int) sa_nil)))))) (by rfl) T.z_range) (sg_name (i := 8) c.nd)
    (sb_cons (ss_set (i := 9) c.nd (se_ix (ix_at_ c.K) (sv_of (SE.ofL (sl_lst (sa_cons (sv_of se_int) (sa_cons (sv_of se_int) (sa_cons (sv_of se_int) (sa_cons (sv_of se_int) (sa_cons (sv_of se_int) (sa_cons (sv_of se_int) (sa_cons (sv_of se_int) sa_nil)))))))))) (sv_of (se_fn c h_law_take (by omega) (by rfl) (sa_cons (sv_own 0) (sa_cons (sv_own 1) (sa_cons (sv_of se_int) sa_nil)))))))
    (sb_cons (ss_set (i := 10) c.nd (se_callT (ca_tup c.K) (by rfl) T.z_tuple (by decide +kernel) (sa_cons (sv_of (se_callB (ca_sortD c.K c.rm) (by rfl) T.z_sorted (by decide +kernel) (sa_cons (sv_of (SE.ofL (sl_lc c (si_range1 (se_var 9) (by rfl) T.z_range) (own := [("one", 11)]) (blkOk_by (N := N_law_stream) (sc := defScope s_law_stream) (by decide +kernel)) (fun s H C cl fp φ => let c := c.blk s H _ _ fp; (sg_name (i := 11) c.nd)) (by decide) (fun s H C cl fp φ => sts_nil) (fun s H C cl fp φ => let c := c.blk s H _ _ fp; (se_fn c h_law_take (by omega) (by rfl) (sa_cons (sv_own 0) (sa_cons (sv_own 1) (sa_cons (sv_own 2) sa_nil)))))))) sa_nil))) sa_nil)))
    (sb_one (ss_append 7 (se_tup (sa_cons (sv_own 10) (sa_cons (sv_of (se_fn c h_law_take (by omega) (by rfl) (sa_cons (sv_own 0) (sa_cons (sv_own 1) (sa_cons (sv_own 5) sa_nil))))) sa_nil))))))))
    (sb_one (ss_append 4 (se_callT (ca_tup c.K) (by rfl) T.z_tuple (by decide +kernel) (sa_cons (sv_own 7) sa_nil)))))))
    (sb_one (ss_ret (se_callT (ca_tup c.K) (by rfl) T.z_tuple (by decide +kernel) (sa_cons (sv_own 4) sa_nil)))))))
abbrev s_law_case : Stmt := topS 54
abbrev N_law_case : List Str := ["row", "spot", "desk"]
theorem sc_law_case : FnScope N_law_case ["row", "spot"] (defScope s_law_case) := ⟨rfl, rfl, rfl, by decide +kernel, rfl, by decide +kernel, by decide +kernel⟩
def b_law_case : MS :=
    (mSeq (mIfS (mBin eqF (vOf (mFn fn_law_take (aCons (mOwn 0) (aCons (mOwn 1) (aCons (vOf (mC (.int 8))) aNil))))) (vOf (mC (.int 0)))) (mRet (mFn fn_law_twin_case (aCons (mOwn 0) (aCons (mOwn 1) aNil)))) mNext)
    (mSeq (mSet 2 (mFn fn_law_desk (aCons (mOwn 0) (aCons (mOwn 1) (aCons (vOf (mIf (mBin gtF (vOf (mFn fn_law_take (aCons (mOwn 0) (aCons (mOwn 1) (aCons (vOf (mC (.int 4))) aNil))))) (vOf (mC (.int 0)))) (mC (.int 2)) (mC (.int 3)))) aNil)))))
    (mRet (mTup (aCons (mOwn 2) (aCons (vOf (mFn fn_law_stream (aCons (mOwn 0) (aCons (mOwn 1) (aCons (vOf (mCall lenF (aCons (vOf (mBin atF (mOwn 2) (vOf (mC (.int 1))))) aNil))) (aCons (vOf (mBin atF (vOf (mL (lLst (aCons (vOf (mC (.int 1))) (aCons (vOf (mC (.int 3))) (aCons (vOf (mC (.int 8))) aNil)))))) (vOf (mFn fn_law_take (aCons (mOwn 0) (aCons (mOwn 1) (aCons (vOf (mC (.int 3))) aNil))))))) aNil)))))) aNil))))))
def fn_law_case : Fn := fnOf 2 3 b_law_case
theorem ok_law_case {P : Program} {w : World} {mg : Str → Option Value} {base : Heap} {g : Gc} (T : Txt g mg) (A : FnAt g mg "_law_case" "_law_case" s_law_case ["row", "spot"]) (h_law_take : Has P w mg base g 2 "_law_take" fn_law_take) (h_law_twin_case : Has P w mg base g 3 "_law_twin_case" fn_law_twin_case) (h_law_desk : Has P w mg base g 3 "_law_desk" fn_law_desk) (h_law_stream : Has P w mg base g 3 "_law_stream" fn_law_stream) : Has P w mg base g 4 "_law_case" fn_law_case := by
  refine has_of (k := 4 - 1) (N := N_law_case) A sc_law_case (by decide) (fun cdv A outer s H E φ c => ?_)
  exact (sb_cons (ss_if (st_cmp (op_eq_ c.K c.rm) (sv_of (se_fn c h_law_take (by omega) (by rfl) (sa_cons (sv_own 0) (sa_cons (sv_own 1) (sa_cons (sv_of se_int) sa_nil))))) (sv_of se_int)) (sb_one (ss_ret (se_fn c h_law_twin_case (by omega) (by rfl) (sa_cons (sv_own 0) (sa_cons (sv_own 1) sa_nil))))) sb_nil)
    (sb_cons (ss_set (i := 2) c.nd (se_fn c h_law_desk (by omega) (by rfl) (sa_cons (sv_own 0) (sa_cons (sv_own 1) (sa_cons (sv_of (se_if (st_cmp op_gt_ (sv_of (se_fn c h_law_take (by omega) (by rfl) (sa_cons (sv_own 0) (sa_cons (sv_own 1) (sa_cons (sv_of se_int) sa_nil))))) (sv_of se_int)) se_int se_int)) sa_nil)))))
    (sb_one (ss_ret (se_tup (sa_cons (sv_own 2) (sa_cons (sv_of (se_fn c h_law_stream (by omega) (by rfl) (sa_cons (sv_own 0) (sa_cons (sv_own 1) (sa_cons (sv_of (se_callB (ca_len c.K) (by rfl) T.z_len (by decide +kernel) (sa_cons (sv_of (se_ix (ix_at_ c.K) (sv_own 2) (sv_of se_int))) sa_nil))) (sa_cons (sv_of (se_ix (ix_at_ c.K) (sv_of (SE.ofL (sl_lst (sa_cons (sv_of se_int) (sa_cons (sv_of se_int) (sa_cons (sv_of se_int) sa_nil)))))) (sv_of (se_fn c h_law_take (by omega) (by rfl) (sa_cons (sv_own 0) (sa_cons (sv_own 1) (sa_cons (sv_of se_int) sa_nil))))))) sa_nil)))))) sa_nil)))))))
abbrev s_is_whole : Stmt := topS 6
abbrev N_is_whole : List Str := ["value"]
theorem sc_is_whole : FnScope N_is_whole ["value"] (defScope s_is_whole) := ⟨rfl, rfl, rfl, by decide +kernel, rfl, by decide +kernel, by decide +kernel⟩
def b_is_whole : MS :=
    (mRet (mAndV (mCall isiF (aCons (mOwn 0) (aCons (vOf (mC (.ty "int"))) aNil))) (mNotV (mCall isiF (aCons (mOwn 0) (aCons (vOf (mC (.ty "bool"))) aNil))))))
def fn_is_whole : Fn := fnOf 1 1 b_is_whole
theorem ok_is_whole {P : Program} {w : World} {mg : Str → Option Value} {base : Heap} {g : Gc} (T : Txt g mg) (A : FnAt g mg "is_whole" "is_whole" s_is_whole ["value"]) : Has P w mg base g 1 "is_whole" fn_is_whole := by
  refine has_of (k := 1 - 1) (N := N_is_whole) A sc_is_whole (by decide) (fun cdv A outer s H E φ c => ?_)
  exact (sb_one (ss_ret (se_and (se_callB (ca_isi c.K) (by rfl) T.z_isinstance (by decide +kernel) (sa_cons (sv_own 0) (sa_cons (sv_of (se_ty (by rfl) T.z_int (by decide +kernel))) sa_nil))) (se_one (se_not (se_callB (ca_isi c.K) (by rfl) T.z_isinstance (by decide +kernel) (sa_cons (sv_own 0) (sa_cons (sv_of (se_ty (by rfl) T.z_bool (by decide +kernel))) sa_nil))))))))
abbrev s_is_between : Stmt := topS 7
abbrev N_is_between : List Str := ["value", "low", "high"]
theorem sc_is_between : FnScope N_is_between ["value", "low", "high"] (defScope s_is_between) := ⟨rfl, rfl, rfl, by decide +kernel, rfl, by decide +kernel, by decide +kernel⟩
def b_is_between : MS :=
    (mRet (mAndV (mFn fn_is_whole (aCons (mOwn 0) aNil)) (fun env => bl ((mChain leF leF (mOwn 1) (mOwn 0) (mOwn 2)) env))))
def fn_is_between : Fn := fnOf 3 3 b_is_between
theorem ok_is_between {P : Program} {w : World} {mg : Str → Option Value} {base : Heap} {g : Gc} (T : Txt g mg) (A : FnAt g mg "is_between" "is_between" s_is_between ["value", "low", "high"]) (h_is_whole : Has P w mg base g 1 "is_whole" fn_is_whole) : Has P w mg base g 2 "is_between" fn_is_between := by
  refine has_of (k := 2 - 1) (N := N_is_between) A sc_is_between (by decide) (fun cdv A outer s H E φ c => ?_)
  exact (sb_one (ss_ret (se_and (se_fn c h_is_whole (by omega) (by rfl) (sa_cons (sv_own 0) sa_nil)) (se_one (se_chain op_le_ op_le_ (sv_own 1) (sv_own 0) (sv_own 2))))))
abbrev s_is_sequence : Stmt := topS 8
abbrev N_is_sequence : List Str := ["value"]
theorem sc_is_sequence : FnScope N_is_sequence ["value"] (defScope s_is_sequence) := ⟨rfl, rfl, rfl, by decide +kernel, rfl, by decide +kernel, by decide +kernel⟩
def b_is_sequence : MS :=
    (mRet (mUn (isTsF ["list", "tuple"]) (mOwn 0)))
def fn_is_sequence : Fn := fnOf 1 1 b_is_sequence
theorem ok_is_sequence {P : Program} {w : World} {mg : Str → Option Value} {base : Heap} {g : Gc} (T : Txt g mg) (A : FnAt g mg "is_sequence" "is_sequence" s_is_sequence ["value"]) : Has P w mg base g 1 "is_sequence" fn_is_sequence := by
  refine has_of (k := 1 - 1) (N := N_is_sequence) A sc_is_sequence (by decide) (fun cdv A outer s H E φ c => ?_)
  exact (sb_one (ss_ret (se_isTs c.K (sv_own 0) (.cons (by rfl) T.z_list (by decide +kernel) (by decide) (by decide) (by rfl) (.cons (by rfl) T.z_tuple (by decide +kernel) (by decide) (by decide) (by rfl) .nil)) (by rfl) T.z_isinstance (by decide))))
abbrev s_has_length : Stmt := topS 9
abbrev N_has_length : List Str := ["value", "least", "most"]
theorem sc_has_length : FnScope N_has_length ["value", "least", "most"] (defScope s_has_length) := ⟨rfl, rfl, rfl, by decide +kernel, rfl, by decide +kernel, by decide +kernel⟩
def b_has_length : MS :=
    (mRet (mAndV (mFn fn_is_sequence (aCons (mOwn 0) aNil)) (fun env => bl ((mChain leF leF (mOwn 1) (vOf (mCall lenF (aCons (mOwn 0) aNil))) (mOwn 2)) env))))
def fn_has_length : Fn := fnOf 3 3 b_has_length
theorem ok_has_length {P : Program} {w : World} {mg : Str → Option Value} {base : Heap} {g : Gc} (T : Txt g mg) (A : FnAt g mg "has_length" "has_length" s_has_length ["value", "least", "most"]) (h_is_sequence : Has P w mg base g 1 "is_sequence" fn_is_sequence) : Has P w mg base g 2 "has_length" fn_has_length := by
  refine has_of (k := 2 - 1) (N := N_has_length) A sc_has_length (by decide) (fun cdv A outer s H E φ c => ?_)
  exact (sb_one (ss_ret (se_and (se_fn c h_is_sequence (by omega) (by rfl) (sa_cons (sv_own 0) sa_nil)) (se_one (se_chain op_le_ op_le_ (sv_own 1) (sv_of (se_callB (ca_len c.K) (by rfl) T.z_len (by decide +kernel) (sa_cons (sv_own 0) sa_nil))) (sv_own 2))))))
abbrev s_all_below : Stmt := topS 10
abbrev N_all_below : List Str := ["value", "end", "one"]
theorem sc_all_below : FnScope N_all_below ["value", "end"] (defScope s_all_below) := ⟨rfl, rfl, rfl, by decide +kernel, rfl, by decide +kernel, by decide +kernel⟩
def b_all_below : MS :=
    (mRet (mAndV (mFn fn_is_sequence (aCons (mOwn 0) aNil)) (mCall allF (aCons (vOf (mL (lLc [2] (lSeq (mVar 0)) (putG 2) tYesF (mFn fn_is_between (aCons (mOwn 2) (aCons (vOf (mC (.int 0))) (aCons (vOf (mBin subF (mOwn 1) (vOf (mC (.int 1))))) aNil))))))) aNil))))
def fn_all_below : Fn := fnOf 2 3 b_all_below
theorem ok_all_below {P : Program} {w : World} {mg : Str → Option Value} {base : Heap} {g : Gc} (T : Txt g mg) (A : FnAt g mg "all_below" "all_below" s_all_below ["value", "end"]) (h_is_sequence : Has P w mg base g 1 "is_sequence" fn_is_sequence) (h_is_between : Has P w mg base g 2 "is_between" fn_is_between) : Has P w mg base g 3 "all_below" fn_all_below := by
  refine has_of (k := 3 - 1) (N := N_all_below) A sc_all_below (by decide) (fun cdv A outer s H E φ c => ?_)
  exact (sb_one (ss_ret (se_and (se_fn c h_is_sequence (by omega) (by rfl) (sa_cons (sv_own 0) sa_nil)) (se_one (se_callB (ca_all c.K c.calm) (by rfl) T.z_all (by decide +kernel) (sa_cons (sv_of (SE.ofL (sl_lc c (si_seq c.K (se_var 0)) (own := [("one", 2)]) (blkOk_by (N := N_all_below) (sc := defScope s_all_below) (by decide +kernel)) (fun s H C cl fp φ => let c := c.blk s H _ _ fp; (sg_name (i := 2) c.nd)) (by decide) (fun s H C cl fp φ => sts_nil) (fun s H C cl fp φ => let c := c.blk s H _ _ fp; (se_fn c h_is_between (by omega) (by rfl) (sa_cons (sv_own 2) (sa_cons (sv_of se_int) (sa_cons (sv_of (se_bin op_sub_ (sv_own 1) (sv_of se_int))) sa_nil)))))))) sa_nil))))))
abbrev s_is_ascending : Stmt := topS 12
abbrev N_is_ascending : List Str := ["values", "one", "behind"]
theorem sc_is_ascending : FnScope N_is_ascending ["values"] (defScope s_is_ascending) := ⟨rfl, rfl, rfl, by decide +kernel, rfl, by decide +kernel, by decide +kernel⟩
def b_is_ascending : MS :=
    (mRet (mCall allF (aCons (vOf (mL (lLc [1, 2] (lZip (aCons (mOwn 0) (aCons (vOf (mCut (mOwn 0) (oSome (mC (.int 1))) oNone)) aNil))) (tupX 2 (consG (putG 1) (consG (putG 2) nilG))) tYesF (mBin (fun x y => (ltF x y).map D.bl) (mOwn 1) (mOwn 2))))) aNil)))
def fn_is_ascending : Fn := fnOf 1 3 b_is_ascending
theorem ok_is_ascending {P : Program} {w : World} {mg : Str → Option Value} {base : Heap} {g : Gc} (T : Txt g mg) (A : FnAt g mg "is_ascending" "is_ascending" s_is_ascending ["values"]) : Has P w mg base g 1 "is_ascending" fn_is_ascending := by
  refine has_of (k := 1 - 1) (N := N_is_ascending) A sc_is_ascending (by decide) (fun cdv A outer s H E φ c => ?_)
  exact (sb_one (ss_ret (se_callB (ca_all c.K c.calm) (by rfl) T.z_all (by decide +kernel) (sa_cons (sv_of (SE.ofL (sl_lc c (si_zip c.K (sa_cons (sv_own 0) (sa_cons (sv_of (se_cut c.K (sv_own 0) (so_some se_int) so_none)) sa_nil)) (by rfl) T.z_zip) (own := [("one", 1), ("behind", 2)]) (blkOk_by (N := N_is_ascending) (sc := defScope s_is_ascending) (by decide +kernel)) (fun s H C cl fp φ => let c := c.blk s H _ _ fp; (sg_tupX c.K c.calm (sgs_cons (sg_name (i := 1) c.nd) (sgs_cons (sg_name (i := 2) c.nd) sgs_nil)))) (by decide) (fun s H C cl fp φ => sts_nil) (fun s H C cl fp φ => (se_cmp op_lt_ (sv_own 1) (sv_own 2)))))) sa_nil))))
abbrev s_is_ascending_below : Stmt := topS 13
abbrev N_is_ascending_below : List Str := ["value", "end"]
theorem sc_is_ascending_below : FnScope N_is_ascending_below ["value", "end"] (defScope s_is_ascending_below) := ⟨rfl, rfl, rfl, by decide +kernel, rfl, by decide +kernel, by decide +kernel⟩
def b_is_ascending_below : MS :=
    (mRet (mAndV (mFn fn_all_below (aCons (mOwn 0) (aCons (mOwn 1) aNil))) (mFn fn_is_ascending (aCons (mOwn 0) aNil))))
def fn_is_ascending_below : Fn := fnOf 2 2 b_is_ascending_below
theorem ok_is_ascending_below {P : Program} {w : World} {mg : Str → Option Value} {base : Heap} {g : Gc} (T : Txt g mg) (A : FnAt g mg "is_ascending_below" "is_ascending_below" s_is_ascending_below ["value", "end"]) (h_all_below : Has P w mg base g 3 "all_below" fn_all_below) (h_is_ascending : Has P w mg base g 1 "is_ascending" fn_is_ascending) : Has P w mg base g 4 "is_ascending_below" fn_is_ascending_below := by
  refine has_of (k := 4 - 1) (N := N_is_ascending_below) A sc_is_ascending_below (by decide) (fun cdv A outer s H E φ c => ?_)
  exact (sb_one (ss_ret (se_and (se_fn c h_all_below (by omega) (by rfl) (sa_cons (sv_own 0) (sa_cons (sv_own 1) sa_nil))) (se_one (se_fn c h_is_ascending (by omega) (by rfl) (sa_cons (sv_own 0) sa_nil))))))
abbrev s_is_kind : Stmt := topS 27
abbrev N_is_kind : List Str := ["value", "number", "agents", "work", "promise", "able", "behind", "joins"]
theorem sc_is_kind : FnScope N_is_kind ["value", "number", "agents"] (defScope s_is_kind) := ⟨rfl, rfl, rfl, by decide +kernel, rfl, by decide +kernel, by decide +kernel⟩
def b_is_kind : MS :=
    (mSeq (mIfS (mNot (mTest (mFn fn_has_length (aCons (mOwn 0) (aCons (vOf (mC (.int 5))) (aCons (vOf (mC (.int 5))) aNil)))))) (mRet (mC (.bl false))) mNext)
    (mSeq (mAsg (tupX 5 (consG (putG 3) (consG (putG 4) (consG (putG 5) (consG (putG 6) (consG (putG 7) nilG)))))) (mVar 0))
    (mRet (mAndV (mFn fn_is_between (aCons (mOwn 3) (aCons (vOf (mC (.int 1))) (aCons (vOf (mC (.int 4))) aNil)))) (mAndV (mFn fn_is_between (aCons (mOwn 4) (aCons (vOf (mC (.int 1))) (aCons (vOf (mC (.int 12))) aNil)))) (mAndV (mFn fn_is_ascending_below (aCons (mOwn 5) (aCons (mOwn 2) aNil))) (mAndV (mFn fn_is_ascending_below (aCons (mOwn 6) (aCons (mOwn 1) aNil))) (mCall isiF (aCons (mOwn 7) (aCons (vOf (mC (.ty "bool"))) aNil))))))))))
def fn_is_kind : Fn := fnOf 3 8 b_is_kind
theorem ok_is_kind {P : Program} {w : World} {mg : Str → Option Value} {base : Heap} {g : Gc} (T : Txt g mg) (A : FnAt g mg "is_kind" "is_kind" s_is_kind ["value", "number", "agents"]) (h_has_length : Has P w mg base g 2 "has_length" fn_has_length) (h_is_between : Has P w mg base g 2 "is_between" fn_is_between) (h_is_ascending_below : Has P w mg base g 4 "is_ascending_below" fn_is_ascending_below) : Has P w mg base g 5 "is_kind" fn_is_kind := by
  refine has_of (k := 5 - 1) (N := N_is_kind) A sc_is_kind (by decide) (fun cdv A outer s H E φ c => ?_)
  exact (sb_cons (ss_if (st_not (st_val (se_fn c h_has_length (by omega) (by rfl) (sa_cons (sv_own 0) (sa_cons (sv_of se_int) (sa_cons (sv_of se_int) sa_nil)))))) (sb_one (ss_ret se_bl)) sb_nil)
    (sb_cons (ss_asg (se_var 0) (sg_tupX c.K c.calm (sgs_cons (sg_name (i := 3) c.nd) (sgs_cons (sg_name (i := 4) c.nd) (sgs_cons (sg_name (i := 5) c.nd) (sgs_cons (sg_name (i := 6) c.nd) (sgs_cons (sg_name (i := 7) c.nd) sgs_nil)))))))
    (sb_one (ss_ret (se_and (se_fn c h_is_between (by omega) (by rfl) (sa_cons (sv_own 3) (sa_cons (sv_of se_int) (sa_cons (sv_of (se_glob (by rfl) T.v_MOST_WORK.choose_spec)) sa_nil)))) (se_and (se_fn c h_is_between (by omega) (by rfl) (sa_cons (sv_own 4) (sa_cons (sv_of se_int) (sa_cons (sv_of (se_glob (by rfl) T.v_MOST_PROMISE.choose_spec)) sa_nil)))) (se_and (se_fn c h_is_ascending_below (by omega) (by rfl) (sa_cons (sv_own 5) (sa_cons (sv_own 2) sa_nil))) (se_and (se_fn c h_is_ascending_below (by omega) (by rfl) (sa_cons (sv_own 6) (sa_cons (sv_own 1) sa_nil))) (se_one (se_callB (ca_isi c.K) (by rfl) T.z_isinstance (by decide +kernel) (sa_cons (sv_own 7) (sa_cons (sv_of (se_ty (by rfl) T.z_bool (by decide +kernel))) sa_nil))))))))))))
abbrev s_plain_kind : Stmt := topS 28
abbrev N_plain_kind : List Str := ["kind", "work", "promise", "able", "behind", "joins"]
theorem sc_plain_kind : FnScope N_plain_kind ["kind"] (defScope s_plain_kind) := ⟨rfl, rfl, rfl, by decide +kernel, rfl, by decide +kernel, by decide +kernel⟩
def b_plain_kind : MS :=
    (mSeq (mAsg (tupX 5 (consG (putG 1) (consG (putG 2) (consG (putG 3) (consG (putG 4) (consG (putG 5) nilG)))))) (mVar 0))
    (mRet (mTup (aCons (mOwn 1) (aCons (mOwn 2) (aCons (vOf (mCall tupF (aCons (mOwn 3) aNil))) (aCons (vOf (mCall tupF (aCons (mOwn 4) aNil))) (aCons (mOwn 5) aNil))))))))
def fn_plain_kind : Fn := fnOf 1 6 b_plain_kind
theorem ok_plain_kind {P : Program} {w : World} {mg : Str → Option Value} {base : Heap} {g : Gc} (T : Txt g mg) (A : FnAt g mg "plain_kind" "plain_kind" s_plain_kind ["kind"]) : Has P w mg base g 1 "plain_kind" fn_plain_kind := by
  refine has_of (k := 1 - 1) (N := N_plain_kind) A sc_plain_kind (by decide) (fun cdv A outer s H E φ c => ?_)
  exact (sb_cons (ss_asg (se_var 0) (sg_tupX c.K c.calm (sgs_cons (sg_name (i := 1) c.nd) (sgs_cons (sg_name (i := 2) c.nd) (sgs_cons (sg_name (i := 3) c.nd) (sgs_cons (sg_name (i := 4) c.nd) (sgs_cons (sg_name (i := 5) c.nd) sgs_nil)))))))
    (sb_one (ss_ret (se_tup (sa_cons (sv_own 1) (sa_cons (sv_own 2) (sa_cons (sv_of (se_callT (ca_tup c.K) (by rfl) T.z_tuple (by decide +kernel) (sa_cons (sv_own 3) sa_nil))) (sa_cons (sv_of (se_callT (ca_tup c.K) (by rfl) T.z_tuple (by decide +kernel) (sa_cons (sv_own 4) sa_nil))) (sa_cons (sv_own 5) sa_nil)))))))))
abbrev s_Desk__init : Stmt := inClass (topS 25) 0
abbrev N_Desk__init : List Str := ["self", "agents", "kinds", "at", "kind"]
theorem sc_Desk__init : FnScope N_Desk__init ["self", "agents", "kinds"] (defScope s_Desk__init) := ⟨rfl, rfl, rfl, by decide +kernel, rfl, by decide +kernel, by decide +kernel⟩
def b_Desk__init : MS :=
    (mSeq (mIfS (mNot (mTest (mFn fn_is_between (aCons (mOwn 1) (aCons (vOf (mC (.int 1))) (aCons (vOf (mC (.int 3))) aNil)))))) (mRaise "BadValue" (mC (.int 1))) mNext)
    (mSeq (mIfS (mNot (mTest (mFn fn_has_length (aCons (mOwn 2) (aCons (vOf (mC (.int 1))) (aCons (vOf (mC (.int 3))) aNil)))))) (mRaise "BadValue" (mC (.int 2))) mNext)
    (mSeq (mFor (lEnum (aCons (mOwn 2) aNil)) (tupX 2 (consG (putG 3) (consG (putG 4) nilG)))
    (mIfS (mNot (mTest (mFn fn_is_kind (aCons (mOwn 4) (aCons (mOwn 3) (aCons (mOwn 1) aNil)))))) (mRaise "BadKind" (mVar 3)) mNext))
    mNext)))
def st_Desk : List (Str × ME) := [("_agents", (mVar 1)), ("_kinds", (mCall tupF (aCons (vOf (mL (lLc [4] (lSeq (mVar 2)) (putG 4) tYesF (mFn fn_plain_kind (aCons (mOwn 4) aNil))))) aNil)))]
def fi_Desk : List D → IR := runInit 3 5 b_Desk__init st_Desk 0
theorem ok_Desk__init {P : Program} {w : World} {mg : Str → Option Value} {base : Heap} {g : Gc} (T : Txt g mg) {C fI : Addr} {fd : FuncData} (A : ClAt g mg "Desk" C ["_agents", "_kinds"] s_Desk__init "self" "Desk.__init__" ["agents", "kinds"] fI fd) (h_is_between : Has P w mg base g 2 "is_between" fn_is_between) (hx_BadValue : HasX P w mg base g 1 "BadValue") (h_has_length : Has P w mg base g 2 "has_length" fn_has_length) (h_is_kind : Has P w mg base g 5 "is_kind" fn_is_kind) (hx_BadKind : HasX P w mg base g 1 "BadKind") (h_plain_kind : Has P w mg base g 1 "plain_kind" fn_plain_kind)
    (hfi : ∀ x ds, runInit 3 5 b_Desk__init st_Desk x ds = fi_Desk ds) : HasMk P w mg base g 6 "Desk" fi_Desk ∧ HasMkK P w mg base g 6 "Desk" ["agents", "kinds"] fi_Desk := by
  refine has_mk (k := 6 - 1) (N := N_Desk__init) (pre := b_Desk__init) (l := st_Desk) A sc_Desk__init (by decide) (by rfl) hfi (fun cdv A outer s H E φ c => ?_)
  exact (ib_cons (ss_if (st_not (st_val (se_fn c h_is_between (by omega) (by rfl) (sa_cons (sv_own 1) (sa_cons (sv_of se_int) (sa_cons (sv_of (se_glob (by rfl) T.v_MOST_AGENTS.choose_spec)) sa_nil)))))) (sb_one (ss_raise c hx_BadValue (by omega) (by rfl) se_int)) sb_nil)
    (ib_cons (ss_if (st_not (st_val (se_fn c h_has_length (by omega) (by rfl) (sa_cons (sv_own 2) (sa_cons (sv_of se_int) (sa_cons (sv_of (se_glob (by rfl) T.v_MOST_KINDS.choose_spec)) sa_nil)))))) (sb_one (ss_raise c hx_BadValue (by omega) (by rfl) se_int)) sb_nil)
    (ib_cons (ss_for c (si_enum c.K (sa_cons (sv_own 2) sa_nil) (by rfl) T.z_enumerate) (sg_tupX c.K c.calm (sgs_cons (sg_name (i := 3) c.nd) (sgs_cons (sg_name (i := 4) c.nd) sgs_nil)))
    (sb_one (ss_if (st_not (st_val (se_fn c h_is_kind (by omega) (by rfl) (sa_cons (sv_own 4) (sa_cons (sv_own 3) (sa_cons (sv_own 1) sa_nil)))))) (sb_one (ss_raise c hx_BadKind (by omega) (by rfl) (se_var 3))) sb_nil)))
    (ib_st (.cons (fun φ => let c := c.w0; (se_var 1)) (by rfl) (by rfl) (Or.inl rfl) (by decide) (by decide) (.cons (fun φ => let c := c.w0; (se_callT (ca_tup c.K) (by rfl) T.z_tuple (by decide +kernel) (sa_cons (sv_of (SE.ofL (sl_lc c (si_seq c.K (se_var 2)) (own := [("kind", 4)]) (blkOk_by (N := N_Desk__init) (sc := defScope s_Desk__init) (by decide +kernel)) (fun s H C cl fp φ => let c := c.blk s H _ _ fp; (sg_name (i := 4) c.nd)) (by decide) (fun s H C cl fp φ => sts_nil) (fun s H C cl fp φ => let c := c.blk s H _ _ fp; (se_fn c h_plain_kind (by omega) (by rfl) (sa_cons (sv_own 4) sa_nil)))))) sa_nil))) (by rfl) (by rfl) (Or.inl rfl) (by decide) (by decide) .nil))))))
abbrev s_law_made : Stmt := topS 55
abbrev N_law_made : List Str := ["case"]
theorem sc_law_made : FnScope N_law_made ["case"] (defScope s_law_made) := ⟨rfl, rfl, rfl, by decide +kernel, rfl, by decide +kernel, by decide +kernel⟩
def b_law_made : MS :=
    (mRet (mMake "Desk" fi_Desk (aCons (vOf (mBin atF (vOf (mBin atF (mOwn 0) (vOf (mC (.int 0))))) (vOf (mC (.int 0))))) (aCons (vOf (mBin atF (vOf (mBin atF (mOwn 0) (vOf (mC (.int 0))))) (vOf (mC (.int 1))))) aNil))))
def fn_law_made : Fn := fnOf 1 1 b_law_made
theorem ok_law_made {P : Program} {w : World} {mg : Str → Option Value} {base : Heap} {g : Gc} (T : Txt g mg) (A : FnAt g mg "_law_made" "_law_made" s_law_made ["case"]) (mk_Desk : HasMk P w mg base g 6 "Desk" fi_Desk) : Has P w mg base g 8 "_law_made" fn_law_made := by
  refine has_of (k := 8 - 1) (N := N_law_made) A sc_law_made (by decide) (fun cdv A outer s H E φ c => ?_)
  exact (sb_one (ss_ret (se_make c mk_Desk (by omega) (by rfl) (sa_cons (sv_of (se_ix (ix_at_ c.K) (sv_of (se_ix (ix_at_ c.K) (sv_own 0) (sv_of se_int))) (sv_of se_int))) (sa_cons (sv_of (se_ix (ix_at_ c.K) (sv_of (se_ix (ix_at_ c.K) (sv_own 0) (sv_of se_int))) (sv_of se_int))) sa_nil)))))
abbrev s_is_rising : Stmt := topS 11
abbrev N_is_rising : List Str := ["values", "one", "behind"]
theorem sc_is_rising : FnScope N_is_rising ["values"] (defScope s_is_rising) := ⟨rfl, rfl, rfl, by decide +kernel, rfl, by decide +kernel, by decide +kernel⟩
def b_is_rising : MS :=
    (mRet (mCall allF (aCons (vOf (mL (lLc [1, 2] (lZip (aCons (mOwn 0) (aCons (vOf (mCut (mOwn 0) (oSome (mC (.int 1))) oNone)) aNil))) (tupX 2 (consG (putG 1) (consG (putG 2) nilG))) tYesF (mBin (fun x y => (leTF x y).map D.bl) (mOwn 1) (mOwn 2))))) aNil)))
def fn_is_rising : Fn := fnOf 1 3 b_is_rising
theorem ok_is_rising {P : Program} {w : World} {mg : Str → Option Value} {base : Heap} {g : Gc} (T : Txt g mg) (A : FnAt g mg "is_rising" "is_rising" s_is_rising ["values"]) : Has P w mg base g 1 "is_rising" fn_is_rising := by
  refine has_of (k := 1 - 1) (N := N_is_rising) A sc_is_rising (by decide) (fun cdv A outer s H E φ c => ?_)
  exact (sb_one (ss_ret (se_callB (ca_all c.K c.calm) (by rfl) T.z_all (by decide +kernel) (sa_cons (sv_of (SE.ofL (sl_lc c (si_zip c.K (sa_cons (sv_own 0) (sa_cons (sv_of (se_cut c.K (sv_own 0) (so_some se_int) so_none)) sa_nil)) (by rfl) T.z_zip) (own := [("one", 1), ("behind", 2)]) (blkOk_by (N := N_is_rising) (sc := defScope s_is_rising) (by decide +kernel)) (fun s H C cl fp φ => let c := c.blk s H _ _ fp; (sg_tupX c.K c.calm (sgs_cons (sg_name (i := 1) c.nd) (sgs_cons (sg_name (i := 2) c.nd) sgs_nil)))) (by decide) (fun s H C cl fp φ => sts_nil) (fun s H C cl fp φ => let c := c.blk s H _ _ fp; (se_cmp (op_leT_ c.K c.rm) (sv_own 1) (sv_own 2)))))) sa_nil))))
abbrev s_is_arc : Stmt := topS 30
abbrev N_is_arc : List Str := ["value", "states", "kinds", "next_state"]
theorem sc_is_arc : FnScope N_is_arc ["value", "states"] (defScope s_is_arc) := ⟨rfl, rfl, rfl, by decide +kernel, rfl, by decide +kernel, by decide +kernel⟩
def b_is_arc : MS :=
    (mSeq (mIfS (mNot (mTest (mFn fn_has_length (aCons (mOwn 0) (aCons (vOf (mC (.int 2))) (aCons (vOf (mC (.int 2))) aNil)))))) (mRet (mC (.bl false))) mNext)
    (mSeq (mAsg (tupX 2 (consG (putG 2) (consG (putG 3) nilG))) (mVar 0))
    (mRet (mAndV (mFn fn_has_length (aCons (mOwn 2) (aCons (vOf (mC (.int 0))) (aCons (vOf (mC (.int 3))) aNil)))) (mAndV (mFn fn_all_below (aCons (mOwn 2) (aCons (vOf (mC (.int 3))) aNil))) (mAndV (mFn fn_is_rising (aCons (mOwn 2) aNil)) (mFn fn_is_between (aCons (mOwn 3) (aCons (vOf (mC (.int 0))) (aCons (vOf (mBin subF (mOwn 1) (vOf (mC (.int 1))))) aNil))))))))))
def fn_is_arc : Fn := fnOf 2 4 b_is_arc
theorem ok_is_arc {P : Program} {w : World} {mg : Str → Option Value} {base : Heap} {g : Gc} (T : Txt g mg) (A : FnAt g mg "is_arc" "is_arc" s_is_arc ["value", "states"]) (h_has_length : Has P w mg base g 2 "has_length" fn_has_length) (h_all_below : Has P w mg base g 3 "all_below" fn_all_below) (h_is_rising : Has P w mg base g 1 "is_rising" fn_is_rising) (h_is_between : Has P w mg base g 2 "is_between" fn_is_between) : Has P w mg base g 4 "is_arc" fn_is_arc := by
  refine has_of (k := 4 - 1) (N := N_is_arc) A sc_is_arc (by decide) (fun cdv A outer s H E φ c => ?_)
  exact (sb_cons (ss_if (st_not (st_val (se_fn c h_has_length (by omega) (by rfl) (sa_cons (sv_own 0) (sa_cons (sv_of se_int) (sa_cons (sv_of se_int) sa_nil)))))) (sb_one (ss_ret se_bl)) sb_nil)
    (sb_cons (ss_asg (se_var 0) (sg_tupX c.K c.calm (sgs_cons (sg_name (i := 2) c.nd) (sgs_cons (sg_name (i := 3) c.nd) sgs_nil))))
    (sb_one (ss_ret (se_and (se_fn c h_has_length (by omega) (by rfl) (sa_cons (sv_own 2) (sa_cons (sv_of se_int) (sa_cons (sv_of (se_glob (by rfl) T.v_MOST_COMING.choose_spec)) sa_nil)))) (se_and (se_fn c h_all_below (by omega) (by rfl) (sa_cons (sv_own 2) (sa_cons (sv_of (se_glob (by rfl) T.v_MOST_KINDS.choose_spec)) sa_nil))) (se_and (se_fn c h_is_rising (by omega) (by rfl) (sa_cons (sv_own 2) sa_nil)) (se_one (se_fn c h_is_between (by omega) (by rfl) (sa_cons (sv_own 3) (sa_cons (sv_of se_int) (sa_cons (sv_of (se_bin op_sub_ (sv_own 1) (sv_of se_int))) sa_nil))))))))))))
abbrev s_is_state : Stmt := topS 29
abbrev N_is_state : List Str := ["value", "states", "arc"]
theorem sc_is_state : FnScope N_is_state ["value", "states"] (defScope s_is_state) := ⟨rfl, rfl, rfl, by decide +kernel, rfl, by decide +kernel, by decide +kernel⟩
def b_is_state : MS :=
    (mRet (mAndV (mFn fn_has_length (aCons (mOwn 0) (aCons (vOf (mC (.int 1))) (aCons (vOf (mC (.int 4))) aNil)))) (mCall allF (aCons (vOf (mL (lLc [2] (lSeq (mVar 0)) (putG 2) tYesF (mFn fn_is_arc (aCons (mOwn 2) (aCons (mOwn 1) aNil)))))) aNil))))
def fn_is_state : Fn := fnOf 2 3 b_is_state
theorem ok_is_state {P : Program} {w : World} {mg : Str → Option Value} {base : Heap} {g : Gc} (T : Txt g mg) (A : FnAt g mg "is_state" "is_state" s_is_state ["value", "states"]) (h_has_length : Has P w mg base g 2 "has_length" fn_has_length) (h_is_arc : Has P w mg base g 4 "is_arc" fn_is_arc) : Has P w mg base g 5 "is_state" fn_is_state := by
  refine has_of (k := 5 - 1) (N := N_is_state) A sc_is_state (by decide) (fun cdv A outer s H E φ c => ?_)
  exact (sb_one (ss_ret (se_and (se_fn c h_has_length (by omega) (by rfl) (sa_cons (sv_own 0) (sa_cons (sv_of se_int) (sa_cons (sv_of (se_glob (by rfl) T.v_MOST_ARCS.choose_spec)) sa_nil)))) (se_one (se_callB (ca_all c.K c.calm) (by rfl) T.z_all (by decide +kernel) (sa_cons (sv_of (SE.ofL (sl_lc c (si_seq c.K (se_var 0)) (own := [("arc", 2)]) (blkOk_by (N := N_is_state) (sc := defScope s_is_state) (by decide +kernel)) (fun s H C cl fp φ => let c := c.blk s H _ _ fp; (sg_name (i := 2) c.nd)) (by decide) (fun s H C cl fp φ => sts_nil) (fun s H C cl fp φ => let c := c.blk s H _ _ fp; (se_fn c h_is_arc (by omega) (by rfl) (sa_cons (sv_own 2) (sa_cons (sv_own 1) sa_nil))))))) sa_nil))))))
abbrev s_plain_state : Stmt := topS 31
abbrev N_plain_state : List Str := ["state", "kinds", "next_state"]
theorem sc_plain_state : FnScope N_plain_state ["state"] (defScope s_plain_state) := ⟨rfl, rfl, rfl, by decide +kernel, rfl, by decide +kernel, by decide +kernel⟩
def b_plain_state : MS :=
    (mRet (mCall tupF (aCons (vOf (mL (lLc [1, 2] (lSeq (mVar 0)) (tupX 2 (consG (putG 1) (consG (putG 2) nilG))) tYesF (mTup (aCons (vOf (mCall tupF (aCons (mOwn 1) aNil))) (aCons (mOwn 2) aNil)))))) aNil)))
def fn_plain_state : Fn := fnOf 1 3 b_plain_state
theorem ok_plain_state {P : Program} {w : World} {mg : Str → Option Value} {base : Heap} {g : Gc} (T : Txt g mg) (A : FnAt g mg "plain_state" "plain_state" s_plain_state ["state"]) : Has P w mg base g 1 "plain_state" fn_plain_state := by
  refine has_of (k := 1 - 1) (N := N_plain_state) A sc_plain_state (by decide) (fun cdv A outer s H E φ c => ?_)
  exact (sb_one (ss_ret (se_callT (ca_tup c.K) (by rfl) T.z_tuple (by decide +kernel) (sa_cons (sv_of (SE.ofL (sl_lc c (si_seq c.K (se_var 0)) (own := [("kinds", 1), ("next_state", 2)]) (blkOk_by (N := N_plain_state) (sc := defScope s_plain_state) (by decide +kernel)) (fun s H C cl fp φ => let c := c.blk s H _ _ fp; (sg_tupX c.K c.calm (sgs_cons (sg_name (i := 1) c.nd) (sgs_cons (sg_name (i := 2) c.nd) sgs_nil)))) (by decide) (fun s H C cl fp φ => sts_nil) (fun s H C cl fp φ => let c := c.blk s H _ _ fp; (se_tup (sa_cons (sv_of (se_callT (ca_tup c.K) (by rfl) T.z_tuple (by decide +kernel) (sa_cons (sv_own 1) sa_nil))) (sa_cons (sv_own 2) sa_nil))))))) sa_nil))))
abbrev s_Stream__init : Stmt := inClass (topS 26) 0
abbrev N_Stream__init : List Str := ["self", "states", "at", "state"]
theorem sc_Stream__init : FnScope N_Stream__init ["self", "states"] (defScope s_Stream__init) := ⟨rfl, rfl, rfl, by decide +kernel, rfl, by decide +kernel, by decide +kernel⟩
def b_Stream__init : MS :=
    (mSeq (mIfS (mNot (mTest (mFn fn_has_length (aCons (mOwn 1) (aCons (vOf (mC (.int 1))) (aCons (vOf (mC (.int 8))) aNil)))))) (mRaise "BadValue" (mC (.int 1))) mNext)
    (mSeq (mFor (lEnum (aCons (mOwn 1) aNil)) (tupX 2 (consG (putG 2) (consG (putG 3) nilG)))
    (mIfS (mNot (mTest (mFn fn_is_state (aCons (mOwn 3) (aCons (vOf (mCall lenF (aCons (mOwn 1) aNil))) aNil))))) (mRaise "BadState" (mVar 2)) mNext))
    mNext))
def st_Stream : List (Str × ME) := [("_states", (mCall tupF (aCons (vOf (mL (lLc [3] (lSeq (mVar 1)) (putG 3) tYesF (mFn fn_plain_state (aCons (mOwn 3) aNil))))) aNil)))]
def fi_Stream : List D → IR := runInit 2 4 b_Stream__init st_Stream 0
theorem ok_Stream__init {P : Program} {w : World} {mg : Str → Option Value} {base : Heap} {g : Gc} (T : Txt g mg) {C fI : Addr} {fd : FuncData} (A : ClAt g mg "Stream" C ["_states"] s_Stream__init "self" "Stream.__init__" ["states"] fI fd) (h_has_length : Has P w mg base g 2 "has_length" fn_has_length) (hx_BadValue : HasX P w mg base g 1 "BadValue") (h_is_state : Has P w mg base g 5 "is_state" fn_is_state) (hx_BadState : HasX P w mg base g 1 "BadState") (h_plain_state : Has P w mg base g 1 "plain_state" fn_plain_state)
    (hfi : ∀ x ds, runInit 2 4 b_Stream__init st_Stream x ds = fi_Stream ds) : HasMk P w mg base g 6 "Stream" fi_Stream ∧ HasMkK P w mg base g 6 "Stream" ["states"] fi_Stream := by
  refine has_mk (k := 6 - 1) (N := N_Stream__init) (pre := b_Stream__init) (l := st_Stream) A sc_Stream__init (by decide) (by rfl) hfi (fun cdv A outer s H E φ c => ?_)
  exact (ib_cons (ss_if (st_not (st_val (se_fn c h_has_length (by omega) (by rfl) (sa_cons (sv_own 1) (sa_cons (sv_of se_int) (sa_cons (sv_of (se_glob (by rfl) T.v_MOST_STATES.choose_spec)) sa_nil)))))) (sb_one (ss_raise c hx_BadValue (by omega) (by rfl) se_int)) sb_nil)
    (ib_cons (ss_for c (si_enum c.K (sa_cons (sv_own 1) sa_nil) (by rfl) T.z_enumerate) (sg_tupX c.K c.calm (sgs_cons (sg_name (i := 2) c.nd) (sgs_cons (sg_name (i := 3) c.nd) sgs_nil)))
    (sb_one (ss_if (st_not (st_val (se_fn c h_is_state (by omega) (by rfl) (sa_cons (sv_own 3) (sa_cons (sv_of (se_callB (ca_len c.K) (by rfl) T.z_len (by decide +kernel) (sa_cons (sv_own 1) sa_nil))) sa_nil))))) (sb_one (ss_raise c hx_BadState (by omega) (by rfl) (se_var 2))) sb_nil)))
    (ib_st (.cons (fun φ => let c := c.w0; (se_callT (ca_tup c.K) (by rfl) T.z_tuple (by decide +kernel) (sa_cons (sv_of (SE.ofL (sl_lc c (si_seq c.K (se_var 1)) (own := [("state", 3)]) (blkOk_by (N := N_Stream__init) (sc := defScope s_Stream__init) (by decide +kernel)) (fun s H C cl fp φ => let c := c.blk s H _ _ fp; (sg_name (i := 3) c.nd)) (by decide) (fun s H C cl fp φ => sts_nil) (fun s H C cl fp φ => let c := c.blk s H _ _ fp; (se_fn c h_plain_state (by omega) (by rfl) (sa_cons (sv_own 3) sa_nil)))))) sa_nil))) (by rfl) (by rfl) (Or.inl rfl) (by decide) (by decide) .nil))))
abbrev s_law_flow : Stmt := topS 56
abbrev N_law_flow : List Str := ["case"]
theorem sc_law_flow : FnScope N_law_flow ["case"] (defScope s_law_flow) := ⟨rfl, rfl, rfl, by decide +kernel, rfl, by decide +kernel, by decide +kernel⟩
def b_law_flow : MS :=
    (mRet (mMake "Stream" fi_Stream (aCons (vOf (mBin atF (mOwn 0) (vOf (mC (.int 1))))) aNil)))
def fn_law_flow : Fn := fnOf 1 1 b_law_flow
theorem ok_law_flow {P : Program} {w : World} {mg : Str → Option Value} {base : Heap} {g : Gc} (T : Txt g mg) (A : FnAt g mg "_law_flow" "_law_flow" s_law_flow ["case"]) (mk_Stream : HasMk P w mg base g 6 "Stream" fi_Stream) : Has P w mg base g 8 "_law_flow" fn_law_flow := by
  refine has_of (k := 8 - 1) (N := N_law_flow) A sc_law_flow (by decide) (fun cdv A outer s H E φ c => ?_)
  exact (sb_one (ss_ret (se_make c mk_Stream (by omega) (by rfl) (sa_cons (sv_of (se_ix (ix_at_ c.K) (sv_own 0) (sv_of se_int))) sa_nil))))
abbrev s_law_scene : Stmt := topS 60
abbrev N_law_scene : List Str := ["row", "spot", "case", "tickets", "k", "kind", "rule"]
theorem sc_law_scene : FnScope N_law_scene ["row", "spot", "case"] (defScope s_law_scene) := ⟨rfl, rfl, rfl, by decide +kernel, rfl, by decide +kernel, by decide +kernel⟩
def b_law_scene : MS :=
    (mSeq (mSetO 3 (lLst aNil))
    (mSeq (mFor (lRange1 (mFn fn_law_take (aCons (mOwn 0) (aCons (mOwn 1) (aCons (vOf (mC (.int 6))) aNil))))) (putG 4)
    (mSeq (mSet 5 (mFn fn_law_take (aCons (mOwn 0) (aCons (mOwn 1) (aCons (vOf (mCall lenF (aCons (vOf (mBin atF (vOf (mBin atF (mOwn 2) (vOf (mC (.int 0))))) (vOf (mC (.int 1))))) aNil))) aNil)))))
    (mSeq (mSet 6 (mBin atF (vOf (mBin atF (vOf (mBin atF (mOwn 2) (vOf (mC (.int 0))))) (vOf (mC (.int 1))))) (mOwn 5)))
    (mAppend 3 (mTup (aCons (mOwn 5) (aCons (vOf (mBin addF (vOf (mC (.int 1))) (vOf (mFn fn_law_take (aCons (mOwn 0) (aCons (mOwn 1) (aCons (vOf (mBin atF (mOwn 6) (vOf (mC (.int 0))))) aNil))))))) (aCons (vOf (mBin addF (vOf (mC (.int 1))) (vOf (mFn fn_law_take (aCons (mOwn 0) (aCons (mOwn 1) (aCons (vOf (mBin atF (mOwn 6) (vOf (mC (.int 1))))) aNil))))))) aNil))))))))
    (mRet (mTup (aCons (vOf (mFn fn_law_take (aCons (mOwn 0) (aCons (mOwn 1) (aCons (vOf (mCall lenF (aCons (vOf (mBin atF (mOwn 2) (vOf (mC (.int 1))))) aNil))) aNil))))) (aCons (vOf (mCall tupF (aCons (vOf (mCall sortDF (aCons (mOwn 3) aNil))) aNil))) aNil))))))
def fn_law_scene : Fn := fnOf 3 7 b_law_scene
theorem ok_law_scene {P : Program} {w : World} {mg : Str → Option Value} {base : Heap} {g : Gc} (T : Txt g mg) (A : FnAt g mg "_law_scene" "_law_scene" s_law_scene ["row", "spot", "case"]) (h_law_take : Has P w mg base g 2 "_law_take" fn_law_take) : Has P w mg base g 3 "_law_scene" fn_law_scene := by
  refine has_of (k := 3 - 1) (N := N_law_scene) A sc_law_scene (by decide) (fun cdv A outer s H E φ c => ?_)
  exact (sb_cons (ss_setO (i := 3) c.nd (sl_lst sa_nil))
    (sb_cons (ss_for c (si_range1 (se_fn c h_law_take (by omega) (by rfl) (sa_cons (sv_own 0) (sa_cons (sv_own 1) (sa_cons (sv_of se_int) sa_nil)))) (by rfl) T.z_range) (sg_name (i := 4) c.nd)
    (sb_cons (ss_set (i := 5) c.nd (se_fn c h_law_take (by omega) (by rfl) (sa_cons (sv_own 0) (sa_cons (sv_own 1) (sa_cons (sv_of (se_callB (ca_len c.K) (by rfl) T.z_len (by decide +kernel) (sa_cons (sv_of (se_ix (ix_at_ c.K) (sv_of (se_ix (ix_at_ c.K) (sv_own 2) (sv_of se_int))) (sv_of se_int))) sa_nil))) sa_nil)))))
    (sb_cons (ss_set (i := 6) c.nd (se_ix (ix_at_ c.K) (sv_of (se_ix (ix_at_ c.K) (sv_of (se_ix (ix_at_ c.K) (sv_own 2) (sv_of se_int))) (sv_of se_int))) (sv_own 5)))
    (sb_one (ss_append 3 (se_tup (sa_cons (sv_own 5) (sa_cons (sv_of (se_bin (op_add_ c.K) (sv_of se_int) (sv_of (se_fn c h_law_take (by omega) (by rfl) (sa_cons (sv_own 0) (sa_cons (sv_own 1) (sa_cons (sv_of (se_ix (ix_at_ c.K) (sv_own 6) (sv_of se_int))) sa_nil))))))) (sa_cons (sv_of (se_bin (op_add_ c.K) (sv_of se_int) (sv_of (se_fn c h_law_take (by omega) (by rfl) (sa_cons (sv_own 0) (sa_cons (sv_own 1) (sa_cons (sv_of (se_ix (ix_at_ c.K) (sv_own 6) (sv_of se_int))) sa_nil))))))) sa_nil)))))))))
    (sb_one (ss_ret (se_tup (sa_cons (sv_of (se_fn c h_law_take (by omega) (by rfl) (sa_cons (sv_own 0) (sa_cons (sv_own 1) (sa_cons (sv_of (se_callB (ca_len c.K) (by rfl) T.z_len (by decide +kernel) (sa_cons (sv_of (se_ix (ix_at_ c.K) (sv_own 2) (sv_of se_int))) sa_nil))) sa_nil))))) (sa_cons (sv_of (se_callT (ca_tup c.K) (by rfl) T.z_tuple (by decide +kernel) (sa_cons (sv_of (se_callB (ca_sortD c.K c.rm) (by rfl) T.z_sorted (by decide +kernel) (sa_cons (sv_own 3) sa_nil))) sa_nil))) sa_nil)))))))
abbrev s_law_crowd : Stmt := topS 61
abbrev N_law_crowd : List Str := ["row", "spot", "case", "kind", "rule", "one", "k"]
theorem sc_law_crowd : FnScope N_law_crowd ["row", "spot", "case"] (defScope s_law_crowd) := ⟨rfl, rfl, rfl, by decide +kernel, rfl, by decide +kernel, by decide +kernel⟩
def b_law_crowd : MS :=
    (mSeq (mSet 3 (mFn fn_law_take (aCons (mOwn 0) (aCons (mOwn 1) (aCons (vOf (mCall lenF (aCons (vOf (mBin atF (vOf (mBin atF (mOwn 2) (vOf (mC (.int 0))))) (vOf (mC (.int 1))))) aNil))) aNil)))))
    (mSeq (mSet 4 (mBin atF (vOf (mBin atF (vOf (mBin atF (mOwn 2) (vOf (mC (.int 0))))) (vOf (mC (.int 1))))) (mOwn 3)))
    (mSeq (mSet 5 (mTup (aCons (mOwn 3) (aCons (vOf (mBin addF (vOf (mC (.int 1))) (vOf (mFn fn_law_take (aCons (mOwn 0) (aCons (mOwn 1) (aCons (vOf (mBin atF (mOwn 4) (vOf (mC (.int 0))))) aNil))))))) (aCons (vOf (mBin addF (vOf (mC (.int 1))) (vOf (mFn fn_law_take (aCons (mOwn 0) (aCons (mOwn 1) (aCons (vOf (mBin atF (mOwn 4) (vOf (mC (.int 1))))) aNil))))))) aNil)))))
    (mRet (mTup (aCons (vOf (mFn fn_law_take (aCons (mOwn 0) (aCons (mOwn 1) (aCons (vOf (mCall lenF (aCons (vOf (mBin atF (mOwn 2) (vOf (mC (.int 1))))) aNil))) aNil))))) (aCons (vOf (mCall tupF (aCons (vOf (mL (lLc [6] (lRange1 (mBin addF (vOf (mC (.int 8))) (vOf (mFn fn_law_take (aCons (mOwn 0) (aCons (mOwn 1) (aCons (vOf (mC (.int 30))) aNil))))))) (putG 6) tYesF (mVar 5)))) aNil))) aNil)))))))
def fn_law_crowd : Fn := fnOf 3 7 b_law_crowd
theorem ok_law_crowd {P : Program} {w : World} {mg : Str → Option Value} {base : Heap} {g : Gc} (T : Txt g mg) (A : FnAt g mg "_law_crowd" "_law_crowd" s_law_crowd ["row", "spot", "case"]) (h_law_take : Has P w mg base g 2 "_law_take" fn_law_take) : Has P w mg base g 3 "_law_crowd" fn_law_crowd := by
  refine has_of (k := 3 - 1) (N := N_law_crowd) A sc_law_crowd (by decide) (fun cdv A outer s H E φ c => ?_)
  exact (sb_cons (ss_set (i := 3) c.nd (se_fn c h_law_take (by omega) (by rfl) (sa_cons (sv_own 0) (sa_cons (sv_own 1) (sa_cons (sv_of (se_callB (ca_len c.K) (by rfl) T.z_len (by decide +kernel) (sa_cons (sv_of (se_ix (ix_at_ c.K) (sv_of (se_ix (ix_at_ c.K) (sv_own 2) (sv_of se_int))) (sv_of se_int))) sa_nil))) sa_nil)))))
    (sb_cons (ss_set (i := 4) c.nd (se_ix (ix_at_ c.K) (sv_of (se_ix (ix_at_ c.K) (sv_of (se_ix (ix_at_ c.K) (sv_own 2) (sv_of se_int))) (sv_of se_int))) (sv_own 3)))
    (sb_cons (ss_set (i := 5) c.nd (se_tup (sa_cons (sv_own 3) (sa_cons (sv_of (se_bin (op_add_ c.K) (sv_of se_int) (sv_of (se_fn c h_law_take (by omega) (by rfl) (sa_cons (sv_own 0) (sa_cons (sv_own 1) (sa_cons (sv_of (se_ix (ix_at_ c.K) (sv_own 4) (sv_of se_int))) sa_nil))))))) (sa_cons (sv_of (se_bin (op_add_ c.K) (sv_of se_int) (sv_of (se_fn c h_law_take (by omega) (by rfl) (sa_cons (sv_own 0) (sa_cons (sv_own 1) (sa_cons (sv_of (se_ix (ix_at_ c.K) (sv_own 4) (sv_of se_int))) sa_nil))))))) sa_nil)))))
    (sb_one (ss_ret (se_tup (sa_cons (sv_of (se_fn c h_law_take (by omega) (by rfl) (sa_cons (sv_own 0) (sa_cons (sv_own 1) (sa_cons (sv_of (se_callB (ca_len c.K) (by rfl) T.z_len (by decide +kernel) (sa_cons (sv_of (se_ix (ix_at_ c.K) (sv_own 2) (sv_of se_int))) sa_nil))) sa_nil))))) (sa_cons (sv_of (se_callT (ca_tup c.K) (by rfl) T.z_tuple (by decide +kernel) (sa_cons (sv_of (SE.ofL (sl_lc c (si_range1 (se_bin (op_add_ c.K) (sv_of se_int) (sv_of (se_fn c h_law_take (by omega) (by rfl) (sa_cons (sv_own 0) (sa_cons (sv_own 1) (sa_cons (sv_of se_int) sa_nil)))))) (by rfl) T.z_range) (own := [("k", 6)]) (blkOk_by (N := N_law_crowd) (sc := defScope s_law_crowd) (by decide +kernel)) (fun s H C cl fp φ => let c := c.blk s H _ _ fp; (sg_name (i := 6) c.nd)) (by decide) (fun s H C cl fp φ => sts_nil) (fun s H C cl fp φ => (se_var 5))))) sa_nil))) sa_nil))))))))
abbrev s_law_so : Stmt := topS 45
abbrev N_law_so : List Str := ["found", "meant", "k"]
theorem sc_law_so : FnScope N_law_so ["found", "meant"] (defScope s_law_so) := ⟨rfl, rfl, rfl, by decide +kernel, rfl, by decide +kernel, by decide +kernel⟩
def b_law_so (self : Fn) : MS :=
    (mSeq (mIfS (mBin isF (mOwn 1) (vOf (mC .non))) (mRet (mBin (fun x y => (isF x y).map D.bl) (mOwn 0) (vOf (mC .non)))) mNext)
    (mSeq (mIfS (mTest (mCall isiF (aCons (mOwn 1) (aCons (vOf (mC (.ty "tuple"))) aNil)))) (mSeq (mIfS (mOr (mNot (mTest (mCall isiF (aCons (mOwn 0) (aCons (vOf (mC (.ty "tuple"))) aNil))))) (mBin neF (vOf (mCall lenF (aCons (mOwn 0) aNil))) (vOf (mCall lenF (aCons (mOwn 1) aNil))))) (mRet (mC (.bl false))) mNext)
    (mSeq (mFor (lRange1 (mCall lenF (aCons (mOwn 1) aNil))) (putG 2)
    (mIfS (mNot (mTest (mFn self (aCons (vOf (mBin atF (mOwn 0) (mOwn 2))) (aCons (vOf (mBin atF (mOwn 1) (mOwn 2))) aNil))))) (mRet (mC (.bl false))) mNext))
    (mRet (mC (.bl true))))) mNext)
    (mSeq (mIfS (mOr (mTest (mCall isiF (aCons (mOwn 1) (aCons (vOf (mC (.ty "bool"))) aNil)))) (mTest (mCall isiF (aCons (mOwn 0) (aCons (vOf (mC (.ty "bool"))) aNil))))) (mRet (mAndV (mCall isiF (aCons (mOwn 1) (aCons (vOf (mC (.ty "bool"))) aNil))) (mAndV (mCall isiF (aCons (mOwn 0) (aCons (vOf (mC (.ty "bool"))) aNil))) (mBin (fun x y => (eqF x y).map D.bl) (mOwn 0) (mOwn 1))))) mNext)
    (mSeq (mIfS (mTest (mCall isiF (aCons (mOwn 1) (aCons (vOf (mC (.ty "int"))) aNil)))) (mRet (mAndV (mCall isiF (aCons (mOwn 0) (aCons (vOf (mC (.ty "int"))) aNil))) (mBin (fun x y => (eqF x y).map D.bl) (mOwn 0) (mOwn 1)))) mNext)
    (mRet (mAndV (mCall isiF (aCons (mOwn 1) (aCons (vOf (mC (.ty "str"))) aNil))) (mAndV (mCall isiF (aCons (mOwn 0) (aCons (vOf (mC (.ty "str"))) aNil))) (mBin (fun x y => (eqF x y).map D.bl) (mOwn 0) (mOwn 1)))))))))
def fn_law_so : Nat → Fn
  | 0 => fun _ => .no
  | n + 1 => fnOf 2 3 (b_law_so (fn_law_so n))
theorem ok_law_so {P : Program} {w : World} {mg : Str → Option Value} {base : Heap} {g : Gc} (T : Txt g mg) (A : FnAt g mg "_law_so" "_law_so" s_law_so ["found", "meant"]) : ∀ n, Has P w mg base g (1 + n) "_law_so" (fn_law_so n)
  | 0 => has_no A
  | n + 1 => by
    have hself := ok_law_so (P := P) (w := w) (base := base) T A n
    refine has_of (k := 1 + n) (N := N_law_so) A sc_law_so (by decide) (fun cdv A outer s H E φ c => ?_)
    exact (sb_cons (ss_if (st_cmp op_is_ (sv_own 1) (sv_of se_non)) (sb_one (ss_ret (se_cmp op_is_ (sv_own 0) (sv_of se_non)))) sb_nil)
    (sb_cons (ss_if (st_val (se_callB (ca_isi c.K) (by rfl) T.z_isinstance (by decide +kernel) (sa_cons (sv_own 1) (sa_cons (sv_of (se_ty (by rfl) T.z_tuple (by decide +kernel))) sa_nil)))) (sb_cons (ss_if (st_w (sw_or (st_not (st_val (se_callB (ca_isi c.K) (by rfl) T.z_isinstance (by decide +kernel) (sa_cons (sv_own 0) (sa_cons (sv_of (se_ty (by rfl) T.z_tuple (by decide +kernel))) sa_nil))))) (sw_or1 (st_cmp (op_ne_ c.K c.rm) (sv_of (se_callB (ca_len c.K) (by rfl) T.z_len (by decide +kernel) (sa_cons (sv_own 0) sa_nil))) (sv_of (se_callB (ca_len c.K) (by rfl) T.z_len (by decide +kernel) (sa_cons (sv_own 1) sa_nil))))))) (sb_one (ss_ret se_bl)) sb_nil)
    (sb_cons (ss_for c (si_range1 (se_callB (ca_len c.K) (by rfl) T.z_len (by decide +kernel) (sa_cons (sv_own 1) sa_nil)) (by rfl) T.z_range) (sg_name (i := 2) c.nd)
    (sb_one (ss_if (st_not (st_val (se_fn c hself (Nat.le_refl _) (by rfl) (sa_cons (sv_of (se_ix (ix_at_ c.K) (sv_own 0) (sv_own 2))) (sa_cons (sv_of (se_ix (ix_at_ c.K) (sv_own 1) (sv_own 2))) sa_nil))))) (sb_one (ss_ret se_bl)) sb_nil)))
    (sb_one (ss_ret se_bl)))) sb_nil)
    (sb_cons (ss_if (st_w (sw_or (st_val (se_callB (ca_isi c.K) (by rfl) T.z_isinstance (by decide +kernel) (sa_cons (sv_own 1) (sa_cons (sv_of (se_ty (by rfl) T.z_bool (by decide +kernel))) sa_nil)))) (sw_or1 (st_val (se_callB (ca_isi c.K) (by rfl) T.z_isinstance (by decide +kernel) (sa_cons (sv_own 0) (sa_cons (sv_of (se_ty (by rfl) T.z_bool (by decide +kernel))) sa_nil))))))) (sb_one (ss_ret (se_and (se_callB (ca_isi c.K) (by rfl) T.z_isinstance (by decide +kernel) (sa_cons (sv_own 1) (sa_cons (sv_of (se_ty (by rfl) T.z_bool (by decide +kernel))) sa_nil))) (se_and (se_callB (ca_isi c.K) (by rfl) T.z_isinstance (by decide +kernel) (sa_cons (sv_own 0) (sa_cons (sv_of (se_ty (by rfl) T.z_bool (by decide +kernel))) sa_nil))) (se_one (se_cmp (op_eq_ c.K c.rm) (sv_own 0) (sv_own 1))))))) sb_nil)
    (sb_cons (ss_if (st_val (se_callB (ca_isi c.K) (by rfl) T.z_isinstance (by decide +kernel) (sa_cons (sv_own 1) (sa_cons (sv_of (se_ty (by rfl) T.z_int (by decide +kernel))) sa_nil)))) (sb_one (ss_ret (se_and (se_callB (ca_isi c.K) (by rfl) T.z_isinstance (by decide +kernel) (sa_cons (sv_own 0) (sa_cons (sv_of (se_ty (by rfl) T.z_int (by decide +kernel))) sa_nil))) (se_one (se_cmp (op_eq_ c.K c.rm) (sv_own 0) (sv_own 1)))))) sb_nil)
    (sb_one (ss_ret (se_and (se_callB (ca_isi c.K) (by rfl) T.z_isinstance (by decide +kernel) (sa_cons (sv_own 1) (sa_cons (sv_of (se_ty (by rfl) T.z_str (by decide +kernel))) sa_nil))) (se_and (se_callB (ca_isi c.K) (by rfl) T.z_isinstance (by decide +kernel) (sa_cons (sv_own 0) (sa_cons (sv_of (se_ty (by rfl) T.z_str (by decide +kernel))) sa_nil))) (se_one (se_cmp (op_eq_ c.K c.rm) (sv_own 0) (sv_own 1)))))))))))
abbrev s_fits : Stmt := topS 32
abbrev N_fits : List Str := ["desk", "stream", "state", "kinds", "_"]
theorem sc_fits : FnScope N_fits ["desk", "stream"] (defScope s_fits) := ⟨rfl, rfl, rfl, by decide +kernel, rfl, by decide +kernel, by decide +kernel⟩
def b_fits : MS :=
    (mRet (mCall allF (aCons (vOf (mL (lLc2 [2, 3, 4] [3, 4] (lSeq (mAtt "Stream" 0 (mVar 1))) (putG 2) (lSeq (mVar 2)) (tupX 2 (consG (putG 3) (consG (putG 4) nilG))) (mFn fn_all_below (aCons (mOwn 3) (aCons (vOf (mCall lenF (aCons (vOf (mAtt "Desk" 1 (mVar 0))) aNil))) aNil)))))) aNil)))
def fn_fits : Fn := fnOf 2 5 b_fits
theorem ok_fits {P : Program} {w : World} {mg : Str → Option Value} {base : Heap} {g : Gc} (T : Txt g mg) (A : FnAt g mg "fits" "fits" s_fits ["desk", "stream"]) (h_all_below : Has P w mg base g 3 "all_below" fn_all_below) (hp_Stream_states : HasPr P w mg base g 1 "Stream" "states" 0) (hp_Desk_kinds : HasPr P w mg base g 1 "Desk" "kinds" 1) : Has P w mg base g 4 "fits" fn_fits := by
  refine has_of (k := 4 - 1) (N := N_fits) A sc_fits (by decide) (fun cdv A outer s H E φ c => ?_)
  exact (sb_one (ss_ret (se_callB (ca_all c.K c.calm) (by rfl) T.z_all (by decide +kernel) (sa_cons (sv_of (SE.ofL (sl_lc2 (vs1 := [3, 4]) (own := [("state", 2), ("kinds", 3), ("_", 4)]) c (si_seq c.K (se_prop c hp_Stream_states (by omega) (se_var 1))) (blkOk_by (N := N_fits) (sc := defScope s_fits) (by decide +kernel)) (by decide) (fun s H C cl fp φ => let c := c.blk s H _ _ fp; (sg_name (i := 2) c.nd)) (by decide) (fun s H C cl fp φ => let c := c.blk s H _ _ fp; (si_seq c.K (se_var 2))) (fun s H C cl fp φ => let c := c.blk s H _ _ fp; (sg_tupX c.K c.calm (sgs_cons (sg_name (i := 3) c.nd) (sgs_cons (sg_name (i := 4) c.nd) sgs_nil)))) (by decide) (fun s H C cl fp φ => let c := c.blk s H _ _ fp; (se_fn c h_all_below (by omega) (by rfl) (sa_cons (sv_own 3) (sa_cons (sv_of (se_callB (ca_len c.K) (by rfl) T.z_len (by decide +kernel) (sa_cons (sv_of (se_prop c hp_Desk_kinds (by omega) (se_var 0))) sa_nil))) sa_nil))))))) sa_nil))))
abbrev s_check_both : Stmt := topS 33
abbrev N_check_both : List Str := ["desk", "stream"]
theorem sc_check_both : FnScope N_check_both ["desk", "stream"] (defScope s_check_both) := ⟨rfl, rfl, rfl, by decide +kernel, rfl, by decide +kernel, by decide +kernel⟩
def b_check_both : MS :=
    (mSeq (mIfS (mNot (mTest (mCall (isClF "Desk") (aCons (mOwn 0) (aCons (vOf (mC (.cls "Desk"))) aNil))))) (mRaise "BadValue" (mC (.int 1))) mNext)
    (mIfS (mOr (mNot (mTest (mCall (isClF "Stream") (aCons (mOwn 1) (aCons (vOf (mC (.cls "Stream"))) aNil))))) (mNot (mTest (mFn fn_fits (aCons (mOwn 0) (aCons (mOwn 1) aNil)))))) (mRaise "BadValue" (mC (.int 2))) mNext))
def fn_check_both : Fn := fnOf 2 2 b_check_both
theorem ok_check_both {P : Program} {w : World} {mg : Str → Option Value} {base : Heap} {g : Gc} (T : Txt g mg) (A : FnAt g mg "check_both" "check_both" s_check_both ["desk", "stream"]) (hx_BadValue : HasX P w mg base g 1 "BadValue") (h_fits : Has P w mg base g 4 "fits" fn_fits) : Has P w mg base g 5 "check_both" fn_check_both := by
  refine has_of (k := 5 - 1) (N := N_check_both) A sc_check_both (by decide) (fun cdv A outer s H E φ c => ?_)
  exact (sb_cons (ss_if (st_not (st_val (se_callB (ca_isCl c.K T.is_Desk) (by rfl) T.z_isinstance (by decide +kernel) (sa_cons (sv_own 0) (sa_cons (sv_of (se_cls (by rfl) T.c_Desk.choose_spec.1 T.c_Desk.choose_spec.2)) sa_nil))))) (sb_one (ss_raise c hx_BadValue (by omega) (by rfl) se_int)) sb_nil)
    (sb_one (ss_if (st_w (sw_or (st_not (st_val (se_callB (ca_isCl c.K T.is_Stream) (by rfl) T.z_isinstance (by decide +kernel) (sa_cons (sv_own 1) (sa_cons (sv_of (se_cls (by rfl) T.c_Stream.choose_spec.1 T.c_Stream.choose_spec.2)) sa_nil))))) (sw_or1 (st_not (st_val (se_fn c h_fits (by omega) (by rfl) (sa_cons (sv_own 0) (sa_cons (sv_own 1) sa_nil)))))))) (sb_one (ss_raise c hx_BadValue (by omega) (by rfl) se_int)) sb_nil)))
abbrev s_Stream__len : Stmt := inClass (topS 26) 2
abbrev N_Stream__len : List Str := ["self"]
theorem sc_Stream__len : FnScope N_Stream__len ["self"] (defScope s_Stream__len) := ⟨rfl, rfl, rfl, by decide +kernel, rfl, by decide +kernel, by decide +kernel⟩
def b_Stream__len : MS :=
    (mRet (mCall lenF (aCons (vOf (mAtt "Stream" 0 (mVar 0))) aNil)))
def fn_Stream_len : Fn := fnOf 1 1 b_Stream__len
theorem ok_Stream__len {P : Program} {w : World} {mg : Str → Option Value} {base : Heap} {g : Gc} (T : Txt g mg) {C f : Addr} {ns : List Str} {fd : FuncData} (hcl : g.cl "Stream" = some (C, ns)) (hs : PySem.W.findIn g.K (.ref C) "__len__" = some (some (.ref f))) (hf : PySem.W.isFn g.K (.ref f) = true) (Fu : Fun g.K "__len__" "Stream.__len__" s_Stream__len f fd) (hb : Binds g.K fd ["self"] []) :
    HasLen P w mg base g 1 "Stream" fn_Stream_len := by
  refine has_len (k := 1 - 1) (N := N_Stream__len) hcl hs hf Fu hb sc_Stream__len (by decide) (fun cdv A outer s H E φ c => ?_)
  exact (sb_one (ss_ret (se_callB (ca_len c.K) (by rfl) T.z_len (by decide +kernel) (sa_cons (sv_of (se_fld c.K T.co_Stream.choose_spec (by rfl) (se_var 0))) sa_nil))))
abbrev s_plain_ticket : Stmt := topS 40
abbrev N_plain_ticket : List Str := ["desk", "value", "kind", "left", "time", "told"]
theorem sc_plain_ticket : FnScope N_plain_ticket ["desk", "value"] (defScope s_plain_ticket) := ⟨rfl, rfl, rfl, by decide +kernel, rfl, by decide +kernel, by decide +kernel⟩
def b_plain_ticket : MS :=
    (mSeq (mIfS (mNot (mTest (mFn fn_has_length (aCons (mOwn 1) (aCons (vOf (mC (.int 3))) (aCons (vOf (mC (.int 3))) aNil)))))) (mRet (mC .non)) mNext)
    (mSeq (mAsg (tupX 3 (consG (putG 2) (consG (putG 3) (consG (putG 4) nilG)))) (mVar 1))
    (mSeq (mIfS (mNot (mTest (mFn fn_is_between (aCons (mOwn 2) (aCons (vOf (mC (.int 0))) (aCons (vOf (mBin subF (vOf (mCall lenF (aCons (vOf (mAtt "Desk" 1 (mVar 0))) aNil))) (vOf (mC (.int 1))))) aNil)))))) (mRet (mC .non)) mNext)
    (mSeq (mSet 5 (mBin atF (vOf (mAtt "Desk" 1 (mVar 0))) (mOwn 2)))
    (mSeq (mIfS (mOr (mNot (mTest (mFn fn_is_between (aCons (mOwn 3) (aCons (vOf (mC (.int 1))) (aCons (vOf (mBin atF (mOwn 5) (vOf (mC (.int 0))))) aNil)))))) (mNot (mTest (mFn fn_is_between (aCons (mOwn 4) (aCons (vOf (mC (.int 1))) (aCons (vOf (mBin atF (mOwn 5) (vOf (mC (.int 1))))) aNil))))))) (mRet (mC .non)) mNext)
    (mRet (mTup (aCons (mOwn 2) (aCons (mOwn 3) (aCons (mOwn 4) aNil))))))))))
def fn_plain_ticket : Fn := fnOf 2 6 b_plain_ticket
theorem ok_plain_ticket {P : Program} {w : World} {mg : Str → Option Value} {base : Heap} {g : Gc} (T : Txt g mg) (A : FnAt g mg "plain_ticket" "plain_ticket" s_plain_ticket ["desk", "value"]) (h_has_length : Has P w mg base g 2 "has_length" fn_has_length) (h_is_between : Has P w mg base g 2 "is_between" fn_is_between) (hp_Desk_kinds : HasPr P w mg base g 1 "Desk" "kinds" 1) : Has P w mg base g 3 "plain_ticket" fn_plain_ticket := by
  refine has_of (k := 3 - 1) (N := N_plain_ticket) A sc_plain_ticket (by decide) (fun cdv A outer s H E φ c => ?_)
  exact (sb_cons (ss_if (st_not (st_val (se_fn c h_has_length (by omega) (by rfl) (sa_cons (sv_own 1) (sa_cons (sv_of se_int) (sa_cons (sv_of se_int) sa_nil)))))) (sb_one (ss_ret se_non)) sb_nil)
    (sb_cons (ss_asg (se_var 1) (sg_tupX c.K c.calm (sgs_cons (sg_name (i := 2) c.nd) (sgs_cons (sg_name (i := 3) c.nd) (sgs_cons (sg_name (i := 4) c.nd) sgs_nil)))))
    (sb_cons (ss_if (st_not (st_val (se_fn c h_is_between (by omega) (by rfl) (sa_cons (sv_own 2) (sa_cons (sv_of se_int) (sa_cons (sv_of (se_bin op_sub_ (sv_of (se_callB (ca_len c.K) (by rfl) T.z_len (by decide +kernel) (sa_cons (sv_of (se_prop c hp_Desk_kinds (by omega) (se_var 0))) sa_nil))) (sv_of se_int))) sa_nil)))))) (sb_one (ss_ret se_non)) sb_nil)
    (sb_cons (ss_set (i := 5) c.nd (se_ix (ix_at_ c.K) (sv_of (se_prop c hp_Desk_kinds (by omega) (se_var 0))) (sv_own 2)))
    (sb_cons (ss_if (st_w (sw_or (st_not (st_val (se_fn c h_is_between (by omega) (by rfl) (sa_cons (sv_own 3) (sa_cons (sv_of se_int) (sa_cons (sv_of (se_ix (ix_at_ c.K) (sv_own 5) (sv_of (se_glob (by rfl) T.v_WORK.choose_spec)))) sa_nil)))))) (sw_or1 (st_not (st_val (se_fn c h_is_between (by omega) (by rfl) (sa_cons (sv_own 4) (sa_cons (sv_of se_int) (sa_cons (sv_of (se_ix (ix_at_ c.K) (sv_own 5) (sv_of (se_glob (by rfl) T.v_PROMISE.choose_spec)))) sa_nil))))))))) (sb_one (ss_ret se_non)) sb_nil)
    (sb_one (ss_ret (se_tup (sa_cons (sv_own 2) (sa_cons (sv_own 3) (sa_cons (sv_own 4) sa_nil)))))))))))
abbrev s_plain_scene : Stmt := topS 41
abbrev N_plain_scene : List Str := ["desk", "stream", "value", "most", "state", "tickets", "found", "ticket"]
theorem sc_plain_scene : FnScope N_plain_scene ["desk", "stream", "value", "most"] (defScope s_plain_scene) := ⟨rfl, rfl, rfl, by decide +kernel, rfl, by decide +kernel, by decide +kernel⟩
def b_plain_scene : MS :=
    (mSeq (mIfS (mNot (mTest (mFn fn_has_length (aCons (mOwn 2) (aCons (vOf (mC (.int 2))) (aCons (vOf (mC (.int 2))) aNil)))))) (mRet (mC .non)) mNext)
    (mSeq (mAsg (tupX 2 (consG (putG 4) (consG (putG 5) nilG))) (mVar 2))
    (mSeq (mIfS (mOr (mNot (mTest (mFn fn_is_between (aCons (mOwn 4) (aCons (vOf (mC (.int 0))) (aCons (vOf (mBin subF (vOf (mCall (lenOwn "Stream" fn_Stream_len) (aCons (mOwn 1) aNil))) (vOf (mC (.int 1))))) aNil)))))) (mNot (mTest (mFn fn_has_length (aCons (mOwn 5) (aCons (vOf (mC (.int 0))) (aCons (mOwn 3) aNil))))))) (mRet (mC .non)) mNext)
    (mSeq (mSet 6 (mCall tupF (aCons (vOf (mL (lLc [7] (lSeq (mVar 5)) (putG 7) tYesF (mFn fn_plain_ticket (aCons (mOwn 0) (aCons (mOwn 7) aNil)))))) aNil)))
    (mSeq (mIfS (mOr (mTest (mBin (inTF false) (vOf (mC .non)) (mOwn 6))) (mNot (mTest (mFn fn_is_rising (aCons (mOwn 6) aNil))))) (mRet (mC .non)) mNext)
    (mRet (mTup (aCons (mOwn 4) (aCons (mOwn 6) aNil)))))))))
def fn_plain_scene : Fn := fnOf 4 8 b_plain_scene
theorem ok_plain_scene {P : Program} {w : World} {mg : Str → Option Value} {base : Heap} {g : Gc} (T : Txt g mg) (A : FnAtD g mg "plain_scene" "plain_scene" s_plain_scene ["desk", "stream", "value", "most"] [.int 40]) (h_has_length : Has P w mg base g 2 "has_length" fn_has_length) (h_is_between : Has P w mg base g 2 "is_between" fn_is_between) (hl_Stream : HasLen P w mg base g 1 "Stream" fn_Stream_len) (h_plain_ticket : Has P w mg base g 3 "plain_ticket" fn_plain_ticket) (h_is_rising : Has P w mg base g 1 "is_rising" fn_is_rising) : Has P w mg base g 4 "plain_scene" fn_plain_scene ∧ HasD P w mg base g 4 "plain_scene" [.int 40] fn_plain_scene := by
  refine has_ofD (k := 4 - 1) (N := N_plain_scene) A sc_plain_scene (by decide) (fun cdv A outer s H E φ c => ?_)
  exact (sb_cons (ss_if (st_not (st_val (se_fn c h_has_length (by omega) (by rfl) (sa_cons (sv_own 2) (sa_cons (sv_of se_int) (sa_cons (sv_of se_int) sa_nil)))))) (sb_one (ss_ret se_non)) sb_nil)
    (sb_cons (ss_asg (se_var 2) (sg_tupX c.K c.calm (sgs_cons (sg_name (i := 4) c.nd) (sgs_cons (sg_name (i := 5) c.nd) sgs_nil))))
    (sb_cons (ss_if (st_w (sw_or (st_not (st_val (se_fn c h_is_between (by omega) (by rfl) (sa_cons (sv_own 4) (sa_cons (sv_of se_int) (sa_cons (sv_of (se_bin op_sub_ (sv_of (se_callB (ca_lenOwn c hl_Stream (by omega)) (by rfl) T.z_len (by decide +kernel) (sa_cons (sv_own 1) sa_nil))) (sv_of se_int))) sa_nil)))))) (sw_or1 (st_not (st_val (se_fn c h_has_length (by omega) (by rfl) (sa_cons (sv_own 5) (sa_cons (sv_of se_int) (sa_cons (sv_own 3) sa_nil))))))))) (sb_one (ss_ret se_non)) sb_nil)
    (sb_cons (ss_set (i := 6) c.nd (se_callT (ca_tup c.K) (by rfl) T.z_tuple (by decide +kernel) (sa_cons (sv_of (SE.ofL (sl_lc c (si_seq c.K (se_var 5)) (own := [("ticket", 7)]) (blkOk_by (N := N_plain_scene) (sc := defScope s_plain_scene) (by decide +kernel)) (fun s H C cl fp φ => let c := c.blk s H _ _ fp; (sg_name (i := 7) c.nd)) (by decide) (fun s H C cl fp φ => sts_nil) (fun s H C cl fp φ => let c := c.blk s H _ _ fp; (se_fn c h_plain_ticket (by omega) (by rfl) (sa_cons (sv_own 0) (sa_cons (sv_own 7) sa_nil))))))) sa_nil)))
    (sb_cons (ss_if (st_w (sw_or (st_cmpS (op_inT_ c.K c.rm) (sv_of se_non) (sv_own 6)) (sw_or1 (st_not (st_val (se_fn c h_is_rising (by omega) (by rfl) (sa_cons (sv_own 6) sa_nil))))))) (sb_one (ss_ret se_non)) sb_nil)
    (sb_one (ss_ret (se_tup (sa_cons (sv_own 4) (sa_cons (sv_own 6) sa_nil))))))))))
abbrev s_kinds_of : Stmt := topS 36
abbrev N_kinds_of : List Str := ["tickets", "ticket"]
theorem sc_kinds_of : FnScope N_kinds_of ["tickets"] (defScope s_kinds_of) := ⟨rfl, rfl, rfl, by decide +kernel, rfl, by decide +kernel, by decide +kernel⟩
def b_kinds_of : MS :=
    (mRet (mSS [1] (lSeq (mVar 0)) (putG 1) (mBin atF (mOwn 1) (vOf (mC (.int 0))))))
def fn_kinds_of : Fn := fnOf 1 2 b_kinds_of
theorem ok_kinds_of {P : Program} {w : World} {mg : Str → Option Value} {base : Heap} {g : Gc} (T : Txt g mg) (A : FnAt g mg "kinds_of" "kinds_of" s_kinds_of ["tickets"]) : Has P w mg base g 1 "kinds_of" fn_kinds_of := by
  refine has_of (k := 1 - 1) (N := N_kinds_of) A sc_kinds_of (by decide) (fun cdv A outer s H E φ c => ?_)
  exact (sb_one (ss_ret (se_sortSet c (si_seq c.K (se_var 0)) (own := [("ticket", 1)]) (blkOk_by (N := N_kinds_of) (sc := defScope s_kinds_of) (by decide +kernel)) (fun s H C cl fp φ => let c := c.blk s H _ _ fp; (sg_name (i := 1) c.nd)) (by decide) (fun s H C cl fp φ => let c := c.blk s H _ _ fp; (se_ix (ix_at_ c.K) (sv_own 1) (sv_of se_int))) (by rfl) T.z_sorted (by decide +kernel))))
abbrev s_moment_by : Stmt := topS 35
abbrev N_moment_by : List Str := ["desk", "stream", "scene", "arc", "state", "tickets", "kinds", "next_state", "found", "kind", "told"]
theorem sc_moment_by : FnScope N_moment_by ["desk", "stream", "scene", "arc"] (defScope s_moment_by) := ⟨rfl, rfl, rfl, by decide +kernel, rfl, by decide +kernel, by decide +kernel⟩
def b_moment_by : MS :=
    (mSeq (mAsg (tupX 2 (consG (putG 4) (consG (putG 5) nilG))) (mVar 2))
    (mSeq (mAsg (tupX 2 (consG (putG 6) (consG (putG 7) nilG))) (mBin atF (vOf (mBin atF (vOf (mAtt "Stream" 0 (mVar 1))) (mOwn 4))) (mOwn 3)))
    (mSeq (mSetO 8 (lCall listF (aCons (mOwn 5) aNil)))
    (mSeq (mFor (lSeq (mVar 6)) (putG 9)
    (mSeq (mSet 10 (mBin atF (vOf (mAtt "Desk" 1 (mVar 0))) (mOwn 9)))
    (mIfS (mNot (mAnd (mTest (mBin atF (mOwn 10) (vOf (mC (.int 4))))) (mLendT 8 (mTest (mBin (inF false) (mOwn 9) (vOf (mFn fn_kinds_of (aCons (mOwn 8) aNil)))))))) (mAppend 8 (mTup (aCons (mOwn 9) (aCons (vOf (mBin atF (mOwn 10) (vOf (mC (.int 0))))) (aCons (vOf (mBin atF (mOwn 10) (vOf (mC (.int 1))))) aNil))))) mNext)))
    (mRet (mTup (aCons (mOwn 7) (aCons (vOf (mCall tupF (aCons (vOf (mCall sortDF (aCons (mOwn 8) aNil))) aNil))) aNil))))))))
def fn_moment_by : Fn := fnOf 4 11 b_moment_by
theorem ok_moment_by {P : Program} {w : World} {mg : Str → Option Value} {base : Heap} {g : Gc} (T : Txt g mg) (A : FnAt g mg "moment_by" "moment_by" s_moment_by ["desk", "stream", "scene", "arc"]) (hp_Stream_states : HasPr P w mg base g 1 "Stream" "states" 0) (hp_Desk_kinds : HasPr P w mg base g 1 "Desk" "kinds" 1) (h_kinds_of : Has P w mg base g 1 "kinds_of" fn_kinds_of) : Has P w mg base g 3 "moment_by" fn_moment_by := by
  refine has_of (k := 3 - 1) (N := N_moment_by) A sc_moment_by (by decide) (fun cdv A outer s H E φ c => ?_)
  exact (sb_cons (ss_asg (se_var 2) (sg_tupX c.K c.calm (sgs_cons (sg_name (i := 4) c.nd) (sgs_cons (sg_name (i := 5) c.nd) sgs_nil))))
    (sb_cons (ss_asg (se_ix (ix_at_ c.K) (sv_of (se_ix (ix_at_ c.K) (sv_of (se_prop c hp_Stream_states (by omega) (se_var 1))) (sv_own 4))) (sv_own 3)) (sg_tupX c.K c.calm (sgs_cons (sg_name (i := 6) c.nd) (sgs_cons (sg_name (i := 7) c.nd) sgs_nil))))
    (sb_cons (ss_setO (i := 8) c.nd (sl_list c.K (by rfl) T.z_list (sa_cons (sv_own 5) sa_nil)))
    (sb_cons (ss_for c (si_seq c.K (se_var 6)) (sg_name (i := 9) c.nd)
    (sb_cons (ss_set (i := 10) c.nd (se_ix (ix_at_ c.K) (sv_of (se_prop c hp_Desk_kinds (by omega) (se_var 0))) (sv_own 9)))
    (sb_one (ss_if (st_not (st_w (sw_and (st_val (se_ix (ix_at_ c.K) (sv_own 10) (sv_of (se_glob (by rfl) T.v_JOINS.choose_spec)))) (sw_and1 (st_lend (i := 8) (fun φ => st_cmpS (op_in_ c.K) (sv_own 9) (sv_of (se_fn c h_kinds_of (by omega) (by rfl) (sa_cons (sv_own 8) sa_nil))))))))) (sb_one (ss_append 8 (se_tup (sa_cons (sv_own 9) (sa_cons (sv_of (se_ix (ix_at_ c.K) (sv_own 10) (sv_of (se_glob (by rfl) T.v_WORK.choose_spec)))) (sa_cons (sv_of (se_ix (ix_at_ c.K) (sv_own 10) (sv_of (se_glob (by rfl) T.v_PROMISE.choose_spec)))) sa_nil)))))) sb_nil))))
    (sb_one (ss_ret (se_tup (sa_cons (sv_own 7) (sa_cons (sv_of (se_callT (ca_tup c.K) (by rfl) T.z_tuple (by decide +kernel) (sa_cons (sv_of (se_callB (ca_sortD c.K c.rm) (by rfl) T.z_sorted (by decide +kernel) (sa_cons (sv_own 8) sa_nil))) sa_nil))) sa_nil)))))))))
abbrev s_come : Stmt := topS 43
abbrev N_come : List Str := ["desk", "stream", "scene", "arc", "found"]
theorem sc_come : FnScope N_come ["desk", "stream", "scene", "arc"] (defScope s_come) := ⟨rfl, rfl, rfl, by decide +kernel, rfl, by decide +kernel, by decide +kernel⟩
def b_come : MS :=
    (mSeq (mDrop (mFn fn_check_both (aCons (mOwn 0) (aCons (mOwn 1) aNil))))
    (mSeq (mSet 4 (mFn fn_plain_scene (aCons (mOwn 0) (aCons (mOwn 1) (aCons (mOwn 2) (aCons (vOf (mC (.int 37))) aNil))))))
    (mSeq (mIfS (mBin isF (mOwn 4) (vOf (mC .non))) (mRaise "BadValue" (mC (.int 3))) mNext)
    (mSeq (mIfS (mNot (mTest (mFn fn_is_between (aCons (mOwn 3) (aCons (vOf (mC (.int 0))) (aCons (vOf (mBin subF (vOf (mCall lenF (aCons (vOf (mBin atF (vOf (mAtt "Stream" 0 (mVar 1))) (vOf (mBin atF (mOwn 4) (vOf (mC (.int 0))))))) aNil))) (vOf (mC (.int 1))))) aNil)))))) (mRaise "BadValue" (mC (.int 4))) mNext)
    (mRet (mFn fn_moment_by (aCons (mOwn 0) (aCons (mOwn 1) (aCons (mOwn 4) (aCons (mOwn 3) aNil))))))))))
def fn_come : Fn := fnOf 4 5 b_come
theorem ok_come {P : Program} {w : World} {mg : Str → Option Value} {base : Heap} {g : Gc} (T : Txt g mg) (A : FnAt g mg "come" "come" s_come ["desk", "stream", "scene", "arc"]) (h_check_both : Has P w mg base g 5 "check_both" fn_check_both) (h_plain_scene : Has P w mg base g 4 "plain_scene" fn_plain_scene) (hx_BadValue : HasX P w mg base g 1 "BadValue") (h_is_between : Has P w mg base g 2 "is_between" fn_is_between) (hp_Stream_states : HasPr P w mg base g 1 "Stream" "states" 0) (h_moment_by : Has P w mg base g 3 "moment_by" fn_moment_by) : Has P w mg base g 6 "come" fn_come := by
  refine has_of (k := 6 - 1) (N := N_come) A sc_come (by decide) (fun cdv A outer s H E φ c => ?_)
  exact (sb_cons (ss_expr (se_fn c h_check_both (by omega) (by rfl) (sa_cons (sv_own 0) (sa_cons (sv_own 1) sa_nil))))
    (sb_cons (ss_set (i := 4) c.nd (se_fn c h_plain_scene (by omega) (by rfl) (sa_cons (sv_own 0) (sa_cons (sv_own 1) (sa_cons (sv_own 2) (sa_cons (sv_of (se_glob (by rfl) T.v_MOST_TICKETS_AHEAD.choose_spec)) sa_nil))))))
    (sb_cons (ss_if (st_cmp op_is_ (sv_own 4) (sv_of se_non)) (sb_one (ss_raise c hx_BadValue (by omega) (by rfl) se_int)) sb_nil)
    (sb_cons (ss_if (st_not (st_val (se_fn c h_is_between (by omega) (by rfl) (sa_cons (sv_own 3) (sa_cons (sv_of se_int) (sa_cons (sv_of (se_bin op_sub_ (sv_of (se_callB (ca_len c.K) (by rfl) T.z_len (by decide +kernel) (sa_cons (sv_of (se_ix (ix_at_ c.K) (sv_of (se_prop c hp_Stream_states (by omega) (se_var 1))) (sv_of (se_ix (ix_at_ c.K) (sv_own 4) (sv_of se_int))))) sa_nil))) (sv_of se_int))) sa_nil)))))) (sb_one (ss_raise c hx_BadValue (by omega) (by rfl) se_int)) sb_nil)
    (sb_one (ss_ret (se_fn c h_moment_by (by omega) (by rfl) (sa_cons (sv_own 0) (sa_cons (sv_own 1) (sa_cons (sv_own 4) (sa_cons (sv_own 3) sa_nil)))))))))))
abbrev s_law_come : Stmt := topS 57
abbrev N_law_come : List Str := ["case", "scene", "arc", "told", "tickets", "kind", "rule", "one"]
theorem sc_law_come : FnScope N_law_come ["case", "scene", "arc"] (defScope s_law_come) := ⟨rfl, rfl, rfl, by decide +kernel, rfl, by decide +kernel, by decide +kernel⟩
def b_law_come : MS :=
    (mSeq (mSet 3 (mBin atF (vOf (mBin atF (vOf (mBin atF (mOwn 0) (vOf (mC (.int 1))))) (vOf (mBin atF (mOwn 1) (vOf (mC (.int 0))))))) (mOwn 2)))
    (mSeq (mSetO 4 (lCall listF (aCons (vOf (mBin atF (mOwn 1) (vOf (mC (.int 1))))) aNil)))
    (mSeq (mFor (lSeq (mBin atF (mOwn 3) (vOf (mC (.int 0))))) (putG 5)
    (mSeq (mSet 6 (mBin atF (vOf (mBin atF (vOf (mBin atF (mOwn 0) (vOf (mC (.int 0))))) (vOf (mC (.int 1))))) (mOwn 5)))
    (mIfS (mOr (mNot (mTest (mBin atF (mOwn 6) (vOf (mC (.int 4)))))) (mLendT 4 (mTest (mBin (inF true) (mOwn 5) (vOf (mL (lLc [7] (lSeq (mVar 4)) (putG 7) tYesF (mBin atF (mOwn 7) (vOf (mC (.int 0))))))))))) (mAppend 4 (mTup (aCons (mOwn 5) (aCons (vOf (mBin atF (mOwn 6) (vOf (mC (.int 0))))) (aCons (vOf (mBin atF (mOwn 6) (vOf (mC (.int 1))))) aNil))))) mNext)))
    (mRet (mTup (aCons (vOf (mBin atF (mOwn 3) (vOf (mC (.int 1))))) (aCons (vOf (mCall tupF (aCons (vOf (mCall sortDF (aCons (mOwn 4) aNil))) aNil))) aNil)))))))
def fn_law_come : Fn := fnOf 3 8 b_law_come
theorem ok_law_come {P : Program} {w : World} {mg : Str → Option Value} {base : Heap} {g : Gc} (T : Txt g mg) (A : FnAt g mg "_law_come" "_law_come" s_law_come ["case", "scene", "arc"]) : Has P w mg base g 1 "_law_come" fn_law_come := by
  refine has_of (k := 1 - 1) (N := N_law_come) A sc_law_come (by decide) (fun cdv A outer s H E φ c => ?_)
  exact (sb_cons (ss_set (i := 3) c.nd (se_ix (ix_at_ c.K) (sv_of (se_ix (ix_at_ c.K) (sv_of (se_ix (ix_at_ c.K) (sv_own 0) (sv_of se_int))) (sv_of (se_ix (ix_at_ c.K) (sv_own 1) (sv_of se_int))))) (sv_own 2)))
    (sb_cons (ss_setO (i := 4) c.nd (sl_list c.K (by rfl) T.z_list (sa_cons (sv_of (se_ix (ix_at_ c.K) (sv_own 1) (sv_of se_int))) sa_nil)))
    (sb_cons (ss_for c (si_seq c.K (se_ix (ix_at_ c.K) (sv_own 3) (sv_of se_int))) (sg_name (i := 5) c.nd)
    (sb_cons (ss_set (i := 6) c.nd (se_ix (ix_at_ c.K) (sv_of (se_ix (ix_at_ c.K) (sv_of (se_ix (ix_at_ c.K) (sv_own 0) (sv_of se_int))) (sv_of se_int))) (sv_own 5)))
    (sb_one (ss_if (st_w (sw_or (st_not (st_val (se_ix (ix_at_ c.K) (sv_own 6) (sv_of se_int)))) (sw_or1 (st_lend (i := 4) (fun φ => st_cmpS (op_notin_ c.K) (sv_own 5) (sv_of (SE.ofL (sl_lc c (si_seq c.K (se_var 4)) (own := [("one", 7)]) (blkOk_by (N := N_law_come) (sc := defScope s_law_come) (by decide +kernel)) (fun s H C cl fp φ => let c := c.blk s H _ _ fp; (sg_name (i := 7) c.nd)) (by decide) (fun s H C cl fp φ => sts_nil) (fun s H C cl fp φ => let c := c.blk s H _ _ fp; (se_ix (ix_at_ c.K) (sv_own 7) (sv_of se_int))))))))))) (sb_one (ss_append 4 (se_tup (sa_cons (sv_own 5) (sa_cons (sv_of (se_ix (ix_at_ c.K) (sv_own 6) (sv_of se_int))) (sa_cons (sv_of (se_ix (ix_at_ c.K) (sv_own 6) (sv_of se_int))) sa_nil)))))) sb_nil))))
    (sb_one (ss_ret (se_tup (sa_cons (sv_of (se_ix (ix_at_ c.K) (sv_own 3) (sv_of se_int))) (sa_cons (sv_of (se_callT (ca_tup c.K) (by rfl) T.z_tuple (by decide +kernel) (sa_cons (sv_of (se_callB (ca_sortD c.K c.rm) (by rfl) T.z_sorted (by decide +kernel) (sa_cons (sv_own 4) sa_nil))) sa_nil))) sa_nil))))))))
abbrev s_law_loose : Stmt := topS 49
abbrev N_law_loose : List Str := ["value", "turn", "made", "one"]
theorem sc_law_loose : FnScope N_law_loose ["value", "turn"] (defScope s_law_loose) := ⟨rfl, rfl, rfl, by decide +kernel, rfl, by decide +kernel, by decide +kernel⟩
def b_law_loose (self : Fn) : MS :=
    (mSeq (mIfS (mTest (mCall isiF (aCons (mOwn 0) (aCons (vOf (mC (.ty "tuple"))) aNil)))) (mSeq (mSet 2 (mL (lLc [3] (lSeq (mVar 0)) (putG 3) tYesF (mFn self (aCons (mOwn 3) (aCons (vOf (mBin addF (mOwn 1) (vOf (mC (.int 1))))) aNil))))))
    (mRet (mIf (mBin eqF (vOf (mBin modF (vOf (mCall intF (aCons (mOwn 1) aNil))) (vOf (mC (.int 2))))) (vOf (mC (.int 0)))) (mVar 2) (mCall tupF (aCons (mOwn 2) aNil))))) mNext)
    (mRet (mVar 0)))
def fn_law_loose : Nat → Fn
  | 0 => fun _ => .no
  | n + 1 => fnOf 2 4 (b_law_loose (fn_law_loose n))
theorem ok_law_loose {P : Program} {w : World} {mg : Str → Option Value} {base : Heap} {g : Gc} (T : Txt g mg) (A : FnAt g mg "_law_loose" "_law_loose" s_law_loose ["value", "turn"]) : ∀ n, Has P w mg base g (1 + n) "_law_loose" (fn_law_loose n)
  | 0 => has_no A
  | n + 1 => by
    have hself := ok_law_loose (P := P) (w := w) (base := base) T A n
    refine has_of (k := 1 + n) (N := N_law_loose) A sc_law_loose (by decide) (fun cdv A outer s H E φ c => ?_)
    exact (sb_cons (ss_if (st_val (se_callB (ca_isi c.K) (by rfl) T.z_isinstance (by decide +kernel) (sa_cons (sv_own 0) (sa_cons (sv_of (se_ty (by rfl) T.z_tuple (by decide +kernel))) sa_nil)))) (sb_cons (ss_setLc (i := 2) c (si_seq c.K (se_var 0)) (own := [("one", 3)]) (blkOk_by (N := N_law_loose) (sc := defScope s_law_loose) (by decide +kernel)) (fun s H C cl fp φ => let c := c.blk s H _ _ fp; (sg_name (i := 3) c.nd)) (by decide) (fun s H C cl fp φ => sts_nil) (fun s H C cl fp φ => let c := c.blk s H _ _ fp; (se_fn c hself (Nat.le_refl _) (by rfl) (sa_cons (sv_own 3) (sa_cons (sv_of (se_bin (op_add_ c.K) (sv_own 1) (sv_of se_int))) sa_nil)))))
    (sb_one (ss_ret (se_if (st_cmp (op_eq_ c.K c.rm) (sv_of (se_bin op_mod_ (sv_of (se_callT ca_int (by rfl) T.z_int (by decide +kernel) (sa_cons (sv_own 1) sa_nil))) (sv_of se_int))) (sv_of se_int)) (se_var 2) (se_callT (ca_tup c.K) (by rfl) T.z_tuple (by decide +kernel) (sa_cons (sv_own 2) sa_nil)))))) sb_nil)
    (sb_one (ss_ret (se_var 0))))
abbrev s_is_scene : Stmt := topS 42
abbrev N_is_scene : List Str := ["desk", "stream", "value"]
theorem sc_is_scene : FnScope N_is_scene ["desk", "stream", "value"] (defScope s_is_scene) := ⟨rfl, rfl, rfl, by decide +kernel, rfl, by decide +kernel, by decide +kernel⟩
def b_is_scene : MS :=
    (mSeq (mDrop (mFn fn_check_both (aCons (mOwn 0) (aCons (mOwn 1) aNil))))
    (mRet (mBin (fun x y => (isntF x y).map D.bl) (vOf (mFnD fn_plain_scene [.int 40] (aCons (mOwn 0) (aCons (mOwn 1) (aCons (mOwn 2) aNil))))) (vOf (mC .non)))))
def fn_is_scene : Fn := fnOf 3 3 b_is_scene
theorem ok_is_scene {P : Program} {w : World} {mg : Str → Option Value} {base : Heap} {g : Gc} (T : Txt g mg) (A : FnAt g mg "is_scene" "is_scene" s_is_scene ["desk", "stream", "value"]) (h_check_both : Has P w mg base g 5 "check_both" fn_check_both) (hdf_plain_scene : HasD P w mg base g 4 "plain_scene" [.int 40] fn_plain_scene) : Has P w mg base g 6 "is_scene" fn_is_scene := by
  refine has_of (k := 6 - 1) (N := N_is_scene) A sc_is_scene (by decide) (fun cdv A outer s H E φ c => ?_)
  exact (sb_cons (ss_expr (se_fn c h_check_both (by omega) (by rfl) (sa_cons (sv_own 0) (sa_cons (sv_own 1) sa_nil))))
    (sb_one (ss_ret (se_cmp op_isnt_ (sv_of (se_fnD c hdf_plain_scene (by omega) (by rfl) (sa_cons (sv_own 0) (sa_cons (sv_own 1) (sa_cons (sv_own 2) sa_nil))))) (sv_of se_non)))))
abbrev s_law_numeric : Stmt := topS 50
abbrev N_law_numeric : List Str := ["value"]
theorem sc_law_numeric : FnScope N_law_numeric ["value"] (defScope s_law_numeric) := ⟨rfl, rfl, rfl, by decide +kernel, rfl, by decide +kernel, by decide +kernel⟩
def b_law_numeric : MS :=
    (mRet (mAndV (mCall isiF (aCons (mOwn 0) (aCons (vOf (mC (.ty "int"))) aNil))) (mNotV (mCall isiF (aCons (mOwn 0) (aCons (vOf (mC (.ty "bool"))) aNil))))))
def fn_law_numeric : Fn := fnOf 1 1 b_law_numeric
theorem ok_law_numeric {P : Program} {w : World} {mg : Str → Option Value} {base : Heap} {g : Gc} (T : Txt g mg) (A : FnAt g mg "_law_numeric" "_law_numeric" s_law_numeric ["value"]) : Has P w mg base g 1 "_law_numeric" fn_law_numeric := by
  refine has_of (k := 1 - 1) (N := N_law_numeric) A sc_law_numeric (by decide) (fun cdv A outer s H E φ c => ?_)
  exact (sb_one (ss_ret (se_and (se_callB (ca_isi c.K) (by rfl) T.z_isinstance (by decide +kernel) (sa_cons (sv_own 0) (sa_cons (sv_of (se_ty (by rfl) T.z_int (by decide +kernel))) sa_nil))) (se_one (se_not (se_callB (ca_isi c.K) (by rfl) T.z_isinstance (by decide +kernel) (sa_cons (sv_own 0) (sa_cons (sv_of (se_ty (by rfl) T.z_bool (by decide +kernel))) sa_nil))))))))
abbrev s_law_is_ticket : Stmt := topS 58
abbrev N_law_is_ticket : List Str := ["case", "one", "rule"]
theorem sc_law_is_ticket : FnScope N_law_is_ticket ["case", "one"] (defScope s_law_is_ticket) := ⟨rfl, rfl, rfl, by decide +kernel, rfl, by decide +kernel, by decide +kernel⟩
def b_law_is_ticket : MS :=
    (mSeq (mIfS (mOr (mNot (mTest (mCall isiF (aCons (mOwn 1) (aCons (vOf (mC (.ty "tuple"))) aNil))))) (mOr (mBin neF (vOf (mCall lenF (aCons (mOwn 1) aNil))) (vOf (mC (.int 3)))) (mOr (mNot (mTest (mFn fn_law_numeric (aCons (vOf (mBin atF (mOwn 1) (vOf (mC (.int 0))))) aNil)))) (mOr (mNot (mTest (mFn fn_law_numeric (aCons (vOf (mBin atF (mOwn 1) (vOf (mC (.int 1))))) aNil)))) (mNot (mTest (mFn fn_law_numeric (aCons (vOf (mBin atF (mOwn 1) (vOf (mC (.int 2))))) aNil)))))))) (mRet (mC (.bl false))) mNext)
    (mSeq (mIfS (mNot (mChain leF ltF (vOf (mC (.int 0))) (vOf (mBin atF (mOwn 1) (vOf (mC (.int 0))))) (vOf (mCall lenF (aCons (vOf (mBin atF (vOf (mBin atF (mOwn 0) (vOf (mC (.int 0))))) (vOf (mC (.int 1))))) aNil))))) (mRet (mC (.bl false))) mNext)
    (mSeq (mSet 2 (mBin atF (vOf (mBin atF (vOf (mBin atF (mOwn 0) (vOf (mC (.int 0))))) (vOf (mC (.int 1))))) (vOf (mBin atF (mOwn 1) (vOf (mC (.int 0)))))))
    (mRet (mAndV (fun env => bl ((mChain leF leF (vOf (mC (.int 1))) (vOf (mBin atF (mOwn 1) (vOf (mC (.int 1))))) (vOf (mBin atF (mOwn 2) (vOf (mC (.int 0)))))) env)) (fun env => bl ((mChain leF leF (vOf (mC (.int 1))) (vOf (mBin atF (mOwn 1) (vOf (mC (.int 2))))) (vOf (mBin atF (mOwn 2) (vOf (mC (.int 1)))))) env)))))))
def fn_law_is_ticket : Fn := fnOf 2 3 b_law_is_ticket
theorem ok_law_is_ticket {P : Program} {w : World} {mg : Str → Option Value} {base : Heap} {g : Gc} (T : Txt g mg) (A : FnAt g mg "_law_is_ticket" "_law_is_ticket" s_law_is_ticket ["case", "one"]) (h_law_numeric : Has P w mg base g 1 "_law_numeric" fn_law_numeric) : Has P w mg base g 2 "_law_is_ticket" fn_law_is_ticket := by
  refine has_of (k := 2 - 1) (N := N_law_is_ticket) A sc_law_is_ticket (by decide) (fun cdv A outer s H E φ c => ?_)
  exact (sb_cons (ss_if (st_w (sw_or (st_not (st_val (se_callB (ca_isi c.K) (by rfl) T.z_isinstance (by decide +kernel) (sa_cons (sv_own 1) (sa_cons (sv_of (se_ty (by rfl) T.z_tuple (by decide +kernel))) sa_nil))))) (sw_or (st_cmp (op_ne_ c.K c.rm) (sv_of (se_callB (ca_len c.K) (by rfl) T.z_len (by decide +kernel) (sa_cons (sv_own 1) sa_nil))) (sv_of se_int)) (sw_or (st_not (st_val (se_fn c h_law_numeric (by omega) (by rfl) (sa_cons (sv_of (se_ix (ix_at_ c.K) (sv_own 1) (sv_of se_int))) sa_nil)))) (sw_or (st_not (st_val (se_fn c h_law_numeric (by omega) (by rfl) (sa_cons (sv_of (se_ix (ix_at_ c.K) (sv_own 1) (sv_of se_int))) sa_nil)))) (sw_or1 (st_not (st_val (se_fn c h_law_numeric (by omega) (by rfl) (sa_cons (sv_of (se_ix (ix_at_ c.K) (sv_own 1) (sv_of se_int))) sa_nil)))))))))) (sb_one (ss_ret se_bl)) sb_nil)
    (sb_cons (ss_if (st_not (st_chain op_le_ op_lt_ (sv_of se_int) (sv_of (se_ix (ix_at_ c.K) (sv_own 1) (sv_of se_int))) (sv_of (se_callB (ca_len c.K) (by rfl) T.z_len (by decide +kernel) (sa_cons (sv_of (se_ix (ix_at_ c.K) (sv_of (se_ix (ix_at_ c.K) (sv_own 0) (sv_of se_int))) (sv_of se_int))) sa_nil))))) (sb_one (ss_ret se_bl)) sb_nil)
    (sb_cons (ss_set (i := 2) c.nd (se_ix (ix_at_ c.K) (sv_of (se_ix (ix_at_ c.K) (sv_of (se_ix (ix_at_ c.K) (sv_own 0) (sv_of se_int))) (sv_of se_int))) (sv_of (se_ix (ix_at_ c.K) (sv_own 1) (sv_of se_int)))))
    (sb_one (ss_ret (se_and (se_chain op_le_ op_le_ (sv_of se_int) (sv_of (se_ix (ix_at_ c.K) (sv_own 1) (sv_of se_int))) (sv_of (se_ix (ix_at_ c.K) (sv_own 2) (sv_of se_int)))) (se_one (se_chain op_le_ op_le_ (sv_of se_int) (sv_of (se_ix (ix_at_ c.K) (sv_own 1) (sv_of se_int))) (sv_of (se_ix (ix_at_ c.K) (sv_own 2) (sv_of se_int)))))))))))
abbrev s_law_is_scene : Stmt := topS 59
abbrev N_law_is_scene : List Str := ["case", "value", "most", "one"]
theorem sc_law_is_scene : FnScope N_law_is_scene ["case", "value", "most"] (defScope s_law_is_scene) := ⟨rfl, rfl, rfl, by decide +kernel, rfl, by decide +kernel, by decide +kernel⟩
def b_law_is_scene : MS :=
    (mSeq (mIfS (mOr (mNot (mTest (mCall isiF (aCons (mOwn 1) (aCons (vOf (mC (.ty "tuple"))) aNil))))) (mOr (mBin neF (vOf (mCall lenF (aCons (mOwn 1) aNil))) (vOf (mC (.int 2)))) (mOr (mNot (mTest (mFn fn_law_numeric (aCons (vOf (mBin atF (mOwn 1) (vOf (mC (.int 0))))) aNil)))) (mNot (mTest (mCall isiF (aCons (vOf (mBin atF (mOwn 1) (vOf (mC (.int 1))))) (aCons (vOf (mC (.ty "tuple"))) aNil)))))))) (mRet (mC (.bl false))) mNext)
    (mSeq (mIfS (mOr (mNot (mChain leF ltF (vOf (mC (.int 0))) (vOf (mBin atF (mOwn 1) (vOf (mC (.int 0))))) (vOf (mCall lenF (aCons (vOf (mBin atF (mOwn 0) (vOf (mC (.int 1))))) aNil))))) (mBin gtF (vOf (mCall lenF (aCons (vOf (mBin atF (mOwn 1) (vOf (mC (.int 1))))) aNil))) (mOwn 2))) (mRet (mC (.bl false))) mNext)
    (mSeq (mFor (lSeq (mBin atF (mOwn 1) (vOf (mC (.int 1))))) (putG 3)
    (mIfS (mNot (mTest (mFn fn_law_is_ticket (aCons (mOwn 0) (aCons (mOwn 3) aNil))))) (mRet (mC (.bl false))) mNext))
    (mRet (mBin (fun x y => (eqF x y).map D.bl) (vOf (mBin atF (mOwn 1) (vOf (mC (.int 1))))) (vOf (mCall tupF (aCons (vOf (mCall sortDF (aCons (vOf (mBin atF (mOwn 1) (vOf (mC (.int 1))))) aNil))) aNil))))))))
def fn_law_is_scene : Fn := fnOf 3 4 b_law_is_scene
theorem ok_law_is_scene {P : Program} {w : World} {mg : Str → Option Value} {base : Heap} {g : Gc} (T : Txt g mg) (A : FnAt g mg "_law_is_scene" "_law_is_scene" s_law_is_scene ["case", "value", "most"]) (h_law_numeric : Has P w mg base g 1 "_law_numeric" fn_law_numeric) (h_law_is_ticket : Has P w mg base g 2 "_law_is_ticket" fn_law_is_ticket) : Has P w mg base g 3 "_law_is_scene" fn_law_is_scene := by
  refine has_of (k := 3 - 1) (N := N_law_is_scene) A sc_law_is_scene (by decide) (fun cdv A outer s H E φ c => ?_)
  exact (sb_cons (ss_if (st_w (sw_or (st_not (st_val (se_callB (ca_isi c.K) (by rfl) T.z_isinstance (by decide +kernel) (sa_cons (sv_own 1) (sa_cons (sv_of (se_ty (by rfl) T.z_tuple (by decide +kernel))) sa_nil))))) (sw_or (st_cmp (op_ne_ c.K c.rm) (sv_of (se_callB (ca_len c.K) (by rfl) T.z_len (by decide +kernel) (sa_cons (sv_own 1) sa_nil))) (sv_of se_int)) (sw_or (st_not (st_val (se_fn c h_law_numeric (by omega) (by rfl) (sa_cons (sv_of (se_ix (ix_at_ c.K) (sv_own 1) (sv_of se_int))) sa_nil)))) (sw_or1 (st_not (st_val (se_callB (ca_isi c.K) (by rfl) T.z_isinstance (by decide +kernel) (sa_cons (sv_of (se_ix (ix_at_ c.K) (sv_own 1) (sv_of se_int))) (sa_cons (sv_of (se_ty (by rfl) T.z_tuple (by decide +kernel))) sa_nil)))))))))) (sb_one (ss_ret se_bl)) sb_nil)
    (sb_cons (ss_if (st_w (sw_or (st_not (st_chain op_le_ op_lt_ (sv_of se_int) (sv_of (se_ix (ix_at_ c.K) (sv_own 1) (sv_of se_int))) (sv_of (se_callB (ca_len c.K) (by rfl) T.z_len (by decide +kernel) (sa_cons (sv_of (se_ix (ix_at_ c.K) (sv_own 0) (sv_of se_int))) sa_nil))))) (sw_or1 (st_cmp op_gt_ (sv_of (se_callB (ca_len c.K) (by rfl) T.z_len (by decide +kernel) (sa_cons (sv_of (se_ix (ix_at_ c.K) (sv_own 1) (sv_of se_int))) sa_nil))) (sv_own 2))))) (sb_one (ss_ret se_bl)) sb_nil)
    (sb_cons (ss_for c (si_seq c.K (se_ix (ix_at_ c.K) (sv_own 1) (sv_of se_int))) (sg_name (i := 3) c.nd)
    (sb_one (ss_if (st_not (st_val (se_fn c h_law_is_ticket (by omega) (by rfl) (sa_cons (sv_own 0) (sa_cons (sv_own 3) sa_nil))))) (sb_one (ss_ret se_bl)) sb_nil)))
    (sb_one (ss_ret (se_cmp (op_eq_ c.K c.rm) (sv_of (se_ix (ix_at_ c.K) (sv_own 1) (sv_of se_int))) (sv_of (se_callT (ca_tup c.K) (by rfl) T.z_tuple (by decide +kernel) (sa_cons (sv_of (se_callB (ca_sortD c.K c.rm) (by rfl) T.z_sorted (by decide +kernel) (sa_cons (sv_of (se_ix (ix_at_ c.K) (sv_own 1) (sv_of se_int))) sa_nil))) sa_nil)))))))))
abbrev s_law : Stmt := topS 62
abbrev N_law : List Str := ["script", "row", "spot", "case", "desk", "flow", "scene", "crowd", "arc", "rule", "fine", "odd", "value", "k"]
theorem sc_law : FnScope N_law ["script"] (defScope s_law) := ⟨rfl, rfl, rfl, by decide +kernel, rfl, by decide +kernel, by decide +kernel⟩
def law_s17 : MS :=
    (mRet (mFn (fn_law_so 8) (aCons (vOf (mFn fn_is_scene (aCons (mOwn 4) (aCons (mOwn 5) (aCons (mOwn 12) aNil))))) (aCons (vOf (mFn fn_law_is_scene (aCons (mOwn 3) (aCons (mOwn 12) (aCons (vOf (mC (.int 40))) aNil))))) aNil))))
def law_s16 : MS :=
    (mSet 12 (mBin atF (mOwn 11) (vOf (mFn fn_law_take (aCons (mOwn 1) (aCons (mOwn 2) (aCons (vOf (mC (.int 22))) aNil)))))))
def law_s15 : MS :=
    (mSet 11 (mBin addF (mOwn 11) (vOf (mL (lLst (aCons (vOf (mTup (aCons (vOf (mC (.int 0))) (aCons (vOf (mCall tupF (aCons (vOf (mL (lLc [13] (lRange1 (mC (.int 41))) (putG 13) tYesF (mVar 10)))) aNil))) aNil)))) (aCons (vOf (mTup (aCons (vOf (mC (.int 0))) (aCons (vOf (mCall tupF (aCons (vOf (mL (lLc [13] (lRange1 (mC (.int 40))) (putG 13) tYesF (mVar 10)))) aNil))) aNil)))) (aCons (vOf (mTup (aCons (vOf (mC (.int 0))) (aCons (vOf (mTup (aCons (mOwn 10) (aCons (vOf (mTup (aCons (vOf (mC (.int 0))) (aCons (vOf (mC (.int 1))) (aCons (vOf (mC (.int 1))) aNil))))) aNil)))) aNil)))) (aCons (vOf (mTup (aCons (vOf (mC (.int 0))) (aCons (vOf (mTup (aCons (vOf (mTup (aCons (vOf (mC (.bl true))) (aCons (vOf (mC (.int 1))) (aCons (vOf (mC (.int 1))) aNil))))) aNil))) aNil)))) (aCons (vOf (mTup (aCons (vOf (mC (.int 0))) (aCons (vOf (mTup (aCons (vOf (mTup (aCons (vOf (mC (.int 0))) (aCons (vOf (mC (.int 1))) (aCons (vOf (mC (.int 1))) aNil))))) (aCons (mOwn 10) aNil)))) aNil)))) (aCons (vOf (mTup (aCons (vOf (mBin atF (mOwn 6) (vOf (mC (.int 0))))) (aCons (vOf (mRev (mBin atF (mOwn 6) (vOf (mC (.int 1)))))) aNil)))) aNil)))))))))))
def law_s14 : MS :=
    (mSet 11 (mBin addF (mOwn 11) (vOf (mL (lLst (aCons (vOf (mTup (aCons (vOf (mC (.int 0))) (aCons (vOf (mTup (aCons (vOf (mTup (aCons (vOf (mC (.int 0))) (aCons (vOf (mC (.int 1))) (aCons (vOf (mC (.int 0))) aNil))))) aNil))) aNil)))) (aCons (vOf (mTup (aCons (vOf (mC (.int 0))) (aCons (vOf (mTup (aCons (vOf (mTup (aCons (vOf (mCall lenF (aCons (vOf (mBin atF (vOf (mBin atF (mOwn 3) (vOf (mC (.int 0))))) (vOf (mC (.int 1))))) aNil))) (aCons (vOf (mC (.int 1))) (aCons (vOf (mC (.int 1))) aNil))))) aNil))) aNil)))) (aCons (vOf (mTup (aCons (vOf (mC (.int 0))) (aCons (vOf (mTup (aCons (vOf (mCut (mOwn 10) oNone (oSome (mC (.int 2))))) aNil))) aNil)))) (aCons (vOf (mTup (aCons (vOf (mC (.int 0))) (aCons (vOf (mTup (aCons (vOf (mC .non)) aNil))) aNil)))) aNil)))))))))
def law_s13 : MS :=
    (mSet 11 (mL (lLst (aCons (vOf (mC .non)) (aCons (vOf (mC (.int 5))) (aCons (vOf (mTup aNil)) (aCons (vOf (mCut (mOwn 6) oNone (oSome (mC (.int 1))))) (aCons (vOf (mBin addF (mOwn 6) (vOf (mTup (aCons (vOf (mC (.int 0))) aNil))))) (aCons (vOf (mTup (aCons (vOf (mCall lenF (aCons (vOf (mBin atF (mOwn 3) (vOf (mC (.int 1))))) aNil))) (aCons (vOf (mTup aNil)) aNil)))) (aCons (vOf (mTup (aCons (vOf (mUn negF (vOf (mC (.int 1))))) (aCons (vOf (mTup aNil)) aNil)))) (aCons (vOf (mTup (aCons (vOf (mC (.bl true))) (aCons (vOf (mTup aNil)) aNil)))) (aCons (vOf (mTup (aCons (vOf (mC (.int 0))) (aCons (vOf (mC .non)) aNil)))) (aCons (vOf (mTup (aCons (vOf (mC (.int 0))) (aCons (vOf (mTup (aCons (vOf (mTup (aCons (vOf (mC (.int 0))) (aCons (vOf (mBin addF (vOf (mBin atF (mOwn 9) (vOf (mC (.int 0))))) (vOf (mC (.int 1))))) (aCons (vOf (mC (.int 1))) aNil))))) aNil))) aNil)))) (aCons (vOf (mTup (aCons (vOf (mC (.int 0))) (aCons (vOf (mTup (aCons (vOf (mTup (aCons (vOf (mC (.int 0))) (aCons (vOf (mC (.int 0))) (aCons (vOf (mC (.int 1))) aNil))))) aNil))) aNil)))) (aCons (vOf (mTup (aCons (vOf (mC (.int 0))) (aCons (vOf (mTup (aCons (vOf (mTup (aCons (vOf (mC (.int 0))) (aCons (vOf (mC (.int 1))) (aCons (vOf (mBin addF (vOf (mBin atF (mOwn 9) (vOf (mC (.int 1))))) (vOf (mC (.int 1))))) aNil))))) aNil))) aNil)))) aNil)))))))))))))))
def law_s12 : MS :=
    (mSet 10 (mTup (aCons (vOf (mC (.int 0))) (aCons (vOf (mBin atF (mOwn 9) (vOf (mC (.int 0))))) (aCons (vOf (mBin atF (mOwn 9) (vOf (mC (.int 1))))) aNil)))))
def law_s11 : MS :=
    (mSet 9 (mBin atF (vOf (mBin atF (vOf (mBin atF (mOwn 3) (vOf (mC (.int 0))))) (vOf (mC (.int 1))))) (vOf (mC (.int 0)))))
def law_s10 : MS :=
    (mIfS (mNot (mTest (mFn (fn_law_so 8) (aCons (vOf (mFn fn_is_scene (aCons (mOwn 4) (aCons (mOwn 5) (aCons (vOf (mFn (fn_law_loose 8) (aCons (mOwn 6) (aCons (vOf (mC (.int 0))) aNil)))) aNil))))) (aCons (vOf (mC (.bl true))) aNil))))) (mRet (mC (.bl false))) mNext)
def law_s9 : MS :=
    (mFor (lRange1 (mCall lenF (aCons (vOf (mBin atF (vOf (mBin atF (mOwn 3) (vOf (mC (.int 1))))) (vOf (mBin atF (mOwn 6) (vOf (mC (.int 0))))))) aNil))) (putG 8)
    (mIfS (mNot (mTest (mFn (fn_law_so 8) (aCons (vOf (mFn fn_come (aCons (mOwn 4) (aCons (mOwn 5) (aCons (vOf (mFn (fn_law_loose 8) (aCons (mOwn 6) (aCons (vOf (mFn fn_law_take (aCons (mOwn 1) (aCons (mOwn 2) (aCons (vOf (mC (.int 2))) aNil))))) aNil)))) (aCons (mOwn 8) aNil)))))) (aCons (vOf (mFn fn_law_come (aCons (mOwn 3) (aCons (mOwn 6) (aCons (mOwn 8) aNil))))) aNil))))) (mRet (mC (.bl false))) mNext))
def law_s8 : MS :=
    (mIfS (mNot (mTest (mFn (fn_law_so 8) (aCons (vOf (mFn fn_come (aCons (mOwn 4) (aCons (mOwn 5) (aCons (mOwn 7) (aCons (vOf (mC (.int 0))) aNil)))))) (aCons (vOf (mFn fn_law_come (aCons (mOwn 3) (aCons (mOwn 7) (aCons (vOf (mC (.int 0))) aNil))))) aNil))))) (mRet (mC (.bl false))) mNext)
def law_s7 : MS :=
    (mSet 7 (mTup (aCons (vOf (mBin atF (mOwn 7) (vOf (mC (.int 0))))) (aCons (vOf (mCut (vOf (mBin atF (mOwn 7) (vOf (mC (.int 1))))) oNone (oSome (mC (.int 37))))) aNil))))
def law_s6 : MS :=
    (mSet 7 (mFn fn_law_crowd (aCons (mOwn 1) (aCons (mOwn 2) (aCons (mOwn 3) aNil)))))
def law_s5 : MS :=
    (mSet 6 (mFn fn_law_scene (aCons (mOwn 1) (aCons (mOwn 2) (aCons (mOwn 3) aNil)))))
def law_s4 : MS :=
    (mSet 5 (mFn fn_law_flow (aCons (mOwn 3) aNil)))
def law_s3 : MS :=
    (mSet 4 (mFn fn_law_made (aCons (mOwn 3) aNil)))
def law_s2 : MS :=
    (mSet 3 (mFn fn_law_case (aCons (mOwn 1) (aCons (mOwn 2) aNil))))
def law_s1 : MS :=
    (mSetO 2 (lLst (aCons (vOf (mC (.int 0))) aNil)))
def law_s0 : MS :=
    (mSet 1 (mFn fn_law_numbers (aCons (mOwn 0) aNil)))
def b_law : MS :=
    (mSeq law_s0
    (mSeq law_s1
    (mSeq law_s2
    (mSeq law_s3
    (mSeq law_s4
    (mSeq law_s5
    (mSeq law_s6
    (mSeq law_s7
    (mSeq law_s8
    (mSeq law_s9
    (mSeq law_s10
    (mSeq law_s11
    (mSeq law_s12
    (mSeq law_s13
    (mSeq law_s14
    (mSeq law_s15
    (mSeq law_s16
    law_s17)))))))))))))))))
def fn_law : Fn := fnOf 1 14 b_law
theorem okf_law {P : Program} {w : World} {mg : Str → Option Value} {base : Heap} {g : Gc} (T : Txt g mg) {f : Addr} {fd : FuncData} (Fu : Fun g.K "law" "law" s_law f fd) (h_law_numbers : Has P w mg base g 1 "_law_numbers" fn_law_numbers) (h_law_case : Has P w mg base g 4 "_law_case" fn_law_case) (h_law_made : Has P w mg base g 8 "_law_made" fn_law_made) (h_law_flow : Has P w mg base g 8 "_law_flow" fn_law_flow) (h_law_scene : Has P w mg base g 3 "_law_scene" fn_law_scene) (h_law_crowd : Has P w mg base g 3 "_law_crowd" fn_law_crowd) (h_law_so : Has P w mg base g 9 "_law_so" (fn_law_so 8)) (h_come : Has P w mg base g 6 "come" fn_come) (h_law_come : Has P w mg base g 1 "_law_come" fn_law_come) (h_law_loose : Has P w mg base g 9 "_law_loose" (fn_law_loose 8)) (h_law_take : Has P w mg base g 2 "_law_take" fn_law_take) (h_is_scene : Has P w mg base g 6 "is_scene" fn_is_scene) (h_law_is_scene : Has P w mg base g 3 "_law_is_scene" fn_law_is_scene) : FnOk P w g.K mg base (L2.CX P w) 10 f fd ["script"] (spOf g fn_law) := by
  refine def_ok (k := 10 - 1) (N := N_law) Fu sc_law (by decide) (fun cdv A outer s H E φ c => ?_)
  exact (sb_cons (ss_set (i := 1) c.nd (se_fn c h_law_numbers (by omega) (by rfl) (sa_cons (sv_own 0) sa_nil)))
    (sb_cons (ss_setO (i := 2) c.nd (sl_lst (sa_cons (sv_of se_int) sa_nil)))
    (sb_cons (ss_set (i := 3) c.nd (se_fn c h_law_case (by omega) (by rfl) (sa_cons (sv_own 1) (sa_cons (sv_own 2) sa_nil))))
    (sb_cons (ss_set (i := 4) c.nd (se_fn c h_law_made (by omega) (by rfl) (sa_cons (sv_own 3) sa_nil)))
    (sb_cons (ss_set (i := 5) c.nd (se_fn c h_law_flow (by omega) (by rfl) (sa_cons (sv_own 3) sa_nil)))
    (sb_cons (ss_set (i := 6) c.nd (se_fn c h_law_scene (by omega) (by rfl) (sa_cons (sv_own 1) (sa_cons (sv_own 2) (sa_cons (sv_own 3) sa_nil)))))
    (sb_cons (ss_set (i := 7) c.nd (se_fn c h_law_crowd (by omega) (by rfl) (sa_cons (sv_own 1) (sa_cons (sv_own 2) (sa_cons (sv_own 3) sa_nil)))))
    (sb_cons (ss_set (i := 7) c.nd (se_tup (sa_cons (sv_of (se_ix (ix_at_ c.K) (sv_own 7) (sv_of se_int))) (sa_cons (sv_of (se_cut c.K (sv_of (se_ix (ix_at_ c.K) (sv_own 7) (sv_of se_int))) so_none (so_some se_int))) sa_nil))))
    (sb_cons (ss_if (st_not (st_val (se_fn c h_law_so (by omega) (by rfl) (sa_cons (sv_of (se_fn c h_come (by omega) (by rfl) (sa_cons (sv_own 4) (sa_cons (sv_own 5) (sa_cons (sv_own 7) (sa_cons (sv_of se_int) sa_nil)))))) (sa_cons (sv_of (se_fn c h_law_come (by omega) (by rfl) (sa_cons (sv_own 3) (sa_cons (sv_own 7) (sa_cons (sv_of se_int) sa_nil))))) sa_nil))))) (sb_one (ss_ret se_bl)) sb_nil)
    (sb_cons (ss_for c (si_range1 (se_callB (ca_len c.K) (by rfl) T.z_len (by decide +kernel) (sa_cons (sv_of (se_ix (ix_at_ c.K) (sv_of (se_ix (ix_at_ c.K) (sv_own 3) (sv_of se_int))) (sv_of (se_ix (ix_at_ c.K) (sv_own 6) (sv_of se_int))))) sa_nil)) (by rfl) T.z_range) (sg_name (i := 8) c.nd)
    (sb_one (ss_if (st_not (st_val (se_fn c h_law_so (by omega) (by rfl) (sa_cons (sv_of (se_fn c h_come (by omega) (by rfl) (sa_cons (sv_own 4) (sa_cons (sv_own 5) (sa_cons (sv_of (se_fn c h_law_loose (by omega) (by rfl) (sa_cons (sv_own 6) (sa_cons (sv_of (se_fn c h_law_take (by omega) (by rfl) (sa_cons (sv_own 1) (sa_cons (sv_own 2) (sa_cons (sv_of se_int) sa_nil))))) sa_nil)))) (sa_cons (sv_own 8) sa_nil)))))) (sa_cons (sv_of (se_fn c h_law_come (by omega) (by rfl) (sa_cons (sv_own 3) (sa_cons (sv_own 6) (sa_cons (sv_own 8) sa_nil))))) sa_nil))))) (sb_one (ss_ret se_bl)) sb_nil)))
    (sb_cons (ss_if (st_not (st_val (se_fn c h_law_so (by omega) (by rfl) (sa_cons (sv_of (se_fn c h_is_scene (by omega) (by rfl) (sa_cons (sv_own 4) (sa_cons (sv_own 5) (sa_cons (sv_of (se_fn c h_law_loose (by omega) (by rfl) (sa_cons (sv_own 6) (sa_cons (sv_of se_int) sa_nil)))) sa_nil))))) (sa_cons (sv_of se_bl) sa_nil))))) (sb_one (ss_ret se_bl)) sb_nil)
    (sb_cons (ss_set (i := 9) c.nd (se_ix (ix_at_ c.K) (sv_of (se_ix (ix_at_ c.K) (sv_of (se_ix (ix_at_ c.K) (sv_own 3) (sv_of se_int))) (sv_of se_int))) (sv_of se_int)))
    (sb_cons (ss_set (i := 10) c.nd (se_tup (sa_cons (sv_of se_int) (sa_cons (sv_of (se_ix (ix_at_ c.K) (sv_own 9) (sv_of se_int))) (sa_cons (sv_of (se_ix (ix_at_ c.K) (sv_own 9) (sv_of se_int))) sa_nil)))))
    (sb_cons (ss_set (i := 11) c.nd (SE.ofL (sl_lst (sa_cons (sv_of se_non) (sa_cons (sv_of se_int) (sa_cons (sv_of (se_tup sa_nil)) (sa_cons (sv_of (se_cut c.K (sv_own 6) so_none (so_some se_int))) (sa_cons (sv_of (se_bin (op_add_ c.K) (sv_own 6) (sv_of (se_tup (sa_cons (sv_of se_int) sa_nil))))) (sa_cons (sv_of (se_tup (sa_cons (sv_of (se_callB (ca_len c.K) (by rfl) T.z_len (by decide +kernel) (sa_cons (sv_of (se_ix (ix_at_ c.K) (sv_own 3) (sv_of se_int))) sa_nil))) (sa_cons (sv_of (se_tup sa_nil)) sa_nil)))) (sa_cons (sv_of (se_tup (sa_cons (sv_of (se_neg (sv_of se_int))) (sa_cons (sv_of (se_tup sa_nil)) sa_nil)))) (sa_cons (sv_of (se_tup (sa_cons (sv_of se_bl) (sa_cons (sv_of (se_tup sa_nil)) sa_nil)))) (sa_cons (sv_of (se_tup (sa_cons (sv_of se_int) (sa_cons (sv_of se_non) sa_nil)))) (sa_cons (sv_of (se_tup (sa_cons (sv_of se_int) (sa_cons (sv_of (se_tup (sa_cons (sv_of (se_tup (sa_cons (sv_of se_int) (sa_cons (sv_of (se_bin (op_add_ c.K) (sv_of (se_ix (ix_at_ c.K) (sv_own 9) (sv_of se_int))) (sv_of se_int))) (sa_cons (sv_of se_int) sa_nil))))) sa_nil))) sa_nil)))) (sa_cons (sv_of (se_tup (sa_cons (sv_of se_int) (sa_cons (sv_of (se_tup (sa_cons (sv_of (se_tup (sa_cons (sv_of se_int) (sa_cons (sv_of se_int) (sa_cons (sv_of se_int) sa_nil))))) sa_nil))) sa_nil)))) (sa_cons (sv_of (se_tup (sa_cons (sv_of se_int) (sa_cons (sv_of (se_tup (sa_cons (sv_of (se_tup (sa_cons (sv_of se_int) (sa_cons (sv_of se_int) (sa_cons (sv_of (se_bin (op_add_ c.K) (sv_of (se_ix (ix_at_ c.K) (sv_own 9) (sv_of se_int))) (sv_of se_int))) sa_nil))))) sa_nil))) sa_nil)))) sa_nil)))))))))))))))
    (sb_cons (ss_set (i := 11) c.nd (se_bin (op_add_ c.K) (sv_own 11) (sv_of (SE.ofL (sl_lst (sa_cons (sv_of (se_tup (sa_cons (sv_of se_int) (sa_cons (sv_of (se_tup (sa_cons (sv_of (se_tup (sa_cons (sv_of se_int) (sa_cons (sv_of se_int) (sa_cons (sv_of se_int) sa_nil))))) sa_nil))) sa_nil)))) (sa_cons (sv_of (se_tup (sa_cons (sv_of se_int) (sa_cons (sv_of (se_tup (sa_cons (sv_of (se_tup (sa_cons (sv_of (se_callB (ca_len c.K) (by rfl) T.z_len (by decide +kernel) (sa_cons (sv_of (se_ix (ix_at_ c.K) (sv_of (se_ix (ix_at_ c.K) (sv_own 3) (sv_of se_int))) (sv_of se_int))) sa_nil))) (sa_cons (sv_of se_int) (sa_cons (sv_of se_int) sa_nil))))) sa_nil))) sa_nil)))) (sa_cons (sv_of (se_tup (sa_cons (sv_of se_int) (sa_cons (sv_of (se_tup (sa_cons (sv_of (se_cut c.K (sv_own 10) so_none (so_some se_int))) sa_nil))) sa_nil)))) (sa_cons (sv_of (se_tup (sa_cons (sv_of se_int) (sa_cons (sv_of (se_tup (sa_cons (sv_of se_non) sa_nil))) sa_nil)))) sa_nil)))))))))
    (sb_cons (ss_set (i := 11) c.nd (se_bin (op_add_ c.K) (sv_own 11) (sv_of (SE.ofL (sl_lst (sa_cons (sv_of (se_tup (sa_cons (sv_of se_int) (sa_cons (sv_of (se_callT (ca_tup c.K) (by rfl) T.z_tuple (by decide +kernel) (sa_cons (sv_of (SE.ofL (sl_lc c (si_range1 se_int (by rfl) T.z_range) (own := [("k", 13)]) (blkOk_by (N := N_law) (sc := defScope s_law) (by decide +kernel)) (fun s H C cl fp φ => let c := c.blk s H _ _ fp; (sg_name (i := 13) c.nd)) (by decide) (fun s H C cl fp φ => sts_nil) (fun s H C cl fp φ => (se_var 10))))) sa_nil))) sa_nil)))) (sa_cons (sv_of (se_tup (sa_cons (sv_of se_int) (sa_cons (sv_of (se_callT (ca_tup c.K) (by rfl) T.z_tuple (by decide +kernel) (sa_cons (sv_of (SE.ofL (sl_lc c (si_range1 se_int (by rfl) T.z_range) (own := [("k", 13)]) (blkOk_by (N := N_law) (sc := defScope s_law) (by decide +kernel)) (fun s H C cl fp φ => let c := c.blk s H _ _ fp; (sg_name (i := 13) c.nd)) (by decide) (fun s H C cl fp φ => sts_nil) (fun s H C cl fp φ => (se_var 10))))) sa_nil))) sa_nil)))) (sa_cons (sv_of (se_tup (sa_cons (sv_of se_int) (sa_cons (sv_of (se_tup (sa_cons (sv_own 10) (sa_cons (sv_of (se_tup (sa_cons (sv_of se_int) (sa_cons (sv_of se_int) (sa_cons (sv_of se_int) sa_nil))))) sa_nil)))) sa_nil)))) (sa_cons (sv_of (se_tup (sa_cons (sv_of se_int) (sa_cons (sv_of (se_tup (sa_cons (sv_of (se_tup (sa_cons (sv_of se_bl) (sa_cons (sv_of se_int) (sa_cons (sv_of se_int) sa_nil))))) sa_nil))) sa_nil)))) (sa_cons (sv_of (se_tup (sa_cons (sv_of se_int) (sa_cons (sv_of (se_tup (sa_cons (sv_of (se_tup (sa_cons (sv_of se_int) (sa_cons (sv_of se_int) (sa_cons (sv_of se_int) sa_nil))))) (sa_cons (sv_own 10) sa_nil)))) sa_nil)))) (sa_cons (sv_of (se_tup (sa_cons (sv_of (se_ix (ix_at_ c.K) (sv_own 6) (sv_of se_int))) (sa_cons (sv_of (se_rev c.K (se_ix (ix_at_ c.K) (sv_own 6) (sv_of se_int)))) sa_nil)))) sa_nil)))))))))))
    (sb_cons (ss_set (i := 12) c.nd (se_ix (ix_at_ c.K) (sv_own 11) (sv_of (se_fn c h_law_take (by omega) (by rfl) (sa_cons (sv_own 1) (sa_cons (sv_own 2) (sa_cons (sv_of se_int) sa_nil)))))))
    (sb_one (ss_ret (se_fn c h_law_so (by omega) (by rfl) (sa_cons (sv_of (se_fn c h_is_scene (by omega) (by rfl) (sa_cons (sv_own 4) (sa_cons (sv_own 5) (sa_cons (sv_own 12) sa_nil))))) (sa_cons (sv_of (se_fn c h_law_is_scene (by omega) (by rfl) (sa_cons (sv_own 3) (sa_cons (sv_own 12) (sa_cons (sv_of se_int) sa_nil))))) sa_nil))))))))))))))))))))))
end K10
set_option Elab.async false
set_option linter.all false
set_option maxRecDepth 100000
set_option maxHeartbeats 4000000
namespace K10
open PySem PySem.Spec PyProof.Rows L2 Mp
/-! ### the draws -/
def dV (row : List Int) (at_ lim : Int) : Int :=
  if at_ < row.length then (row.getD at_.toNat 0) % lim else
    ((((row.getD (at_ % row.length).toNat 0) * 40692 + at_ * 7919 + 3) % 2147483399 * 48271 + at_) % 2147483647) % lim
theorem draw_ok (row : List Int) (at_ lim : Int) (h0 : 0 ≤ at_) (hl : 0 < lim) (hr : row ≠ []) : fn_law_draw [.va (.lst (iL row)), .va (.int at_), .va (.int lim)] = .ok (.int (dV row at_ lim)) [.un, .un, .un] := by
  have hn : 0 < row.length := List.length_pos_iff.mpr hr
  have hlen : (0 : Int) < row.length := by omega
  by_cases h : at_ < row.length
  · simp [fn_law_draw, fnOf, b_law_draw, h, atI_ints row at_ h0 h, hl, outsOf, List.range_succ, dV]
  · have m0 : 0 ≤ at_ % row.length := Int.emod_nonneg _ (by omega)
    have m1 : at_ % row.length < row.length := Int.emod_lt_of_pos _ hlen
    simp [fn_law_draw, fnOf, b_law_draw, h, atI_ints row _ m0 m1, hl, hlen, hn, outsOf, List.range_succ, dV]
theorem dV_range (row : List Int) (at_ lim : Int) (hl : 0 < lim) : 0 ≤ dV row at_ lim ∧ dV row at_ lim < lim := by
  unfold dV
  split
  · exact ⟨Int.emod_nonneg _ (by omega), Int.emod_lt_of_pos _ hl⟩
  · exact ⟨Int.emod_nonneg _ (by omega), Int.emod_lt_of_pos _ hl⟩
theorem take_ok (row : List Int) (i lim : Int) (h0 : 0 ≤ i) (hl : 0 < lim) (hr : row ≠ []) : fn_law_take [.va (.lst (iL row)), .ow true [.int i], .va (.int lim)] = .ok (.int (dV row i lim)) [.un, .ow true [.int (i + 1)], .un] := by
  have e : i + 1 - 1 = i := by omega
  simp [fn_law_take, fnOf, b_law_take, mStore, atI, ixN, callF, ixs, argsOf, putB, e, draw_ok row i lim h0 hl hr, outsOf, List.range_succ]
/-! ### the numbers -/
def PN (k : Nat) (e : Mp.Env) : Prop := ∃ (s : D) (row : List Int) (a b c d : Sl), e = [.va s, .ow false (iL row), a, b, c, d] ∧ Fr a ∧ Fr b ∧ Fr c ∧ Fr d ∧ row.length + 60 * k ≤ 4000
def PA_ (B : Nat) (k : Nat) (e : Mp.Env) : Prop := ∃ (s : D) (row : List Int) (x l : Int) (c d : Sl), e = [.va s, .ow false (iL row), .va (.int x), .va (.int l), c, d] ∧ Fr c ∧ Fr d ∧ row.length + k ≤ B
def PB_ (B : Nat) (k : Nat) (e : Mp.Env) : Prop := ∃ (s : D) (row : List Int) (x : Int) (b c d : Sl), e = [.va s, .ow false (iL row), .va (.int x), b, c, d] ∧ Fr b ∧ Fr c ∧ Fr d ∧ row.length + k ≤ B
theorem PN_mono (k : Nat) (e : Mp.Env) (h : PN (k + 1) e) : PN k e := by
  obtain ⟨s, row, a, b, c, d, rfl, ha, hb, hc, hd, hl⟩ := h
  exact ⟨s, row, a, b, c, d, rfl, ha, hb, hc, hd, by omega⟩
theorem PA_mono (B k : Nat) (e : Mp.Env) (h : PA_ B (k + 1) e) : PA_ B k e := by
  obtain ⟨s, row, x, l, c, d, rfl, hc, hd, hl⟩ := h
  exact ⟨s, row, x, l, c, d, rfl, hc, hd, by omega⟩
theorem PB_mono (B k : Nat) (e : Mp.Env) (h : PB_ B (k + 1) e) : PB_ B k e := by
  obtain ⟨s, row, x, b, c, d, rfl, hb, hc, hd, hl⟩ := h
  exact ⟨s, row, x, b, c, d, rfl, hb, hc, hd, by omega⟩
theorem line_lt {n : Nat} (h : n ≤ 4000) : n < line := Nat.lt_of_le_of_lt h (by decide)
theorem loopA (B : Nat) (hB : B ≤ 4000) (ds : List D) (n : Nat) (e : Mp.Env) (h : PA_ B (ds.length + n) e) : ∃ e', forF (putG 4)
    (mSeq (mIfS (mBin eqF (mOwn 3) (vOf (mC (.int 0)))) mBreak mNext)
    (mSeq (mAppend 1 (mBin modF (vOf (mCall intF (aCons (mOwn 3) aNil))) (vOf (mC (.int 997)))))
    (mSet 3 (mBin fdivF (mOwn 3) (vOf (mC (.int 997))))))) ds e = .nx e' ∧ PA_ B n e' := by
  refine forF_invN (PA_ B) (PA_mono B) ds (fun d hd k e h => ?_) n e h
  obtain ⟨s, row, x, l, c, dd, rfl, hc, hdd, hl⟩ := h
  refine ⟨[.va s, .ow false (iL row), .va (.int x), .va (.int l), .va d, dd], by cases hc <;> simp, ?_⟩
  by_cases hz : l = 0
  · exact ⟨[.va s, .ow false (iL row), .va (.int x), .va (.int l), .va d, dd], .inr (by simp [eqF_int, hz]), s, row, x, l, .va d, dd, rfl, .va d, hdd, by omega⟩
  · refine ⟨_, .inl ?_, s, row ++ [l % 997], x, l / 997, .va d, dd, rfl, .va d, hdd, by simp; omega⟩
    have hlt : row.length < line := line_lt (by omega)
    simp [eqF_int, hz, mAppend, hlt]
theorem loopB (B : Nat) (hB : B ≤ 4000) (ds : List Int) (n : Nat) (e : Mp.Env) (h : PB_ B (ds.length + n) e) : ∃ e', forF (putG 4)
    (mSeq (mSet 5 (mBin modF (vOf (mCall intF (aCons (vOf (mBin addF (vOf (mBin addF (vOf (mBin mulF (mOwn 2) (vOf (mC (.int 48271))))) (vOf (mBin mulF (mOwn 4) (vOf (mC (.int 69621))))))) (vOf (mC (.int 11))))) aNil))) (vOf (mC (.int 2147483647)))))
    (mAppend 1 (mBin modF (vOf (mCall intF (aCons (vOf (mBin addF (vOf (mBin mulF (mOwn 5) (vOf (mC (.int 16807))))) (mOwn 4))) aNil))) (vOf (mC (.int 2147483629)))))) (iL ds) e = .nx e' ∧ PB_ B n e' := by
  refine forF_invN (PB_ B) (PB_mono B) (iL ds) (fun d hd k e h => ?_) n e (by simpa using h)
  obtain ⟨i, _, rfl⟩ := mem_iL hd
  obtain ⟨s, row, x, b, c, dd, rfl, hb, hc, hdd, hl⟩ := h
  refine ⟨[.va s, .ow false (iL row), .va (.int x), b, .va (.int i), dd], by cases hc <;> simp, ?_⟩
  have hlt : row.length < line := line_lt (by omega)
  refine ⟨[.va s, .ow false (iL (row ++ [((x * 48271 + i * 69621 + 11) % 2147483647 * 16807 + i) % 2147483629])), .va (.int x), b, .va (.int i), .va (.int ((x * 48271 + i * 69621 + 11) % 2147483647))], .inl ?_, s, _, x, b, .va (.int i), .va _, rfl, hb, .va _, .va _, by simp; omega⟩
  cases hdd <;> simp [mAppend, hlt]
theorem cut63 (ns : List Int) (hn : ns.length ≤ 63) : cutF none (some 63) (.rol (iL ns)) = some (.lst (iL ns)) := by
  have e : List.take (min 63 ns.length) ns = ns := List.take_of_length_le (by omega)
  have h : HT.sIx (iL ns).length (iL ns).length (some 63) = min 63 ns.length := by
    have := HT.sIx_nat (iL ns).length (iL ns).length 63
    simpa using this
  have h0 : HT.sIx (iL ns).length 0 none = 0 := rfl
  have e2 : List.take (min 63 ns.length) (iL ns) = iL ns := List.take_of_length_le (by simp; omega)
  simp only [cutF, h, h0, List.drop_zero, Nat.sub_zero, e2]
theorem numbers_ok (ns : List Int) (hn : ns.length ≤ 63) : ∃ row, row ≠ [] ∧ fn_law_numbers [.va (.rol (iL ns))] = .ok (.lst (iL row)) [.un] := by
  have big : powF (.int 10) (.int 18) = some (.int 1000000000000000000) := by rfl
  have outer : ∀ e, PN ((iL ns).length + 0) e → ∃ e', forF (putG 2)
      (mIfS (mBin geF (mOwn 2) (vOf (mBin powF (vOf (mC (.int 10))) (vOf (mC (.int 18)))))) (mSeq (mSet 3 (mVar 2))
      (mFor (lRange1 (mC (.int 60))) (putG 4)
      (mSeq (mIfS (mBin eqF (mOwn 3) (vOf (mC (.int 0)))) mBreak mNext)
      (mSeq (mAppend 1 (mBin modF (vOf (mCall intF (aCons (mOwn 3) aNil))) (vOf (mC (.int 997)))))
      (mSet 3 (mBin fdivF (mOwn 3) (vOf (mC (.int 997))))))))) (mFor (lRange1 (mC (.int 4))) (putG 4)
      (mSeq (mSet 5 (mBin modF (vOf (mCall intF (aCons (vOf (mBin addF (vOf (mBin addF (vOf (mBin mulF (mOwn 2) (vOf (mC (.int 48271))))) (vOf (mBin mulF (mOwn 4) (vOf (mC (.int 69621))))))) (vOf (mC (.int 11))))) aNil))) (vOf (mC (.int 2147483647)))))
      (mAppend 1 (mBin modF (vOf (mCall intF (aCons (vOf (mBin addF (vOf (mBin mulF (mOwn 5) (vOf (mC (.int 16807))))) (mOwn 4))) aNil))) (vOf (mC (.int 2147483629)))))))) (iL ns) e = .nx e' ∧ PN 0 e' := fun e he => by
    refine forF_invN PN PN_mono (iL ns) (fun d hd k e h => ?_) 0 e he
    obtain ⟨x, _, rfl⟩ := mem_iL hd
    obtain ⟨s, row, a, b, c, dd, rfl, ha, hb, hc, hdd, hl⟩ := h
    refine ⟨[.va s, .ow false (iL row), .va (.int x), b, c, dd], by cases ha <;> simp, ?_⟩
    have r60 : lRange1 (mC (.int 60)) = fun env => .ok (iL ((List.range 60).map fun i => ((i : Nat) : Int))) env := by
      funext env
      simp [lRange1, iL]
      try rfl
    have r4 : lRange1 (mC (.int 4)) = fun env => .ok (iL ((List.range 4).map fun i => ((i : Nat) : Int))) env := by
      funext env
      simp [lRange1, iL]
      try rfl
    by_cases hx : (1000000000000000000 : Int) ≤ x
    · obtain ⟨e', q1, s', row', x', l', c', d', rfl, hc', hd', hl'⟩ := loopA (row.length + 60) (by omega) (iL ((List.range 60).map fun i => ((i : Nat) : Int))) 0 [.va s, .ow false (iL row), .va (.int x), .va (.int x), c, dd] ⟨s, row, x, x, c, dd, rfl, hc, hdd, by simp⟩
      refine ⟨_, .inl ?_, s', row', .va (.int x'), .va (.int l'), c', d', rfl, .va _, .va _, hc', hd', by omega⟩
      cases hb <;> simp [big, hx, r60, q1]
    · obtain ⟨e', q1, s', row', x', b', c', d', rfl, hb', hc', hd', hl'⟩ := loopB (row.length + 60) (by omega) ((List.range 4).map fun i => ((i : Nat) : Int)) 56 [.va s, .ow false (iL row), .va (.int x), b, c, dd] ⟨s, row, x, b, c, dd, rfl, hb, hc, hdd, by simp⟩
      refine ⟨_, .inl ?_, s', row', .va (.int x'), b', c', d', rfl, .va _, hb', hc', hd', by omega⟩
      simp [big, hx, r4, q1]
  obtain ⟨e', q1, s', row, a, b, c, d, rfl, ha, hb, hc, hd, hl⟩ := outer [.va (.rol (iL ns)), .ow false (iL []), .un, .un, .un, .un] ⟨.rol (iL ns), [], .un, .un, .un, .un, rfl, .un, .un, .un, .un, by simp; omega⟩
  have hcut := cut63 ns hn
  have hlt : row.length < line := line_lt (by omega)
  have n0 : iL [] = ([] : List D) := rfl
  have n1 : [D.int 0] = iL [0] := rfl
  rw [n0] at q1
  by_cases hz : row = []
  · subst hz
    refine ⟨[0], by simp, ?_⟩
    simp [fn_law_numbers, fnOf, b_law_numbers, ownG, mCut, oNone, oSome, asI, hcut, q1, eqF_int, mAppend, retOwn, outsOf, List.range_succ, hlt, line, n0, n1]
  · refine ⟨row, hz, ?_⟩
    simp [fn_law_numbers, fnOf, b_law_numbers, ownG, mCut, oNone, oSome, asI, hcut, q1, eqF_int, mAppend, retOwn, hz, outsOf, List.range_succ]
end K10
set_option Elab.async false
set_option linter.all false
set_option maxRecDepth 100000
set_option maxHeartbeats 4000000
namespace K10
open PySem PySem.Spec PyProof.Rows L2 Mp
theorem call_take (row : List Int) (i lim : Int) (b : Bool) (rest : Mp.Env) (h0 : 0 ≤ i) (hl : 0 < lim) (hr : row ≠ []) :
    callF fn_law_take [.va (.lst (iL row)), .ix 1, .va (.int lim)] (.va (.lst (iL row)) :: .ow b [.int i] :: rest) = .ok (.int (dV row i lim)) (.va (.lst (iL row)) :: .ow b [.int (i + 1)] :: rest) := by
  simp [callF, ixs, argsOf, take_ok row i lim h0 hl hr, putB]
structure K5 where
  w : Int
  p : Int
  a : List Int
  b : List Int
  j : Bool
def kD (k : K5) : D := .tup [.int k.w, .int k.p, .tup (iL k.a), .tup (iL k.b), .bl k.j]
def kL (k : K5) : D := .tup [.int k.w, .int k.p, .lst (iL k.a), .tup (iL k.b), .bl k.j]
/-- ascending, from 0 on, below n -/
def Asc (n : Int) (l : List Int) : Prop := l.Pairwise (· < ·) ∧ ∀ x ∈ l, 0 ≤ x ∧ x < n
structure Ok1 (n : Int) (at_ : Nat) (k : K5) : Prop where
  w : 1 ≤ k.w ∧ k.w ≤ 4
  p : 1 ≤ k.p ∧ k.p ≤ 12
  a : Asc n k.a
  b : Asc at_ k.b
def OkK (n : Int) (ks : List K5) : Prop := ∀ (i : Nat) (k : K5), ks[i]? = some k → Ok1 n i k
def upto (n : Nat) : List Int := (List.range n).map fun i => ((i : Nat) : Int)
theorem upto_asc (n : Nat) : Asc n (upto n) := by
  constructor
  · unfold upto
    rw [List.pairwise_map]
    exact List.Pairwise.imp (fun h => by omega) List.pairwise_lt_range
  · intro x hx
    obtain ⟨i, h1, rfl⟩ := List.mem_map.mp hx
    have := List.mem_range.mp h1
    exact ⟨by omega, by omega⟩
theorem Asc.sub {n : Int} {l l' : List Int} (h : Asc n l) (s : l'.Sublist l) : Asc n l' := ⟨h.1.sublist s, fun x hx => h.2 x (s.subset hx)⟩
theorem upto_length (n : Nat) : (upto n).length = n := by simp [upto]
theorem range_iL (n : Nat) : ((List.range n).map fun (i : Nat) => D.int (0 + (i : Int))) = iL (upto n) := by
  simp [iL, upto]
/-- a clause that draws -/
theorem lc_gt (row : List Int) (lim : Int) (hl : 0 < lim) (hr : row ≠ []) (s2 s3 s5 s6 s7 s8 s9 s10 : Sl) (kk : List D) (f2 : Fr s2) (f3 : Fr s3) (f5 : Fr s5) (f6 : Fr s6) (f7 : Fr s7) (f8 : Fr s8) (f9 : Fr s9) (f10 : Fr s10) : ∀ (ds : List Int) (i : Int), 0 ≤ i → ∃ l i', l.Sublist ds ∧ 0 ≤ i' ∧
    lcF [10] (putG 10) (mBin gtF (vOf (mFn fn_law_take (aCons (mOwn 0) (aCons (mOwn 1) (aCons (vOf (mC (.int lim))) aNil))))) (vOf (mC (.int 0)))) (mVar 10) (iL ds) [.va (.lst (iL row)), .ow true [.int i], s2, s3, .ow false kk, s5, s6, s7, s8, s9, s10] =
      .ok (iL l) [.va (.lst (iL row)), .ow true [.int i'], s2, s3, .ow false kk, s5, s6, s7, s8, s9, s10]
  | [], i, hi => ⟨[], i, .slnil, hi, rfl⟩
  | d :: ds, i, hi => by
    obtain ⟨l, i', h1, h2, h3⟩ := lc_gt row lim hl hr s2 s3 s5 s6 s7 s8 s9 s10 kk f2 f3 f5 f6 f7 f8 f9 f10 ds (i + 1) (by omega)
    by_cases hz : 0 < dV row i lim
    · refine ⟨d :: l, i', h1.cons₂ d, h2, ?_⟩
      rw [iL_cons, lcF]
      simp [free_, f10.isOw, enterE, wipeE, f2.mark, f3.mark, f5.mark, f6.mark, f7.mark, f8.mark, f9.mark, call_take row i lim true _ hi hl hr, hz, backE, f2.back, f3.back, f5.back, f6.back, f7.back, f8.back, f9.back, f10.back, h3, iL_cons]
    · refine ⟨l, i', h1.cons d, h2, ?_⟩
      rw [iL_cons, lcF]
      simp [free_, f10.isOw, enterE, wipeE, f2.mark, f3.mark, f5.mark, f6.mark, f7.mark, f8.mark, f9.mark, call_take row i lim true _ hi hl hr, hz, backE, f2.back, f3.back, f5.back, f6.back, f7.back, f8.back, f9.back, f10.back, h3]
/-- a clause that draws -/
theorem lc_eq (row : List Int) (lim : Int) (hl : 0 < lim) (hr : row ≠ []) (s2 s3 s5 s6 s7 s8 s9 s10 : Sl) (kk : List D) (f2 : Fr s2) (f3 : Fr s3) (f5 : Fr s5) (f6 : Fr s6) (f7 : Fr s7) (f8 : Fr s8) (f9 : Fr s9) (f10 : Fr s10) : ∀ (ds : List Int) (i : Int), 0 ≤ i → ∃ l i', l.Sublist ds ∧ 0 ≤ i' ∧
    lcF [10] (putG 10) (mBin eqF (vOf (mFn fn_law_take (aCons (mOwn 0) (aCons (mOwn 1) (aCons (vOf (mC (.int lim))) aNil))))) (vOf (mC (.int 0)))) (mVar 10) (iL ds) [.va (.lst (iL row)), .ow true [.int i], s2, s3, .ow false kk, s5, s6, s7, s8, s9, s10] =
      .ok (iL l) [.va (.lst (iL row)), .ow true [.int i'], s2, s3, .ow false kk, s5, s6, s7, s8, s9, s10]
  | [], i, hi => ⟨[], i, .slnil, hi, rfl⟩
  | d :: ds, i, hi => by
    obtain ⟨l, i', h1, h2, h3⟩ := lc_eq row lim hl hr s2 s3 s5 s6 s7 s8 s9 s10 kk f2 f3 f5 f6 f7 f8 f9 f10 ds (i + 1) (by omega)
    by_cases hz : dV row i lim = 0
    · refine ⟨d :: l, i', h1.cons₂ d, h2, ?_⟩
      rw [iL_cons, lcF]
      simp [eqF_int, free_, f10.isOw, enterE, wipeE, f2.mark, f3.mark, f5.mark, f6.mark, f7.mark, f8.mark, f9.mark, call_take row i lim true _ hi hl hr, hz, backE, f2.back, f3.back, f5.back, f6.back, f7.back, f8.back, f9.back, f10.back, h3, iL_cons]
    · refine ⟨l, i', h1.cons d, h2, ?_⟩
      rw [iL_cons, lcF]
      simp [eqF_int, free_, f10.isOw, enterE, wipeE, f2.mark, f3.mark, f5.mark, f6.mark, f7.mark, f8.mark, f9.mark, call_take row i lim true _ hi hl hr, hz, backE, f2.back, f3.back, f5.back, f6.back, f7.back, f8.back, f9.back, f10.back, h3]

theorem work_ok (d : Int) (h0 : 0 ≤ d) (h1 : d < 5) : ∃ w : Int, atI [D.int 1, .int 1, .int 2, .int 3, .int 4] d = some (.int w) ∧ 1 ≤ w ∧ w ≤ 4 := by
  have h : d = 0 ∨ d = 1 ∨ d = 2 ∨ d = 3 ∨ d = 4 := by omega
  rcases h with rfl | rfl | rfl | rfl | rfl
  · exact ⟨1, rfl, by omega, by omega⟩
  · exact ⟨1, rfl, by omega, by omega⟩
  · exact ⟨2, rfl, by omega, by omega⟩
  · exact ⟨3, rfl, by omega, by omega⟩
  · exact ⟨4, rfl, by omega, by omega⟩
def dEnv (mo : Int) (row : List Int) (i n : Int) (ks : List D) (s5 s6 s7 s8 s9 s10 : Sl) : Mp.Env := [.va (.lst (iL row)), .ow true [.int i], .va (.int mo), .va (.int n), .ow false ks, s5, s6, s7, s8, s9, s10]
def deskBody : MS :=
    (mSeq (mSet 6 (mBin atF (vOf (mL (lLst (aCons (vOf (mC (.int 1))) (aCons (vOf (mC (.int 1))) (aCons (vOf (mC (.int 2))) (aCons (vOf (mC (.int 3))) (aCons (vOf (mC (.int 4))) aNil)))))))) (vOf (mFn fn_law_take (aCons (mOwn 0) (aCons (mOwn 1) (aCons (vOf (mC (.int 5))) aNil)))))))
    (mSeq (mSet 7 (mIf (mBin gtF (vOf (mFn fn_law_take (aCons (mOwn 0) (aCons (mOwn 1) (aCons (vOf (mC (.int 6))) aNil))))) (vOf (mC (.int 0)))) (mCall minF (aCons (vOf (mC (.int 12))) (aCons (vOf (mBin addF (mOwn 6) (vOf (mFn fn_law_take (aCons (mOwn 0) (aCons (mOwn 1) (aCons (vOf (mC (.int 3))) aNil))))))) aNil))) (mBin addF (vOf (mC (.int 1))) (vOf (mFn fn_law_take (aCons (mOwn 0) (aCons (mOwn 1) (aCons (vOf (mC (.int 4))) aNil))))))))
    (mSeq (mIfS (mBin eqF (vOf (mFn fn_law_take (aCons (mOwn 0) (aCons (mOwn 1) (aCons (vOf (mC (.int 12))) aNil))))) (vOf (mC (.int 0)))) (mSet 7 (mBin addF (vOf (mC (.int 7))) (vOf (mFn fn_law_take (aCons (mOwn 0) (aCons (mOwn 1) (aCons (vOf (mC (.int 6))) aNil))))))) mNext)
    (mSeq (mSet 8 (mCall tupF (aCons (vOf (mL (lLc [10] (lRange1 (mVar 3)) (putG 10) (mBin gtF (vOf (mFn fn_law_take (aCons (mOwn 0) (aCons (mOwn 1) (aCons (vOf (mC (.int 4))) aNil))))) (vOf (mC (.int 0)))) (mVar 10)))) aNil)))
    (mSeq (mSet 9 (mCall tupF (aCons (vOf (mL (lLc [10] (lRange1 (mVar 5)) (putG 10) (mBin eqF (vOf (mFn fn_law_take (aCons (mOwn 0) (aCons (mOwn 1) (aCons (vOf (mC (.int 5))) aNil))))) (vOf (mC (.int 0)))) (mVar 10)))) aNil)))
    (mSeq (mIfS (mBin eqF (vOf (mFn fn_law_take (aCons (mOwn 0) (aCons (mOwn 1) (aCons (vOf (mC (.int 8))) aNil))))) (vOf (mC (.int 0)))) (mSet 9 (mTupRange (mVar 5))) mNext)
    (mAppend 4 (mTup (aCons (mOwn 6) (aCons (mOwn 7) (aCons (mOwn 8) (aCons (mOwn 9) (aCons (vOf (mBin (fun x y => (eqF x y).map D.bl) (vOf (mFn fn_law_take (aCons (mOwn 0) (aCons (mOwn 1) (aCons (vOf (mC (.int 3))) aNil))))) (vOf (mC (.int 0))))) aNil)))))))))))))
theorem small_line {n : Nat} (h : n ≤ 1000) : n ≤ line := Nat.le_trans h (by decide)
theorem nx_seq {a b : MS} {e e1 : Mp.Env} (h : a e = .nx e1) : mSeq a b e = b e1 := by rw [mSeq_s, h, Fl.seq_nx]
theorem rng (m : ME) (e : Mp.Env) (n : Nat) (hn : n ≤ 1000) (h : m e = .ok (.int n) e) : lRange1 m e = .ok (iL (upto n)) e := by
  have e62 : (2 : Int) ^ 62 = 4611686018427387904 := by simp
  have h1 : -(2 ^ 62) ≤ (n : Int) ∧ (n : Int) < 2 ^ 62 := by
    rw [e62]
    omega
  unfold lRange1
  rw [h, Re.bind_ok]
  dsimp only
  rw [if_pos h1, Int.toNat_natCast, range_iL]
theorem desk_step (mo : Int) (row : List Int) (hr : row ≠ []) (n : Nat) (h1 : 1 ≤ n) (h3 : n ≤ 3) (at_ : Nat) (hat : at_ < 3) (i : Int) (hi : 0 ≤ i) (ks : List D) (hk : ks.length ≤ 3) (s6 s7 s8 s9 s10 : Sl) (f6 : Fr s6) (f7 : Fr s7) (f8 : Fr s8) (f9 : Fr s9) (f10 : Fr s10) :
    ∃ (k : K5) (i' : Int) (t6 t7 t8 t9 : Sl), Ok1 n at_ k ∧ 0 ≤ i' ∧ Fr t6 ∧ Fr t7 ∧ Fr t8 ∧ Fr t9 ∧ deskBody (dEnv mo row i n ks (.va (.int at_)) s6 s7 s8 s9 s10) = .nx (dEnv mo row i' n (ks ++ [kD k]) (.va (.int at_)) t6 t7 t8 t9 s10) := by
  obtain ⟨w, w1, w2, w3⟩ := work_ok (dV row i 5) (dV_range row i 5 (by omega)).1 (dV_range row i 5 (by omega)).2
  have A1 : mSet 6 (mBin atF (vOf (mL (lLst (aCons (vOf (mC (.int 1))) (aCons (vOf (mC (.int 1))) (aCons (vOf (mC (.int 2))) (aCons (vOf (mC (.int 3))) (aCons (vOf (mC (.int 4))) aNil)))))))) (vOf (mFn fn_law_take (aCons (mOwn 0) (aCons (mOwn 1) (aCons (vOf (mC (.int 5))) aNil))))))
      (dEnv mo row i n ks (.va (.int at_)) s6 s7 s8 s9 s10) = .nx (dEnv mo row (i + 1) n ks (.va (.int at_)) (.va (.int w)) s7 s8 s9 s10) := by
    cases f6 <;> simp [dEnv, line, call_take row i 5 true _ hi (by omega) hr, w1]
  have A2 : ∃ p i', 1 ≤ p ∧ p ≤ 12 ∧ 0 ≤ i' ∧ mSet 7 (mIf (mBin gtF (vOf (mFn fn_law_take (aCons (mOwn 0) (aCons (mOwn 1) (aCons (vOf (mC (.int 6))) aNil))))) (vOf (mC (.int 0)))) (mCall minF (aCons (vOf (mC (.int 12))) (aCons (vOf (mBin addF (mOwn 6) (vOf (mFn fn_law_take (aCons (mOwn 0) (aCons (mOwn 1) (aCons (vOf (mC (.int 3))) aNil))))))) aNil))) (mBin addF (vOf (mC (.int 1))) (vOf (mFn fn_law_take (aCons (mOwn 0) (aCons (mOwn 1) (aCons (vOf (mC (.int 4))) aNil)))))))
      (dEnv mo row (i + 1) n ks (.va (.int at_)) (.va (.int w)) s7 s8 s9 s10) = .nx (dEnv mo row i' n ks (.va (.int at_)) (.va (.int w)) (.va (.int p)) s8 s9 s10) := by
    have r3 := dV_range row (i + 1 + 1) 3 (by omega)
    have r4 := dV_range row (i + 1 + 1) 4 (by omega)
    by_cases hz : 0 < dV row (i + 1) 6
    · refine ⟨if w + dV row (i + 1 + 1) 3 < 12 then w + dV row (i + 1 + 1) 3 else 12, i + 1 + 1 + 1, ?_, ?_, by omega, ?_⟩
      · split <;> omega
      · split <;> omega
      · cases f7 <;> simp [dEnv, call_take row (i + 1) 6 true _ (by omega) (by omega) hr, call_take row (i + 1 + 1) 3 true _ (by omega) (by omega) hr, hz]
    · refine ⟨1 + dV row (i + 1 + 1) 4, i + 1 + 1 + 1, by omega, by omega, by omega, ?_⟩
      cases f7 <;> simp [dEnv, call_take row (i + 1) 6 true _ (by omega) (by omega) hr, call_take row (i + 1 + 1) 4 true _ (by omega) (by omega) hr, hz]
  obtain ⟨p, i2, p1, p2, hi2, A2⟩ := A2
  have A3 : ∃ p' i', 1 ≤ p' ∧ p' ≤ 12 ∧ 0 ≤ i' ∧ mIfS (mBin eqF (vOf (mFn fn_law_take (aCons (mOwn 0) (aCons (mOwn 1) (aCons (vOf (mC (.int 12))) aNil))))) (vOf (mC (.int 0)))) (mSet 7 (mBin addF (vOf (mC (.int 7))) (vOf (mFn fn_law_take (aCons (mOwn 0) (aCons (mOwn 1) (aCons (vOf (mC (.int 6))) aNil))))))) mNext
      (dEnv mo row i2 n ks (.va (.int at_)) (.va (.int w)) (.va (.int p)) s8 s9 s10) = .nx (dEnv mo row i' n ks (.va (.int at_)) (.va (.int w)) (.va (.int p')) s8 s9 s10) := by
    have r6 := dV_range row (i2 + 1) 6 (by omega)
    by_cases hz : dV row i2 12 = 0
    · refine ⟨7 + dV row (i2 + 1) 6, i2 + 1 + 1, by omega, by omega, by omega, ?_⟩
      simp [dEnv, eqF_int, call_take row i2 12 true _ hi2 (by omega) hr, call_take row (i2 + 1) 6 true _ (by omega) (by omega) hr, hz]
    · refine ⟨p, i2 + 1, p1, p2, by omega, ?_⟩
      simp [dEnv, eqF_int, call_take row i2 12 true _ hi2 (by omega) hr, hz]
  obtain ⟨p', i3, q1, q2, hi3, A3⟩ := A3
  obtain ⟨la, i4, sa, hi4, ea⟩ := lc_gt row 4 (by omega) hr (.va (.int mo)) (.va (.int n)) (.va (.int at_)) (.va (.int w)) (.va (.int p')) s8 s9 s10 ks (.va _) (.va _) (.va _) (.va _) (.va _) f8 f9 f10 (upto n) i3 hi3
  have A4 : mSet 8 (mCall tupF (aCons (vOf (mL (lLc [10] (lRange1 (mVar 3)) (putG 10) (mBin gtF (vOf (mFn fn_law_take (aCons (mOwn 0) (aCons (mOwn 1) (aCons (vOf (mC (.int 4))) aNil))))) (vOf (mC (.int 0)))) (mVar 10)))) aNil))
      (dEnv mo row i3 n ks (.va (.int at_)) (.va (.int w)) (.va (.int p')) s8 s9 s10) = .nx (dEnv mo row i4 n ks (.va (.int at_)) (.va (.int w)) (.va (.int p')) (.va (.tup (iL la))) s9 s10) := by
    have rg := rng (mVar 3) (dEnv mo row i3 n ks (.va (.int at_)) (.va (.int w)) (.va (.int p')) s8 s9 s10) n (by omega) (by simp [dEnv])
    have lu : (iL (upto n)).length ≤ line := by rw [iL_length, upto_length]; exact small_line (by omega)
    simp only [mSet_s, mCall_s, aCons_s, aNil_s, vOf_s, mL_s, lLc_s, rg, Re.bind_ok, if_pos lu]
    unfold dEnv
    rw [ea]
    cases f8 <;> simp
  obtain ⟨lb, i5, sb, hi5, eb⟩ := lc_eq row 5 (by omega) hr (.va (.int mo)) (.va (.int n)) (.va (.int at_)) (.va (.int w)) (.va (.int p')) (.va (.tup (iL la))) s9 s10 ks (.va _) (.va _) (.va _) (.va _) (.va _) (.va _) f9 f10 (upto at_) i4 hi4
  have A5 : mSet 9 (mCall tupF (aCons (vOf (mL (lLc [10] (lRange1 (mVar 5)) (putG 10) (mBin eqF (vOf (mFn fn_law_take (aCons (mOwn 0) (aCons (mOwn 1) (aCons (vOf (mC (.int 5))) aNil))))) (vOf (mC (.int 0)))) (mVar 10)))) aNil))
      (dEnv mo row i4 n ks (.va (.int at_)) (.va (.int w)) (.va (.int p')) (.va (.tup (iL la))) s9 s10) = .nx (dEnv mo row i5 n ks (.va (.int at_)) (.va (.int w)) (.va (.int p')) (.va (.tup (iL la))) (.va (.tup (iL lb))) s10) := by
    have rg := rng (mVar 5) (dEnv mo row i4 n ks (.va (.int at_)) (.va (.int w)) (.va (.int p')) (.va (.tup (iL la))) s9 s10) at_ (by omega) (by simp [dEnv])
    have lu : (iL (upto at_)).length ≤ line := by rw [iL_length, upto_length]; exact small_line (by omega)
    simp only [mSet_s, mCall_s, aCons_s, aNil_s, vOf_s, mL_s, lLc_s, rg, Re.bind_ok, if_pos lu]
    unfold dEnv
    rw [eb]
    cases f9 <;> simp
  have A6 : ∃ lb' i', Asc at_ lb' ∧ 0 ≤ i' ∧ mIfS (mBin eqF (vOf (mFn fn_law_take (aCons (mOwn 0) (aCons (mOwn 1) (aCons (vOf (mC (.int 8))) aNil))))) (vOf (mC (.int 0)))) (mSet 9 (mTupRange (mVar 5))) mNext
      (dEnv mo row i5 n ks (.va (.int at_)) (.va (.int w)) (.va (.int p')) (.va (.tup (iL la))) (.va (.tup (iL lb))) s10) = .nx (dEnv mo row i' n ks (.va (.int at_)) (.va (.int w)) (.va (.int p')) (.va (.tup (iL la))) (.va (.tup (iL lb'))) s10) := by
    by_cases hz : dV row i5 8 = 0
    · refine ⟨upto at_, i5 + 1, upto_asc at_, by omega, ?_⟩
      have tr : ∀ e, mVar 5 e = .ok (.int at_) e → mTupRange (mVar 5) e = .ok (.tup (iL (upto at_))) e := fun e he => by
        have e62 : (2 : Int) ^ 62 = 4611686018427387904 := by simp
        have h1 : -(2 ^ 62) ≤ (at_ : Int) ∧ (at_ : Int) ≤ 16777216 := by
          rw [e62]
          omega
        unfold mTupRange
        rw [he]
        simp only [Re.bind_ok, h1, and_self, if_true, Int.toNat_natCast]
        simp [iL, upto]
      simp [dEnv, eqF_int, call_take row i5 8 true _ hi5 (by omega) hr, hz, tr]
    · refine ⟨lb, i5 + 1, (upto_asc at_).sub sb, by omega, ?_⟩
      simp [dEnv, eqF_int, call_take row i5 8 true _ hi5 (by omega) hr, hz]
  obtain ⟨lb', i6, hlb, hi6, A6⟩ := A6
  refine ⟨⟨w, p', la, lb', decide (dV row i6 3 = 0)⟩, i6 + 1, .va (.int w), .va (.int p'), .va (.tup (iL la)), .va (.tup (iL lb')), ⟨⟨w2, w3⟩, ⟨q1, q2⟩, (upto_asc n).sub sa, hlb⟩, by omega, .va _, .va _, .va _, .va _, ?_⟩
  unfold deskBody
  rw [nx_seq A1, nx_seq A2, nx_seq A3, nx_seq A4, nx_seq A5, nx_seq A6]
  have hlt : ks.length < 16777216 := by omega
  simp [dEnv, mAppend, eqF_int, call_take row i6 3 true _ hi6 (by omega) hr, hlt, kD, line]
end K10
set_option Elab.async false
set_option linter.all false
set_option maxRecDepth 100000
set_option maxHeartbeats 4000000
namespace K10
open PySem PySem.Spec PyProof.Rows L2 Mp
theorem desk_loop (mo : Int) (row : List Int) (hr : row ≠ []) (n : Nat) (h1 : 1 ≤ n) (h3 : n ≤ 3) : ∀ (m j : Nat) (i : Int) (ks : List K5) (s5 s6 s7 s8 s9 s10 : Sl), 0 ≤ i → ks.length = j → j + m ≤ 3 → OkK n ks → Fr s5 → Fr s6 → Fr s7 → Fr s8 → Fr s9 → Fr s10 →
    ∃ (ks' : List K5) (i' : Int) (t5 t6 t7 t8 t9 : Sl), ks'.length = j + m ∧ OkK n ks' ∧ 0 ≤ i' ∧ forF (putG 5) deskBody (iL ((List.range' j m).map fun i => ((i : Nat) : Int))) (dEnv mo row i n (ks.map kD) s5 s6 s7 s8 s9 s10) = .nx (dEnv mo row i' n (ks'.map kD) t5 t6 t7 t8 t9 s10)
  | 0, j, i, ks, s5, s6, s7, s8, s9, s10, hi, hk, hj, ok, f5, f6, f7, f8, f9, f10 => ⟨ks, i, s5, s6, s7, s8, s9, by omega, ok, hi, rfl⟩
  | m + 1, j, i, ks, s5, s6, s7, s8, s9, s10, hi, hk, hj, ok, f5, f6, f7, f8, f9, f10 => by
    obtain ⟨k, i', t6, t7, t8, t9, ok1, hi', g6, g7, g8, g9, e⟩ := desk_step mo row hr n h1 h3 j (by omega) i hi (ks.map kD) (by simp; omega) s6 s7 s8 s9 s10 f6 f7 f8 f9 f10
    have ok' : OkK n (ks ++ [k]) := fun q k' hq => by
      by_cases hlt : q < ks.length
      · rw [List.getElem?_append_left hlt] at hq
        exact ok q k' hq
      · rw [List.getElem?_append_right (by omega)] at hq
        have hq0 : q - ks.length = 0 := by
          have := lt_of_get hq
          simpa using this
        rw [hq0] at hq
        cases hq
        have : q = j := by omega
        subst this
        exact ok1
    obtain ⟨ks', i2, t5', t6', t7', t8', t9', hl, hok, hi2, e2⟩ := desk_loop mo row hr n h1 h3 m (j + 1) i' (ks ++ [k]) (.va (.int j)) t6 t7 t8 t9 s10 hi' (by simp [hk]) (by omega) ok' (.va _) g6 g7 g8 g9 f10
    refine ⟨ks', i2, t5', t6', t7', t8', t9', by omega, hok, hi2, ?_⟩
    have p : putG 5 (.int j) (dEnv mo row i n (ks.map kD) s5 s6 s7 s8 s9 s10) = some (dEnv mo row i n (ks.map kD) (.va (.int j)) s6 s7 s8 s9 s10) := by
      cases f5 <;> simp [dEnv]
    rw [List.range'_succ, List.map_cons, iL_cons, forF, p]
    simp only [e]
    rw [List.map_append] at e2
    exact e2
theorem desk_ok (mo : Int) (hm1 : 1 ≤ mo) (hm3 : mo ≤ 3) (row : List Int) (hr : row ≠ []) (i : Int) (hi : 0 ≤ i) : ∃ (n : Nat) (ks : List K5) (i' : Int), 1 ≤ n ∧ n ≤ 3 ∧ 1 ≤ ks.length ∧ ks.length ≤ 3 ∧ OkK n ks ∧ 0 ≤ i' ∧
    fn_law_desk [.va (.lst (iL row)), .ow true [.int i], .va (.int mo)] = .ok (.tup [.int n, .tup (ks.map kD)]) [.un, .ow true [.int i'], .un] := by
  have ra := dV_range row i mo (by omega)
  have rb := dV_range row (i + 1) 3 (by omega)
  obtain ⟨n, hn⟩ := Int.eq_ofNat_of_zero_le (show 0 ≤ 1 + dV row i mo by omega)
  obtain ⟨c, hc⟩ := Int.eq_ofNat_of_zero_le (show 0 ≤ 1 + dV row (i + 1) 3 by omega)
  obtain ⟨ks, i', t5, t6, t7, t8, t9, hl, hok, hi', e⟩ := desk_loop mo row hr n (by omega) (by omega) c 0 (i + 1 + 1) [] .un .un .un .un .un .un (by omega) rfl (by omega) (fun q k hq => by simp at hq) .un .un .un .un .un .un
  rw [Nat.zero_add] at hl
  have e2 : forF (putG 5) deskBody (iL (upto c)) (dEnv mo row (i + 1 + 1) n [] .un .un .un .un .un .un) = .nx (dEnv mo row i' n (ks.map kD) t5 t6 t7 t8 t9 .un) := by
    rw [upto, List.range_eq_range']
    exact e
  have A1 : mSet 3 (mBin addF (vOf (mC (.int 1))) (vOf (mFn fn_law_take (aCons (mOwn 0) (aCons (mOwn 1) (aCons (mOwn 2) aNil)))))) [.va (.lst (iL row)), .ow true [.int i], .va (.int mo), .un, .un, .un, .un, .un, .un, .un, .un] =
      .nx [.va (.lst (iL row)), .ow true [.int (i + 1)], .va (.int mo), .va (.int n), .un, .un, .un, .un, .un, .un, .un] := by
    simp [call_take row i mo true _ hi (by omega) hr, hn]
  have A2 : mSetO 4 (lLst aNil) [.va (.lst (iL row)), .ow true [.int (i + 1)], .va (.int mo), .va (.int n), .un, .un, .un, .un, .un, .un, .un] = .nx [.va (.lst (iL row)), .ow true [.int (i + 1)], .va (.int mo), .va (.int n), .ow false [], .un, .un, .un, .un, .un, .un] := by
    simp [line, ownG]
  have A3 : mFor (lRange1 (mBin addF (vOf (mC (.int 1))) (vOf (mFn fn_law_take (aCons (mOwn 0) (aCons (mOwn 1) (aCons (vOf (mC (.int 3))) aNil))))))) (putG 5) deskBody [.va (.lst (iL row)), .ow true [.int (i + 1)], .va (.int mo), .va (.int n), .ow false [], .un, .un, .un, .un, .un, .un] =
      .nx (dEnv mo row i' n (ks.map kD) t5 t6 t7 t8 t9 .un) := by
    have m1 : mBin addF (vOf (mC (.int 1))) (vOf (mFn fn_law_take (aCons (mOwn 0) (aCons (mOwn 1) (aCons (vOf (mC (.int 3))) aNil))))) [.va (.lst (iL row)), .ow true [.int (i + 1)], .va (.int mo), .va (.int n), .ow false [], .un, .un, .un, .un, .un, .un] = .ok (.int c) (dEnv mo row (i + 1 + 1) n [] .un .un .un .un .un .un) := by
      simp [call_take row (i + 1) 3 true _ (by omega) (by omega) hr, hc, dEnv]
    have m2 : lRange1 (mBin addF (vOf (mC (.int 1))) (vOf (mFn fn_law_take (aCons (mOwn 0) (aCons (mOwn 1) (aCons (vOf (mC (.int 3))) aNil)))))) [.va (.lst (iL row)), .ow true [.int (i + 1)], .va (.int mo), .va (.int n), .ow false [], .un, .un, .un, .un, .un, .un] = .ok (iL (upto c)) (dEnv mo row (i + 1 + 1) n [] .un .un .un .un .un .un) := by
      have e62 : (2 : Int) ^ 62 = 4611686018427387904 := by simp
      have h1 : -(2 ^ 62) ≤ (c : Int) ∧ (c : Int) < 2 ^ 62 := by
        rw [e62]
        omega
      unfold lRange1
      rw [m1, Re.bind_ok]
      dsimp only
      rw [if_pos h1, Int.toNat_natCast, range_iL]
    rw [mFor_s, m2, Re.flow_ok, e2]
  refine ⟨n, ks, i', by omega, by omega, by omega, by omega, hok, hi', ?_⟩
  unfold fn_law_desk fnOf b_law_desk
  have lo : [Sl.va (.lst (iL row)), Sl.ow true [D.int i], Sl.va (.int mo)].length = 3 := rfl
  rw [if_pos lo]
  have ap : [Sl.va (.lst (iL row)), Sl.ow true [D.int i], Sl.va (.int mo)] ++ List.replicate (11 - 3) Sl.un = [.va (.lst (iL row)), .ow true [.int i], .va (.int mo), .un, .un, .un, .un, .un, .un, .un, .un] := rfl
  rw [ap, nx_seq A1, nx_seq A2]
  unfold deskBody at A3
  rw [nx_seq A3]
  simp [dEnv, line, outsOf, List.range_succ]
end K10
set_option Elab.async false
set_option linter.all false
set_option maxRecDepth 100000
set_option maxHeartbeats 4000000
namespace K10
open PySem PySem.Spec PyProof.Rows L2 Mp
/-! ### the forms -/
theorem kb_int : kitB "int" "int" = some true := by rfl
theorem kb_intb : kitB "int" "bool" = some false := by decide +kernel
theorem kb_bool : kitB "bool" "int" = some true := by decide +kernel
theorem kb_boolb : kitB "bool" "bool" = some true := by rfl
theorem kb_str : kitB "str" "int" = some false := by decide +kernel
theorem kb_non : kitB "NoneType" "int" = some false := by decide +kernel
theorem kb_tup : kitB "tuple" "tuple" = some true := by rfl
theorem kb_itup : kitB "int" "tuple" = some false := by decide +kernel
theorem ks_list : kitBs "list" ["list", "tuple"] = some true := by decide +kernel
theorem ks_tuple : kitBs "tuple" ["list", "tuple"] = some true := by decide +kernel
theorem ks_int : kitBs "int" ["list", "tuple"] = some false := by decide +kernel
theorem ks_str : kitBs "str" ["list", "tuple"] = some false := by decide +kernel
theorem ks_non : kitBs "NoneType" ["list", "tuple"] = some false := by decide +kernel
/-- a call with values only -/
theorem call_va1 (fn : Fn) (d r : D) (e : Mp.Env) (o : Sl) (h : fn [.va d] = .ok r [o]) : callF fn [.va d] e = .ok r e := by
  simp [callF, ixs, argsOf, h, putB]
theorem call_va2 (fn : Fn) (d1 d2 r : D) (e : Mp.Env) (o1 o2 : Sl) (h : fn [.va d1, .va d2] = .ok r [o1, o2]) : callF fn [.va d1, .va d2] e = .ok r e := by
  simp [callF, ixs, argsOf, h, putB]
theorem call_va3 (fn : Fn) (d1 d2 d3 r : D) (e : Mp.Env) (o1 o2 o3 : Sl) (h : fn [.va d1, .va d2, .va d3] = .ok r [o1, o2, o3]) : callF fn [.va d1, .va d2, .va d3] e = .ok r e := by
  simp [callF, ixs, argsOf, h, putB]
theorem whole_int (v : Int) : fn_is_whole [.va (.int v)] = .ok (.bl true) [.un] := by
  simp [fn_is_whole, fnOf, b_is_whole, isiF, tyName, kb_int, kb_intb, outsOf, List.range_succ]
theorem whole_bool (v : Bool) : fn_is_whole [.va (.bl v)] = .ok (.bl false) [.un] := by
  simp [fn_is_whole, fnOf, b_is_whole, isiF, tyName, kb_bool, kb_boolb, outsOf, List.range_succ]
theorem whole_non : fn_is_whole [.va .non] = .ok (.bl false) [.un] := by
  simp [fn_is_whole, fnOf, b_is_whole, isiF, tyName, kb_non, outsOf, List.range_succ]
theorem whole_str (x : Str) : fn_is_whole [.va (.str x)] = .ok (.bl false) [.un] := by
  simp [fn_is_whole, fnOf, b_is_whole, isiF, tyName, kb_str, outsOf, List.range_succ]
theorem between_int (v lo hi : Int) : fn_is_between [.va (.int v), .va (.int lo), .va (.int hi)] = .ok (.bl (decide (lo ≤ v ∧ v ≤ hi))) [.un, .un, .un] := by
  by_cases h : lo ≤ v <;> simp [fn_is_between, fnOf, b_is_between, call_va1 _ _ _ _ _ (whole_int v), h, outsOf, List.range_succ]
theorem between_bool (v : Bool) (lo hi : Int) : fn_is_between [.va (.bl v), .va (.int lo), .va (.int hi)] = .ok (.bl false) [.un, .un, .un] := by
  simp [fn_is_between, fnOf, b_is_between, call_va1 _ _ _ _ _ (whole_bool v), outsOf, List.range_succ]
theorem between_non (lo hi : Int) : fn_is_between [.va .non, .va (.int lo), .va (.int hi)] = .ok (.bl false) [.un, .un, .un] := by
  simp [fn_is_between, fnOf, b_is_between, call_va1 _ _ _ _ _ whole_non, outsOf, List.range_succ]
theorem between_str (x : Str) (lo hi : Int) : fn_is_between [.va (.str x), .va (.int lo), .va (.int hi)] = .ok (.bl false) [.un, .un, .un] := by
  simp [fn_is_between, fnOf, b_is_between, call_va1 _ _ _ _ _ (whole_str x), outsOf, List.range_succ]
theorem seq_t (xs : List D) : fn_is_sequence [.va (.tup xs)] = .ok (.bl true) [.un] := by
  simp [fn_is_sequence, fnOf, b_is_sequence, isTsF, tyName, ks_tuple, outsOf, List.range_succ]
theorem seq_l (xs : List D) : fn_is_sequence [.va (.lst xs)] = .ok (.bl true) [.un] := by
  simp [fn_is_sequence, fnOf, b_is_sequence, isTsF, tyName, ks_list, outsOf, List.range_succ]
theorem seq_i (i : Int) : fn_is_sequence [.va (.int i)] = .ok (.bl false) [.un] := by
  simp [fn_is_sequence, fnOf, b_is_sequence, isTsF, tyName, ks_int, outsOf, List.range_succ]
theorem seq_s (i : Str) : fn_is_sequence [.va (.str i)] = .ok (.bl false) [.un] := by
  simp [fn_is_sequence, fnOf, b_is_sequence, isTsF, tyName, ks_str, outsOf, List.range_succ]
theorem seq_n : fn_is_sequence [.va .non] = .ok (.bl false) [.un] := by
  simp [fn_is_sequence, fnOf, b_is_sequence, isTsF, tyName, ks_non, outsOf, List.range_succ]
def isSq (d : D) (xs : List D) : Prop := d = .tup xs ∨ d = .lst xs
theorem length_ok (d : D) (xs : List D) (h : isSq d xs) (lo hi : Int) : fn_has_length [.va d, .va (.int lo), .va (.int hi)] = .ok (.bl (decide (lo ≤ xs.length ∧ xs.length ≤ hi))) [.un, .un, .un] := by
  by_cases z : lo ≤ (xs.length : Int)
  · rcases h with rfl | rfl <;> simp [fn_has_length, fnOf, b_has_length, call_va1 _ _ _ _ _ (seq_t xs), call_va1 _ _ _ _ _ (seq_l xs), z, outsOf, List.range_succ]
  · rcases h with rfl | rfl <;> simp [fn_has_length, fnOf, b_has_length, call_va1 _ _ _ _ _ (seq_t xs), call_va1 _ _ _ _ _ (seq_l xs), z, outsOf, List.range_succ]
theorem below_lc (n : Int) (v : D) (s : Sl) (f : Fr s) : ∀ l : List Int, lcF [2] (putG 2) tYesF (mFn fn_is_between (aCons (mOwn 2) (aCons (vOf (mC (.int 0))) (aCons (vOf (mBin subF (mOwn 1) (vOf (mC (.int 1))))) aNil)))) (iL l) [.va v, .va (.int n), s] = .ok (l.map fun x => .bl (decide (0 ≤ x) && decide (x ≤ n - 1))) [.va v, .va (.int n), s]
  | [] => rfl
  | x :: l => by
    have ih := below_lc n v s f l
    rw [iL_cons, lcF]
    simp [free_, f.isOw, enterE, wipeE, tYesF, call_va3 _ _ _ _ _ _ _ _ _ (between_int x 0 (n - 1)), backE, f.back, ih]
theorem bools_map (p : Int → Bool) : ∀ l : List Int, boolsOf (l.map fun x => .bl (p x)) = some (l.map p)
  | [] => rfl
  | x :: l => by simp [boolsOf, bools_map p l]
theorem below_ok (d : D) (l : List Int) (h : isSq d (iL l)) (hl : l.length ≤ 1000) (n : Int) : fn_all_below [.va d, .va (.int n)] = .ok (.bl (l.all fun x => decide (0 ≤ x) && decide (x ≤ n - 1))) [.un, .un] := by
  have hz : l.length ≤ line := small_line hl
  have e := fun v => below_lc n v .un .un l
  rcases h with rfl | rfl <;> simp [fn_all_below, fnOf, b_all_below, call_va1 _ _ _ _ _ (seq_t _), call_va1 _ _ _ _ _ (seq_l _), hz, e, allF, bools_map (fun x => decide (0 ≤ x) && decide (x ≤ n - 1)), outsOf, List.range_succ, Function.comp_def]
end K10
set_option Elab.async false
set_option linter.all false
set_option maxRecDepth 100000
set_option maxHeartbeats 4000000
namespace K10
open PySem PySem.Spec PyProof.Rows L2 Mp
theorem take_drop1 {α : Type} (l : List α) : List.take (l.length - min 1 l.length) (List.drop (min 1 l.length) l) = l.tail := by
  cases l with
  | nil => rfl
  | cons a l => simp
theorem cut1 (l : List Int) : cutF (some 1) none (.tup (iL l)) = some (.tup (iL l.tail)) ∧ cutF (some 1) none (.lst (iL l)) = some (.lst (iL l.tail)) := by
  have h : HT.sIx (iL l).length 0 (some 1) = min 1 (iL l).length := HT.sIx_nat (iL l).length 0 1
  have h0 : HT.sIx (iL l).length (iL l).length none = (iL l).length := rfl
  have t : (iL l).tail = iL l.tail := by
    cases l <;> rfl
  simp only [cutF, h, h0, take_drop1, t, and_self]
def prs (l : List Int) : List (Int × Int) := l.zip l.tail
theorem zip_prs (l m : List Int) : List.zipWith (fun x y => D.tup [x, y]) (iL l) (iL m) = (l.zip m).map fun p => D.tup [.int p.1, .int p.2] := by
  simp only [iL, List.zipWith_map, List.zip, List.map_zipWith]
theorem asc_lc (v : D) (s1 s2 : Sl) (f1 : Fr s1) (f2 : Fr s2) : ∀ l : List (Int × Int), lcF [1, 2] (tupX 2 (consG (putG 1) (consG (putG 2) nilG))) tYesF (mBin (fun x y => (ltF x y).map D.bl) (mOwn 1) (mOwn 2)) (l.map fun p => D.tup [.int p.1, .int p.2]) [.va v, s1, s2] = .ok (l.map fun p => .bl (decide (p.1 < p.2))) [.va v, s1, s2]
  | [] => rfl
  | x :: l => by
    have ih := asc_lc v s1 s2 f1 f2 l
    rw [List.map_cons, lcF]
    simp [free_, f1.isOw, f2.isOw, enterE, wipeE, tYesF, tupX, consG, nilG, backE, f1.back, f2.back, ih]
theorem bools_map2 {α : Type} (p : α → Bool) : ∀ l : List α, boolsOf (l.map fun x => .bl (p x)) = some (l.map p)
  | [] => rfl
  | x :: l => by simp [boolsOf, bools_map2 p l]
theorem asc_ok (d : D) (l : List Int) (h : isSq d (iL l)) (hl : l.length ≤ 1000) : fn_is_ascending [.va d] = .ok (.bl ((prs l).all fun p => decide (p.1 < p.2))) [.un] := by
  have hz : (prs l).length ≤ line := small_line (by unfold prs; simp; omega)
  have e := fun v => asc_lc v .un .un .un .un (prs l)
  have c := cut1 l
  have z := zip_prs l l.tail
  have hz2 : (List.map (fun p : Int × Int => D.tup [.int p.1, .int p.2]) (prs l)).length ≤ line := by simpa using hz
  unfold prs at *
  rcases h with rfl | rfl
  · simp [fn_is_ascending, fnOf, b_is_ascending, lZip, mCut, oSome, oNone, asI, c.1, z, e, allF, bools_map2 (fun p : Int × Int => decide (p.1 < p.2)), outsOf, List.range_succ, Function.comp_def]
    rw [if_pos (Nat.le_succ_of_le (small_line hl))]
    simp [allF, bools_map2 (fun p : Int × Int => decide (p.1 < p.2)), outsOf, List.range_succ, Function.comp_def]
  · simp [fn_is_ascending, fnOf, b_is_ascending, lZip, mCut, oSome, oNone, asI, c.2, z, e, allF, bools_map2 (fun p : Int × Int => decide (p.1 < p.2)), outsOf, List.range_succ, Function.comp_def]
    rw [if_pos (Nat.le_succ_of_le (small_line hl))]
    simp [allF, bools_map2 (fun p : Int × Int => decide (p.1 < p.2)), outsOf, List.range_succ, Function.comp_def]
theorem asc_prs : ∀ (l : List Int), l.Pairwise (· < ·) → ((prs l).all fun p => decide (p.1 < p.2)) = true
  | [], _ => rfl
  | [_], _ => rfl
  | a :: b :: l, h => by
    have ih := asc_prs (b :: l) (List.pairwise_cons.mp h).2
    have hab : a < b := (List.pairwise_cons.mp h).1 b (by simp)
    show (decide (a < b) && (prs (b :: l)).all fun p => decide (p.1 < p.2)) = true
    rw [ih]
    simp [hab]
theorem ab_ok (d : D) (l : List Int) (h : isSq d (iL l)) (hl : l.length ≤ 1000) (n : Int) : fn_is_ascending_below [.va d, .va (.int n)] = .ok (.bl ((l.all fun x => decide (0 ≤ x) && decide (x ≤ n - 1)) && (prs l).all fun p => decide (p.1 < p.2))) [.un, .un] := by
  have e1 := fun e => call_va2 _ _ _ _ e _ _ (below_ok d l h hl n)
  have e2 := fun e => call_va1 _ _ _ e _ (asc_ok d l h hl)
  by_cases z : (l.all fun x => decide (0 ≤ x) && decide (x ≤ n - 1)) = true
  · simp only [z] at e1 ⊢
    simp [fn_is_ascending_below, fnOf, b_is_ascending_below, e1, e2, outsOf, List.range_succ]
  · have z' : (l.all fun x => decide (0 ≤ x) && decide (x ≤ n - 1)) = false := by simpa using z
    simp only [z'] at e1 ⊢
    simp [fn_is_ascending_below, fnOf, b_is_ascending_below, e1, e2, outsOf, List.range_succ]
theorem ab_true (d : D) (l : List Int) (h : isSq d (iL l)) (hl : l.length ≤ 1000) (n : Int) (ha : Asc n l) : fn_is_ascending_below [.va d, .va (.int n)] = .ok (.bl true) [.un, .un] := by
  rw [ab_ok d l h hl n, asc_prs l ha.1]
  have : (l.all fun x => decide (0 ≤ x) && decide (x ≤ n - 1)) = true := by
    rw [List.all_eq_true]
    intro x hx
    have := ha.2 x hx
    simp
    omega
  rw [this]
  rfl
/-- lists that ascend below a small number are short -/
theorem Asc.short {n : Int} {l : List Int} (h : Asc n l) (hn : n ≤ 1000) : l.length ≤ 1000 := by
  have key : ∀ (l : List Int) (lo : Int), l.Pairwise (· < ·) → (∀ x ∈ l, lo ≤ x ∧ x < n) → (l.length : Int) ≤ max 0 (n - lo) := by
    intro l
    induction l with
    | nil => intro lo _ _; simp; omega
    | cons a l ih =>
      intro lo hp hb
      have h1 := (List.pairwise_cons.mp hp).1
      have h2 := ih (a + 1) (List.pairwise_cons.mp hp).2 fun x hx => ⟨by have := h1 x hx; omega, (hb x (List.mem_cons_of_mem _ hx)).2⟩
      have h3 := hb a (by simp)
      simp only [List.length_cons]
      omega
  have := key l 0 h.1 h.2
  omega
end K10
set_option Elab.async false
set_option linter.all false
set_option maxRecDepth 100000
set_option maxHeartbeats 4000000
namespace K10
open PySem PySem.Spec PyProof.Rows L2 Mp
/-! ### kinds, desks -/
/-- a kind as it may be handed in -/
def isK (k : K5) (d : D) : Prop := ∃ a b, isSq a (iL k.a) ∧ isSq b (iL k.b) ∧ isSq d [.int k.w, .int k.p, a, b, .bl k.j]
theorem kind_true (n : Int) (at_ : Nat) (k : K5) (d : D) (h : isK k d) (ok : Ok1 n at_ k) (hn : n ≤ 1000) (hat : at_ ≤ 1000) : fn_is_kind [.va d, .va (.int at_), .va (.int n)] = .ok (.bl true) [.un, .un, .un] := by
  obtain ⟨a, b, ha, hb, hd⟩ := h
  have sa := ok.a.short hn
  have sb := ok.b.short (show (at_ : Int) ≤ 1000 by omega)
  have ea := ab_true a k.a ha sa n ok.a
  have eb := ab_true b k.b hb sb at_ ok.b
  have w := ok.w
  have p := ok.p
  have l5 := length_ok d _ hd 5 5
  have t5 : (tupX 5 (consG (putG 3) (consG (putG 4) (consG (putG 5) (consG (putG 6) (consG (putG 7) nilG)))))) d [.va d, .va (.int at_), .va (.int n), .un, .un, .un, .un, .un] = some [.va d, .va (.int at_), .va (.int n), .va (.int k.w), .va (.int k.p), .va a, .va b, .va (.bl k.j)] := by
    rcases hd with rfl | rfl <;> simp [tupX, consG, nilG]
  simp [fn_is_kind, fnOf, b_is_kind, call_va3 _ _ _ _ _ _ _ _ _ l5, t5]
  simp [call_va3 _ _ _ _ _ _ _ _ _ (between_int k.w 1 4), call_va3 _ _ _ _ _ _ _ _ _ (between_int k.p 1 12), call_va2 _ _ _ _ _ _ _ ea, call_va2 _ _ _ _ _ _ _ eb, w, p, isiF, tyName, kb_boolb, outsOf, List.range_succ]
theorem plain_ok (k : K5) (d : D) (h : isK k d) : fn_plain_kind [.va d] = .ok (kD k) [.un] := by
  obtain ⟨a, b, ha, hb, hd⟩ := h
  have ta : tupF [a] = some (.tup (iL k.a)) := by rcases ha with rfl | rfl <;> rfl
  have tb : tupF [b] = some (.tup (iL k.b)) := by rcases hb with rfl | rfl <;> rfl
  have t5 : (tupX 5 (consG (putG 1) (consG (putG 2) (consG (putG 3) (consG (putG 4) (consG (putG 5) nilG)))))) d [.va d, .un, .un, .un, .un, .un] = some [.va d, .va (.int k.w), .va (.int k.p), .va a, .va b, .va (.bl k.j)] := by
    rcases hd with rfl | rfl <;> simp [tupX, consG, nilG]
  simp [fn_plain_kind, fnOf, b_plain_kind, t5, ta, tb, kD, line, outsOf, List.range_succ]
theorem plain_lc (v0 v1 v2 : D) (s3 s4 : Sl) (f3 : Fr s3) (f4 : Fr s4) : ∀ (ks : List K5) (ds : List D), ks.length = ds.length → (∀ (i : Nat) (k : K5) (d : D), ks[i]? = some k → ds[i]? = some d → isK k d) →
    lcF [4] (putG 4) tYesF (mFn fn_plain_kind (aCons (mOwn 4) aNil)) ds [.va v0, .va v1, .va v2, s3, s4] = .ok (ks.map kD) [.va v0, .va v1, .va v2, s3, s4]
  | [], [], _, _ => rfl
  | [], _ :: _, h, _ => by simp at h
  | _ :: _, [], h, _ => by simp at h
  | k :: ks, d :: ds, hl, h => by
    have ih := plain_lc v0 v1 v2 s3 s4 f3 f4 ks ds (by simpa using hl) fun i k d a b => h (i + 1) k d (by simpa using a) (by simpa using b)
    have e := plain_ok k d (h 0 k d rfl rfl)
    rw [lcF]
    simp [free_, f4.isOw, enterE, wipeE, f3.mark, tYesF, call_va1 _ _ _ _ _ e, backE, f3.back, f4.back, ih]
theorem init_loop (x : Addr) (n : Int) (v2 : D) (hn : n ≤ 1000) : ∀ (ks : List K5) (ds : List D) (j : Nat) (s3 s4 : Sl), Fr s3 → Fr s4 → ks.length = ds.length → j + ks.length ≤ 1000 → (∀ (i : Nat) (k : K5) (d : D), ks[i]? = some k → ds[i]? = some d → isK k d ∧ Ok1 n (j + i) k) →
    ∃ t3 t4, Fr t3 ∧ Fr t4 ∧ forF (tupX 2 (consG (putG 3) (consG (putG 4) nilG))) (mIfS (mNot (mTest (mFn fn_is_kind (aCons (mOwn 4) (aCons (mOwn 3) (aCons (mOwn 1) aNil)))))) (mRaise "BadKind" (mVar 3)) mNext) (pairsFrom j ds) [.va (.adr x), .va (.int n), .va v2, s3, s4] = .nx [.va (.adr x), .va (.int n), .va v2, t3, t4]
  | [], [], j, s3, s4, f3, f4, _, _, _ => ⟨s3, s4, f3, f4, rfl⟩
  | [], _ :: _, _, _, _, _, _, h, _, _ => by simp at h
  | _ :: _, [], _, _, _, _, _, h, _, _ => by simp at h
  | k :: ks, d :: ds, j, s3, s4, f3, f4, hl, hj, h => by
    have hj' : j + 1 + ks.length ≤ 1000 := by simp at hj; omega
    obtain ⟨t3, t4, g3, g4, ih⟩ := init_loop x n v2 hn ks ds (j + 1) (.va (.int j)) (.va d) (.va _) (.va _) (by simpa using hl) hj' fun i k d a b => by
      have := h (i + 1) k d (by simpa using a) (by simpa using b)
      rw [show j + (i + 1) = j + 1 + i by omega] at this
      exact this
    obtain ⟨hk, ok⟩ := h 0 k d rfl rfl
    have e := kind_true n j k d hk ok hn (by omega)
    refine ⟨t3, t4, g3, g4, ?_⟩
    have p : tupX 2 (consG (putG 3) (consG (putG 4) nilG)) (.tup [.int (j : Nat), d]) [.va (.adr x), .va (.int n), .va v2, s3, s4] = some [.va (.adr x), .va (.int n), .va v2, .va (.int j), .va d] := by
      cases f3 <;> cases f4 <;> simp [tupX, consG, nilG]
    have b : (mIfS (mNot (mTest (mFn fn_is_kind (aCons (mOwn 4) (aCons (mOwn 3) (aCons (mOwn 1) aNil)))))) (mRaise "BadKind" (mVar 3)) mNext) [.va (.adr x), .va (.int n), .va v2, .va (.int j), .va d] = .nx [.va (.adr x), .va (.int n), .va v2, .va (.int j), .va d] := by
      simp [call_va3 _ _ _ _ _ _ _ _ _ e]
    rw [pairsFrom, forF, p]
    simp only [b]
    exact ih
end K10
set_option Elab.async false
set_option linter.all false
set_option maxRecDepth 100000
set_option maxHeartbeats 4000000
namespace K10
open PySem PySem.Spec PyProof.Rows L2 Mp
def Same5 (ks : List K5) (ds : List D) : Prop := ks.length = ds.length ∧ ∀ (i : Nat) (k : K5) (d : D), ks[i]? = some k → ds[i]? = some d → isK k d
theorem same_kD (ks : List K5) : Same5 ks (ks.map kD) := ⟨by simp, fun i k d a b => by
  rw [List.getElem?_map, a] at b
  cases b
  exact ⟨_, _, .inl rfl, .inl rfl, .inl rfl⟩⟩
theorem run_ok (x : Addr) (n : Nat) (h1 : 1 ≤ n) (h3 : n ≤ 3) (ks : List K5) (l1 : 1 ≤ ks.length) (l3 : ks.length ≤ 3) (ok : OkK n ks) (d : D) (ds : List D) (hd : isSq d ds) (hs : Same5 ks ds) :
    runInit 3 5 b_Desk__init st_Desk x [.int n, d] = .ok [.int n, .tup (ks.map kD)] := by
  obtain ⟨hl, hk⟩ := hs
  obtain ⟨t3, t4, g3, g4, e⟩ := init_loop x n d (by omega) ks ds 0 .un .un .un .un hl (by omega) fun i k d a b => ⟨hk i k d a b, by rw [Nat.zero_add]; exact ok i k a⟩
  have lc := plain_lc (.adr x) (.int n) d t3 t4 g3 g4 ks ds hl hk
  have c1 := fun e => call_va3 _ _ _ _ _ e _ _ _ (between_int (n : Int) 1 3)
  have c2 := fun e => call_va3 _ _ _ _ _ e _ _ _ (length_ok d ds hd 1 3)
  have b1 : (1 : Int) ≤ n ∧ (n : Int) ≤ 3 := by omega
  have b2 : (1 : Int) ≤ (ds.length : Int) ∧ (ds.length : Int) ≤ 3 := by omega
  simp only [b1, b2, and_self, decide_true] at c1 c2
  have b3 : ds.length ≤ line := small_line (by omega)
  have en : lEnum (aCons (mOwn 2) aNil) [.va (.adr x), .va (.int n), .va d, .un, .un] = .ok (pairsFrom 0 ds) [.va (.adr x), .va (.int n), .va d, .un, .un] := by
    rcases hd with rfl | rfl <;> simp [lEnum]
  have pre : b_Desk__init [.va (.adr x), .va (.int n), .va d, .un, .un] = .nx [.va (.adr x), .va (.int n), .va d, t3, t4] := by
    simp [b_Desk__init, c1, c2, en, e]
  have sq : seqF d = some ds := by
    rcases hd with rfl | rfl <;> rfl
  have no : noOw [.va (.adr x), .va (.int n), .va d, t3, t4] = true := by
    cases g3 <;> cases g4 <;> rfl
  have st : stF st_Desk [.va (.adr x), .va (.int n), .va d, t3, t4] = some [.int n, .tup (ks.map kD)] := by
    simp [st_Desk, stF, no, sq, b3, lc]
  have ap : (Sl.va (.adr x) :: List.map Sl.va [D.int n, d] ++ List.replicate (5 - 3) Sl.un) = [.va (.adr x), .va (.int n), .va d, .un, .un] := rfl
  unfold runInit
  rw [if_pos (by rfl), ap, pre]
  simp [st]
theorem fi_ok (n : Nat) (h1 : 1 ≤ n) (h3 : n ≤ 3) (ks : List K5) (l1 : 1 ≤ ks.length) (l3 : ks.length ≤ 3) (ok : OkK n ks) (d : D) (ds : List D) (hd : isSq d ds) (hs : Same5 ks ds) :
    fi_Desk [.int n, d] = .ok [.int n, .tup (ks.map kD)] := run_ok 0 n h1 h3 ks l1 l3 ok d ds hd hs
/-! ### the place of the object does not matter -/
inductive CR where
  | ok (d : D) | exc (c : Str) (v : D) | no
def CR.re (r : CR) (e : Mp.Env) : Re D := match r with
  | .ok d => .ok d e
  | .exc c v => .exc c v e
  | .no => .no
theorem put3 (d1 d2 d3 : D) (outs : List Sl) (e : Mp.Env) : putB e [.va d1, .va d2, .va d3] outs = if outs.length = 3 then some e else none := by
  match outs with
  | [] => rfl
  | [_] => rfl
  | [_, _] => rfl
  | [_, _, _] => rfl
  | _ :: _ :: _ :: _ :: _ => simp [putB]
theorem put1 (d1 : D) (outs : List Sl) (e : Mp.Env) : putB e [.va d1] outs = if outs.length = 1 then some e else none := by
  match outs with
  | [] => rfl
  | [_] => rfl
  | _ :: _ :: _ => simp [putB]
theorem free3 (fn : Fn) (d1 d2 d3 : D) : ∃ r : CR, ∀ e, callF fn [.va d1, .va d2, .va d3] e = r.re e := by
  cases h : fn [.va d1, .va d2, .va d3] with
  | no => exact ⟨.no, fun e => by simp [callF, ixs, argsOf, h, CR.re]⟩
  | ok d outs =>
    by_cases hl : outs.length = 3
    · exact ⟨.ok d, fun e => by simp [callF, ixs, argsOf, h, CR.re, put3, hl]⟩
    · exact ⟨.no, fun e => by simp [callF, ixs, argsOf, h, CR.re, put3, hl]⟩
  | exc c v outs =>
    by_cases hl : outs.length = 3
    · exact ⟨.exc c v, fun e => by simp [callF, ixs, argsOf, h, CR.re, put3, hl]⟩
    · exact ⟨.no, fun e => by simp [callF, ixs, argsOf, h, CR.re, put3, hl]⟩
theorem free1 (fn : Fn) (d1 : D) : ∃ r : CR, ∀ e, callF fn [.va d1] e = r.re e := by
  cases h : fn [.va d1] with
  | no => exact ⟨.no, fun e => by simp [callF, ixs, argsOf, h, CR.re]⟩
  | ok d outs =>
    by_cases hl : outs.length = 1
    · exact ⟨.ok d, fun e => by simp [callF, ixs, argsOf, h, CR.re, put1, hl]⟩
    · exact ⟨.no, fun e => by simp [callF, ixs, argsOf, h, CR.re, put1, hl]⟩
  | exc c v outs =>
    by_cases hl : outs.length = 1
    · exact ⟨.exc c v, fun e => by simp [callF, ixs, argsOf, h, CR.re, put1, hl]⟩
    · exact ⟨.no, fun e => by simp [callF, ixs, argsOf, h, CR.re, put1, hl]⟩
inductive LR where
  | nx (t3 t4 : Sl) (f3 : Fr t3) (f4 : Fr t4) | exc (c : Str) (v : D) | no
def LR.fl (r : LR) (x : Addr) (a k : D) (f : Fl) : Prop := match r with
  | .nx t3 t4 _ _ => f = .nx [.va (.adr x), .va a, .va k, t3, t4]
  | .exc c v => ∃ e, f = .exc c v e
  | .no => f = .no
theorem loop_free (a k : D) : ∀ (xs : List D) (j : Nat) (s3 s4 : Sl), Fr s3 → Fr s4 → ∃ r : LR, ∀ x, r.fl x a k (forF (tupX 2 (consG (putG 3) (consG (putG 4) nilG))) (mIfS (mNot (mTest (mFn fn_is_kind (aCons (mOwn 4) (aCons (mOwn 3) (aCons (mOwn 1) aNil)))))) (mRaise "BadKind" (mVar 3)) mNext) (pairsFrom j xs) [.va (.adr x), .va a, .va k, s3, s4])
  | [], j, s3, s4, f3, f4 => ⟨.nx s3 s4 f3 f4, fun x => rfl⟩
  | d :: ds, j, s3, s4, f3, f4 => by
    obtain ⟨r, hr⟩ := loop_free a k ds (j + 1) (.va (.int j)) (.va d) (.va _) (.va _)
    obtain ⟨q, hq⟩ := free3 fn_is_kind d (.int j) a
    have p : ∀ x : Addr, tupX 2 (consG (putG 3) (consG (putG 4) nilG)) (.tup [.int (j : Nat), d]) [.va (.adr x), .va a, .va k, s3, s4] = some [.va (.adr x), .va a, .va k, .va (.int j), .va d] := fun x => by
      cases f3 <;> cases f4 <;> simp [tupX, consG, nilG]
    have stop : ∀ g : Fl, (∀ x, (mIfS (mNot (mTest (mFn fn_is_kind (aCons (mOwn 4) (aCons (mOwn 3) (aCons (mOwn 1) aNil)))))) (mRaise "BadKind" (mVar 3)) mNext) [.va (.adr x), .va a, .va k, .va (.int j), .va d] = .no) → ∃ r : LR, ∀ x, r.fl x a k (forF (tupX 2 (consG (putG 3) (consG (putG 4) nilG))) (mIfS (mNot (mTest (mFn fn_is_kind (aCons (mOwn 4) (aCons (mOwn 3) (aCons (mOwn 1) aNil)))))) (mRaise "BadKind" (mVar 3)) mNext) (pairsFrom j (d :: ds)) [.va (.adr x), .va a, .va k, s3, s4]) := fun _ h => ⟨.no, fun x => by
      show forF _ _ _ _ = Fl.no
      rw [pairsFrom, forF, p]
      simp only [h]⟩
    cases q with
    | no => exact stop .no fun x => by simp [hq, CR.re]
    | exc c v => exact ⟨.exc c v, fun x => ⟨[.va (.adr x), .va a, .va k, .va (.int j), .va d], by
        rw [pairsFrom, forF, p]
        simp [hq, CR.re]⟩⟩
    | ok d' =>
      cases d' with
      | bl b =>
        cases b with
        | true => exact ⟨r, fun x => by
            have := hr x
            rw [pairsFrom, forF, p]
            simp [hq, CR.re]
            exact this⟩
        | false => 
          by_cases hf : fmtF (.int j) = true
          · exact ⟨.exc "BadKind" (.int j), fun x => ⟨[.va (.adr x), .va a, .va k, .va (.int j), .va d], by
              rw [pairsFrom, forF, p]
              simp [hq, CR.re, hf]⟩⟩
          · exact stop .no fun x => by simp [hq, CR.re, hf]
      | _ => exact stop .no fun x => by simp [hq, CR.re, asB]
theorem lc_free (a k : D) (t3 t4 : Sl) (f3 : Fr t3) (f4 : Fr t4) : ∀ ds : List D, ∃ r : Option (List D), ∀ x : Addr, lcF [4] (putG 4) tYesF (mFn fn_plain_kind (aCons (mOwn 4) aNil)) ds [.va (.adr x), .va a, .va k, t3, t4] = (match r with
    | some l => .ok l [.va (.adr x), .va a, .va k, t3, t4]
    | none => .no)
  | [] => ⟨some [], fun x => rfl⟩
  | d :: ds => by
    obtain ⟨r, hr⟩ := lc_free a k t3 t4 f3 f4 ds
    obtain ⟨q, hq⟩ := free1 fn_plain_kind d
    cases q with
    | no => exact ⟨none, fun x => by rw [lcF]; simp [free_, f4.isOw, enterE, wipeE, f3.mark, tYesF, hq, CR.re, Re.nx]⟩
    | exc c v => exact ⟨none, fun x => by rw [lcF]; simp [free_, f4.isOw, enterE, wipeE, f3.mark, tYesF, hq, CR.re, Re.nx]⟩
    | ok d' =>
      cases r with
      | none => exact ⟨none, fun x => by rw [lcF]; simp [free_, f4.isOw, enterE, wipeE, f3.mark, tYesF, hq, CR.re, backE, f3.back, f4.back, hr]; rfl⟩
      | some l => exact ⟨some (d' :: l), fun x => by rw [lcF]; simp [free_, f4.isOw, enterE, wipeE, f3.mark, tYesF, hq, CR.re, backE, f3.back, f4.back, hr]⟩
end K10
set_option Elab.async false
set_option linter.all false
set_option maxRecDepth 100000
set_option maxHeartbeats 4000000
namespace K10
open PySem PySem.Spec PyProof.Rows L2 Mp
theorem f1 : fmtF (.int 1) = true := by decide
theorem f2 : fmtF (.int 2) = true := by decide
theorem ap5 (x : Addr) (a k : D) : (Sl.va (.adr x) :: List.map Sl.va [a, k] ++ List.replicate (5 - 3) Sl.un) = [.va (.adr x), .va a, .va k, .un, .un] := rfl
theorem run_no (x : Addr) (a k : D) (h : b_Desk__init [.va (.adr x), .va a, .va k, .un, .un] = .no) : runInit 3 5 b_Desk__init st_Desk x [a, k] = .no := by
  unfold runInit
  rw [if_pos (by rfl), ap5, h]
theorem run_exc (x : Addr) (a k : D) {c : Str} {v : D} (h : ∃ e, b_Desk__init [.va (.adr x), .va a, .va k, .un, .un] = .exc c v e) : runInit 3 5 b_Desk__init st_Desk x [a, k] = .exc c v := by
  obtain ⟨e, h⟩ := h
  unfold runInit
  rw [if_pos (by rfl), ap5, h]
theorem par_key (a k : D) : ∃ R, ∀ x, runInit 3 5 b_Desk__init st_Desk x [a, k] = R := by
  obtain ⟨r1, h1⟩ := free3 fn_is_between a (.int 1) (.int 3)
  cases r1 with
  | no => exact ⟨.no, fun x => run_no x a k (by simp [b_Desk__init, h1, CR.re])⟩
  | exc c v => exact ⟨.exc c v, fun x => run_exc x a k ⟨[.va (.adr x), .va a, .va k, .un, .un], by simp [b_Desk__init, h1, CR.re]⟩⟩
  | ok d1 =>
    cases d1 with
    | bl b1 =>
      cases b1 with
      | false => exact ⟨.exc "BadValue" (.int 1), fun x => run_exc x a k ⟨[.va (.adr x), .va a, .va k, .un, .un], by simp [b_Desk__init, h1, CR.re, f1]⟩⟩
      | true =>
        obtain ⟨r2, h2⟩ := free3 fn_has_length k (.int 1) (.int 3)
        cases r2 with
        | no => exact ⟨.no, fun x => run_no x a k (by simp [b_Desk__init, h1, h2, CR.re])⟩
        | exc c v => exact ⟨.exc c v, fun x => run_exc x a k ⟨[.va (.adr x), .va a, .va k, .un, .un], by simp [b_Desk__init, h1, h2, CR.re]⟩⟩
        | ok d2 =>
          cases d2 with
          | bl b2 =>
            cases b2 with
            | false => exact ⟨.exc "BadValue" (.int 2), fun x => run_exc x a k ⟨[.va (.adr x), .va a, .va k, .un, .un], by simp [b_Desk__init, h1, h2, CR.re, f2]⟩⟩
            | true =>
              have go : ∀ xs, seqF k = some xs → (∀ e : Mp.Env, e[2]? = some (.va k) → lEnum (aCons (mOwn 2) aNil) e = .ok (pairsFrom 0 xs) e) → ∃ R, ∀ x, runInit 3 5 b_Desk__init st_Desk x [a, k] = R := fun xs sq en => by
                obtain ⟨r3, h3⟩ := loop_free a k xs 0 .un .un .un .un
                have pre : ∀ x : Addr, b_Desk__init [.va (.adr x), .va a, .va k, .un, .un] = (forF (tupX 2 (consG (putG 3) (consG (putG 4) nilG))) (mIfS (mNot (mTest (mFn fn_is_kind (aCons (mOwn 4) (aCons (mOwn 3) (aCons (mOwn 1) aNil)))))) (mRaise "BadKind" (mVar 3)) mNext) (pairsFrom 0 xs) [.va (.adr x), .va a, .va k, .un, .un]).seq mNext := fun x => by
                  have := en [.va (.adr x), .va a, .va k, .un, .un] rfl
                  simp [b_Desk__init, h1, h2, CR.re, this]
                cases r3 with
                | no => exact ⟨.no, fun x => run_no x a k (by
                    have h : forF _ _ _ _ = Fl.no := h3 x
                    rw [pre, h]
                    rfl)⟩
                | exc c v => exact ⟨.exc c v, fun x => run_exc x a k (by
                    obtain ⟨e, h⟩ := h3 x
                    exact ⟨e, by rw [pre, h]; rfl⟩)⟩
                | nx t3 t4 g3 g4 =>
                  obtain ⟨r4, h4⟩ := lc_free a k t3 t4 g3 g4 xs
                  have no : ∀ x : Addr, noOw [.va (.adr x), .va a, .va k, t3, t4] = true := fun x => by
                    cases g3 <;> cases g4 <;> rfl
                  have st : ∃ o, ∀ x : Addr, stF st_Desk [.va (.adr x), .va a, .va k, t3, t4] = o := by
                    by_cases hz : xs.length ≤ line
                    · cases r4 with
                      | none => exact ⟨none, fun x => by simp [st_Desk, stF, no, sq, hz, h4]⟩
                      | some l => exact ⟨some [a, .tup l], fun x => by simp [st_Desk, stF, no, sq, hz, h4]⟩
                    · exact ⟨none, fun x => by simp [st_Desk, stF, no, sq, hz]⟩
                  obtain ⟨o, st⟩ := st
                  refine ⟨(match o with | some fs => .ok fs | none => .no), fun x => ?_⟩
                  have h : forF _ _ _ _ = Fl.nx [.va (.adr x), .va a, .va k, t3, t4] := h3 x
                  unfold runInit
                  rw [if_pos (by rfl), ap5, pre, h]
                  simp [st]
                  cases o <;> rfl
              have bad : (∀ e : Mp.Env, e[2]? = some (.va k) → lEnum (aCons (mOwn 2) aNil) e = .no) → ∃ R, ∀ x, runInit 3 5 b_Desk__init st_Desk x [a, k] = R := fun en => ⟨.no, fun x => run_no x a k (by
                have := en [.va (.adr x), .va a, .va k, .un, .un] rfl
                simp [b_Desk__init, h1, h2, CR.re, this])⟩
              cases k with
              | tup xs => exact go xs rfl fun e he => by simp [lEnum, he]
              | lst xs => exact go xs rfl fun e he => by simp [lEnum, he]
              | _ => exact bad fun e he => by simp [lEnum, he]
          | _ => exact ⟨.no, fun x => run_no x a k (by simp [b_Desk__init, h1, h2, CR.re, asB])⟩
    | _ => exact ⟨.no, fun x => run_no x a k (by simp [b_Desk__init, h1, CR.re, asB])⟩
theorem par_Desk : ∀ x ds, runInit 3 5 b_Desk__init st_Desk x ds = fi_Desk ds := fun x ds => by
  match ds with
  | [a, k] =>
    obtain ⟨R, h⟩ := par_key a k
    exact (h x).trans (h 0).symm
  | [] => rfl
  | [_] => rfl
  | _ :: _ :: _ :: r => simp [fi_Desk, runInit]
end K10
set_option Elab.async false
set_option linter.all false
set_option maxRecDepth 100000
set_option maxHeartbeats 4000000
namespace K10
open PySem PySem.Spec PyProof.Rows L2 Mp
theorem kb_tint : kitB "tuple" "int" = some false := by decide +kernel
theorem kb_tbool : kitB "tuple" "bool" = some false := by decide +kernel
theorem kb_btup : kitB "bool" "tuple" = some false := by decide +kernel
theorem kb_stup : kitB "str" "tuple" = some false := by decide +kernel
theorem kb_sbool : kitB "str" "bool" = some false := by decide +kernel
theorem kb_ss : kitB "str" "str" = some true := by rfl
theorem kb_ntup : kitB "NoneType" "tuple" = some false := by decide +kernel
theorem kb_nbool : kitB "NoneType" "bool" = some false := by decide +kernel
theorem at0 {α : Type} (x : α) (l : List α) : atI (x :: l) 0 = some x := by
  simp [atI, ixN]
  try omega
theorem atN {α : Type} {l : List α} (n : Nat) {x : α} (h : l[n]? = some x) : atI l ((n : Nat) : Int) = some x := by
  have hl : n < l.length := lt_of_get h
  have h1 : (0 : Int) ≤ (n : Int) := by omega
  have h2 : (n : Int) < (l.length : Int) := by omega
  simp [atI, ixN, h1, h2, h]
theorem at1 {α : Type} (x y : α) (l : List α) : atI (x :: y :: l) 1 = some y := atN 1 rfl
theorem at2 {α : Type} (x y z : α) (l : List α) : atI (x :: y :: z :: l) 2 = some z := atN 2 rfl
theorem at3 {α : Type} (x y z u : α) (l : List α) : atI (x :: y :: z :: u :: l) 3 = some u := atN 3 rfl
theorem at4 {α : Type} (x y z u v : α) (l : List α) : atI (x :: y :: z :: u :: v :: l) 4 = some v := atN 4 rfl
theorem atJ {α : Type} (l : List α) (j : Int) (h0 : 0 ≤ j) (h1 : j < l.length) : ∃ x, l[j.toNat]? = some x ∧ x ∈ l ∧ atI l j = some x := by
  obtain ⟨n, rfl⟩ := Int.eq_ofNat_of_zero_le h0
  have hn : n < l.length := by omega
  have e : l[n]? = some l[n] := List.getElem?_eq_getElem hn
  exact ⟨l[n], by simpa using e, List.getElem_mem hn, atN n e⟩
/-! ### plain data -/
inductive Pl : Nat → D → Prop
  | non {m : Nat} : Pl m .non
  | bl {m : Nat} (b : Bool) : Pl m (.bl b)
  | int {m : Nat} (i : Int) : Pl m (.int i)
  | str {m : Nat} (x : Str) (hx : SeqAt.shaped (.str x) = true) : Pl m (.str x)
  | tup {m : Nat} (xs : List D) (hl : xs.length ≤ 1000) (h : ∀ x ∈ xs, Pl m x) : Pl (m + 1) (.tup xs)
theorem Pl.ints {m : Nat} (l : List Int) (hl : l.length ≤ 1000) : Pl (m + 1) (.tup (iL l)) := .tup _ (by simpa using hl) fun x hx => by
  obtain ⟨i, _, rfl⟩ := mem_iL hx
  exact .int i
theorem eqF_self {d : D} {p : PyData} (h : toPy d = some p) (hs : SeqAt.shaped p = true) : eqF d d = some true := by
  have e : PyData.eqv p p = true := SeqAt.eqv_refl _ (by simp only [SeqAt.shaped, Bool.and_eq_true] at hs; exact hs.1)
  simp only [eqF, h, hs, e, and_self, if_true]
theorem eqF_bl (b : Bool) : eqF (.bl b) (.bl b) = some true := eqF_self (p := .bool b) rfl (by cases b <;> rfl)
theorem eqF_str (x : Str) (hx : SeqAt.shaped (.str x) = true) : eqF (.str x) (.str x) = some true := eqF_self (p := .str x) rfl hx
theorem isF_non : isF .non .non = some true := rfl
theorem rng' (e : Mp.Env) (m : ME) (n : Nat) (hn : n ≤ 1000) (h : m e = .ok (.int n) e) : lRange1 m e = .ok (iL (upto n)) e := rng m e n hn h
theorem mem_upto {j : Int} {n : Nat} (h : j ∈ upto n) : 0 ≤ j ∧ j < n := by
  unfold upto at h
  obtain ⟨i, h1, rfl⟩ := List.mem_map.mp h
  have := List.mem_range.mp h1
  omega
def soBody (m : Nat) : MS := mIfS (mNot (mTest (mFn (fn_law_so m) (aCons (vOf (mBin atF (mOwn 0) (mOwn 2))) (aCons (vOf (mBin atF (mOwn 1) (mOwn 2))) aNil))))) (mRet (mC (.bl false))) mNext
theorem so_loop (m : Nat) (xs : List D) (ih : ∀ x ∈ xs, fn_law_so m [.va x, .va x] = .ok (.bl true) [.un, .un]) : ∃ s, Fr s ∧ forF (putG 2) (soBody m) (iL (upto xs.length)) [.va (.tup xs), .va (.tup xs), .un] = .nx [.va (.tup xs), .va (.tup xs), s] := by
  obtain ⟨e', q1, s, fs, rfl⟩ := forF_inv (tg := putG 2) (body := soBody m)
      (fun e => ∃ s, Fr s ∧ e = [.va (.tup xs), .va (.tup xs), s]) (iL (upto xs.length)) (fun d hd e he => by
        obtain ⟨j, hj, rfl⟩ := mem_iL hd
        obtain ⟨s, fs, rfl⟩ := he
        obtain ⟨j0, j1⟩ := mem_upto hj
        obtain ⟨x, _, hxm, hxa⟩ := atJ xs j j0 (by omega)
        refine ⟨[.va (.tup xs), .va (.tup xs), .va (.int j)], by cases fs <;> simp, [.va (.tup xs), .va (.tup xs), .va (.int j)], .inl ?_, _, .va _, rfl⟩
        simp [soBody, hxa, call_va2 _ _ _ _ _ _ _ (ih x hxm)]) [.va (.tup xs), .va (.tup xs), .un] ⟨.un, .un, rfl⟩
  exact ⟨s, fs, q1⟩
theorem so_tup (m : Nat) (xs : List D) (hl : xs.length ≤ 1000) (ih : ∀ x ∈ xs, fn_law_so m [.va x, .va x] = .ok (.bl true) [.un, .un]) : fn_law_so (m + 1) [.va (.tup xs), .va (.tup xs)] = .ok (.bl true) [.un, .un] := by
  obtain ⟨s, fs, q1⟩ := so_loop m xs ih
  have rg := rng' [.va (.tup xs), .va (.tup xs), .un] (mCall lenF (aCons (mOwn 1) aNil)) xs.length hl (by simp)
  have l : mFor (lRange1 (mCall lenF (aCons (mOwn 1) aNil))) (putG 2) (soBody m) [.va (.tup xs), .va (.tup xs), .un] = .nx [.va (.tup xs), .va (.tup xs), s] := by
    rw [mFor_s, rg, Re.flow_ok, q1]
  have b1 : b_law_so (fn_law_so m) [.va (.tup xs), .va (.tup xs), .un] = .rt (.bl true) [.va (.tup xs), .va (.tup xs), s] := by
    unfold b_law_so
    rw [nx_seq (show mIfS (mBin isF (mOwn 1) (vOf (mC .non))) (mRet (mBin (fun x y => (isF x y).map D.bl) (mOwn 0) (vOf (mC .non)))) mNext [.va (.tup xs), .va (.tup xs), .un] = .nx _ from by simp [isF, D.isNon]; rfl)]
    have t1 : mTest (mCall isiF (aCons (mOwn 1) (aCons (vOf (mC (.ty "tuple"))) aNil))) [.va (.tup xs), .va (.tup xs), .un] = .ok true [.va (.tup xs), .va (.tup xs), .un] := by
      simp [isiF, tyName, kb_tup]
    have t2 : mIfS (mOr (mNot (mTest (mCall isiF (aCons (mOwn 0) (aCons (vOf (mC (.ty "tuple"))) aNil))))) (mBin neF (vOf (mCall lenF (aCons (mOwn 0) aNil))) (vOf (mCall lenF (aCons (mOwn 1) aNil))))) (mRet (mC (.bl false))) mNext [.va (.tup xs), .va (.tup xs), .un] = .nx [.va (.tup xs), .va (.tup xs), .un] := by
      simp [isiF, tyName, kb_tup, neF_int]
    unfold soBody at l
    rw [mSeq_s, mIfS_s, t1, Re.flow_ok, if_pos rfl, nx_seq t2, nx_seq l]
    rfl
  rw [fn_law_so]
  unfold fnOf
  rw [if_pos (by rfl)]
  show (match b_law_so (fn_law_so m) [.va (.tup xs), .va (.tup xs), .un] with | .rt d e => FR.ok d (outsOf 2 e) | .nx e => .ok .non (outsOf 2 e) | .exc c v e => .exc c v (outsOf 2 e) | _ => .no) = _
  rw [b1]
  rfl
theorem so_true : ∀ (m : Nat) (d : D), Pl m d → fn_law_so (m + 1) [.va d, .va d] = .ok (.bl true) [.un, .un] := by
  intro m d h
  induction h with
  | non => simp [fn_law_so, fnOf, b_law_so, isF, D.isNon, outsOf, List.range_succ]
  | bl b => simp [fn_law_so, fnOf, b_law_so, isF, D.isNon, isiF, tyName, kb_btup, kb_boolb, eqF_bl, outsOf, List.range_succ]
  | int i => simp [fn_law_so, fnOf, b_law_so, isF, D.isNon, isiF, tyName, kb_itup, kb_intb, kb_int, eqF_int, outsOf, List.range_succ]
  | str x hx => simp [fn_law_so, fnOf, b_law_so, isF, D.isNon, isiF, tyName, kb_stup, kb_sbool, kb_str, kb_ss, eqF_str x hx, outsOf, List.range_succ]
  | @tup m xs hl hx ih => exact so_tup (m + 1) xs hl ih
/-! ### the same, with lists for tuples -/
inductive Lo : D → D → Prop
  | non : Lo .non .non
  | bl (b : Bool) : Lo (.bl b) (.bl b)
  | int (i : Int) : Lo (.int i) (.int i)
  | str (x : Str) : Lo (.str x) (.str x)
  | sq (xs ys : List D) (d : D) (hl : xs.length = ys.length) (hi : ∀ (i : Nat) (x y : D), xs[i]? = some x → ys[i]? = some y → Lo x y) (hs : isSq d ys) : Lo (.tup xs) d
theorem loose_lc (m : Nat) (v : D) (t : Int) : ∀ (xs : List D), (∀ x ∈ xs, ∀ t, ∃ d', Lo x d' ∧ fn_law_loose m [.va x, .va (.int t)] = .ok d' [.un, .un]) →
    ∃ ys, xs.length = ys.length ∧ (∀ (i : Nat) (x y : D), xs[i]? = some x → ys[i]? = some y → Lo x y) ∧
    lcF [3] (putG 3) tYesF (mFn (fn_law_loose m) (aCons (mOwn 3) (aCons (vOf (mBin addF (mOwn 1) (vOf (mC (.int 1))))) aNil))) xs [.va v, .va (.int t), .un, .un] = .ok ys [.va v, .va (.int t), .un, .un]
  | [], _ => ⟨[], rfl, fun i x y h => by simp at h, rfl⟩
  | x :: xs, h => by
    obtain ⟨ys, h1, h2, h3⟩ := loose_lc m v t xs fun x hx => h x (List.mem_cons_of_mem _ hx)
    obtain ⟨d', h4, h5⟩ := h x List.mem_cons_self (t + 1)
    refine ⟨d' :: ys, by simp [h1], fun i a b p q => ?_, ?_⟩
    · cases i with
      | zero =>
        simp only [List.getElem?_cons_zero, Option.some.injEq] at p q
        subst p q
        exact h4
      | succ i => exact h2 i a b (by simpa using p) (by simpa using q)
    · rw [lcF]
      simp [free_, isOw, enterE, wipeE, tYesF, call_va2 _ _ _ _ _ _ _ h5, backE, h3]
theorem loose_ok : ∀ (m : Nat) (d : D), Pl m d → ∀ t : Int, ∃ d', Lo d d' ∧ fn_law_loose (m + 1) [.va d, .va (.int t)] = .ok d' [.un, .un] := by
  intro m d h
  induction h with
  | non => exact fun t => ⟨_, .non, by simp [fn_law_loose, fnOf, b_law_loose, isiF, tyName, kb_ntup, outsOf, List.range_succ]⟩
  | bl b => exact fun t => ⟨_, .bl b, by simp [fn_law_loose, fnOf, b_law_loose, isiF, tyName, kb_btup, outsOf, List.range_succ]⟩
  | int i => exact fun t => ⟨_, .int i, by simp [fn_law_loose, fnOf, b_law_loose, isiF, tyName, kb_itup, outsOf, List.range_succ]⟩
  | str x hx => exact fun t => ⟨_, .str x, by simp [fn_law_loose, fnOf, b_law_loose, isiF, tyName, kb_stup, outsOf, List.range_succ]⟩
  | @tup m xs hl hx ih =>
    intro t
    obtain ⟨ys, h1, h2, h3⟩ := loose_lc (m + 1) (.tup xs) t xs ih
    have hz : xs.length ≤ line := small_line hl
    by_cases z : t % 2 = 0
    · refine ⟨.lst ys, .sq xs ys _ h1 h2 (.inr rfl), ?_⟩
      rw [fn_law_loose]
      simp [fnOf, b_law_loose, isiF, tyName, kb_tup, h3, hz, eqF_int, z, outsOf, List.range_succ]
    · refine ⟨.tup ys, .sq xs ys _ h1 h2 (.inl rfl), ?_⟩
      rw [fn_law_loose]
      simp [fnOf, b_law_loose, isiF, tyName, kb_tup, h3, hz, eqF_int, z, outsOf, List.range_succ]
theorem Lo.tup {xs : List D} {d : D} (h : Lo (.tup xs) d) : ∃ ys, isSq d ys ∧ xs.length = ys.length ∧ ∀ (i : Nat) (x y : D), xs[i]? = some x → ys[i]? = some y → Lo x y := by
  cases h with
  | sq xs ys d hl hi hs => exact ⟨ys, hs, hl, hi⟩
theorem Lo.int_ {i : Int} {d : D} (h : Lo (.int i) d) : d = .int i := by cases h; rfl
theorem Lo.bl_ {i : Bool} {d : D} (h : Lo (.bl i) d) : d = .bl i := by cases h; rfl
theorem lo_ints : ∀ (l : List Int) (ys : List D), (iL l).length = ys.length → (∀ (i : Nat) (x y : D), (iL l)[i]? = some x → ys[i]? = some y → Lo x y) → ys = iL l
  | [], [], _, _ => rfl
  | [], _ :: _, h, _ => by simp at h
  | _ :: _, [], h, _ => by simp [iL] at h
  | a :: l, y :: ys, h, hi => by
    have h0 := (hi 0 (.int a) y rfl rfl).int_
    have ih := lo_ints l ys (by simpa [iL] using h) fun i x y p q => hi (i + 1) x y (by simpa [iL] using p) (by simpa using q)
    rw [h0, ih]
    rfl
theorem Lo.ints {l : List Int} {d : D} (h : Lo (.tup (iL l)) d) : isSq d (iL l) := by
  obtain ⟨ys, h1, h2, h3⟩ := h.tup
  rw [lo_ints l ys h2 h3] at h1
  exact h1
end K10
set_option Elab.async false
set_option linter.all false
set_option maxRecDepth 100000
set_option maxHeartbeats 4000000
namespace K10f
open PySem PySem.Spec PyProof.Rows L2 Mp K10
theorem take_drop1 {α : Type} (l : List α) : List.take (l.length - min 1 l.length) (List.drop (min 1 l.length) l) = l.tail := by
  cases l with
  | nil => rfl
  | cons a l => simp
theorem cut1 (l : List Int) : cutF (some 1) none (.tup (iL l)) = some (.tup (iL l.tail)) ∧ cutF (some 1) none (.lst (iL l)) = some (.lst (iL l.tail)) := by
  have h : HT.sIx (iL l).length 0 (some 1) = min 1 (iL l).length := HT.sIx_nat (iL l).length 0 1
  have h0 : HT.sIx (iL l).length (iL l).length none = (iL l).length := rfl
  have t : (iL l).tail = iL l.tail := by
    cases l <;> rfl
  simp only [cutF, h, h0, take_drop1, t, and_self]
def prs (l : List Int) : List (Int × Int) := l.zip l.tail
theorem zip_prs (l m : List Int) : List.zipWith (fun x y => D.tup [x, y]) (iL l) (iL m) = (l.zip m).map fun p => D.tup [.int p.1, .int p.2] := by
  simp only [iL, List.zipWith_map, List.zip, List.map_zipWith]

theorem leT_int (i j : Int) : leTF (.int i) (.int j) = some (decide (i ≤ j)) := rfl
theorem ris_lc (v : D) (s1 s2 : Sl) (f1 : Fr s1) (f2 : Fr s2) : ∀ l : List (Int × Int), lcF [1, 2] (tupX 2 (consG (putG 1) (consG (putG 2) nilG))) tYesF (mBin (fun x y => (leTF x y).map D.bl) (mOwn 1) (mOwn 2)) (l.map fun p => D.tup [.int p.1, .int p.2]) [.va v, s1, s2] = .ok (l.map fun p => .bl (decide (p.1 ≤ p.2))) [.va v, s1, s2]
  | [] => rfl
  | x :: l => by
    have ih := ris_lc v s1 s2 f1 f2 l
    rw [List.map_cons, lcF]
    simp [free_, f1.isOw, f2.isOw, enterE, wipeE, tYesF, tupX, consG, nilG, leT_int, backE, f1.back, f2.back, ih]
theorem bools_map2 {α : Type} (p : α → Bool) : ∀ l : List α, boolsOf (l.map fun x => .bl (p x)) = some (l.map p)
  | [] => rfl
  | x :: l => by simp [boolsOf, bools_map2 p l]
theorem ris_ok (d : D) (l : List Int) (h : isSq d (iL l)) (hl : l.length ≤ 1000) : fn_is_rising [.va d] = .ok (.bl ((prs l).all fun p => decide (p.1 ≤ p.2))) [.un] := by
  have hz : (prs l).length ≤ line := small_line (by unfold prs; simp; omega)
  have e := fun v => ris_lc v .un .un .un .un (prs l)
  have c := cut1 l
  have z := zip_prs l l.tail
  have hz2 : (List.map (fun p : Int × Int => D.tup [.int p.1, .int p.2]) (prs l)).length ≤ line := by simpa using hz
  unfold prs at *
  rcases h with rfl | rfl
  · simp [fn_is_rising, fnOf, b_is_rising, lZip, mCut, oSome, oNone, asI, c.1, z, e, allF, bools_map2 (fun p : Int × Int => decide (p.1 ≤ p.2)), outsOf, List.range_succ, Function.comp_def]
    rw [if_pos (Nat.le_succ_of_le (small_line hl))]
    simp [allF, bools_map2 (fun p : Int × Int => decide (p.1 ≤ p.2)), outsOf, List.range_succ, Function.comp_def]
  · simp [fn_is_rising, fnOf, b_is_rising, lZip, mCut, oSome, oNone, asI, c.2, z, e, allF, bools_map2 (fun p : Int × Int => decide (p.1 ≤ p.2)), outsOf, List.range_succ, Function.comp_def]
    rw [if_pos (Nat.le_succ_of_le (small_line hl))]
    simp [allF, bools_map2 (fun p : Int × Int => decide (p.1 ≤ p.2)), outsOf, List.range_succ, Function.comp_def]
theorem ris_prs : ∀ (l : List Int), l.Pairwise (· ≤ ·) → ((prs l).all fun p => decide (p.1 ≤ p.2)) = true
  | [], _ => rfl
  | [_], _ => rfl
  | a :: b :: l, h => by
    have ih := ris_prs (b :: l) (List.pairwise_cons.mp h).2
    have hab : a ≤ b := (List.pairwise_cons.mp h).1 b (by simp)
    show (decide (a ≤ b) && (prs (b :: l)).all fun p => decide (p.1 ≤ p.2)) = true
    rw [ih]
    simp [hab]
/-! ### sorted numbers -/
def sI (l : List Int) : List Int := l.mergeSort fun a b => decide (a ≤ b)
theorem sI_perm (l : List Int) : (sI l).Perm l := List.mergeSort_perm _ _
theorem sI_sorted (l : List Int) : (sI l).Pairwise (· ≤ ·) := by
  have := List.pairwise_mergeSort (le := fun a b : Int => decide (a ≤ b)) (fun a b c h1 h2 => by simp at h1 h2 ⊢; omega) (fun a b => by simp; omega) l
  exact this.imp fun h => by simpa using h
theorem sI_length (l : List Int) : (sI l).length = l.length := (sI_perm l).length_eq
theorem sI_mem (l : List Int) (x : Int) : x ∈ sI l ↔ x ∈ l := (sI_perm l).mem_iff
theorem alike_i (l : List Int) : allAlikeB (l.map PyData.int) = true := by
  unfold allAlikeB
  rw [List.all_eq_true]
  intro x hx
  rw [List.all_eq_true]
  intro y hy
  obtain ⟨i, _, rfl⟩ := List.mem_map.mp hx
  obtain ⟨j, _, rfl⟩ := List.mem_map.mp hy
  rfl
theorem sortable_i (l : List Int) : sortableB (l.map PyData.int) = true := by
  unfold sortableB
  rw [Bool.or_eq_true]
  right
  rw [List.all_eq_true]
  intro x hx
  obtain ⟨i, _, rfl⟩ := List.mem_map.mp hx
  rfl
theorem dep_i (l : List Int) : depB (l.map PyData.int) = true := by
  unfold depB
  rw [List.all_eq_true]
  intro x hx
  obtain ⟨i, _, rfl⟩ := List.mem_map.mp hx
  rfl
theorem toPys_iL : ∀ l : List Int, toPys (iL l) = some (l.map PyData.int)
  | [] => rfl
  | x :: l => by
    have ih := toPys_iL l
    rw [iL_cons, toPys, ih]
    rfl
theorem zip_i : ∀ l : List Int, (iL l).zip (l.map PyData.int) = l.map fun i => (D.int i, PyData.int i)
  | [] => rfl
  | x :: l => by
    rw [iL_cons, List.map_cons, List.zip_cons_cons, zip_i l]
    rfl
theorem sortL_i (l : List Int) : sortL (iL l) (l.map PyData.int) = iL (sI l) := by
  unfold sortL sI
  rw [zip_i]
  have h := List.map_mergeSort (r := fun a b : Int => decide (a ≤ b)) (s := PySem.W.dataLe false fun b : D × PyData => b.2) (f := fun i : Int => (D.int i, PyData.int i)) (l := l) fun a _ b _ => by
    have e := congrFun (congrFun (PySem.W.dataLe_int (fun i : Int => i)) a) b
    exact e.symm
  rw [← h, List.map_map]
  rfl
theorem sort_ok (d : D) (l : List Int) (h : isSq d (iL l)) : sortDF [d] = some (.lst (iL (sI l))) := by
  have e : seqLT d = some (iL l) := by rcases h with rfl | rfl <;> rfl
  have c : (allAlikeB (l.map PyData.int) && (sortableB (l.map PyData.int) && depB (l.map PyData.int))) = true := by rw [alike_i, sortable_i, dep_i]; rfl
  simp only [sortDF, e, toPys_iL, c, if_true, sortL_i]
end K10f
set_option Elab.async false
set_option linter.all false
set_option maxRecDepth 100000
set_option maxHeartbeats 4000000
namespace K10f
open PySem PySem.Spec PyProof.Rows L2 Mp K10
structure Arc where
  k : List Int
  n : Int
def aD (a : Arc) : D := .tup [.tup (iL a.k), .int a.n]
abbrev St1 := List Arc
def sD (s : St1) : D := .tup (s.map aD)
structure OkA (c : Int) (a : Arc) : Prop where
  l : a.k.length ≤ 3
  r : a.k.Pairwise (· ≤ ·)
  m : ∀ x ∈ a.k, 0 ≤ x ∧ x ≤ 2
  n : 0 ≤ a.n ∧ a.n < c
structure OkS (c : Int) (s : St1) : Prop where
  l1 : 1 ≤ s.length
  l4 : s.length ≤ 4
  a : ∀ a ∈ s, OkA c a
def isA (a : Arc) (d : D) : Prop := ∃ x, isSq x (iL a.k) ∧ isSq d [x, .int a.n]
def isS (s : St1) (d : D) : Prop := ∃ ds, isSq d ds ∧ s.length = ds.length ∧ ∀ (i : Nat) (a : Arc) (y : D), s[i]? = some a → ds[i]? = some y → isA a y
/-! ### arcs -/
theorem len_no (d : D) (lo hi : Int) (h : fn_is_sequence [.va d] = .ok (.bl false) [.un]) : fn_has_length [.va d, .va (.int lo), .va (.int hi)] = .ok (.bl false) [.un, .un, .un] := by
  simp [fn_has_length, fnOf, b_has_length, call_va1 _ _ _ _ _ h, outsOf, List.range_succ]
theorem arc_len (d : D) (c : Int) (h : fn_has_length [.va d, .va (.int 2), .va (.int 2)] = .ok (.bl false) [.un, .un, .un]) : fn_is_arc [.va d, .va (.int c)] = .ok (.bl false) [.un, .un] := by
  simp [fn_is_arc, fnOf, b_is_arc, call_va3 _ _ _ _ _ _ _ _ _ h, outsOf, List.range_succ]
theorem t2 (d x y : D) (h : isSq d [x, y]) (v1 : D) : (tupX 2 (consG (putG 2) (consG (putG 3) nilG))) d [.va d, .va v1, .un, .un] = some [.va d, .va v1, .va x, .va y] := by
  rcases h with rfl | rfl <;> simp [tupX, consG, nilG]
theorem arc_val (d x y : D) (hd : isSq d [x, y]) (c : Int) (b1 b2 b3 b4 : Bool) (h1 : fn_has_length [.va x, .va (.int 0), .va (.int 3)] = .ok (.bl b1) [.un, .un, .un]) (h2 : b1 = true → fn_all_below [.va x, .va (.int 3)] = .ok (.bl b2) [.un, .un])
    (h3 : b1 = true → b2 = true → fn_is_rising [.va x] = .ok (.bl b3) [.un]) (h4 : b1 = true → b2 = true → b3 = true → fn_is_between [.va y, .va (.int 0), .va (.int (c - 1))] = .ok (.bl b4) [.un, .un, .un]) :
    fn_is_arc [.va d, .va (.int c)] = .ok (.bl (b1 && (b2 && (b3 && b4)))) [.un, .un] := by
  have l2 := length_ok d _ hd 2 2
  have g1 := fun e => call_va3 _ _ _ _ _ e _ _ _ h1
  have t := t2 d x y hd (.int c)
  cases b1 with
  | false => simp [fn_is_arc, fnOf, b_is_arc, call_va3 _ _ _ _ _ _ _ _ _ l2, t, g1, outsOf, List.range_succ]
  | true =>
    have g2 := fun e => call_va2 _ _ _ _ e _ _ (h2 rfl)
    cases b2 with
    | false => simp [fn_is_arc, fnOf, b_is_arc, call_va3 _ _ _ _ _ _ _ _ _ l2, t, g1, g2, outsOf, List.range_succ]
    | true =>
      have g3 := fun e => call_va1 _ _ _ e _ (h3 rfl rfl)
      cases b3 with
      | false => simp [fn_is_arc, fnOf, b_is_arc, call_va3 _ _ _ _ _ _ _ _ _ l2, t, g1, g2, g3, outsOf, List.range_succ]
      | true =>
        have g4 := fun e => call_va3 _ _ _ _ _ e _ _ _ (h4 rfl rfl rfl)
        simp [fn_is_arc, fnOf, b_is_arc, call_va3 _ _ _ _ _ _ _ _ _ l2, t, g1, g2, g3, g4, outsOf, List.range_succ]
theorem all3 (a : Arc) (c : Int) (ok : OkA c a) : (a.k.all fun x => decide (0 ≤ x) && decide (x ≤ 3 - 1)) = true := by
  rw [List.all_eq_true]
  intro x hx
  have := ok.m x hx
  simp
  omega
theorem arc_true (a : Arc) (c : Int) (ok : OkA c a) (d : D) (h : isA a d) : fn_is_arc [.va d, .va (.int c)] = .ok (.bl true) [.un, .un] := by
  obtain ⟨x, hx, hd⟩ := h
  have l := ok.l
  have n := ok.n
  have e1 := length_ok x _ hx 0 3
  have e2 := below_ok x a.k hx (by omega) 3
  have e3 := ris_ok x a.k hx (by omega)
  have e4 := between_int a.n 0 (c - 1)
  rw [iL_length, decide_eq_true (show (0 : Int) ≤ (a.k.length : Int) ∧ (a.k.length : Int) ≤ 3 by omega)] at e1
  rw [all3 a c ok] at e2
  rw [ris_prs a.k ok.r] at e3
  rw [decide_eq_true (show 0 ≤ a.n ∧ a.n ≤ c - 1 by omega)] at e4
  exact arc_val d x _ hd c true true true true e1 (fun _ => e2) (fun _ _ => e3) (fun _ _ _ => e4)
/-! ### states -/
theorem state_lc (c : Int) (v : D) (p : D → Bool) : ∀ (ds : List D), (∀ d ∈ ds, fn_is_arc [.va d, .va (.int c)] = .ok (.bl (p d)) [.un, .un]) →
    lcF [2] (putG 2) tYesF (mFn fn_is_arc (aCons (mOwn 2) (aCons (mOwn 1) aNil))) ds [.va v, .va (.int c), .un] = .ok (ds.map fun d => .bl (p d)) [.va v, .va (.int c), .un]
  | [], _ => rfl
  | d :: ds, h => by
    have ih := state_lc c v p ds fun d hd => h d (List.mem_cons_of_mem _ hd)
    have e := h d List.mem_cons_self
    rw [lcF]
    simp [free_, isOw, enterE, wipeE, tYesF, call_va2 _ _ _ _ _ _ _ e, backE, ih]
theorem bools_D (p : D → Bool) : ∀ l : List D, boolsOf (l.map fun x => .bl (p x)) = some (l.map p)
  | [] => rfl
  | x :: l => by simp [boolsOf, bools_D p l]
theorem state_val (d : D) (ds : List D) (hd : isSq d ds) (c : Int) (p : D → Bool) (hl : 1 ≤ ds.length ∧ ds.length ≤ 4) (h : ∀ d ∈ ds, fn_is_arc [.va d, .va (.int c)] = .ok (.bl (p d)) [.un, .un]) : fn_is_state [.va d, .va (.int c)] = .ok (.bl (ds.all p)) [.un, .un] := by
  have l := length_ok d _ hd 1 4
  rw [decide_eq_true (show (1 : Int) ≤ (ds.length : Int) ∧ (ds.length : Int) ≤ 4 by omega)] at l
  have lc := state_lc c d p ds h
  have hz : ds.length ≤ line := small_line (by omega)
  have sq : seqF d = some ds := by rcases hd with rfl | rfl <;> rfl
  simp [fn_is_state, fnOf, b_is_state, call_va3 _ _ _ _ _ _ _ _ _ l, sq, hz, lc, allF, bools_D p, outsOf, List.range_succ, Function.comp_def]
theorem state_len (d : D) (c : Int) (h : fn_has_length [.va d, .va (.int 1), .va (.int 4)] = .ok (.bl false) [.un, .un, .un]) : fn_is_state [.va d, .va (.int c)] = .ok (.bl false) [.un, .un] := by
  simp [fn_is_state, fnOf, b_is_state, call_va3 _ _ _ _ _ _ _ _ _ h, outsOf, List.range_succ]
theorem state_true (s : St1) (c : Int) (ok : OkS c s) (d : D) (h : isS s d) : fn_is_state [.va d, .va (.int c)] = .ok (.bl true) [.un, .un] := by
  obtain ⟨ds, hd, hl, hi⟩ := h
  have := ok.l1
  have := ok.l4
  have e := state_val d ds hd c (fun _ => true) (by omega) fun y hy => by
    obtain ⟨i, hy⟩ := List.getElem?_of_mem hy
    have hi2 : i < s.length := by have := lt_of_get hy; omega
    exact arc_true s[i] c (ok.a _ (List.getElem_mem hi2)) y (hi i s[i] y (List.getElem?_eq_getElem hi2) hy)
  rw [e]
  simp
/-! ### in tuples of one's own -/
theorem t12 (d x y : D) (h : isSq d [x, y]) (v0 : D) (s1 s2 : Sl) (f1 : Fr s1) (f2 : Fr s2) : (tupX 2 (consG (putG 1) (consG (putG 2) nilG))) d [.va v0, s1, s2] = some [.va v0, .va x, .va y] := by
  cases f1 <;> cases f2 <;> rcases h with rfl | rfl <;> simp [tupX, consG, nilG]
theorem pstate_lc (v0 : D) : ∀ (s : St1) (ds : List D), s.length = ds.length → (∀ (i : Nat) (a : Arc) (y : D), s[i]? = some a → ds[i]? = some y → isA a y) →
    lcF [1, 2] (tupX 2 (consG (putG 1) (consG (putG 2) nilG))) tYesF (mTup (aCons (vOf (mCall tupF (aCons (mOwn 1) aNil))) (aCons (mOwn 2) aNil))) ds [.va v0, .un, .un] = .ok (s.map aD) [.va v0, .un, .un]
  | [], [], _, _ => rfl
  | [], _ :: _, h, _ => by simp at h
  | _ :: _, [], h, _ => by simp at h
  | a :: s, d :: ds, hl, h => by
    have ih := pstate_lc v0 s ds (by simpa using hl) fun i a y p q => h (i + 1) a y (by simpa using p) (by simpa using q)
    obtain ⟨x, hx, hd⟩ := h 0 a d rfl rfl
    have t := t12 d x (.int a.n) hd v0 .un .un .un .un
    have tx : tupF [x] = some (.tup (iL a.k)) := by rcases hx with rfl | rfl <;> rfl
    rw [lcF]
    simp [free_, isOw, enterE, wipeE, t, tYesF, tx, line, backE, ih, aD]
theorem plain_ok (s : St1) (d : D) (h : isS s d) (hl : s.length ≤ 1000) : fn_plain_state [.va d] = .ok (sD s) [.un] := by
  obtain ⟨ds, hd, hl2, hi⟩ := h
  have lc := pstate_lc d s ds hl2 hi
  have hz : ds.length ≤ line := small_line (by omega)
  have sq : seqF d = some ds := by rcases hd with rfl | rfl <;> rfl
  simp [fn_plain_state, fnOf, b_plain_state, sq, hz, lc, sD, outsOf, List.range_succ]
end K10f
set_option Elab.async false
set_option linter.all false
set_option maxRecDepth 100000
set_option maxHeartbeats 4000000
namespace K10f
open PySem PySem.Spec PyProof.Rows L2 Mp K10
abbrev Flow := List St1
def fD (f : Flow) : D := .tup (f.map sD)
structure OkF (f : Flow) : Prop where
  l1 : 1 ≤ f.length
  l8 : f.length ≤ 8
  s : ∀ s ∈ f, OkS f.length s
def isFl (f : Flow) (d : D) : Prop := ∃ ds, isSq d ds ∧ f.length = ds.length ∧ ∀ (i : Nat) (s : St1) (y : D), f[i]? = some s → ds[i]? = some y → isS s y
def tg : MG := tupX 2 (consG (putG 2) (consG (putG 3) nilG))
def ibody : MS := mIfS (mNot (mTest (mFn fn_is_state (aCons (mOwn 3) (aCons (vOf (mCall lenF (aCons (mOwn 1) aNil))) aNil))))) (mRaise "BadState" (mVar 2)) mNext
theorem tg_ok (x : Addr) (v : D) (j : Nat) (d : D) (s2 s3 : Sl) (f2 : Fr s2) (f3 : Fr s3) : tg (.tup [.int (j : Nat), d]) [.va (.adr x), .va v, s2, s3] = some [.va (.adr x), .va v, .va (.int j), .va d] := by
  cases f2 <;> cases f3 <;> simp [tg, tupX, consG, nilG]
theorem fmt_small (i : Nat) (h : i < 1000) : fmtF (.int (i : Int)) = true := by
  simp only [fmtF, decide_eq_true_eq, Int.natAbs_natCast]
  exact Nat.lt_of_le_of_lt (Nat.log2_le_self i) (by omega)
theorem len_v (v : D) (xs : List D) (h : isSq v xs) : lenF [v] = some (.int xs.length) := by rcases h with rfl | rfl <;> rfl
/-- the loop, up to a state that is wrong, or to its end -/
theorem loop_ok (x : Addr) (v : D) (xs : List D) (hv : isSq v xs) : ∀ (ds : List D) (j : Nat) (s2 s3 : Sl), Fr s2 → Fr s3 → (∀ d ∈ ds, fn_is_state [.va d, .va (.int xs.length)] = .ok (.bl true) [.un, .un]) →
    ∃ t2 t3, Fr t2 ∧ Fr t3 ∧ forF tg ibody (pairsFrom j ds) [.va (.adr x), .va v, s2, s3] = .nx [.va (.adr x), .va v, t2, t3]
  | [], j, s2, s3, f2, f3, _ => ⟨s2, s3, f2, f3, rfl⟩
  | d :: ds, j, s2, s3, f2, f3, h => by
    obtain ⟨t2, t3, g2, g3, ih⟩ := loop_ok x v xs hv ds (j + 1) (.va (.int j)) (.va d) (.va _) (.va _) fun d hd => h d (List.mem_cons_of_mem _ hd)
    have e := fun e => call_va2 _ _ _ _ e _ _ (h d List.mem_cons_self)
    refine ⟨t2, t3, g2, g3, ?_⟩
    have b : ibody [.va (.adr x), .va v, .va (.int j), .va d] = .nx [.va (.adr x), .va v, .va (.int j), .va d] := by
      simp [ibody, len_v v xs hv, e]
    rw [pairsFrom, forF, tg_ok x v j d s2 s3 f2 f3]
    simp only [b]
    exact ih
theorem loop_bad (x : Addr) (v : D) (xs : List D) (hv : isSq v xs) (w : D) : ∀ (at_ : Nat) (ds : List D) (j : Nat) (s2 s3 : Sl), Fr s2 → Fr s3 → j + at_ ≤ 900 → (∀ i d, i < at_ → ds[i]? = some d → fn_is_state [.va d, .va (.int xs.length)] = .ok (.bl true) [.un, .un]) → ds[at_]? = some w →
    fn_is_state [.va w, .va (.int xs.length)] = .ok (.bl false) [.un, .un] → ∃ e, forF tg ibody (pairsFrom j ds) [.va (.adr x), .va v, s2, s3] = .exc "BadState" (.int ((j + at_ : Nat) : Int)) e
  | 0, [], j, s2, s3, f2, f3, hj, hk, hw, hb => by simp at hw
  | 0, d :: ds, j, s2, s3, f2, f3, hj, hk, hw, hb => by
    simp only [List.getElem?_cons_zero, Option.some.injEq] at hw
    subst hw
    refine ⟨[.va (.adr x), .va v, .va (.int j), .va d], ?_⟩
    have b : ibody [.va (.adr x), .va v, .va (.int j), .va d] = .exc "BadState" (.int j) [.va (.adr x), .va v, .va (.int j), .va d] := by
      simp [ibody, len_v v xs hv, call_va2 _ _ _ _ _ _ _ hb, fmt_small j (by omega)]
    rw [pairsFrom, forF, tg_ok x v j d s2 s3 f2 f3]
    simp only [b, Nat.add_zero]
  | at_ + 1, [], j, s2, s3, f2, f3, hj, hk, hw, hb => by simp at hw
  | at_ + 1, d :: ds, j, s2, s3, f2, f3, hj, hk, hw, hb => by
    have e := fun e => call_va2 _ _ _ _ e _ _ (hk 0 d (by omega) rfl)
    obtain ⟨e2, ih⟩ := loop_bad x v xs hv w at_ ds (j + 1) (.va (.int j)) (.va d) (.va _) (.va _) (by omega) (fun i d' hi hd => hk (i + 1) d' (by omega) (by simpa using hd)) (by simpa using hw) hb
    refine ⟨e2, ?_⟩
    have b : ibody [.va (.adr x), .va v, .va (.int j), .va d] = .nx [.va (.adr x), .va v, .va (.int j), .va d] := by
      simp [ibody, len_v v xs hv, e]
    rw [pairsFrom, forF, tg_ok x v j d s2 s3 f2 f3]
    simp only [b]
    rw [show j + 1 + at_ = j + (at_ + 1) by omega] at ih
    exact ih
theorem plain_lc (v0 v1 : D) (s2 s3 : Sl) (f2 : Fr s2) (f3 : Fr s3) : ∀ (f : Flow) (ds : List D), f.length = ds.length → (∀ (i : Nat) (s : St1) (d : D), f[i]? = some s → ds[i]? = some d → isS s d ∧ s.length ≤ 1000) →
    lcF [3] (putG 3) tYesF (mFn fn_plain_state (aCons (mOwn 3) aNil)) ds [.va v0, .va v1, s2, s3] = .ok (f.map sD) [.va v0, .va v1, s2, s3]
  | [], [], _, _ => rfl
  | [], _ :: _, h, _ => by simp at h
  | _ :: _, [], h, _ => by simp at h
  | k :: ks, d :: ds, hl, h => by
    have ih := plain_lc v0 v1 s2 s3 f2 f3 ks ds (by simpa using hl) fun i k d a b => h (i + 1) k d (by simpa using a) (by simpa using b)
    have e := plain_ok k d (h 0 k d rfl rfl).1 (h 0 k d rfl rfl).2
    rw [lcF]
    simp [free_, f3.isOw, enterE, wipeE, f2.mark, tYesF, call_va1 _ _ _ _ _ e, backE, f2.back, f3.back, ih]
theorem ap4 (x : Addr) (v : D) : (Sl.va (.adr x) :: List.map Sl.va [v] ++ List.replicate (4 - 2) Sl.un) = [.va (.adr x), .va v, .un, .un] := rfl
theorem init_eq (x : Addr) (v : D) (xs : List D) (hv : isSq v xs) (hl : 1 ≤ xs.length ∧ xs.length ≤ 8) : b_Stream__init [.va (.adr x), .va v, .un, .un] = (forF tg ibody (pairsFrom 0 xs) [.va (.adr x), .va v, .un, .un]).seq mNext := by
  have c := fun e => call_va3 _ _ _ _ _ e _ _ _ (length_ok v xs hv 1 8)
  simp only [decide_eq_true (show (1 : Int) ≤ (xs.length : Int) ∧ (xs.length : Int) ≤ 8 by omega)] at c
  have en : lEnum (aCons (mOwn 1) aNil) [.va (.adr x), .va v, .un, .un] = .ok (pairsFrom 0 xs) [.va (.adr x), .va v, .un, .un] := by
    rcases hv with rfl | rfl <;> simp [lEnum]
  simp [b_Stream__init, c, en, tg, ibody]
theorem run_ok (x : Addr) (f : Flow) (ok : OkF f) (d : D) (h : isFl f d) : runInit 2 4 b_Stream__init st_Stream x [d] = .ok [fD f] := by
  obtain ⟨ds, hd, hl, hi⟩ := h
  have l1 := ok.l1
  have l8 := ok.l8
  obtain ⟨t2, t3, g2, g3, e⟩ := loop_ok x d ds hd ds 0 .un .un .un .un fun y hy => by
    obtain ⟨i, hy⟩ := List.getElem?_of_mem hy
    have hi2 : i < f.length := by have := lt_of_get hy; omega
    rw [← hl]
    exact state_true f[i] f.length (ok.s _ (List.getElem_mem hi2)) y (hi i f[i] y (List.getElem?_eq_getElem hi2) hy)
  have lc := plain_lc (.adr x) d t2 t3 g2 g3 f ds hl fun i s y a b => ⟨hi i s y a b, by have := (ok.s s (List.mem_of_getElem? a)).l4; omega⟩
  have pre : b_Stream__init [.va (.adr x), .va d, .un, .un] = .nx [.va (.adr x), .va d, t2, t3] := by
    rw [init_eq x d ds hd (by omega), e]
    rfl
  have sq : seqF d = some ds := by rcases hd with rfl | rfl <;> rfl
  have b3 : ds.length ≤ line := small_line (by omega)
  have no : noOw [.va (.adr x), .va d, t2, t3] = true := by
    cases g2 <;> cases g3 <;> rfl
  have st : stF st_Stream [.va (.adr x), .va d, t2, t3] = some [fD f] := by
    simp [st_Stream, stF, no, sq, b3, lc, fD]
  unfold runInit
  rw [if_pos (by rfl), ap4, pre]
  simp [st]
theorem fi_ok (f : Flow) (ok : OkF f) (d : D) (h : isFl f d) : fi_Stream [d] = .ok [fD f] := run_ok 0 f ok d h
/-! ### the place of the object does not matter -/
inductive CR where
  | ok (d : D) | exc (c : Str) (v : D) | no
def CR.re (r : CR) (e : Mp.Env) : Re D := match r with
  | .ok d => .ok d e
  | .exc c v => .exc c v e
  | .no => .no
theorem putN : ∀ (ds : List D) (outs : List Sl) (e : Mp.Env), putB e (ds.map Av.va) outs = if outs.length = ds.length then some e else none
  | [], [], e => rfl
  | [], _ :: _, e => by simp [putB]
  | _ :: _, [], e => by simp [putB]
  | d :: ds, o :: outs, e => by
    rw [List.map_cons, putB, putN ds outs e]
    simp
theorem argsN : ∀ (ds : List D) (e : Mp.Env), argsOf e (ds.map Av.va) = some (ds.map Sl.va)
  | [], e => rfl
  | d :: ds, e => by rw [List.map_cons, argsOf, argsN ds e]; rfl
theorem ixsN : ∀ ds : List D, ixs (ds.map Av.va) = []
  | [] => rfl
  | d :: ds => by rw [List.map_cons, ixs, ixsN ds]
theorem freeN (fn : Fn) (ds : List D) : ∃ r : CR, ∀ e, callF fn (ds.map Av.va) e = r.re e := by
  have key : ∀ e, callF fn (ds.map Av.va) e = (match fn (ds.map Sl.va) with
      | .ok d outs => match (if outs.length = ds.length then some e else none) with
        | some e' => .ok d e'
        | none => .no
      | .exc c v outs => match (if outs.length = ds.length then some e else none) with
        | some e' => .exc c v e'
        | none => .no
      | .no => .no) := fun e => by
    unfold callF
    rw [if_pos (by rw [ixsN]; exact List.nodup_nil), argsN]
    cases h : fn (ds.map Sl.va) with
    | no => simp only [h]
    | ok d o =>
      simp only [h, putN] <;> rcases Decidable.em (o.length = ds.length) with hl | hl <;> first | rw [if_pos hl] | rw [if_neg hl]
    | exc c v o =>
      simp only [h, putN] <;> rcases Decidable.em (o.length = ds.length) with hl | hl <;> first | rw [if_pos hl] | rw [if_neg hl]
  cases h : fn (ds.map Sl.va) with
  | no => exact ⟨.no, fun e => by rw [key, h]; rfl⟩
  | ok d outs =>
    by_cases hl : outs.length = ds.length
    · exact ⟨.ok d, fun e => by rw [key, h]; simp only [if_pos hl]; rfl⟩
    · exact ⟨.no, fun e => by rw [key, h]; simp only [if_neg hl]; rfl⟩
  | exc c v outs =>
    by_cases hl : outs.length = ds.length
    · exact ⟨.exc c v, fun e => by rw [key, h]; simp only [if_pos hl]; rfl⟩
    · exact ⟨.no, fun e => by rw [key, h]; simp only [if_neg hl]; rfl⟩
theorem free3 (fn : Fn) (d1 d2 d3 : D) : ∃ r : CR, ∀ e, callF fn [.va d1, .va d2, .va d3] e = r.re e := freeN fn [d1, d2, d3]
theorem free2 (fn : Fn) (d1 d2 : D) : ∃ r : CR, ∀ e, callF fn [.va d1, .va d2] e = r.re e := freeN fn [d1, d2]
theorem free1 (fn : Fn) (d1 : D) : ∃ r : CR, ∀ e, callF fn [.va d1] e = r.re e := freeN fn [d1]
inductive LR where
  | nx (t3 t4 : Sl) (f3 : Fr t3) (f4 : Fr t4) | exc (c : Str) (v : D) | no
def LR.fl (r : LR) (x : Addr) (a : D) (f : Fl) : Prop := match r with
  | .nx t3 t4 _ _ => f = .nx [.va (.adr x), .va a, t3, t4]
  | .exc c v => ∃ e, f = .exc c v e
  | .no => f = .no
theorem loop_free (a l : D) (ha : lenF [a] = some l) : ∀ (xs : List D) (j : Nat) (s3 s4 : Sl), Fr s3 → Fr s4 → ∃ r : LR, ∀ x, r.fl x a (forF tg ibody (pairsFrom j xs) [.va (.adr x), .va a, s3, s4])
  | [], j, s3, s4, f3, f4 => ⟨.nx s3 s4 f3 f4, fun x => rfl⟩
  | d :: ds, j, s3, s4, f3, f4 => by
    obtain ⟨r, hr⟩ := loop_free a l ha ds (j + 1) (.va (.int j)) (.va d) (.va _) (.va _)
    obtain ⟨q, hq⟩ := free2 fn_is_state d l
    have p := fun x : Addr => tg_ok x a j d s3 s4 f3 f4
    have stop : (∀ x, ibody [.va (.adr x), .va a, .va (.int j), .va d] = .no) → ∃ r : LR, ∀ x, r.fl x a (forF tg ibody (pairsFrom j (d :: ds)) [.va (.adr x), .va a, s3, s4]) := fun h => ⟨.no, fun x => by
      show forF _ _ _ _ = Fl.no
      rw [pairsFrom, forF, p]
      simp only [h]⟩
    cases q with
    | no => exact stop fun x => by simp [ibody, ha, hq, CR.re]
    | exc c v => exact ⟨.exc c v, fun x => ⟨[.va (.adr x), .va a, .va (.int j), .va d], by
        rw [pairsFrom, forF, p]
        simp [ibody, ha, hq, CR.re]⟩⟩
    | ok d' =>
      cases d' with
      | bl b =>
        cases b with
        | true => exact ⟨r, fun x => by
            have := hr x
            rw [pairsFrom, forF, p]
            have b : ibody [.va (.adr x), .va a, .va (.int j), .va d] = .nx [.va (.adr x), .va a, .va (.int j), .va d] := by simp [ibody, ha, hq, CR.re]
            simp only [b]
            exact this⟩
        | false =>
          by_cases hf : fmtF (.int j) = true
          · exact ⟨.exc "BadState" (.int j), fun x => ⟨[.va (.adr x), .va a, .va (.int j), .va d], by
              rw [pairsFrom, forF, p]
              simp [ibody, ha, hq, CR.re, hf]⟩⟩
          · exact stop fun x => by simp [ibody, ha, hq, CR.re, hf]
      | _ => exact stop fun x => by simp [ibody, ha, hq, CR.re, asB]
theorem lc_free (a : D) (t3 t4 : Sl) (f3 : Fr t3) (f4 : Fr t4) : ∀ ds : List D, ∃ r : Option (List D), ∀ x : Addr, lcF [3] (putG 3) tYesF (mFn fn_plain_state (aCons (mOwn 3) aNil)) ds [.va (.adr x), .va a, t3, t4] = (match r with
    | some l => .ok l [.va (.adr x), .va a, t3, t4]
    | none => .no)
  | [] => ⟨some [], fun x => rfl⟩
  | d :: ds => by
    obtain ⟨r, hr⟩ := lc_free a t3 t4 f3 f4 ds
    obtain ⟨q, hq⟩ := free1 fn_plain_state d
    cases q with
    | no => exact ⟨none, fun x => by rw [lcF]; simp [free_, f4.isOw, enterE, wipeE, f3.mark, tYesF, hq, CR.re, Re.nx]⟩
    | exc c v => exact ⟨none, fun x => by rw [lcF]; simp [free_, f4.isOw, enterE, wipeE, f3.mark, tYesF, hq, CR.re, Re.nx]⟩
    | ok d' =>
      cases r with
      | none => exact ⟨none, fun x => by rw [lcF]; simp [free_, f4.isOw, enterE, wipeE, f3.mark, tYesF, hq, CR.re, backE, f3.back, f4.back, hr]; rfl⟩
      | some l => exact ⟨some (d' :: l), fun x => by rw [lcF]; simp [free_, f4.isOw, enterE, wipeE, f3.mark, tYesF, hq, CR.re, backE, f3.back, f4.back, hr]⟩
theorem run_no (x : Addr) (a : D) (h : b_Stream__init [.va (.adr x), .va a, .un, .un] = .no) : runInit 2 4 b_Stream__init st_Stream x [a] = .no := by
  unfold runInit
  rw [if_pos (by rfl), ap4, h]
theorem run_exc (x : Addr) (a : D) {c : Str} {v : D} (h : ∃ e, b_Stream__init [.va (.adr x), .va a, .un, .un] = .exc c v e) : runInit 2 4 b_Stream__init st_Stream x [a] = .exc c v := by
  obtain ⟨e, h⟩ := h
  unfold runInit
  rw [if_pos (by rfl), ap4, h]
theorem f1 : fmtF (.int 1) = true := by decide
theorem par_key (a : D) : ∃ R, ∀ x, runInit 2 4 b_Stream__init st_Stream x [a] = R := by
  obtain ⟨r1, h1⟩ := free3 fn_has_length a (.int 1) (.int 8)
  cases r1 with
  | no => exact ⟨.no, fun x => run_no x a (by simp [b_Stream__init, h1, CR.re])⟩
  | exc c v => exact ⟨.exc c v, fun x => run_exc x a ⟨[.va (.adr x), .va a, .un, .un], by simp [b_Stream__init, h1, CR.re]⟩⟩
  | ok d1 =>
    cases d1 with
    | bl b1 =>
      cases b1 with
      | false => exact ⟨.exc "BadValue" (.int 1), fun x => run_exc x a ⟨[.va (.adr x), .va a, .un, .un], by simp [b_Stream__init, h1, CR.re, f1]⟩⟩
      | true =>
        have go : ∀ xs, seqF a = some xs → lenF [a] = some (.int xs.length) → (∀ e : Mp.Env, e[1]? = some (.va a) → lEnum (aCons (mOwn 1) aNil) e = .ok (pairsFrom 0 xs) e) → ∃ R, ∀ x, runInit 2 4 b_Stream__init st_Stream x [a] = R := fun xs sq ln en => by
          obtain ⟨r3, h3⟩ := loop_free a _ ln xs 0 .un .un .un .un
          have pre : ∀ x : Addr, b_Stream__init [.va (.adr x), .va a, .un, .un] = (forF tg ibody (pairsFrom 0 xs) [.va (.adr x), .va a, .un, .un]).seq mNext := fun x => by
            have := en [.va (.adr x), .va a, .un, .un] rfl
            simp [b_Stream__init, h1, CR.re, this, tg, ibody]
          cases r3 with
          | no => exact ⟨.no, fun x => run_no x a (by
              have h : forF _ _ _ _ = Fl.no := h3 x
              rw [pre, h]
              rfl)⟩
          | exc c v => exact ⟨.exc c v, fun x => run_exc x a (by
              obtain ⟨e, h⟩ := h3 x
              exact ⟨e, by rw [pre, h]; rfl⟩)⟩
          | nx t3 t4 g3 g4 =>
            obtain ⟨r4, h4⟩ := lc_free a t3 t4 g3 g4 xs
            have no : ∀ x : Addr, noOw [.va (.adr x), .va a, t3, t4] = true := fun x => by
              cases g3 <;> cases g4 <;> rfl
            have st : ∃ o, ∀ x : Addr, stF st_Stream [.va (.adr x), .va a, t3, t4] = o := by
              by_cases hz : xs.length ≤ line
              · cases r4 with
                | none => exact ⟨none, fun x => by simp [st_Stream, stF, no, sq, hz, h4]⟩
                | some l => exact ⟨some [.tup l], fun x => by simp [st_Stream, stF, no, sq, hz, h4]⟩
              · exact ⟨none, fun x => by simp [st_Stream, stF, no, sq, hz]⟩
            obtain ⟨o, st⟩ := st
            refine ⟨(match o with | some fs => .ok fs | none => .no), fun x => ?_⟩
            have h : forF _ _ _ _ = Fl.nx [.va (.adr x), .va a, t3, t4] := h3 x
            unfold runInit
            rw [if_pos (by rfl), ap4, pre, h]
            simp [st]
            cases o <;> rfl
        have bad : (∀ e : Mp.Env, e[1]? = some (.va a) → lEnum (aCons (mOwn 1) aNil) e = .no) → ∃ R, ∀ x, runInit 2 4 b_Stream__init st_Stream x [a] = R := fun en => ⟨.no, fun x => run_no x a (by
          have := en [.va (.adr x), .va a, .un, .un] rfl
          simp [b_Stream__init, h1, CR.re, this])⟩
        cases a with
        | tup xs => exact go xs rfl rfl fun e he => by simp [lEnum, he]
        | lst xs => exact go xs rfl rfl fun e he => by simp [lEnum, he]
        | _ => exact bad fun e he => by simp [lEnum, he]
    | _ => exact ⟨.no, fun x => run_no x a (by simp [b_Stream__init, h1, CR.re, asB])⟩
theorem par_Stream : ∀ x ds, runInit 2 4 b_Stream__init st_Stream x ds = fi_Stream ds := fun x ds => by
  match ds with
  | [a] =>
    obtain ⟨R, h⟩ := par_key a
    exact (h x).trans (h 0).symm
  | [] => rfl
  | _ :: _ :: r => simp [fi_Stream, runInit]
end K10f
set_option Elab.async false
set_option linter.all false
set_option maxRecDepth 100000
set_option maxHeartbeats 4000000
namespace K10f
open PySem PySem.Spec PyProof.Rows L2 Mp K10
/-! ### drawn streams -/
def SV_ (row : List Int) (i kd wd : Int) (ss : List D) (c : Sl) (s6 s7 s8 s9 s10 s11 : Sl) : Mp.Env := [.va (.lst (iL row)), .ow true [.int i], .va (.int kd), .va (.int wd), .ow false ss, c, s6, s7, s8, s9, s10, s11]
theorem take_lc (row : List Int) (hr : row ≠ []) (kd wd : Int) (hk : 1 ≤ kd) (ss aa : List D) (c : Int) (s6 s8 s9 s10 s11 : Sl) (f6 : Fr s6) (f8 : Fr s8) (f9 : Fr s9) (f10 : Fr s10) (f11 : Fr s11) : ∀ (ds : List Int) (i : Int), 0 ≤ i → ∃ l i', l.length = ds.length ∧ (∀ x ∈ l, 0 ≤ x ∧ x < kd) ∧ 0 ≤ i' ∧
    lcF [11] (putG 11) tYesF (mFn fn_law_take (aCons (mOwn 0) (aCons (mOwn 1) (aCons (mOwn 2) aNil)))) (iL ds) (SV_ row i kd wd ss (.va (.int c)) s6 (.ow false aa) s8 s9 s10 s11) = .ok (iL l) (SV_ row i' kd wd ss (.va (.int c)) s6 (.ow false aa) s8 s9 s10 s11)
  | [], i, hi => ⟨[], i, rfl, fun x hx => by simp at hx, hi, rfl⟩
  | d :: ds, i, hi => by
    obtain ⟨l, i', h1, h2, h3, h4⟩ := take_lc row hr kd wd hk ss aa c s6 s8 s9 s10 s11 f6 f8 f9 f10 f11 ds (i + 1) (by omega)
    refine ⟨dV row i kd :: l, i', by simp [h1], fun x hx => ?_, h3, ?_⟩
    · rcases List.mem_cons.mp hx with rfl | hx
      · exact dV_range row i kd (by omega)
      · exact h2 x hx
    · unfold SV_ at h4 ⊢
      rw [iL_cons, lcF]
      simp [free_, f11.isOw, enterE, wipeE, f6.mark, f8.mark, f9.mark, f10.mark, tYesF, call_take row i kd true _ hi (by omega) hr, backE, f6.back, f8.back, f9.back, f10.back, f11.back, h4, iL_cons]
theorem many_ok (d : Int) (h0 : 0 ≤ d) (h1 : d < 7) : ∃ w : Nat, atI [D.int 0, .int 0, .int 1, .int 1, .int 1, .int 2, .int 3] d = some (.int w) ∧ w ≤ 3 := by
  have h : d = 0 ∨ d = 1 ∨ d = 2 ∨ d = 3 ∨ d = 4 ∨ d = 5 ∨ d = 6 := by omega
  rcases h with rfl | rfl | rfl | rfl | rfl | rfl | rfl
  · exact ⟨0, rfl, by omega⟩
  · exact ⟨0, rfl, by omega⟩
  · exact ⟨1, rfl, by omega⟩
  · exact ⟨1, rfl, by omega⟩
  · exact ⟨1, rfl, by omega⟩
  · exact ⟨2, rfl, by omega⟩
  · exact ⟨3, rfl, by omega⟩
def arcBody : MS :=
    (mSeq (mSet 9 (mBin atF (vOf (mL (lLst (aCons (vOf (mC (.int 0))) (aCons (vOf (mC (.int 0))) (aCons (vOf (mC (.int 1))) (aCons (vOf (mC (.int 1))) (aCons (vOf (mC (.int 1))) (aCons (vOf (mC (.int 2))) (aCons (vOf (mC (.int 3))) aNil)))))))))) (vOf (mFn fn_law_take (aCons (mOwn 0) (aCons (mOwn 1) (aCons (vOf (mC (.int 7))) aNil)))))))
    (mSeq (mSet 10 (mCall tupF (aCons (vOf (mCall sortDF (aCons (vOf (mL (lLc [11] (lRange1 (mVar 9)) (putG 11) tYesF (mFn fn_law_take (aCons (mOwn 0) (aCons (mOwn 1) (aCons (mOwn 2) aNil))))))) aNil))) aNil)))
    (mAppend 7 (mTup (aCons (mOwn 10) (aCons (vOf (mFn fn_law_take (aCons (mOwn 0) (aCons (mOwn 1) (aCons (mOwn 5) aNil))))) aNil))))))
theorem arc_step (row : List Int) (hr : row ≠ []) (kd wd : Int) (hk : 1 ≤ kd) (hk3 : kd ≤ 3) (ss aa : List D) (ha : aa.length ≤ 4) (c : Int) (hc : 1 ≤ c) (i : Int) (hi : 0 ≤ i) (s6 s8 s9 s10 s11 : Sl) (f6 : Fr s6) (f8 : Fr s8) (f9 : Fr s9) (f10 : Fr s10) (f11 : Fr s11) :
    ∃ (a : Arc) (i' : Int) (t9 t10 : Sl), OkA c a ∧ (∀ x ∈ a.k, x < kd) ∧ 0 ≤ i' ∧ Fr t9 ∧ Fr t10 ∧ arcBody (SV_ row i kd wd ss (.va (.int c)) s6 (.ow false aa) s8 s9 s10 s11) = .nx (SV_ row i' kd wd ss (.va (.int c)) s6 (.ow false (aa ++ [aD a])) s8 t9 t10 s11) := by
  obtain ⟨w, w1, w2⟩ := many_ok (dV row i 7) (dV_range row i 7 (by omega)).1 (dV_range row i 7 (by omega)).2
  have A1 : mSet 9 (mBin atF (vOf (mL (lLst (aCons (vOf (mC (.int 0))) (aCons (vOf (mC (.int 0))) (aCons (vOf (mC (.int 1))) (aCons (vOf (mC (.int 1))) (aCons (vOf (mC (.int 1))) (aCons (vOf (mC (.int 2))) (aCons (vOf (mC (.int 3))) aNil)))))))))) (vOf (mFn fn_law_take (aCons (mOwn 0) (aCons (mOwn 1) (aCons (vOf (mC (.int 7))) aNil))))))
      (SV_ row i kd wd ss (.va (.int c)) s6 (.ow false aa) s8 s9 s10 s11) = .nx (SV_ row (i + 1) kd wd ss (.va (.int c)) s6 (.ow false aa) s8 (.va (.int w)) s10 s11) := by
    cases f9 <;> simp [SV_, line, call_take row i 7 true _ hi (by omega) hr, w1]
  obtain ⟨l, i2, l1, l2, hi2, lc⟩ := take_lc row hr kd wd hk ss aa c s6 s8 (.va (.int w)) s10 s11 f6 f8 (.va _) f10 f11 (upto w) (i + 1) (by omega)
  rw [upto_length] at l1
  have A2 : mSet 10 (mCall tupF (aCons (vOf (mCall sortDF (aCons (vOf (mL (lLc [11] (lRange1 (mVar 9)) (putG 11) tYesF (mFn fn_law_take (aCons (mOwn 0) (aCons (mOwn 1) (aCons (mOwn 2) aNil))))))) aNil))) aNil))
      (SV_ row (i + 1) kd wd ss (.va (.int c)) s6 (.ow false aa) s8 (.va (.int w)) s10 s11) = .nx (SV_ row i2 kd wd ss (.va (.int c)) s6 (.ow false aa) s8 (.va (.int w)) (.va (.tup (iL (sI l)))) s11) := by
    have rg := rng (mVar 9) (SV_ row (i + 1) kd wd ss (.va (.int c)) s6 (.ow false aa) s8 (.va (.int w)) s10 s11) w (by omega) (by simp [SV_])
    have lu : (iL (upto w)).length ≤ line := by rw [iL_length, upto_length]; exact small_line (by omega)
    simp only [mSet_s, mCall_s, aCons_s, aNil_s, vOf_s, mL_s, lLc_s, rg, Re.bind_ok, if_pos lu, lc, use_s, gets_cons, gets_nil, Av.get_va, sort_ok (.lst (iL l)) l (.inr rfl), tupF_l]
    unfold SV_
    cases f10 <;> simp
  refine ⟨⟨sI l, dV row i2 c⟩, i2 + 1, .va (.int w), .va (.tup (iL (sI l))), ⟨by rw [sI_length]; omega, sI_sorted l, fun x hx => ?_, dV_range row i2 c (by omega)⟩, fun x hx => (l2 x ((sI_mem l x).mp hx)).2, by omega, .va _, .va _, ?_⟩
  · have := l2 x ((sI_mem l x).mp hx)
    omega
  · unfold arcBody
    rw [nx_seq A1, nx_seq A2]
    have hlt : aa.length < 16777216 := by omega
    simp [SV_, mAppend, call_take row i2 c true _ hi2 (by omega) hr, hlt, aD, line]
theorem arc_loop (row : List Int) (hr : row ≠ []) (kd wd : Int) (hk : 1 ≤ kd) (hk3 : kd ≤ 3) (ss : List D) (c : Int) (hc : 1 ≤ c) (s6 : Sl) (f6 : Fr s6) : ∀ (m j : Nat) (i : Int) (as : List Arc) (s8 s9 s10 s11 : Sl), 0 ≤ i → as.length = j → j + m ≤ 4 → (∀ a ∈ as, OkA c a ∧ ∀ x ∈ a.k, x < kd) → Fr s8 → Fr s9 → Fr s10 → Fr s11 →
    ∃ (as' : List Arc) (i' : Int) (t8 t9 t10 : Sl), as'.length = j + m ∧ (∀ a ∈ as', OkA c a ∧ ∀ x ∈ a.k, x < kd) ∧ 0 ≤ i' ∧ Fr t8 ∧ Fr t9 ∧ Fr t10 ∧ forF (putG 8) arcBody (iL ((List.range' j m).map fun i => ((i : Nat) : Int))) (SV_ row i kd wd ss (.va (.int c)) s6 (.ow false (as.map aD)) s8 s9 s10 s11) = .nx (SV_ row i' kd wd ss (.va (.int c)) s6 (.ow false (as'.map aD)) t8 t9 t10 s11)
  | 0, j, i, as, s8, s9, s10, s11, hi, hl, hj, ok, f8, f9, f10, f11 => ⟨as, i, s8, s9, s10, by omega, ok, hi, f8, f9, f10, rfl⟩
  | m + 1, j, i, as, s8, s9, s10, s11, hi, hl, hj, ok, f8, f9, f10, f11 => by
    obtain ⟨a, i', t9, t10, oa, ob, hi', g9, g10, e⟩ := arc_step row hr kd wd hk hk3 ss (as.map aD) (by simp; omega) c hc i hi s6 (.va (.int j)) s9 s10 s11 f6 (.va _) f9 f10 f11
    obtain ⟨as', i2, t8', t9', t10', hl2, ok2, hi2, g8, g9', g10', e2⟩ := arc_loop row hr kd wd hk hk3 ss c hc s6 f6 m (j + 1) i' (as ++ [a]) (.va (.int j)) t9 t10 s11 hi' (by simp [hl]) (by omega) (fun b hb => by
      rcases List.mem_append.mp hb with hb | hb
      · exact ok b hb
      · rw [List.mem_singleton.mp hb]
        exact ⟨oa, ob⟩) (.va _) g9 g10 f11
    refine ⟨as', i2, t8', t9', t10', by omega, ok2, hi2, g8, g9', g10', ?_⟩
    have p : putG 8 (.int j) (SV_ row i kd wd ss (.va (.int c)) s6 (.ow false (as.map aD)) s8 s9 s10 s11) = some (SV_ row i kd wd ss (.va (.int c)) s6 (.ow false (as.map aD)) (.va (.int j)) s9 s10 s11) := by
      cases f8 <;> simp [SV_]
    rw [List.range'_succ, List.map_cons, iL_cons, forF, p]
    simp only [e]
    rw [List.map_append] at e2
    exact e2
def stBody : MS :=
    (mSeq (mSetO 7 (lLst aNil))
    (mSeq (mFor (lRange1 (mBin addF (vOf (mC (.int 1))) (vOf (mFn fn_law_take (aCons (mOwn 0) (aCons (mOwn 1) (aCons (vOf (mC (.int 4))) aNil))))))) (putG 8) arcBody)
    (mAppend 4 (mCall tupF (aCons (mOwn 7) aNil)))))
/-- the slot of the arcs: nothing, or a list of one's own from the turn before -/
def A7 (s : Sl) : Prop := s = .un ∨ ∃ xs, s = .ow false xs
theorem st_step (row : List Int) (hr : row ≠ []) (kd wd : Int) (hk : 1 ≤ kd) (hk3 : kd ≤ 3) (ss : List D) (hs : ss.length ≤ 8) (c : Int) (hc : 1 ≤ c) (i : Int) (hi : 0 ≤ i) (s6 s7 s8 s9 s10 s11 : Sl) (f6 : Fr s6) (f7 : A7 s7) (f8 : Fr s8) (f9 : Fr s9) (f10 : Fr s10) (f11 : Fr s11) :
    ∃ (s : St1) (i' : Int) (t7 t8 t9 t10 : Sl), OkS c s ∧ (∀ a ∈ s, ∀ x ∈ a.k, x < kd) ∧ 0 ≤ i' ∧ A7 t7 ∧ Fr t8 ∧ Fr t9 ∧ Fr t10 ∧ stBody (SV_ row i kd wd ss (.va (.int c)) s6 s7 s8 s9 s10 s11) = .nx (SV_ row i' kd wd (ss ++ [sD s]) (.va (.int c)) s6 t7 t8 t9 t10 s11) := by
  have r4 := dV_range row i 4 (by omega)
  obtain ⟨m, hm⟩ := Int.eq_ofNat_of_zero_le (show 0 ≤ 1 + dV row i 4 by omega)
  have A1 : mSetO 7 (lLst aNil) (SV_ row i kd wd ss (.va (.int c)) s6 s7 s8 s9 s10 s11) = .nx (SV_ row i kd wd ss (.va (.int c)) s6 (.ow false []) s8 s9 s10 s11) := by
    rcases f7 with rfl | ⟨xs, rfl⟩ <;> simp [SV_, line, ownG]
  obtain ⟨as', i', t8, t9, t10, hl, ok, hi', g8, g9, g10, e⟩ := arc_loop row hr kd wd hk hk3 ss c hc s6 f6 m 0 (i + 1) [] s8 s9 s10 s11 (by omega) rfl (by omega) (fun a h => by simp at h) f8 f9 f10 f11
  have A2 : mFor (lRange1 (mBin addF (vOf (mC (.int 1))) (vOf (mFn fn_law_take (aCons (mOwn 0) (aCons (mOwn 1) (aCons (vOf (mC (.int 4))) aNil))))))) (putG 8) arcBody (SV_ row i kd wd ss (.va (.int c)) s6 (.ow false []) s8 s9 s10 s11) = .nx (SV_ row i' kd wd ss (.va (.int c)) s6 (.ow false (as'.map aD)) t8 t9 t10 s11) := by
    have m1 : mBin addF (vOf (mC (.int 1))) (vOf (mFn fn_law_take (aCons (mOwn 0) (aCons (mOwn 1) (aCons (vOf (mC (.int 4))) aNil))))) (SV_ row i kd wd ss (.va (.int c)) s6 (.ow false []) s8 s9 s10 s11) = .ok (.int m) (SV_ row (i + 1) kd wd ss (.va (.int c)) s6 (.ow false []) s8 s9 s10 s11) := by
      simp [SV_, call_take row i 4 true _ hi (by omega) hr, hm]
    have m2 : lRange1 (mBin addF (vOf (mC (.int 1))) (vOf (mFn fn_law_take (aCons (mOwn 0) (aCons (mOwn 1) (aCons (vOf (mC (.int 4))) aNil)))))) (SV_ row i kd wd ss (.va (.int c)) s6 (.ow false []) s8 s9 s10 s11) = .ok (iL (upto m)) (SV_ row (i + 1) kd wd ss (.va (.int c)) s6 (.ow false []) s8 s9 s10 s11) := by
      have e62 : (2 : Int) ^ 62 = 4611686018427387904 := by simp
      have h1 : -(2 ^ 62) ≤ (m : Int) ∧ (m : Int) < 2 ^ 62 := by
        rw [e62]
        omega
      unfold lRange1
      rw [m1, Re.bind_ok]
      dsimp only
      rw [if_pos h1, Int.toNat_natCast, range_iL]
    rw [mFor_s, m2, Re.flow_ok]
    rw [upto, List.range_eq_range']
    exact e
  rw [Nat.zero_add] at hl
  refine ⟨as', i', .ow false (as'.map aD), t8, t9, t10, ⟨by omega, by omega, fun a ha => (ok a ha).1⟩, fun a ha => (ok a ha).2, hi', .inr ⟨_, rfl⟩, g8, g9, g10, ?_⟩
  unfold stBody
  rw [nx_seq A1, nx_seq A2]
  have hlt : ss.length < 16777216 := by omega
  simp [SV_, mAppend, hlt, sD, line]
theorem st_loop (row : List Int) (hr : row ≠ []) (kd wd : Int) (hk : 1 ≤ kd) (hk3 : kd ≤ 3) (c : Int) (hc : 1 ≤ c) : ∀ (m j : Nat) (i : Int) (f : Flow) (s6 s7 s8 s9 s10 s11 : Sl), 0 ≤ i → f.length = j → j + m ≤ 8 → (∀ s ∈ f, OkS c s ∧ ∀ a ∈ s, ∀ x ∈ a.k, x < kd) → Fr s6 → A7 s7 → Fr s8 → Fr s9 → Fr s10 → Fr s11 →
    ∃ (f' : Flow) (i' : Int) (e : Mp.Env), f'.length = j + m ∧ (∀ s ∈ f', OkS c s ∧ ∀ a ∈ s, ∀ x ∈ a.k, x < kd) ∧ 0 ≤ i' ∧ (∃ t6 t7 t8 t9 t10, e = SV_ row i' kd wd (f'.map sD) (.va (.int c)) t6 t7 t8 t9 t10 s11) ∧ forF (putG 6) stBody (iL ((List.range' j m).map fun i => ((i : Nat) : Int))) (SV_ row i kd wd (f.map sD) (.va (.int c)) s6 s7 s8 s9 s10 s11) = .nx e
  | 0, j, i, f, s6, s7, s8, s9, s10, s11, hi, hl, hj, ok, f6, f7, f8, f9, f10, f11 => ⟨f, i, _, by omega, ok, hi, ⟨s6, s7, s8, s9, s10, rfl⟩, rfl⟩
  | m + 1, j, i, f, s6, s7, s8, s9, s10, s11, hi, hl, hj, ok, f6, f7, f8, f9, f10, f11 => by
    obtain ⟨s, i', t7, t8, t9, t10, oa, ob, hi', g7, g8, g9, g10, e⟩ := st_step row hr kd wd hk hk3 (f.map sD) (by simp; omega) c hc i hi (.va (.int j)) s7 s8 s9 s10 s11 (.va _) f7 f8 f9 f10 f11
    obtain ⟨f', i2, e', hl2, ok2, hi2, he, e2⟩ := st_loop row hr kd wd hk hk3 c hc m (j + 1) i' (f ++ [s]) (.va (.int j)) t7 t8 t9 t10 s11 hi' (by simp [hl]) (by omega) (fun b hb => by
      rcases List.mem_append.mp hb with hb | hb
      · exact ok b hb
      · rw [List.mem_singleton.mp hb]
        exact ⟨oa, ob⟩) (.va _) g7 g8 g9 g10 f11
    refine ⟨f', i2, e', by omega, ok2, hi2, he, ?_⟩
    have p : putG 6 (.int j) (SV_ row i kd wd (f.map sD) (.va (.int c)) s6 s7 s8 s9 s10 s11) = some (SV_ row i kd wd (f.map sD) (.va (.int c)) (.va (.int j)) s7 s8 s9 s10 s11) := by
      cases f6 <;> simp [SV_]
    rw [List.range'_succ, List.map_cons, iL_cons, forF, p]
    simp only [e]
    rw [List.map_append] at e2
    exact e2
theorem stream_ok (row : List Int) (hr : row ≠ []) (kd wd : Int) (hk : 1 ≤ kd) (hk3 : kd ≤ 3) (hw : 1 ≤ wd) (hw8 : wd ≤ 8) (i : Int) (hi : 0 ≤ i) : ∃ (f : Flow) (i' : Int), OkF f ∧ (∀ s ∈ f, ∀ a ∈ s, ∀ x ∈ a.k, x < kd) ∧ 0 ≤ i' ∧
    fn_law_stream [.va (.lst (iL row)), .ow true [.int i], .va (.int kd), .va (.int wd)] = .ok (fD f) [.un, .ow true [.int i'], .un, .un] := by
  have r := dV_range row i wd (by omega)
  obtain ⟨c, hc⟩ := Int.eq_ofNat_of_zero_le (show 0 ≤ 1 + dV row i wd by omega)
  obtain ⟨f, i', e, hl, ok, hi', ⟨t6, t7, t8, t9, t10, rfl⟩, e2⟩ := st_loop row hr kd wd hk hk3 c (by omega) c 0 (i + 1) [] .un .un .un .un .un .un (by omega) rfl (by omega) (fun s h => by simp at h) .un (.inl rfl) .un .un .un .un
  rw [Nat.zero_add] at hl
  have A1 : mSetO 4 (lLst aNil) [.va (.lst (iL row)), .ow true [.int i], .va (.int kd), .va (.int wd), .un, .un, .un, .un, .un, .un, .un, .un] = .nx (SV_ row i kd wd [] .un .un .un .un .un .un .un) := by
    simp [SV_, line, ownG]
  have A2 : mSet 5 (mBin addF (vOf (mC (.int 1))) (vOf (mFn fn_law_take (aCons (mOwn 0) (aCons (mOwn 1) (aCons (mOwn 3) aNil)))))) (SV_ row i kd wd [] .un .un .un .un .un .un .un) = .nx (SV_ row (i + 1) kd wd [] (.va (.int c)) .un .un .un .un .un .un) := by
    simp [SV_, call_take row i wd true _ hi (by omega) hr, hc]
  have A3 : mFor (lRange1 (mVar 5)) (putG 6) stBody (SV_ row (i + 1) kd wd [] (.va (.int c)) .un .un .un .un .un .un) = .nx (SV_ row i' kd wd (f.map sD) (.va (.int c)) t6 t7 t8 t9 t10 .un) := by
    have rg := rng (mVar 5) (SV_ row (i + 1) kd wd [] (.va (.int c)) .un .un .un .un .un .un) c (by omega) (by simp [SV_])
    rw [mFor_s, rg, Re.flow_ok, upto, List.range_eq_range']
    exact e2
  refine ⟨f, i', ⟨by omega, by omega, fun s hs => by rw [hl]; exact (ok s hs).1⟩, fun s hs => (ok s hs).2, hi', ?_⟩
  unfold fn_law_stream fnOf b_law_stream
  rw [if_pos (by rfl)]
  have ap : [Sl.va (.lst (iL row)), Sl.ow true [D.int i], Sl.va (.int kd), Sl.va (.int wd)] ++ List.replicate (12 - 4) Sl.un = [.va (.lst (iL row)), .ow true [.int i], .va (.int kd), .va (.int wd), .un, .un, .un, .un, .un, .un, .un, .un] := rfl
  unfold stBody arcBody at A3
  rw [ap, nx_seq A1, nx_seq A2, nx_seq A3]
  simp [SV_, fD, outsOf, List.range_succ]
end K10f
set_option Elab.async false
set_option linter.all false
set_option maxRecDepth 100000
set_option maxHeartbeats 4000000
namespace K10f
open PySem PySem.Spec PyProof.Rows L2 Mp K10
abbrev T3 := Int × Int × Int
def tD (t : T3) : D := .tup [.int t.1, .int t.2.1, .int t.2.2]
def tP (t : T3) : PyData := .tuple [.int t.1, .int t.2.1, .int t.2.2]
def lx (a b : T3) : Bool := decide (a.1 < b.1) || (decide (a.1 = b.1) && (decide (a.2.1 < b.2.1) || (decide (a.2.1 = b.2.1) && decide (a.2.2 ≤ b.2.2))))
theorem le_t (a b : T3) : PySem.W.dataLe false (fun b : D × PyData => b.2) (tD a, tP a) (tD b, tP b) = lx a b := by
  simp [PySem.W.dataLe, PySem.W.sortLe, PyProof.Rows.listOrd, tP, PySem.W.keyToks, PySem.W.keyToksAll, PyProof.Rows.lexLt, PyProof.Rows.itemOrd, PyProof.Rows.itemLt, lx]
  rw [Bool.eq_iff_iff]
  simp
  omega
theorem leT_t (a b : T3) : leTF (tD a) (tD b) = some (lx a b) := by
  simp [leTF, tD, intsOf, Ob.lexAt, lx]
  rw [Bool.eq_iff_iff]
  split <;> (try split) <;> simp <;> omega
theorem lx_trans (a b c : T3) (h1 : lx a b = true) (h2 : lx b c = true) : lx a c = true := by
  simp [lx] at h1 h2 ⊢
  omega
theorem lx_total (a b : T3) : (lx a b || lx b a) = true := by
  simp [lx]
  omega
def sT (ts : List T3) : List T3 := ts.mergeSort lx
theorem sT_perm (l : List T3) : (sT l).Perm l := List.mergeSort_perm _ _
theorem sT_sorted (l : List T3) : (sT l).Pairwise fun a b => lx a b = true := List.pairwise_mergeSort (le := lx) lx_trans lx_total l
theorem sT_length (l : List T3) : (sT l).length = l.length := (sT_perm l).length_eq
theorem sT_mem (l : List T3) (x : T3) : x ∈ sT l ↔ x ∈ l := (sT_perm l).mem_iff
theorem sT_self {l : List T3} (h : l.Pairwise fun a b => lx a b = true) : sT l = l := List.mergeSort_of_pairwise h
theorem sT_idem (l : List T3) : sT (sT l) = sT l := sT_self (sT_sorted l)
theorem all_t {q : PyData → Bool} (h : ∀ t, q (tP t) = true) (l : List T3) : (l.map tP).all q = true := by
  rw [List.all_eq_true]
  intro x hx
  obtain ⟨i, _, rfl⟩ := List.mem_map.mp hx
  exact h i
theorem toPys_t : ∀ l : List T3, toPys (l.map tD) = some (l.map tP)
  | [] => rfl
  | x :: l => by
    rw [List.map_cons, toPys, toPys_t l]
    rfl
theorem zip_t : ∀ l : List T3, (l.map tD).zip (l.map tP) = l.map fun i => (tD i, tP i)
  | [] => rfl
  | x :: l => by
    rw [List.map_cons, List.map_cons, List.zip_cons_cons, zip_t l]
    rfl
theorem sortL_t (l : List T3) : sortL (l.map tD) (l.map tP) = (sT l).map tD := by
  unfold sortL sT
  rw [zip_t]
  have h := List.map_mergeSort (r := lx) (s := PySem.W.dataLe false fun b : D × PyData => b.2) (f := fun i : T3 => (tD i, tP i)) (l := l) fun a _ b _ => (le_t a b).symm
  rw [← h, List.map_map]
  rfl
theorem sort_t (d : D) (l : List T3) (h : isSq d (l.map tD)) : sortDF [d] = some (.lst ((sT l).map tD)) := by
  have e : seqLT d = some (l.map tD) := by rcases h with rfl | rfl <;> rfl
  have c : (allAlikeB (l.map tP) && (sortableB (l.map tP) && depB (l.map tP))) = true := by
    have c1 : allAlikeB (l.map tP) = true := all_t (fun t => all_t (fun u => rfl) l) l
    have c2 : sortableB (l.map tP) = true := by
      unfold sortableB
      rw [Bool.or_eq_true]
      left
      exact all_t (fun t => rfl) l
    have c3 : depB (l.map tP) = true := all_t (fun t => rfl) l
    rw [c1, c2, c3]; rfl
  simp only [sortDF, e, toPys_t, c, if_true, sortL_t]
/-! equality -/
theorem eqv_t (a b : T3) : (tP a).eqv (tP b) = decide (a = b) := by
  obtain ⟨a1, a2, a3⟩ := a
  obtain ⟨b1, b2, b3⟩ := b
  simp [tP, PyData.eqv, PyData.eqvAll]
  try (rw [Bool.eq_iff_iff]; simp)
theorem eqvs_t : ∀ l m : List T3, PyData.eqvAll (l.map tP) (m.map tP) = decide (l = m)
  | [], [] => by simp [PyData.eqvAll]
  | [], _ :: _ => by simp [PyData.eqvAll]
  | _ :: _, [] => by simp [PyData.eqvAll]
  | a :: l, b :: m => by simp [PyData.eqvAll, eqv_t, eqvs_t l m]
theorem lay_t : ∀ l : List T3, PyData.canLayAll0 (l.map tP) = true
  | [] => by simp [PyData.canLayAll0]
  | a :: l => by simp [PyData.canLayAll0, lay_t l, tP, PyData.canLay0]
theorem dep_t : ∀ l : List T3, PyData.depthAll (l.map tP) ≤ 2
  | [] => by simp [PyData.depthAll]
  | a :: l => by
    have := dep_t l
    simp [PyData.depthAll, tP, PyData.depth] at this ⊢
    omega
theorem eqF_t (l m : List T3) : eqF (.tup (l.map tD)) (.tup (m.map tD)) = some (decide (l = m)) := by
  have h : ∀ l : List T3, SeqAt.shaped (.tuple (l.map tP)) = true := fun l => by
    have := dep_t l
    simp [SeqAt.shaped, PyData.canLay0, lay_t, PyData.depth]
    omega
  simp [eqF, toPy, toPys_t, h, PyData.eqv, eqvs_t]
/-! rising -/
def prT (l : List T3) : List (T3 × T3) := l.zip l.tail
theorem zip_prT (l m : List T3) : List.zipWith (fun x y => D.tup [x, y]) (l.map tD) (m.map tD) = (l.zip m).map fun p => D.tup [tD p.1, tD p.2] := by
  simp only [List.zipWith_map, List.zip, List.map_zipWith]
theorem cut_t (l : List T3) : cutF (some 1) none (.tup (l.map tD)) = some (.tup (l.tail.map tD)) := by
  have h : HT.sIx (l.map tD).length 0 (some 1) = min 1 (l.map tD).length := HT.sIx_nat (l.map tD).length 0 1
  have h0 : HT.sIx (l.map tD).length (l.map tD).length none = (l.map tD).length := rfl
  simp only [cutF, h, h0, take_drop1, List.map_tail]
theorem rist_lc (v : D) (s1 s2 : Sl) (f1 : Fr s1) (f2 : Fr s2) : ∀ l : List (T3 × T3), lcF [1, 2] (tupX 2 (consG (putG 1) (consG (putG 2) nilG))) tYesF (mBin (fun x y => (leTF x y).map D.bl) (mOwn 1) (mOwn 2)) (l.map fun p => D.tup [tD p.1, tD p.2]) [.va v, s1, s2] = .ok (l.map fun p => .bl (lx p.1 p.2)) [.va v, s1, s2]
  | [] => rfl
  | x :: l => by
    have ih := rist_lc v s1 s2 f1 f2 l
    rw [List.map_cons, lcF]
    simp [free_, f1.isOw, f2.isOw, enterE, wipeE, tYesF, tupX, consG, nilG, leT_t, backE, f1.back, f2.back, ih]
def rT (l : List T3) : Bool := (prT l).all fun p => lx p.1 p.2
theorem rist_ok (l : List T3) (hl : l.length ≤ 1000) : fn_is_rising [.va (.tup (l.map tD))] = .ok (.bl (rT l)) [.un] := by
  have hz : (prT l).length ≤ line := small_line (by unfold prT; simp; omega)
  have e := fun v => rist_lc v .un .un .un .un (prT l)
  have c := cut_t l
  have z := zip_prT l l.tail
  have hz2 : (List.map (fun p : T3 × T3 => D.tup [tD p.1, tD p.2]) (prT l)).length ≤ line := by simpa using hz
  unfold rT
  unfold prT at *
  rw [List.map_tail] at c z
  simp [fn_is_rising, fnOf, b_is_rising, lZip, mCut, oSome, oNone, asI, c, z, e, allF, bools_map2 (fun p : T3 × T3 => lx p.1 p.2), outsOf, List.range_succ, Function.comp_def]
  rw [if_pos (Nat.le_succ_of_le (small_line hl))]
  simp [allF, bools_map2 (fun p : T3 × T3 => lx p.1 p.2), outsOf, List.range_succ, Function.comp_def]
theorem rT_pair : ∀ l : List T3, rT l = true → l.Pairwise fun a b => lx a b = true
  | [], _ => .nil
  | [_], _ => by simp
  | a :: b :: l, h => by
    have h' : (lx a b && rT (b :: l)) = true := h
    rw [Bool.and_eq_true] at h'
    have ih := rT_pair (b :: l) h'.2
    refine List.pairwise_cons.mpr ⟨fun c hc => ?_, ih⟩
    rcases List.mem_cons.mp hc with rfl | hc
    · exact h'.1
    · exact lx_trans _ _ _ h'.1 ((List.pairwise_cons.mp ih).1 c hc)
theorem rT_of : ∀ l : List T3, (l.Pairwise fun a b => lx a b = true) → rT l = true
  | [], _ => rfl
  | [_], _ => rfl
  | a :: b :: l, h => by
    have ih := rT_of (b :: l) (List.pairwise_cons.mp h).2
    have hab := (List.pairwise_cons.mp h).1 b (by simp)
    show (lx a b && rT (b :: l)) = true
    rw [ih, hab]
    rfl
theorem rT_eq (l : List T3) : rT l = decide (l = sT l) := by
  rw [Bool.eq_iff_iff, decide_eq_true_eq]
  exact ⟨fun h => (sT_self (rT_pair l h)).symm, fun h => rT_of l (h ▸ sT_sorted l)⟩
end K10f
set_option Elab.async false
set_option linter.all false
set_option maxRecDepth 100000
set_option maxHeartbeats 4000000
namespace K10f
open PySem PySem.Spec PyProof.Rows L2 Mp K10
theorem flat_ints : ∀ l : List Int, (iL l).all flatD = true
  | [] => rfl
  | x :: l => by rw [iL_cons, List.all_cons, flat_ints l]; rfl
theorem any_ints (k : Int) : ∀ l : List Int, (iL l).any (fun y => eqD y (.int k)) = decide (k ∈ l)
  | [] => by simp [iL]
  | x :: l => by
    rw [iL_cons, List.any_cons, any_ints k l]
    have e : eqD (.int x) (.int k) = decide (x = k) := rfl
    rw [e]
    by_cases h : x = k <;> by_cases h2 : k ∈ l <;> simp [h, h2, eq_comm]
    intro q
    exact h q.symm
theorem in_ints (neg : Bool) (k : Int) (l : List Int) : inF neg (.int k) (.lst (iL l)) = some (.bl (if neg = true then !decide (k ∈ l) else decide (k ∈ l))) := by
  have h : flatD (.int k) = true ∧ (iL l).all flatD = true := ⟨rfl, flat_ints l⟩
  simp only [inF, seqF]
  rw [if_pos h, any_ints]
  try (cases neg <;> simp)
theorem kinds_lc (v : D) (s1 : Sl) (f1 : Fr s1) : ∀ ts : List T3, lcF [1] (putG 1) tYesF (mBin atF (mOwn 1) (vOf (mC (.int 0)))) (ts.map tD) [.va v, s1] = .ok (iL (ts.map (·.1))) [.va v, s1]
  | [] => rfl
  | x :: ts => by
    have ih := kinds_lc v s1 f1 ts
    rw [List.map_cons, lcF]
    simp [free_, f1.isOw, enterE, wipeE, tYesF, tD, atF, at0, backE, f1.back, ih, iL_cons]
theorem intsOf_iL : ∀ l : List Int, intsOf (iL l) = some l
  | [] => rfl
  | x :: l => by
    rw [iL_cons]
    simp [intsOf, intsOf_iL l]
theorem kinds_ok (ts : List T3) (hl : ts.length ≤ 60) : fn_kinds_of [.va (.lst (ts.map tD))] = .ok (.lst (iL (setI (ts.map (·.1)).reverse))) [.un] := by
  have e := fun v => kinds_lc v .un .un ts
  have h1 : ts.length ≤ 4000 := by omega
  have h2 : (dd (ts.map (·.1)).reverse).length < 64 := by
    have := @dd_len (ts.map (·.1)).reverse
    simp at this
    omega
  generalize ts.map (·.1) = l at e h2 ⊢
  simp [fn_kinds_of, fnOf, b_kinds_of, mSS, lSeq, seqF, h1, e, ssF, intsOf_iL, h2, outsOf, List.range_succ]
  rfl
theorem setI_mem (l : List Int) (k : Int) : k ∈ setI l ↔ k ∈ l := by
  unfold setI
  rw [(sortI_perm _).mem_iff, dd_mem]
/-! ### what a round brings -/
def step1 (ks : List K5) (ts : List T3) (k : Int) : List T3 := match ks[k.toNat]? with
  | some r => if (r.j && decide (k ∈ ts.map (·.1))) = true then ts else ts ++ [(k, r.w, r.p)]
  | none => ts
theorem step1_len (ks : List K5) (ts : List T3) (k : Int) : (step1 ks ts k).length ≤ ts.length + 1 := by
  unfold step1
  split
  · split <;> simp
  · omega
def mbody : MS :=
    (mSeq (mSet 10 (mBin atF (vOf (mAtt "Desk" 1 (mVar 0))) (mOwn 9)))
    (mIfS (mNot (mAnd (mTest (mBin atF (mOwn 10) (vOf (mC (.int 4))))) (mLendT 8 (mTest (mBin (inF false) (mOwn 9) (vOf (mFn fn_kinds_of (aCons (mOwn 8) aNil)))))))) (mAppend 8 (mTup (aCons (mOwn 9) (aCons (vOf (mBin atF (mOwn 10) (vOf (mC (.int 0))))) (aCons (vOf (mBin atF (mOwn 10) (vOf (mC (.int 1))))) aNil))))) mNext))
def deskD (n : Int) (ks : List K5) : D := .obj "Desk" [.int n, .tup (ks.map kD)]
theorem att_desk (n : Int) (ks : List K5) : attF "Desk" 1 (deskD n ks) = some (.tup (ks.map kD)) := by simp [attF, deskD]
theorem kget (ks : List K5) (k : Int) (h0 : 0 ≤ k) (h1 : k < ks.length) : ∃ r, ks[k.toNat]? = some r ∧ atI (ks.map kD) k = some (kD r) := by
  obtain ⟨n, rfl⟩ := Int.eq_ofNat_of_zero_le h0
  have hn : n < ks.length := by omega
  refine ⟨ks[n], by simp [hn], atN n (by simp [hn])⟩
theorem call_kinds (ts : List T3) (hl : ts.length ≤ 60) (e : Mp.Env) : callF fn_kinds_of [.va (.lst (ts.map tD))] e = .ok (.lst (iL (setI (ts.map (·.1)).reverse))) e := call_va1 _ _ _ e .un (kinds_ok ts hl)
theorem mstep (n : Int) (ks : List K5) (d1 d2 d3 d4 d5 d6 d7 : D) (ts : List T3) (hl : ts.length ≤ 50) (k : Int) (h0 : 0 ≤ k) (h1 : k < ks.length) (s10 : Sl) (f10 : Fr s10) :
    ∃ t10, Fr t10 ∧ mbody [.va (deskD n ks), .va d1, .va d2, .va d3, .va d4, .va d5, .va d6, .va d7, .ow false (ts.map tD), .va (.int k), s10] = .nx [.va (deskD n ks), .va d1, .va d2, .va d3, .va d4, .va d5, .va d6, .va d7, .ow false ((step1 ks ts k).map tD), .va (.int k), t10] := by
  obtain ⟨r, hr, ha⟩ := kget ks k h0 h1
  refine ⟨.va (kD r), .va _, ?_⟩
  have A1 : mSet 10 (mBin atF (vOf (mAtt "Desk" 1 (mVar 0))) (mOwn 9)) [.va (deskD n ks), .va d1, .va d2, .va d3, .va d4, .va d5, .va d6, .va d7, .ow false (ts.map tD), .va (.int k), s10] = .nx [.va (deskD n ks), .va d1, .va d2, .va d3, .va d4, .va d5, .va d6, .va d7, .ow false (ts.map tD), .va (.int k), .va (kD r)] := by
    cases f10 <;> simp [mAtt, att_desk, atF, ha]
  unfold mbody
  rw [nx_seq A1]
  have hin := in_ints false k (setI (ts.map (·.1)).reverse)
  have hmem : (k ∈ setI (ts.map (·.1)).reverse) = (k ∈ ts.map (·.1)) := by rw [setI_mem, List.mem_reverse]
  simp only [hmem] at hin
  have hlt : ts.length < 16777216 := by omega
  have call := call_kinds ts (by omega)
  unfold step1
  rw [hr]
  simp only
  generalize hq : decide (k ∈ ts.map (·.1)) = q at hin ⊢
  cases hj : r.j <;> cases q <;> simp [mAnd, mLendT, lendE, onlyVa, kD, hj, atF, at4, at0, at1, call, hin, mAppend, hlt, line, tD]
def comeT (ks : List K5) (ts : List T3) (l : List Int) : List T3 := l.foldl (step1 ks) ts
theorem mloop (n : Int) (ks : List K5) (d1 d2 d3 d4 d5 d6 d7 : D) : ∀ (l : List Int) (ts : List T3) (s9 s10 : Sl), ts.length + l.length ≤ 50 → (∀ x ∈ l, 0 ≤ x ∧ x < ks.length) → Fr s9 → Fr s10 →
    ∃ t9 t10, Fr t9 ∧ Fr t10 ∧ forF (putG 9) mbody (iL l) [.va (deskD n ks), .va d1, .va d2, .va d3, .va d4, .va d5, .va d6, .va d7, .ow false (ts.map tD), s9, s10] = .nx [.va (deskD n ks), .va d1, .va d2, .va d3, .va d4, .va d5, .va d6, .va d7, .ow false ((comeT ks ts l).map tD), t9, t10]
  | [], ts, s9, s10, _, _, f9, f10 => ⟨s9, s10, f9, f10, rfl⟩
  | k :: l, ts, s9, s10, hl, hk, f9, f10 => by
    have hl' : ts.length + (l.length + 1) ≤ 50 := hl
    obtain ⟨h0, h1⟩ := hk k (by simp)
    obtain ⟨t10, g10, e⟩ := mstep n ks d1 d2 d3 d4 d5 d6 d7 ts (by omega) k h0 h1 s10 f10
    have := step1_len ks ts k
    obtain ⟨u9, u10, q9, q10, e2⟩ := mloop n ks d1 d2 d3 d4 d5 d6 d7 l (step1 ks ts k) (.va (.int k)) t10 (by omega) (fun x hx => hk x (by simp [hx])) (.va _) g10
    refine ⟨u9, u10, q9, q10, ?_⟩
    have p : putG 9 (.int k) [.va (deskD n ks), .va d1, .va d2, .va d3, .va d4, .va d5, .va d6, .va d7, .ow false (ts.map tD), s9, s10] = some [.va (deskD n ks), .va d1, .va d2, .va d3, .va d4, .va d5, .va d6, .va d7, .ow false (ts.map tD), .va (.int k), s10] := by
      cases f9 <;> simp
    rw [iL_cons, forF, p]
    simp only [e]
    exact e2
theorem comeT_len (ks : List K5) : ∀ (l : List Int) (ts : List T3), (comeT ks ts l).length ≤ ts.length + l.length
  | [], ts => by simp [comeT]
  | k :: l, ts => by
    have h1 := comeT_len ks l (step1 ks ts k)
    have h2 := step1_len ks ts k
    show (comeT ks (step1 ks ts k) l).length ≤ _
    simp only [List.length_cons]
    omega
/-- the law's own -/
def lbody : MS :=
    (mSeq (mSet 6 (mBin atF (vOf (mBin atF (vOf (mBin atF (mOwn 0) (vOf (mC (.int 0))))) (vOf (mC (.int 1))))) (mOwn 5)))
    (mIfS (mOr (mNot (mTest (mBin atF (mOwn 6) (vOf (mC (.int 4)))))) (mLendT 4 (mTest (mBin (inF true) (mOwn 5) (vOf (mL (lLc [7] (lSeq (mVar 4)) (putG 7) tYesF (mBin atF (mOwn 7) (vOf (mC (.int 0))))))))))) (mAppend 4 (mTup (aCons (mOwn 5) (aCons (vOf (mBin atF (mOwn 6) (vOf (mC (.int 0))))) (aCons (vOf (mBin atF (mOwn 6) (vOf (mC (.int 1))))) aNil))))) mNext))
def caseD (n : Int) (ks : List K5) (f : D) : D := .tup [.tup [.int n, .tup (ks.map kD)], f]
theorem one_lc (v0 v1 v2 v3 v4 v5 v6 : D) : ∀ ts : List T3, lcF [7] (putG 7) tYesF (mBin atF (mOwn 7) (vOf (mC (.int 0)))) (ts.map tD) [.va v0, .va v1, .va v2, .va v3, .va v4, .va v5, .va v6, .un] = .ok (iL (ts.map (·.1))) [.va v0, .va v1, .va v2, .va v3, .va v4, .va v5, .va v6, .un]
  | [] => rfl
  | x :: ts => by
    have ih := one_lc v0 v1 v2 v3 v4 v5 v6 ts
    rw [List.map_cons, lcF]
    simp [free_, isOw, enterE, wipeE, tYesF, tD, atF, at0, backE, ih, iL_cons]
theorem lstep (n : Int) (ks : List K5) (f d1 d2 d3 : D) (ts : List T3) (hl : ts.length ≤ 50) (k : Int) (h0 : 0 ≤ k) (h1 : k < ks.length) (s6 : Sl) (f6 : Fr s6) :
    ∃ t6, Fr t6 ∧ lbody [.va (caseD n ks f), .va d1, .va d2, .va d3, .ow false (ts.map tD), .va (.int k), s6, .un] = .nx [.va (caseD n ks f), .va d1, .va d2, .va d3, .ow false ((step1 ks ts k).map tD), .va (.int k), t6, .un] := by
  obtain ⟨r, hr, ha⟩ := kget ks k h0 h1
  refine ⟨.va (kD r), .va _, ?_⟩
  have A1 : mSet 6 (mBin atF (vOf (mBin atF (vOf (mBin atF (mOwn 0) (vOf (mC (.int 0))))) (vOf (mC (.int 1))))) (mOwn 5)) [.va (caseD n ks f), .va d1, .va d2, .va d3, .ow false (ts.map tD), .va (.int k), s6, .un] = .nx [.va (caseD n ks f), .va d1, .va d2, .va d3, .ow false (ts.map tD), .va (.int k), .va (kD r), .un] := by
    cases f6 <;> simp [caseD, atF, at0, at1, ha]
  unfold lbody
  rw [nx_seq A1]
  have hin := in_ints true k (ts.map (·.1))
  have hlt : ts.length < 16777216 := by omega
  have hle : ts.length ≤ 16777216 := by omega
  have call := fun v0 v1 v2 v3 v4 v5 v6 => one_lc v0 v1 v2 v3 v4 v5 v6 ts
  unfold step1
  rw [hr]
  simp only
  generalize ts.map (·.1) = l at hin call ⊢
  generalize hq : decide (k ∈ l) = q at hin ⊢
  cases hj : r.j <;> cases q <;> simp [mOr, mLendT, lendE, onlyVa, kD, hj, atF, at4, at0, at1, lSeq, seqF, hle, call, hin, mAppend, hlt, line, tD]
theorem lloop (n : Int) (ks : List K5) (f d1 d2 d3 : D) : ∀ (l : List Int) (ts : List T3) (s5 s6 : Sl), ts.length + l.length ≤ 50 → (∀ x ∈ l, 0 ≤ x ∧ x < ks.length) → Fr s5 → Fr s6 →
    ∃ t5 t6, Fr t5 ∧ Fr t6 ∧ forF (putG 5) lbody (iL l) [.va (caseD n ks f), .va d1, .va d2, .va d3, .ow false (ts.map tD), s5, s6, .un] = .nx [.va (caseD n ks f), .va d1, .va d2, .va d3, .ow false ((comeT ks ts l).map tD), t5, t6, .un]
  | [], ts, s5, s6, _, _, f5, f6 => ⟨s5, s6, f5, f6, rfl⟩
  | k :: l, ts, s5, s6, hl, hk, f5, f6 => by
    have hl' : ts.length + (l.length + 1) ≤ 50 := hl
    obtain ⟨h0, h1⟩ := hk k (by simp)
    obtain ⟨t6, g6, e⟩ := lstep n ks f d1 d2 d3 ts (by omega) k h0 h1 s6 f6
    have := step1_len ks ts k
    obtain ⟨u5, u6, q5, q6, e2⟩ := lloop n ks f d1 d2 d3 l (step1 ks ts k) (.va (.int k)) t6 (by omega) (fun x hx => hk x (by simp [hx])) (.va _) g6
    refine ⟨u5, u6, q5, q6, ?_⟩
    have p : putG 5 (.int k) [.va (caseD n ks f), .va d1, .va d2, .va d3, .ow false (ts.map tD), s5, s6, .un] = some [.va (caseD n ks f), .va d1, .va d2, .va d3, .ow false (ts.map tD), .va (.int k), s6, .un] := by
      cases f5 <;> simp
    rw [iL_cons, forF, p]
    simp only [e]
    exact e2
end K10f
set_option Elab.async false
set_option linter.all false
set_option maxRecDepth 100000
set_option maxHeartbeats 4000000
namespace K10f
open PySem PySem.Spec PyProof.Rows L2 Mp K10
def streamD (f : Flow) : D := .obj "Stream" [fD f]
theorem att_stream (f : Flow) : attF "Stream" 0 (streamD f) = some (.tup (f.map sD)) := by simp [attF, streamD, fD]
def scD (s : Int) (ts : List T3) : D := .tup [.int s, .tup (ts.map tD)]
theorem st_get (f : Flow) (s : Nat) (st : St1) (h : f[s]? = some st) : atI (f.map sD) (s : Int) = some (sD st) := atN s (by simp [h])
theorem arc_get (st : St1) (j : Nat) (a : Arc) (h : st[j]? = some a) : atI (st.map aD) (j : Int) = some (aD a) := atN j (by simp [h])
theorem moment_ok (n : Int) (ks : List K5) (f : Flow) (s : Nat) (ts : List T3) (j : Nat) (st : St1) (a : Arc) (hs : f[s]? = some st) (ha : st[j]? = some a) (hk : ∀ x ∈ a.k, 0 ≤ x ∧ x < ks.length) (hl : ts.length + a.k.length ≤ 50) :
    fn_moment_by [.va (deskD n ks), .va (streamD f), .va (scD s ts), .va (.int j)] = .ok (.tup [.int a.n, .tup ((sT (comeT ks ts a.k)).map tD)]) [.un, .un, .un, .un] := by
  unfold fn_moment_by fnOf b_moment_by
  have lo : [Sl.va (deskD n ks), Sl.va (streamD f), Sl.va (scD s ts), Sl.va (.int j)].length = 4 := rfl
  rw [if_pos lo]
  have ap : [Sl.va (deskD n ks), Sl.va (streamD f), Sl.va (scD s ts), Sl.va (.int j)] ++ List.replicate (11 - 4) Sl.un = [.va (deskD n ks), .va (streamD f), .va (scD s ts), .va (.int j), .un, .un, .un, .un, .un, .un, .un] := rfl
  rw [ap]
  have A1 : mAsg (tupX 2 (consG (putG 4) (consG (putG 5) nilG))) (mVar 2) [.va (deskD n ks), .va (streamD f), .va (scD s ts), .va (.int j), .un, .un, .un, .un, .un, .un, .un] = .nx [.va (deskD n ks), .va (streamD f), .va (scD s ts), .va (.int j), .va (.int s), .va (.tup (ts.map tD)), .un, .un, .un, .un, .un] := by
    simp [mAsg, tupX, consG, nilG, scD]
  have A2 : mAsg (tupX 2 (consG (putG 6) (consG (putG 7) nilG))) (mBin atF (vOf (mBin atF (vOf (mAtt "Stream" 0 (mVar 1))) (mOwn 4))) (mOwn 3)) [.va (deskD n ks), .va (streamD f), .va (scD s ts), .va (.int j), .va (.int s), .va (.tup (ts.map tD)), .un, .un, .un, .un, .un] =
      .nx [.va (deskD n ks), .va (streamD f), .va (scD s ts), .va (.int j), .va (.int s), .va (.tup (ts.map tD)), .va (.tup (iL a.k)), .va (.int a.n), .un, .un, .un] := by
    simp [mAsg, tupX, consG, nilG, mAtt, att_stream, atF, st_get f s st hs, sD, arc_get st j a ha, aD]
  have hlt : ts.length ≤ 16777216 := by omega
  have A3 : mSetO 8 (lCall listF (aCons (mOwn 5) aNil)) [.va (deskD n ks), .va (streamD f), .va (scD s ts), .va (.int j), .va (.int s), .va (.tup (ts.map tD)), .va (.tup (iL a.k)), .va (.int a.n), .un, .un, .un] =
      .nx [.va (deskD n ks), .va (streamD f), .va (scD s ts), .va (.int j), .va (.int s), .va (.tup (ts.map tD)), .va (.tup (iL a.k)), .va (.int a.n), .ow false (ts.map tD), .un, .un] := by
    simp [lCall, listF, ownG, hlt, line]
  obtain ⟨t9, t10, g9, g10, e⟩ := mloop n ks (streamD f) (scD s ts) (.int j) (.int s) (.tup (ts.map tD)) (.tup (iL a.k)) (.int a.n) a.k ts .un .un hl hk .un .un
  have A4 : mFor (lSeq (mVar 6)) (putG 9) mbody [.va (deskD n ks), .va (streamD f), .va (scD s ts), .va (.int j), .va (.int s), .va (.tup (ts.map tD)), .va (.tup (iL a.k)), .va (.int a.n), .ow false (ts.map tD), .un, .un] =
      .nx [.va (deskD n ks), .va (streamD f), .va (scD s ts), .va (.int j), .va (.int s), .va (.tup (ts.map tD)), .va (.tup (iL a.k)), .va (.int a.n), .ow false ((comeT ks ts a.k).map tD), t9, t10] := by
    rw [mFor_s]
    simp [lSeq, seqF, e]
  unfold mbody at A4
  rw [nx_seq A1, nx_seq A2, nx_seq A3, nx_seq A4]
  have srt := sort_t (.lst ((comeT ks ts a.k).map tD)) (comeT ks ts a.k) (.inr rfl)
  simp [srt, tupF, outsOf, List.range_succ, line]
theorem lcome_ok (n : Int) (ks : List K5) (f : Flow) (s : Nat) (ts : List T3) (j : Nat) (st : St1) (a : Arc) (hs : f[s]? = some st) (ha : st[j]? = some a) (hk : ∀ x ∈ a.k, 0 ≤ x ∧ x < ks.length) (hl : ts.length + a.k.length ≤ 50) :
    fn_law_come [.va (caseD n ks (fD f)), .va (scD s ts), .va (.int j)] = .ok (.tup [.int a.n, .tup ((sT (comeT ks ts a.k)).map tD)]) [.un, .un, .un] := by
  unfold fn_law_come fnOf b_law_come
  have lo : [Sl.va (caseD n ks (fD f)), Sl.va (scD s ts), Sl.va (.int j)].length = 3 := rfl
  rw [if_pos lo]
  have ap : [Sl.va (caseD n ks (fD f)), Sl.va (scD s ts), Sl.va (.int j)] ++ List.replicate (8 - 3) Sl.un = [.va (caseD n ks (fD f)), .va (scD s ts), .va (.int j), .un, .un, .un, .un, .un] := rfl
  rw [ap]
  have A1 : mSet 3 (mBin atF (vOf (mBin atF (vOf (mBin atF (mOwn 0) (vOf (mC (.int 1))))) (vOf (mBin atF (mOwn 1) (vOf (mC (.int 0))))))) (mOwn 2)) [.va (caseD n ks (fD f)), .va (scD s ts), .va (.int j), .un, .un, .un, .un, .un] =
      .nx [.va (caseD n ks (fD f)), .va (scD s ts), .va (.int j), .va (aD a), .un, .un, .un, .un] := by
    simp [atF, caseD, scD, at0, at1, fD, st_get f s st hs, sD, arc_get st j a ha]
  have hlt : ts.length ≤ 16777216 := by omega
  have A2 : mSetO 4 (lCall listF (aCons (vOf (mBin atF (mOwn 1) (vOf (mC (.int 1))))) aNil)) [.va (caseD n ks (fD f)), .va (scD s ts), .va (.int j), .va (aD a), .un, .un, .un, .un] =
      .nx [.va (caseD n ks (fD f)), .va (scD s ts), .va (.int j), .va (aD a), .ow false (ts.map tD), .un, .un, .un] := by
    simp [lCall, listF, ownG, hlt, line, atF, scD, at1]
  obtain ⟨t5, t6, g5, g6, e⟩ := lloop n ks (fD f) (scD s ts) (.int j) (aD a) a.k ts .un .un hl hk .un .un
  have A3 : mFor (lSeq (mBin atF (mOwn 3) (vOf (mC (.int 0))))) (putG 5) lbody [.va (caseD n ks (fD f)), .va (scD s ts), .va (.int j), .va (aD a), .ow false (ts.map tD), .un, .un, .un] =
      .nx [.va (caseD n ks (fD f)), .va (scD s ts), .va (.int j), .va (aD a), .ow false ((comeT ks ts a.k).map tD), t5, t6, .un] := by
    rw [mFor_s]
    unfold aD at e ⊢
    simp [lSeq, seqF, atF, at0, e]
  unfold lbody at A3
  rw [nx_seq A1, nx_seq A2, nx_seq A3]
  have srt := sort_t (.lst ((comeT ks ts a.k).map tD)) (comeT ks ts a.k) (.inr rfl)
  simp [srt, tupF, outsOf, List.range_succ, line, atF, aD, at1]
/-! ### tickets read -/
structure OkT (ks : List K5) (t : T3) : Prop where
  k : 0 ≤ t.1 ∧ t.1 < ks.length
  r : ∀ r, ks[t.1.toNat]? = some r → (1 ≤ t.2.1 ∧ t.2.1 ≤ r.w) ∧ 1 ≤ t.2.2 ∧ t.2.2 ≤ r.p
def okT (ks : List K5) (t : T3) : Bool := decide (0 ≤ t.1) && (decide (t.1 < ks.length) && match ks[t.1.toNat]? with
  | some r => (decide (1 ≤ t.2.1) && decide (t.2.1 ≤ r.w)) && (decide (1 ≤ t.2.2) && decide (t.2.2 ≤ r.p))
  | none => false)
theorem ticket_ok (n : Int) (ks : List K5) (d : D) (t : T3) (hd : isSq d [.int t.1, .int t.2.1, .int t.2.2]) :
    fn_plain_ticket [.va (deskD n ks), .va d] = .ok (if okT ks t = true then tD t else .non) [.un, .un] := by
  have L := length_ok d _ hd 3 3
  have c1 := fun e => call_va3 fn_has_length d (.int 3) (.int 3) _ e .un .un .un L
  have c2 := fun v lo hi e => call_va3 fn_is_between (.int v) (.int lo) (.int hi) _ e .un .un .un (between_int v lo hi)
  unfold fn_plain_ticket fnOf b_plain_ticket
  have lo : [Sl.va (deskD n ks), Sl.va d].length = 2 := rfl
  rw [if_pos lo]
  have ap : [Sl.va (deskD n ks), Sl.va d] ++ List.replicate (6 - 2) Sl.un = [.va (deskD n ks), .va d, .un, .un, .un, .un] := rfl
  rw [ap]
  have A1 : mIfS (mNot (mTest (mFn fn_has_length (aCons (mOwn 1) (aCons (vOf (mC (.int 3))) (aCons (vOf (mC (.int 3))) aNil)))))) (mRet (mC .non)) mNext [.va (deskD n ks), .va d, .un, .un, .un, .un] = .nx [.va (deskD n ks), .va d, .un, .un, .un, .un] := by
    simp [c1]
  have A2 : mAsg (tupX 3 (consG (putG 2) (consG (putG 3) (consG (putG 4) nilG)))) (mVar 1) [.va (deskD n ks), .va d, .un, .un, .un, .un] = .nx [.va (deskD n ks), .va d, .va (.int t.1), .va (.int t.2.1), .va (.int t.2.2), .un] := by
    rcases hd with rfl | rfl <;> simp [mAsg, tupX, consG, nilG]
  rw [nx_seq A1, nx_seq A2]
  by_cases hk : 0 ≤ t.1 ∧ t.1 < ks.length
  · obtain ⟨r, hr, ha⟩ := kget ks t.1 hk.1 hk.2
    have A3 : mIfS (mNot (mTest (mFn fn_is_between (aCons (mOwn 2) (aCons (vOf (mC (.int 0))) (aCons (vOf (mBin subF (vOf (mCall lenF (aCons (vOf (mAtt "Desk" 1 (mVar 0))) aNil))) (vOf (mC (.int 1))))) aNil)))))) (mRet (mC .non)) mNext [.va (deskD n ks), .va d, .va (.int t.1), .va (.int t.2.1), .va (.int t.2.2), .un] = .nx [.va (deskD n ks), .va d, .va (.int t.1), .va (.int t.2.1), .va (.int t.2.2), .un] := by
      have h : 0 ≤ t.1 ∧ t.1 ≤ (ks.length : Int) - 1 := by omega
      simp [mAtt, att_desk, lenF, c2, h]
    have A4 : mSet 5 (mBin atF (vOf (mAtt "Desk" 1 (mVar 0))) (mOwn 2)) [.va (deskD n ks), .va d, .va (.int t.1), .va (.int t.2.1), .va (.int t.2.2), .un] = .nx [.va (deskD n ks), .va d, .va (.int t.1), .va (.int t.2.1), .va (.int t.2.2), .va (kD r)] := by
      simp [mAtt, att_desk, atF, ha]
    rw [nx_seq A3, nx_seq A4]
    by_cases h1 : 1 ≤ t.2.1 ∧ t.2.1 ≤ r.w
    · by_cases h2 : 1 ≤ t.2.2 ∧ t.2.2 ≤ r.p
      · have e : okT ks t = true := by
          unfold okT
          rw [hr]
          simp
          omega
        simp [e, h1, h2, mOr, kD, atF, at0, at1, c2, outsOf, List.range_succ, line, tD]
      · have e : okT ks t = false := by
          simp [okT, hr]
          omega
        simp [e, h1, h2, mOr, kD, atF, at0, at1, c2, outsOf, List.range_succ]
    · have e : okT ks t = false := by
        simp [okT, hr]
        omega
      simp [e, h1, mOr, kD, atF, at0, at1, c2, outsOf, List.range_succ]
  · have e : okT ks t = false := by
      simp [okT]
      omega
    have h : ¬(0 ≤ t.1 ∧ t.1 ≤ (ks.length : Int) - 1) := by omega
    simp [e, mAtt, att_desk, lenF, c2, h, outsOf, List.range_succ]
end K10f
set_option Elab.async false
set_option linter.all false
set_option maxRecDepth 100000
set_option maxHeartbeats 4000000
namespace K10f
open PySem PySem.Spec PyProof.Rows L2 Mp K10
def oD : Option T3 → D
  | some t => tD t
  | none => .non
def oP : Option T3 → PyData
  | some t => tP t
  | none => .none
theorem ap6 (x d : D) : [Sl.va x, Sl.va d] ++ List.replicate (6 - 2) Sl.un = [.va x, .va d, .un, .un, .un, .un] := rfl
theorem ticket_len (n : Int) (ks : List K5) (d : D) (h : fn_has_length [.va d, .va (.int 3), .va (.int 3)] = .ok (.bl false) [.un, .un, .un]) : fn_plain_ticket [.va (deskD n ks), .va d] = .ok .non [.un, .un] := by
  have c1 := fun e => call_va3 fn_has_length d (.int 3) (.int 3) _ e .un .un .un h
  simp [fn_plain_ticket, fnOf, b_plain_ticket, c1, outsOf, List.range_succ]
theorem ticket_bool (n : Int) (ks : List K5) (b : Bool) (x y : D) : fn_plain_ticket [.va (deskD n ks), .va (.tup [.bl b, x, y])] = .ok .non [.un, .un] := by
  have L := length_ok (.tup [.bl b, x, y]) _ (.inl rfl) 3 3
  have c1 := fun e => call_va3 fn_has_length (.tup [.bl b, x, y]) (.int 3) (.int 3) _ e .un .un .un L
  have c2 := fun v lo hi e => call_va3 fn_is_between (.bl v) (.int lo) (.int hi) _ e .un .un .un (between_bool v lo hi)
  simp [fn_plain_ticket, fnOf, b_plain_ticket, c1, mAsg, tupX, consG, nilG, mAtt, att_desk, lenF, c2, outsOf, List.range_succ]
/-! ### None in found -/
theorem eq_non (r : Option T3) : eqD (oD r) .non = r.isNone := by cases r <;> rfl
theorem toPys_o : ∀ rs : List (Option T3), toPys (rs.map oD) = some (rs.map oP)
  | [] => rfl
  | r :: rs => by
    rw [List.map_cons, toPys, toPys_o rs]
    cases r <;> rfl
theorem lay_o : ∀ l : List (Option T3), PyData.canLayAll0 (l.map oP) = true
  | [] => by simp [PyData.canLayAll0]
  | a :: l => by cases a <;> simp [PyData.canLayAll0, lay_o l, oP, tP, PyData.canLay0]
theorem eqv_non (r : Option T3) : (oP r).eqv .none = r.isNone := by cases r <;> simp [oP, tP, PyData.eqv]
theorem none_in (rs : List (Option T3)) : inTF false .non (.tup (rs.map oD)) = some (.bl (rs.any fun r => r.isNone)) := by
  have c : (PyData.canLayAll0 (rs.map oP) && (PyData.canLay0 .none && decide (PyData.depth .none ≤ 40))) = true := by rw [lay_o]; rfl
  have p : toPy .non = some .none := rfl
  by_cases h : (rs.map oD).all flatD = true
  · have e : inF false .non (.tup (rs.map oD)) = some (.bl ((rs.map oD).any fun y => eqD y .non)) := by
      simp only [inF, seqF]
      rw [if_pos ⟨rfl, h⟩]
      simp
    simp only [inTF, e, List.any_map, Function.comp_def, eq_non]
  · have e : inF false .non (.tup (rs.map oD)) = none := by
      simp only [inF, seqF]
      rw [if_neg (fun q => h q.2)]
    simp only [inTF, e, toPys_o, p, c, if_true, List.any_map, Function.comp_def, eqv_non]
    simp
/-! ### scenes read -/
def allS : List (Option T3) → Option (List T3)
  | [] => some []
  | none :: _ => none
  | some t :: rs => (allS rs).map (t :: ·)
theorem allS_none : ∀ rs : List (Option T3), allS rs = none → (rs.any fun r => r.isNone) = true
  | [], h => by cases h
  | none :: _, _ => rfl
  | some t :: rs, h => by
    simp [allS] at h
    simpa using allS_none rs h
theorem allS_some : ∀ (rs : List (Option T3)) (ts : List T3), allS rs = some ts → (rs.any fun r => r.isNone) = false ∧ rs.map oD = ts.map tD
  | [], ts, h => by cases h; exact ⟨rfl, rfl⟩
  | none :: _, _, h => by cases h
  | some t :: rs, ts, h => by
    simp [allS] at h
    obtain ⟨us, h1, rfl⟩ := h
    obtain ⟨a, b⟩ := allS_some rs us h1
    exact ⟨by simpa using a, by simp [b, oD]⟩
theorem tk_lc (n : Int) (ks : List K5) (d1 d2 d3 d4 d5 : D) (s6 : Sl) (f6 : Fr s6) : ∀ (ds : List D) (rs : List (Option T3)), ds.length = rs.length → (∀ (i : Nat) (d : D) (r : Option T3), ds[i]? = some d → rs[i]? = some r → fn_plain_ticket [.va (deskD n ks), .va d] = .ok (oD r) [.un, .un]) →
    lcF [7] (putG 7) tYesF (mFn fn_plain_ticket (aCons (mOwn 0) (aCons (mOwn 7) aNil))) ds [.va (deskD n ks), .va d1, .va d2, .va d3, .va d4, .va d5, s6, .un] = .ok (rs.map oD) [.va (deskD n ks), .va d1, .va d2, .va d3, .va d4, .va d5, s6, .un]
  | [], [], _, _ => rfl
  | [], _ :: _, h, _ => by simp at h
  | _ :: _, [], h, _ => by simp at h
  | d :: ds, r :: rs, hl, h => by
    have ih := tk_lc n ks d1 d2 d3 d4 d5 s6 f6 ds rs (by simpa using hl) fun i d r a b => h (i + 1) d r (by simpa using a) (by simpa using b)
    have c := fun e => call_va2 fn_plain_ticket (deskD n ks) d (oD r) e .un .un (h 0 d r rfl rfl)
    rw [lcF]
    simp [free_, isOw, enterE, wipeE, tYesF, f6.mark, c, backE, f6.back, ih]
theorem slen (f : Flow) : fn_Stream_len [.va (streamD f)] = .ok (.int f.length) [.un] := by
  simp [fn_Stream_len, fnOf, b_Stream__len, mAtt, att_stream, lenF, outsOf, List.range_succ]
theorem slenO (f : Flow) (hf : f.length ≤ 8) : lenOwn "Stream" fn_Stream_len [streamD f] = some (.int f.length) := by
  have e := slen f
  have h : (f.length : Int) ≤ 16777216 := by omega
  unfold streamD at e ⊢
  simp [lenOwn, e, h]
structure Good (n : Int) (ks : List K5) (f : Flow) : Prop where
  hn : 1 ≤ n ∧ n ≤ 3
  hk : 1 ≤ ks.length ∧ ks.length ≤ 3
  ok : OkK n ks
  hf : OkF f
  hb : ∀ s ∈ f, ∀ a ∈ s, ∀ x ∈ a.k, x < ks.length
def sceneR (ks : List K5) (f : Flow) (m s : Int) (rs : List (Option T3)) : D :=
  if (0 ≤ s ∧ s < f.length) ∧ (rs.length : Int) ≤ m then (match allS rs with
    | some ts => if rT ts = true then scD s ts else .non
    | none => .non) else .non
theorem scene_ok (n : Int) (ks : List K5) (f : Flow) (G : Good n ks f) (m : Int) (hm : m ≤ 60) (v w : D) (s : Int) (ds : List D) (rs : List (Option T3)) (hv : isSq v [.int s, w]) (hw : isSq w ds) (hl : ds.length = rs.length)
    (h : ∀ (i : Nat) (d : D) (r : Option T3), ds[i]? = some d → rs[i]? = some r → fn_plain_ticket [.va (deskD n ks), .va d] = .ok (oD r) [.un, .un]) :
    fn_plain_scene [.va (deskD n ks), .va (streamD f), .va v, .va (.int m)] = .ok (sceneR ks f m s rs) [.un, .un, .un, .un] := by
  have L2_ := fun e => call_va3 fn_has_length v (.int 2) (.int 2) _ e .un .un .un (length_ok v _ hv 2 2)
  have Lm := fun e => call_va3 fn_has_length w (.int 0) (.int m) _ e .un .un .un (length_ok w _ hw 0 m)
  have Bt := fun v lo hi e => call_va3 fn_is_between (.int v) (.int lo) (.int hi) _ e .un .un .un (between_int v lo hi)
  unfold fn_plain_scene fnOf b_plain_scene
  have lo : [Sl.va (deskD n ks), Sl.va (streamD f), Sl.va v, Sl.va (.int m)].length = 4 := rfl
  rw [if_pos lo]
  have ap : [Sl.va (deskD n ks), Sl.va (streamD f), Sl.va v, Sl.va (.int m)] ++ List.replicate (8 - 4) Sl.un = [.va (deskD n ks), .va (streamD f), .va v, .va (.int m), .un, .un, .un, .un] := rfl
  rw [ap]
  have A1 : mIfS (mNot (mTest (mFn fn_has_length (aCons (mOwn 2) (aCons (vOf (mC (.int 2))) (aCons (vOf (mC (.int 2))) aNil)))))) (mRet (mC .non)) mNext [.va (deskD n ks), .va (streamD f), .va v, .va (.int m), .un, .un, .un, .un] = .nx [.va (deskD n ks), .va (streamD f), .va v, .va (.int m), .un, .un, .un, .un] := by
    simp [L2_]
  have A2 : mAsg (tupX 2 (consG (putG 4) (consG (putG 5) nilG))) (mVar 2) [.va (deskD n ks), .va (streamD f), .va v, .va (.int m), .un, .un, .un, .un] = .nx [.va (deskD n ks), .va (streamD f), .va v, .va (.int m), .va (.int s), .va w, .un, .un] := by
    rcases hv with rfl | rfl <;> simp [mAsg, tupX, consG, nilG]
  rw [nx_seq A1, nx_seq A2]
  have sl := slenO f G.hf.l8
  by_cases hc : (0 ≤ s ∧ s < f.length) ∧ (rs.length : Int) ≤ m
  · have A3 : mIfS (mOr (mNot (mTest (mFn fn_is_between (aCons (mOwn 4) (aCons (vOf (mC (.int 0))) (aCons (vOf (mBin subF (vOf (mCall (lenOwn "Stream" fn_Stream_len) (aCons (mOwn 1) aNil))) (vOf (mC (.int 1))))) aNil)))))) (mNot (mTest (mFn fn_has_length (aCons (mOwn 5) (aCons (vOf (mC (.int 0))) (aCons (mOwn 3) aNil))))))) (mRet (mC .non)) mNext
        [.va (deskD n ks), .va (streamD f), .va v, .va (.int m), .va (.int s), .va w, .un, .un] = .nx [.va (deskD n ks), .va (streamD f), .va v, .va (.int m), .va (.int s), .va w, .un, .un] := by
      have h1 : 0 ≤ s ∧ s ≤ (f.length : Int) - 1 := by omega
      have h2 : (ds.length : Int) ≤ m := by omega
      simp [mOr, sl, Bt, Lm, h1, h2]
    have lc := tk_lc n ks (streamD f) v (.int m) (.int s) w .un .un ds rs hl h
    have hds : ds.length ≤ 16777216 := by omega
    have sq : seqF w = some ds := by rcases hw with rfl | rfl <;> rfl
    have A4 : mSet 6 (mCall tupF (aCons (vOf (mL (lLc [7] (lSeq (mVar 5)) (putG 7) tYesF (mFn fn_plain_ticket (aCons (mOwn 0) (aCons (mOwn 7) aNil)))))) aNil)) [.va (deskD n ks), .va (streamD f), .va v, .va (.int m), .va (.int s), .va w, .un, .un] =
        .nx [.va (deskD n ks), .va (streamD f), .va v, .va (.int m), .va (.int s), .va w, .va (.tup (rs.map oD)), .un] := by
      simp [lSeq, sq, hds, line, lc, tupF]
    rw [nx_seq A3, nx_seq A4]
    have ni := none_in rs
    unfold sceneR
    rw [if_pos hc]
    cases ea : allS rs with
    | none =>
      have an := allS_none rs ea
      rw [an] at ni
      simp [mOr, ni, outsOf, List.range_succ]
    | some ts =>
      obtain ⟨an, em⟩ := allS_some rs ts ea
      rw [an] at ni
      rw [em] at ni ⊢
      have hts : ts.length ≤ 1000 := by
        have := congrArg List.length em
        simp at this
        omega
      have R := fun e => call_va1 fn_is_rising (.tup (ts.map tD)) _ e .un (rist_ok ts hts)
      cases er : rT ts <;> rw [er] at R <;> simp [mOr, ni, R, outsOf, List.range_succ, er, line, scD]
  · unfold sceneR
    rw [if_neg hc]
    by_cases h1 : 0 ≤ s ∧ s ≤ (f.length : Int) - 1
    · have h2 : ¬(ds.length : Int) ≤ m := by omega
      simp [mOr, sl, Bt, Lm, h1, h2, outsOf, List.range_succ]
    · simp [mOr, sl, Bt, h1, outsOf, List.range_succ]
end K10f
set_option Elab.async false
set_option linter.all false
set_option maxRecDepth 100000
set_option maxHeartbeats 4000000
namespace K10f
open PySem PySem.Spec PyProof.Rows L2 Mp K10
theorem scene_short (n : Int) (ks : List K5) (f : Flow) (m : Int) (v : D) (h : fn_has_length [.va v, .va (.int 2), .va (.int 2)] = .ok (.bl false) [.un, .un, .un]) : fn_plain_scene [.va (deskD n ks), .va (streamD f), .va v, .va (.int m)] = .ok .non [.un, .un, .un, .un] := by
  have c1 := fun e => call_va3 fn_has_length v (.int 2) (.int 2) _ e .un .un .un h
  simp [fn_plain_scene, fnOf, b_plain_scene, c1, outsOf, List.range_succ]
theorem scene_bool (n : Int) (ks : List K5) (f : Flow) (hf : f.length ≤ 8) (m : Int) (b : Bool) (w : D) : fn_plain_scene [.va (deskD n ks), .va (streamD f), .va (.tup [.bl b, w]), .va (.int m)] = .ok .non [.un, .un, .un, .un] := by
  have c1 := fun e => call_va3 fn_has_length (.tup [.bl b, w]) (.int 2) (.int 2) _ e .un .un .un (length_ok (.tup [.bl b, w]) _ (.inl rfl) 2 2)
  have c2 := fun v lo hi e => call_va3 fn_is_between (.bl v) (.int lo) (.int hi) _ e .un .un .un (between_bool v lo hi)
  have sl := slenO f hf
  simp [fn_plain_scene, fnOf, b_plain_scene, c1, mAsg, tupX, consG, nilG, mOr, sl, c2, outsOf, List.range_succ]
theorem scene_nolist (n : Int) (ks : List K5) (f : Flow) (hf : f.length ≤ 8) (m : Int) (s : Int) (w : D) (h : fn_has_length [.va w, .va (.int 0), .va (.int m)] = .ok (.bl false) [.un, .un, .un]) : fn_plain_scene [.va (deskD n ks), .va (streamD f), .va (.tup [.int s, w]), .va (.int m)] = .ok .non [.un, .un, .un, .un] := by
  have c1 := fun e => call_va3 fn_has_length (.tup [.int s, w]) (.int 2) (.int 2) _ e .un .un .un (length_ok (.tup [.int s, w]) _ (.inl rfl) 2 2)
  have Bt := fun v lo hi e => call_va3 fn_is_between (.int v) (.int lo) (.int hi) _ e .un .un .un (between_int v lo hi)
  have c3 := fun e => call_va3 fn_has_length w (.int 0) (.int m) _ e .un .un .un h
  have sl := slenO f hf
  by_cases h1 : 0 ≤ s ∧ s ≤ (f.length : Int) - 1
  · simp [fn_plain_scene, fnOf, b_plain_scene, c1, mAsg, tupX, consG, nilG, mOr, sl, Bt, h1, c3, outsOf, List.range_succ]
  · simp [fn_plain_scene, fnOf, b_plain_scene, c1, mAsg, tupX, consG, nilG, mOr, sl, Bt, h1, outsOf, List.range_succ]
/-! ### the two together -/
theorem fits_in (n : Int) (ks : List K5) (hk : ks.length ≤ 3) (d1 : D) (sd : D) : ∀ (st : St1), (∀ a ∈ st, a.k.length ≤ 3 ∧ ∀ x ∈ a.k, 0 ≤ x ∧ x < ks.length) →
    lcI [3, 4] (tupX 2 (consG (putG 3) (consG (putG 4) nilG))) (mFn fn_all_below (aCons (mOwn 3) (aCons (vOf (mCall lenF (aCons (vOf (mAtt "Desk" 1 (mVar 0))) aNil))) aNil))) (st.map aD) [.va (deskD n ks), .va d1, .va sd, .un, .un] = .ok (st.map fun _ => .bl true) [.va (deskD n ks), .va d1, .va sd, .un, .un]
  | [], _ => rfl
  | a :: st, h => by
    have ih := fits_in n ks hk d1 sd st fun a ha => h a (by simp [ha])
    obtain ⟨h1, h2⟩ := h a (by simp)
    have e : (a.k.all fun x => decide (0 ≤ x) && decide (x ≤ (ks.length : Int) - 1)) = true := by
      rw [List.all_eq_true]
      intro x hx
      have := h2 x hx
      simp
      omega
    have B := below_ok (.tup (iL a.k)) a.k (.inl rfl) (by omega) ks.length
    have c := fun en => call_va2 fn_all_below (.tup (iL a.k)) (.int ks.length) _ en .un .un B
    rw [List.map_cons, lcI]
    simp [free_, isOw, wipeE, allT, aD, tupX, consG, nilG, mAtt, att_desk, lenF, c, ih, e]
def trues (f : Flow) : List D := (f.map fun st => st.map fun _ => D.bl true).flatten
theorem fits_out (n : Int) (ks : List K5) (hk : ks.length ≤ 3) (d1 : D) : ∀ (f : Flow), (∀ st ∈ f, ∀ a ∈ st, a.k.length ≤ 3 ∧ ∀ x ∈ a.k, 0 ≤ x ∧ x < ks.length) →
    lcO [2, 3, 4] [3, 4] (putG 2) (lSeq (mVar 2)) (tupX 2 (consG (putG 3) (consG (putG 4) nilG))) (mFn fn_all_below (aCons (mOwn 3) (aCons (vOf (mCall lenF (aCons (vOf (mAtt "Desk" 1 (mVar 0))) aNil))) aNil))) (f.map sD) [.va (deskD n ks), .va d1, .un, .un, .un] = .ok (trues f) [.va (deskD n ks), .va d1, .un, .un, .un]
  | [], _ => rfl
  | st :: f, h => by
    have ih := fits_out n ks hk d1 f fun s hs => h s (by simp [hs])
    have e := fits_in n ks hk d1 (sD st) st (h st (by simp))
    rw [List.map_cons, lcO]
    unfold sD at e ⊢
    unfold sD at ih
    simp [free_, isOw, enterE, wipeE, allT, lSeq, seqF, e, backE, ih, trues]
theorem trues_len : ∀ (f : Flow), (∀ st ∈ f, st.length ≤ 4) → (trues f).length ≤ 4 * f.length
  | [], _ => by simp [trues]
  | st :: f, h => by
    have ih := trues_len f fun s hs => h s (by simp [hs])
    have := h st (by simp)
    simp [trues] at ih ⊢
    omega
theorem bools_trues (f : Flow) : boolsOf (trues f) = some ((f.map fun st => st.map fun _ => true).flatten) := by
  have e : trues f = ((f.map fun st => st.map fun _ => true).flatten).map fun b => D.bl b := by
    unfold trues
    rw [List.map_flatten, List.map_map]
    congr 1
    simp [Function.comp_def]
  rw [e]
  have := bools_map2 (fun b : Bool => b) ((f.map fun st => st.map fun _ => true).flatten)
  simpa using this
theorem fits_ok (n : Int) (ks : List K5) (f : Flow) (G : Good n ks f) : fn_fits [.va (deskD n ks), .va (streamD f)] = .ok (.bl true) [.un, .un] := by
  have e := fits_out n ks G.hk.2 (streamD f) f fun st hst a ha => by
    have ok := (G.hf.s st hst).a a ha
    exact ⟨ok.l, fun x hx => ⟨(ok.m x hx).1, G.hb st hst a ha x hx⟩⟩
  have hl := trues_len f fun st hst => (G.hf.s st hst).l4
  have l8 := G.hf.l8
  have hz : (trues f).length ≤ 16777216 := by omega
  simp [fn_fits, fnOf, b_fits, lLc2, lSeq, mAtt, att_stream, seqF, e, hz, line, allF, bools_trues, outsOf, List.range_succ]
theorem isCl (c : Str) (fs : List D) : isClF c [.obj c fs, .cls c] = some (.bl true) := by simp [isClF]
theorem both_ok (n : Int) (ks : List K5) (f : Flow) (G : Good n ks f) : fn_check_both [.va (deskD n ks), .va (streamD f)] = .ok .non [.un, .un] := by
  have c := fun e => call_va2 fn_fits (deskD n ks) (streamD f) _ e .un .un (fits_ok n ks f G)
  have i1 : isClF "Desk" [deskD n ks, .cls "Desk"] = some (.bl true) := isCl _ _
  have i2 : isClF "Stream" [streamD f, .cls "Stream"] = some (.bl true) := isCl _ _
  simp [fn_check_both, fnOf, b_check_both, i1, i2, mOr, c, outsOf, List.range_succ]
/-! ### come, is_scene -/
theorem call_va4 (fn : Fn) (d1 d2 d3 d4 r : D) (e : Mp.Env) (h : fn [.va d1, .va d2, .va d3, .va d4] = .ok r [.un, .un, .un, .un]) : callF fn [.va d1, .va d2, .va d3, .va d4] e = .ok r e := by
  simp [callF, ixs, argsOf, h, putB]
theorem isScene_ok (n : Int) (ks : List K5) (f : Flow) (G : Good n ks f) (v r : D) (h : fn_plain_scene [.va (deskD n ks), .va (streamD f), .va v, .va (.int 40)] = .ok r [.un, .un, .un, .un]) :
    fn_is_scene [.va (deskD n ks), .va (streamD f), .va v] = .ok (.bl (!r.isNon)) [.un, .un, .un] := by
  have c := fun e => call_va2 fn_check_both (deskD n ks) (streamD f) _ e .un .un (both_ok n ks f G)
  have c2 := fun e => call_va4 fn_plain_scene _ _ _ _ _ e h
  have i : isntF r .non = some (!r.isNon) := rfl
  simp [fn_is_scene, fnOf, b_is_scene, c, mFnD, c2, i, outsOf, List.range_succ]
theorem come_ok (n : Int) (ks : List K5) (f : Flow) (G : Good n ks f) (v : D) (s : Nat) (ts : List T3) (j : Nat) (st : St1) (a : Arc) (hs : f[s]? = some st) (ha : st[j]? = some a) (hl : ts.length ≤ 37)
    (hv : fn_plain_scene [.va (deskD n ks), .va (streamD f), .va v, .va (.int 37)] = .ok (scD s ts) [.un, .un, .un, .un]) :
    fn_come [.va (deskD n ks), .va (streamD f), .va v, .va (.int j)] = .ok (.tup [.int a.n, .tup ((sT (comeT ks ts a.k)).map tD)]) [.un, .un, .un, .un] := by
  have c := fun e => call_va2 fn_check_both (deskD n ks) (streamD f) _ e .un .un (both_ok n ks f G)
  have c2 := fun e => call_va4 fn_plain_scene _ _ _ _ _ e hv
  have Bt := fun v lo hi e => call_va3 fn_is_between (.int v) (.int lo) (.int hi) _ e .un .un .un (between_int v lo hi)
  have hst : st ∈ f := List.mem_of_getElem? hs
  have hat : a ∈ st := List.mem_of_getElem? ha
  have oka := (G.hf.s st hst).a a hat
  have mo := moment_ok n ks f s ts j st a hs ha (fun x hx => ⟨(oka.m x hx).1, G.hb st hst a hat x hx⟩) (by have := oka.l; omega)
  have c3 := fun e => call_va4 fn_moment_by _ _ _ _ _ e mo
  have hj : j < st.length := (List.getElem?_eq_some_iff.mp ha).1
  have h1 : (j : Int) ≤ (st.length : Int) - 1 := by omega
  have g := st_get f s st hs
  have in_ : isF (scD s ts) .non = some false := rfl
  have g0 : atF (scD s ts) (.int 0) = some (.int s) := by simp [scD, atF, at0]
  have g1 : atF (.tup (f.map sD)) (.int s) = some (sD st) := by simp [atF, g]
  have g2 : lenF [sD st] = some (.int st.length) := by simp [sD, lenF]
  simp [fn_come, fnOf, b_come, c, c2, in_, mAtt, att_stream, g0, g1, g2, Bt, h1, c3, outsOf, List.range_succ]
end K10f
set_option Elab.async false
set_option linter.all false
set_option maxRecDepth 100000
set_option maxHeartbeats 4000000
namespace K10f
open PySem PySem.Spec PyProof.Rows L2 Mp K10
theorem num_int (i : Int) : fn_law_numeric [.va (.int i)] = .ok (.bl true) [.un] := by
  simp [fn_law_numeric, fnOf, b_law_numeric, isiF, tyName, kb_int, kb_intb, mAndV, mNotV, outsOf, List.range_succ]
theorem num_bool (b : Bool) : fn_law_numeric [.va (.bl b)] = .ok (.bl false) [.un] := by
  simp [fn_law_numeric, fnOf, b_law_numeric, isiF, tyName, kb_bool, kb_boolb, mAndV, mNotV, outsOf, List.range_succ]
theorem nI (i : Int) (e : Mp.Env) : callF fn_law_numeric [.va (.int i)] e = .ok (.bl true) e := call_va1 _ _ _ e .un (num_int i)
theorem nB (b : Bool) (e : Mp.Env) : callF fn_law_numeric [.va (.bl b)] e = .ok (.bl false) e := call_va1 _ _ _ e .un (num_bool b)
theorem lt_non (c : D) : fn_law_is_ticket [.va c, .va .non] = .ok (.bl false) [.un, .un] := by
  simp [fn_law_is_ticket, fnOf, b_law_is_ticket, isiF, tyName, kb_ntup, mOr, outsOf, List.range_succ]
theorem neF_i (i j : Int) : neF (.int i) (.int j) = some (!decide (i = j)) := by rw [neF_int]
theorem lt_len (c : D) (xs : List D) (h : xs.length ≠ 3) : fn_law_is_ticket [.va c, .va (.tup xs)] = .ok (.bl false) [.un, .un] := by
  have hn : ¬((xs.length : Int) = 3) := by omega
  simp [fn_law_is_ticket, fnOf, b_law_is_ticket, isiF, tyName, kb_tup, lenF, neF_i, hn, mOr, outsOf, List.range_succ]
theorem lt_bool (c : D) (b : Bool) (x y : D) : fn_law_is_ticket [.va c, .va (.tup [.bl b, x, y])] = .ok (.bl false) [.un, .un] := by
  simp [fn_law_is_ticket, fnOf, b_law_is_ticket, isiF, tyName, kb_tup, lenF, neF_i, mOr, atF, at0, nB, outsOf, List.range_succ]
theorem lt_ok (n : Int) (ks : List K5) (f : D) (t : T3) : fn_law_is_ticket [.va (caseD n ks f), .va (tD t)] = .ok (.bl (okT ks t)) [.un, .un] := by
  unfold fn_law_is_ticket fnOf b_law_is_ticket
  have lo : [Sl.va (caseD n ks f), Sl.va (tD t)].length = 2 := rfl
  rw [if_pos lo]
  have ap : [Sl.va (caseD n ks f), Sl.va (tD t)] ++ List.replicate (3 - 2) Sl.un = [.va (caseD n ks f), .va (tD t), .un] := rfl
  rw [ap]
  have A1 : mIfS (mOr (mNot (mTest (mCall isiF (aCons (mOwn 1) (aCons (vOf (mC (.ty "tuple"))) aNil))))) (mOr (mBin neF (vOf (mCall lenF (aCons (mOwn 1) aNil))) (vOf (mC (.int 3)))) (mOr (mNot (mTest (mFn fn_law_numeric (aCons (vOf (mBin atF (mOwn 1) (vOf (mC (.int 0))))) aNil)))) (mOr (mNot (mTest (mFn fn_law_numeric (aCons (vOf (mBin atF (mOwn 1) (vOf (mC (.int 1))))) aNil)))) (mNot (mTest (mFn fn_law_numeric (aCons (vOf (mBin atF (mOwn 1) (vOf (mC (.int 2))))) aNil)))))))) (mRet (mC (.bl false))) mNext
      [.va (caseD n ks f), .va (tD t), .un] = .nx [.va (caseD n ks f), .va (tD t), .un] := by
    simp [tD, isiF, tyName, kb_tup, lenF, neF_i, mOr, atF, at0, at1, at2, nI]
  rw [nx_seq A1]
  have c1 : atF (caseD n ks f) (.int 0) = some (.tup [.int n, .tup (ks.map kD)]) := by simp [caseD, atF, at0]
  have c2 : atF (.tup [.int n, .tup (ks.map kD)]) (.int 1) = some (.tup (ks.map kD)) := by simp [atF, at1]
  have c3 : lenF [.tup (ks.map kD)] = some (.int ks.length) := by simp [lenF]
  have t0 : atF (tD t) (.int 0) = some (.int t.1) := by simp [tD, atF, at0]
  have t1 : atF (tD t) (.int 1) = some (.int t.2.1) := by simp [tD, atF, at1]
  have t2 : atF (tD t) (.int 2) = some (.int t.2.2) := by simp [tD, atF, at2]
  by_cases hk : 0 ≤ t.1 ∧ t.1 < ks.length
  · obtain ⟨r, hr, ha⟩ := kget ks t.1 hk.1 hk.2
    have A2 : mIfS (mNot (mChain leF ltF (vOf (mC (.int 0))) (vOf (mBin atF (mOwn 1) (vOf (mC (.int 0))))) (vOf (mCall lenF (aCons (vOf (mBin atF (vOf (mBin atF (mOwn 0) (vOf (mC (.int 0))))) (vOf (mC (.int 1))))) aNil))))) (mRet (mC (.bl false))) mNext
        [.va (caseD n ks f), .va (tD t), .un] = .nx [.va (caseD n ks f), .va (tD t), .un] := by
      simp [mChain, t0, c1, c2, c3, leF, ltF, hk]
    have g : atF (.tup (ks.map kD)) (.int t.1) = some (kD r) := by simp [atF, ha]
    have A3 : mSet 2 (mBin atF (vOf (mBin atF (vOf (mBin atF (mOwn 0) (vOf (mC (.int 0))))) (vOf (mC (.int 1))))) (vOf (mBin atF (mOwn 1) (vOf (mC (.int 0)))))) [.va (caseD n ks f), .va (tD t), .un] = .nx [.va (caseD n ks f), .va (tD t), .va (kD r)] := by
      simp [c1, c2, t0, g]
    rw [nx_seq A2, nx_seq A3]
    have k0 : atF (kD r) (.int 0) = some (.int r.w) := by simp [kD, atF, at0]
    have k1 : atF (kD r) (.int 1) = some (.int r.p) := by simp [kD, atF, at1]
    have e : okT ks t = ((decide (1 ≤ t.2.1) && decide (t.2.1 ≤ r.w)) && (decide (1 ≤ t.2.2) && decide (t.2.2 ≤ r.p))) := by
      unfold okT
      rw [hr]
      simp [hk]
    rw [e]
    by_cases h1 : 1 ≤ t.2.1 <;> by_cases h2 : t.2.1 ≤ r.w <;> by_cases h3 : 1 ≤ t.2.2 <;> by_cases h4 : t.2.2 ≤ r.p <;> simp [mChain, bl, mAndV, t1, t2, k0, k1, leF, h1, h2, h3, h4, outsOf, List.range_succ]
  · have e : okT ks t = false := by
      simp [okT]
      omega
    rw [e]
    by_cases h1 : 0 ≤ t.1
    · have h2 : ¬(t.1 < ks.length) := by omega
      simp [mChain, t0, c1, c2, c3, leF, ltF, h1, h2, outsOf, List.range_succ]
    · simp [mChain, t0, c1, c2, c3, leF, ltF, h1, outsOf, List.range_succ]
end K10f
set_option Elab.async false
set_option linter.all false
set_option maxRecDepth 100000
set_option maxHeartbeats 4000000
namespace K10f
open PySem PySem.Spec PyProof.Rows L2 Mp K10
theorem ls_non (c : D) (m : Int) : fn_law_is_scene [.va c, .va .non, .va (.int m)] = .ok (.bl false) [.un, .un, .un] := by
  simp [fn_law_is_scene, fnOf, b_law_is_scene, isiF, tyName, kb_ntup, mOr, outsOf, List.range_succ]
theorem ls_int (c : D) (i m : Int) : fn_law_is_scene [.va c, .va (.int i), .va (.int m)] = .ok (.bl false) [.un, .un, .un] := by
  simp [fn_law_is_scene, fnOf, b_law_is_scene, isiF, tyName, kb_itup, mOr, outsOf, List.range_succ]
theorem ls_len (c : D) (xs : List D) (m : Int) (h : xs.length ≠ 2) : fn_law_is_scene [.va c, .va (.tup xs), .va (.int m)] = .ok (.bl false) [.un, .un, .un] := by
  have hn : ¬((xs.length : Int) = 2) := by omega
  simp [fn_law_is_scene, fnOf, b_law_is_scene, isiF, tyName, kb_tup, lenF, neF_i, hn, mOr, outsOf, List.range_succ]
theorem ls_bool (c : D) (b : Bool) (w : D) (m : Int) : fn_law_is_scene [.va c, .va (.tup [.bl b, w]), .va (.int m)] = .ok (.bl false) [.un, .un, .un] := by
  simp [fn_law_is_scene, fnOf, b_law_is_scene, isiF, tyName, kb_tup, lenF, neF_i, mOr, atF, at0, nB, outsOf, List.range_succ]
theorem ls_nolist (c : D) (s : Int) (m : Int) : fn_law_is_scene [.va c, .va (.tup [.int s, .non]), .va (.int m)] = .ok (.bl false) [.un, .un, .un] := by
  simp [fn_law_is_scene, fnOf, b_law_is_scene, isiF, tyName, kb_tup, kb_ntup, lenF, neF_i, mOr, atF, at0, at1, nI, outsOf, List.range_succ]
def lsbody : MS := mIfS (mNot (mTest (mFn fn_law_is_ticket (aCons (mOwn 0) (aCons (mOwn 3) aNil))))) (mRet (mC (.bl false))) mNext
theorem ls_loop (c v : D) (m : Int) : ∀ (ds : List D) (rs : List (Option T3)) (s3 : Sl), Fr s3 → ds.length = rs.length → (∀ (i : Nat) (d : D) (r : Option T3), ds[i]? = some d → rs[i]? = some r → fn_law_is_ticket [.va c, .va d] = .ok (.bl r.isSome) [.un, .un]) →
    ∃ t3, Fr t3 ∧ forF (putG 3) lsbody ds [.va c, .va v, .va (.int m), s3] = (if (rs.any fun r => r.isNone) = true then .rt (.bl false) [.va c, .va v, .va (.int m), t3] else .nx [.va c, .va v, .va (.int m), t3])
  | [], [], s3, f3, _, _ => ⟨s3, f3, rfl⟩
  | [], _ :: _, _, _, h, _ => by simp at h
  | _ :: _, [], _, _, h, _ => by simp at h
  | d :: ds, r :: rs, s3, f3, hl, h => by
    have c1 := fun e => call_va2 fn_law_is_ticket c d _ e .un .un (h 0 d r rfl rfl)
    have p : putG 3 d [.va c, .va v, .va (.int m), s3] = some [.va c, .va v, .va (.int m), .va d] := by cases f3 <;> simp
    cases r with
    | none =>
      refine ⟨.va d, .va _, ?_⟩
      have b : lsbody [.va c, .va v, .va (.int m), .va d] = .rt (.bl false) [.va c, .va v, .va (.int m), .va d] := by simp [lsbody, c1]
      rw [forF, p]
      simp only [b]
      simp
    | some t =>
      obtain ⟨t3, g3, e⟩ := ls_loop c v m ds rs (.va d) (.va _) (by simpa using hl) fun i d r a b => h (i + 1) d r (by simpa using a) (by simpa using b)
      refine ⟨t3, g3, ?_⟩
      have b : lsbody [.va c, .va v, .va (.int m), .va d] = .nx [.va c, .va v, .va (.int m), .va d] := by simp [lsbody, c1]
      rw [forF, p]
      simp only [b, e]
      simp
theorem ls_ok (n : Int) (ks : List K5) (f : Flow) (m : Int) (hm : m ≤ 60) (s : Int) (ds : List D) (rs : List (Option T3)) (hl : ds.length = rs.length)
    (h : ∀ (i : Nat) (d : D) (r : Option T3), ds[i]? = some d → rs[i]? = some r → fn_law_is_ticket [.va (caseD n ks (fD f)), .va d] = .ok (.bl r.isSome) [.un, .un])
    (hd : ∀ ts, allS rs = some ts → ds = ts.map tD) :
    fn_law_is_scene [.va (caseD n ks (fD f)), .va (.tup [.int s, .tup ds]), .va (.int m)] = .ok (.bl (!(sceneR ks f m s rs).isNon)) [.un, .un, .un] := by
  unfold fn_law_is_scene fnOf b_law_is_scene
  generalize hv : D.tup [.int s, .tup ds] = v
  have v0 : atF v (.int 0) = some (.int s) := by subst hv; simp [atF, at0]
  have v1 : atF v (.int 1) = some (.tup ds) := by subst hv; simp [atF, at1]
  have vt : isiF [v, .ty "tuple"] = some (.bl true) := by subst hv; simp [isiF, tyName, kb_tup]
  have vl : lenF [v] = some (.int 2) := by subst hv; rfl
  have c1 : atF (caseD n ks (fD f)) (.int 1) = some (.tup (f.map sD)) := by simp [caseD, atF, at1, fD]
  have c2 : lenF [.tup (f.map sD)] = some (.int f.length) := by simp [lenF]
  have l2 : lenF [.tup ds] = some (.int ds.length) := rfl
  generalize hcs : caseD n ks (fD f) = cs at h c1 ⊢
  have lo : [Sl.va cs, Sl.va v, Sl.va (.int m)].length = 3 := rfl
  rw [if_pos lo]
  have ap : [Sl.va cs, Sl.va v, Sl.va (.int m)] ++ List.replicate (4 - 3) Sl.un = [.va cs, .va v, .va (.int m), .un] := rfl
  rw [ap]
  have A1 : mIfS (mOr (mNot (mTest (mCall isiF (aCons (mOwn 1) (aCons (vOf (mC (.ty "tuple"))) aNil))))) (mOr (mBin neF (vOf (mCall lenF (aCons (mOwn 1) aNil))) (vOf (mC (.int 2)))) (mOr (mNot (mTest (mFn fn_law_numeric (aCons (vOf (mBin atF (mOwn 1) (vOf (mC (.int 0))))) aNil)))) (mNot (mTest (mCall isiF (aCons (vOf (mBin atF (mOwn 1) (vOf (mC (.int 1))))) (aCons (vOf (mC (.ty "tuple"))) aNil)))))))) (mRet (mC (.bl false))) mNext
      [.va cs, .va v, .va (.int m), .un] = .nx [.va cs, .va v, .va (.int m), .un] := by
    have i2 : isiF [.tup ds, .ty "tuple"] = some (.bl true) := by simp [isiF, tyName, kb_tup]
    simp [mOr, vt, vl, neF_i, v0, v1, nI, i2]
  rw [nx_seq A1]
  by_cases hc : (0 ≤ s ∧ s < f.length) ∧ (rs.length : Int) ≤ m
  · have A2 : mIfS (mOr (mNot (mChain leF ltF (vOf (mC (.int 0))) (vOf (mBin atF (mOwn 1) (vOf (mC (.int 0))))) (vOf (mCall lenF (aCons (vOf (mBin atF (mOwn 0) (vOf (mC (.int 1))))) aNil))))) (mBin gtF (vOf (mCall lenF (aCons (vOf (mBin atF (mOwn 1) (vOf (mC (.int 1))))) aNil))) (mOwn 2))) (mRet (mC (.bl false))) mNext
        [.va cs, .va v, .va (.int m), .un] = .nx [.va cs, .va v, .va (.int m), .un] := by
      have h2 : ¬(m < (ds.length : Int)) := by omega
      simp [mOr, mChain, leF, ltF, gtF, v0, v1, c1, c2, l2, hc, h2]
    rw [nx_seq A2]
    obtain ⟨t3, g3, e⟩ := ls_loop cs v m ds rs .un .un hl h
    have A3 : mFor (lSeq (mBin atF (mOwn 1) (vOf (mC (.int 1))))) (putG 3) lsbody [.va cs, .va v, .va (.int m), .un] = (if (rs.any fun r => r.isNone) = true then .rt (.bl false) [.va cs, .va v, .va (.int m), t3] else .nx [.va cs, .va v, .va (.int m), t3]) := by
      rw [mFor_s]
      simp [lSeq, seqF, v1, e]
    unfold lsbody at A3
    unfold sceneR
    rw [if_pos hc]
    cases ea : allS rs with
    | none =>
      have an := allS_none rs ea
      rw [an] at A3
      simp only [if_true] at A3
      rw [mSeq_s, A3]
      simp [outsOf, List.range_succ, D.isNon]
    | some ts =>
      obtain ⟨an, em⟩ := allS_some rs ts ea
      rw [an] at A3
      simp only [Bool.false_eq_true, if_false] at A3
      rw [nx_seq A3]
      have hds := hd ts ea
      subst hds
      have srt := sort_t (.tup (ts.map tD)) ts (.inl rfl)
      have q := eqF_t ts (sT ts)
      have er := rT_eq ts
      by_cases hq : ts = sT ts
      · have hq' : decide (ts = sT ts) = true := by simpa using hq
        rw [hq'] at q er
        simp [v1, srt, tupF, q, er, outsOf, List.range_succ, D.isNon, scD]
      · have hq' : decide (ts = sT ts) = false := by simpa using hq
        rw [hq'] at q er
        simp [v1, srt, tupF, q, er, outsOf, List.range_succ, D.isNon]
  · unfold sceneR
    rw [if_neg hc]
    by_cases h1 : 0 ≤ s
    · by_cases h2 : s < f.length
      · have h3 : m < (ds.length : Int) := by omega
        simp [mOr, mChain, leF, ltF, gtF, v0, v1, c1, c2, l2, h1, h2, h3, outsOf, List.range_succ, D.isNon]
      · simp [mOr, mChain, leF, ltF, gtF, v0, v1, c1, c2, l2, h1, h2, outsOf, List.range_succ, D.isNon]
    · simp [mOr, mChain, leF, ltF, gtF, v0, v1, c1, c2, l2, h1, outsOf, List.range_succ, D.isNon]
end K10f
set_option Elab.async false
set_option linter.all false
set_option maxRecDepth 100000
set_option maxHeartbeats 4000000
namespace K10f
open PySem PySem.Spec PyProof.Rows L2 Mp K10
theorem cut_to (k : Nat) (xs : List D) : cutF none (some (k : Int)) (.lst xs) = some (.lst (xs.take k)) ∧ cutF none (some (k : Int)) (.rol xs) = some (.lst (xs.take k)) ∧ cutF none (some (k : Int)) (.tup xs) = some (.tup (xs.take k)) := by
  have h : HT.sIx xs.length xs.length (some (k : Int)) = min k xs.length := HT.sIx_nat xs.length xs.length k
  have h0 : HT.sIx xs.length 0 none = 0 := rfl
  have e : List.take (min k xs.length) xs = List.take k xs := by
    rw [List.take_eq_take_iff]
    omega
  simp only [cutF, h, h0, List.drop_zero, Nat.sub_zero, e, and_self]
/-! ### the twins -/
def calmS (c : Int) (k : Int) : St1 := [⟨[], if k = c - 1 then 0 else 3 + k⟩]
def tbody : MS :=
    (mAppend 6 (mTup (aCons (vOf (mTup (aCons (vOf (mTup aNil)) (aCons (vOf (mIf (mBin eqF (mOwn 7) (vOf (mBin subF (mOwn 4) (vOf (mC (.int 1)))))) (mC (.int 0)) (mBin addF (vOf (mC (.int 3))) (mOwn 7)))) aNil)))) aNil)))
def tE (row : List Int) (i mo : Int) (kk : D) (c : Int) (b : D) (ss : List D) (s7 : Sl) : Mp.Env := [.va (.lst (iL row)), .ow true [.int i], .va (.int mo), .va kk, .va (.int c), .va b, .ow false ss, s7]
theorem tloop (row : List Int) (i mo : Int) (kk : D) (c : Int) (b : D) : ∀ (l : List Int) (f : Flow) (s7 : Sl), f.length + l.length ≤ 50 → Fr s7 → ∃ t7, Fr t7 ∧ forF (putG 7) tbody (iL l) (tE row i mo kk c b (f.map sD) s7) = .nx (tE row i mo kk c b ((f ++ l.map (calmS c)).map sD) t7)
  | [], f, s7, _, f7 => ⟨s7, f7, by simp [forF]; rfl⟩
  | k :: l, f, s7, hl, f7 => by
    have hl' : f.length + (l.length + 1) ≤ 50 := hl
    have hlt : f.length < 16777216 := by omega
    obtain ⟨t7, g7, e⟩ := tloop row i mo kk c b l (f ++ [calmS c k]) (.va (.int k)) (by simp; omega) (.va _)
    refine ⟨t7, g7, ?_⟩
    have p : putG 7 (.int k) (tE row i mo kk c b (f.map sD) s7) = some (tE row i mo kk c b (f.map sD) (.va (.int k))) := by cases f7 <;> simp [tE]
    have s : tbody (tE row i mo kk c b (f.map sD) (.va (.int k))) = .nx (tE row i mo kk c b ((f ++ [calmS c k]).map sD) (.va (.int k))) := by
      by_cases h : k = c - 1
      · simp [tbody, tE, mAppend, eqF_int, h, hlt, line, calmS, sD, aD, iL]
      · simp [tbody, tE, mAppend, eqF_int, h, hlt, line, calmS, sD, aD, iL]
    rw [iL_cons, forF, p]
    simp only [s]
    rw [e]
    simp
def base (b : List Int) : Flow := [[⟨[0, 1], 1⟩], [⟨[2], 2⟩, ⟨b, 2⟩]]
def fullT (b : List Int) (c : Nat) : Flow := base b ++ (upto c).map (calmS c)
def twinF (b : List Int) (c : Nat) : Flow := if (fullT b c).length ≤ 8 then fullT b c else (fullT b c).take 7 ++ [[⟨[], 7⟩]]
def okFB (f : Flow) : Bool := decide (1 ≤ f.length) && (decide (f.length ≤ 8) && f.all fun s => decide (1 ≤ s.length) && (decide (s.length ≤ 4) && s.all fun a => decide (a.k.length ≤ 3) && (decide (a.k.Pairwise (· ≤ ·)) && (a.k.all (fun x => decide (0 ≤ x) && decide (x ≤ 2)) && (decide (0 ≤ a.n) && decide (a.n < f.length))))))
theorem okF_of {f : Flow} (h : okFB f = true) : OkF f ∧ ∀ s ∈ f, ∀ a ∈ s, ∀ x ∈ a.k, x < 3 := by
  simp only [okFB, Bool.and_eq_true, List.all_eq_true, decide_eq_true_eq] at h
  obtain ⟨h1, h2, h3⟩ := h
  refine ⟨⟨h1, h2, fun s hs => ?_⟩, fun s hs a ha x hx => ?_⟩
  · obtain ⟨q1, q2, q3⟩ := h3 s hs
    exact ⟨q1, q2, fun a ha => by
      obtain ⟨p1, p2, p3, p4, p5⟩ := q3 a ha
      exact ⟨p1, p2, p3, p4, p5⟩⟩
  · obtain ⟨_, _, q3⟩ := h3 s hs
    obtain ⟨_, _, p3, _⟩ := q3 a ha
    have := (p3 x hx).2
    omega
theorem twinF_ok (b : List Int) (hb : b = [1, 1] ∨ b = [1]) (c : Nat) (h3 : 3 ≤ c) (h7 : c ≤ 7) : okFB (twinF b c) = true := by
  have hc : c = 3 ∨ c = 4 ∨ c = 5 ∨ c = 6 ∨ c = 7 := by omega
  rcases hb with rfl | rfl <;> rcases hc with rfl | rfl | rfl | rfl | rfl <;> decide +kernel
theorem twin_ok (row : List Int) (hr : row ≠ []) (i : Int) (hi : 0 ≤ i) : ∃ (ks : List K5) (f : Flow) (i' : Int), Good 2 ks f ∧ 0 ≤ i' ∧ fn_law_twin_case [.va (.lst (iL row)), .ow true [.int i]] = .ok (caseD 2 ks (fD f)) [.un, .ow true [.int i']] := by
  have r1 := dV_range row i 3 (by omega)
  have r3 := dV_range row (i + 1 + 1) 4 (by omega)
  have r4 := dV_range row (i + 1 + 1 + 1) 3 (by omega)
  obtain ⟨c, hc⟩ := Int.eq_ofNat_of_zero_le (show 0 ≤ 3 + dV row i 3 + dV row (i + 1 + 1 + 1) 3 by omega)
  have hc3 : 3 ≤ c := by omega
  have hc7 : c ≤ 7 := by omega
  let ks : List K5 := [⟨1, 4 + dV row i 3, [0], [], false⟩, ⟨1, 2, [0], [], decide (dV row (i + 1) 4 = 0)⟩, ⟨1, 1 + dV row (i + 1 + 1) 4 / 3, [1], [0], false⟩]
  obtain ⟨b, hb, hbd⟩ : ∃ b : List Int, (b = [1, 1] ∨ b = [1]) ∧ mSet 5 (mIf (mBin gtF (vOf (mFn fn_law_take (aCons (mOwn 0) (aCons (mOwn 1) (aCons (vOf (mC (.int 4))) aNil))))) (vOf (mC (.int 0)))) (mTup (aCons (vOf (mC (.int 1))) (aCons (vOf (mC (.int 1))) aNil))) (mTup (aCons (vOf (mC (.int 1))) aNil)))
      [.va (.lst (iL row)), .ow true [.int (i + 1 + 1 + 1 + 1)], .va (.int (dV row i 3)), .va (.tup (ks.map kD)), .va (.int c), .un, .un, .un] = .nx [.va (.lst (iL row)), .ow true [.int (i + 1 + 1 + 1 + 1 + 1)], .va (.int (dV row i 3)), .va (.tup (ks.map kD)), .va (.int c), .va (.tup (iL b)), .un, .un] := by
    have e2 : iL [1, 1] = [.int 1, .int 1] := rfl
    have e1 : iL [1] = [.int 1] := rfl
    by_cases hz : 0 < dV row (i + 1 + 1 + 1 + 1) 4
    · exact ⟨[1, 1], .inl rfl, by simp [call_take row (i + 1 + 1 + 1 + 1) 4 true _ (by omega) (by omega) hr, hz, line, e2]⟩
    · exact ⟨[1], .inr rfl, by simp [call_take row (i + 1 + 1 + 1 + 1) 4 true _ (by omega) (by omega) hr, hz, line, e1]⟩
  refine ⟨ks, twinF b c, i + 1 + 1 + 1 + 1 + 1, ?_, by omega, ?_⟩
  · obtain ⟨q1, q2⟩ := okF_of (twinF_ok b hb c hc3 hc7)
    refine ⟨by omega, ⟨by simp [ks], by simp [ks]⟩, fun j k hj => ?_, q1, q2⟩
    have hj3 : j < 3 := by
      have := (List.getElem?_eq_some_iff.mp hj).1
      simpa [ks] using this
    have : j = 0 ∨ j = 1 ∨ j = 2 := by omega
    rcases this with rfl | rfl | rfl
    · cases hj
      exact ⟨by simp, by simp; omega, ⟨by simp, by simp⟩, ⟨by simp, by simp⟩⟩
    · cases hj
      exact ⟨by simp, by simp, ⟨by simp, by simp⟩, ⟨by simp, by simp⟩⟩
    · cases hj
      exact ⟨by simp, by simp; omega, ⟨by simp, by simp⟩, ⟨by simp, by simp⟩⟩
  · unfold fn_law_twin_case fnOf b_law_twin_case
    have lo : [Sl.va (.lst (iL row)), Sl.ow true [D.int i]].length = 2 := rfl
    rw [if_pos lo]
    have ap : [Sl.va (.lst (iL row)), Sl.ow true [D.int i]] ++ List.replicate (8 - 2) Sl.un = [.va (.lst (iL row)), .ow true [.int i], .un, .un, .un, .un, .un, .un] := rfl
    rw [ap]
    have B1 : mSet 2 (mFn fn_law_take (aCons (mOwn 0) (aCons (mOwn 1) (aCons (vOf (mC (.int 3))) aNil)))) [.va (.lst (iL row)), .ow true [.int i], .un, .un, .un, .un, .un, .un] = .nx [.va (.lst (iL row)), .ow true [.int (i + 1)], .va (.int (dV row i 3)), .un, .un, .un, .un, .un] := by
      simp [call_take row i 3 true _ hi (by omega) hr]
    rw [nx_seq B1]
    have z0 : iL [0] = [.int 0] := rfl
    have z1 : iL [1] = [.int 1] := rfl
    have zn : iL [] = [] := rfl
    have B2 : mSet 3 (mTup (aCons (vOf (mTup (aCons (vOf (mC (.int 1))) (aCons (vOf (mBin addF (vOf (mC (.int 4))) (mOwn 2))) (aCons (vOf (mTup (aCons (vOf (mC (.int 0))) aNil))) (aCons (vOf (mTup aNil)) (aCons (vOf (mC (.bl false))) aNil))))))) (aCons (vOf (mTup (aCons (vOf (mC (.int 1))) (aCons (vOf (mC (.int 2))) (aCons (vOf (mTup (aCons (vOf (mC (.int 0))) aNil))) (aCons (vOf (mTup aNil)) (aCons (vOf (mBin (fun x y => (eqF x y).map D.bl) (vOf (mFn fn_law_take (aCons (mOwn 0) (aCons (mOwn 1) (aCons (vOf (mC (.int 4))) aNil))))) (vOf (mC (.int 0))))) aNil))))))) (aCons (vOf (mTup (aCons (vOf (mC (.int 1))) (aCons (vOf (mBin addF (vOf (mC (.int 1))) (vOf (mBin fdivF (vOf (mFn fn_law_take (aCons (mOwn 0) (aCons (mOwn 1) (aCons (vOf (mC (.int 4))) aNil))))) (vOf (mC (.int 3))))))) (aCons (vOf (mTup (aCons (vOf (mC (.int 1))) aNil))) (aCons (vOf (mTup (aCons (vOf (mC (.int 0))) aNil))) (aCons (vOf (mC (.bl false))) aNil))))))) aNil))))
        [.va (.lst (iL row)), .ow true [.int (i + 1)], .va (.int (dV row i 3)), .un, .un, .un, .un, .un] = .nx [.va (.lst (iL row)), .ow true [.int (i + 1 + 1 + 1)], .va (.int (dV row i 3)), .va (.tup (ks.map kD)), .un, .un, .un, .un] := by
      simp [ks, kD, z0, z1, zn, eqF_int, line, call_take row (i + 1) 4 true _ (by omega) (by omega) hr, call_take row (i + 1 + 1) 4 true _ (by omega) (by omega) hr]
    rw [nx_seq B2]
    have B3 : mSet 4 (mBin addF (vOf (mBin addF (vOf (mC (.int 3))) (mOwn 2))) (vOf (mFn fn_law_take (aCons (mOwn 0) (aCons (mOwn 1) (aCons (vOf (mC (.int 3))) aNil))))))
        [.va (.lst (iL row)), .ow true [.int (i + 1 + 1 + 1)], .va (.int (dV row i 3)), .va (.tup (ks.map kD)), .un, .un, .un, .un] = .nx [.va (.lst (iL row)), .ow true [.int (i + 1 + 1 + 1 + 1)], .va (.int (dV row i 3)), .va (.tup (ks.map kD)), .va (.int c), .un, .un, .un] := by
      simp [call_take row (i + 1 + 1 + 1) 3 true _ (by omega) (by omega) hr, hc]
    rw [nx_seq B3, nx_seq hbd]
    have bb : ((base b).map sD) = [.tup [.tup [.tup [.int 0, .int 1], .int 1]], .tup [.tup [.tup [.int 2], .int 2], .tup [.tup (iL b), .int 2]]] := by simp [base, sD, aD, iL]
    have B5 : mSetO 6 (lLst (aCons (vOf (mTup (aCons (vOf (mTup (aCons (vOf (mTup (aCons (vOf (mC (.int 0))) (aCons (vOf (mC (.int 1))) aNil)))) (aCons (vOf (mC (.int 1))) aNil)))) aNil))) (aCons (vOf (mTup (aCons (vOf (mTup (aCons (vOf (mTup (aCons (vOf (mC (.int 2))) aNil))) (aCons (vOf (mC (.int 2))) aNil)))) (aCons (vOf (mTup (aCons (mOwn 5) (aCons (vOf (mC (.int 2))) aNil)))) aNil)))) aNil)))
        [.va (.lst (iL row)), .ow true [.int (i + 1 + 1 + 1 + 1 + 1)], .va (.int (dV row i 3)), .va (.tup (ks.map kD)), .va (.int c), .va (.tup (iL b)), .un, .un] = .nx (tE row (i + 1 + 1 + 1 + 1 + 1) (dV row i 3) (.tup (ks.map kD)) c (.tup (iL b)) ((base b).map sD) .un) := by
      rw [bb]
      simp [tE, line, ownG]
    rw [nx_seq B5]
    obtain ⟨t7, g7, e⟩ := tloop row (i + 1 + 1 + 1 + 1 + 1) (dV row i 3) (.tup (ks.map kD)) c (.tup (iL b)) (upto c) (base b) .un (by rw [upto_length]; simp [base]; omega) .un
    have B6 : mFor (lRange1 (mVar 4)) (putG 7) tbody (tE row (i + 1 + 1 + 1 + 1 + 1) (dV row i 3) (.tup (ks.map kD)) c (.tup (iL b)) ((base b).map sD) .un) = .nx (tE row (i + 1 + 1 + 1 + 1 + 1) (dV row i 3) (.tup (ks.map kD)) c (.tup (iL b)) ((fullT b c).map sD) t7) := by
      have rg := rng (mVar 4) (tE row (i + 1 + 1 + 1 + 1 + 1) (dV row i 3) (.tup (ks.map kD)) c (.tup (iL b)) ((base b).map sD) .un) c (by omega) (by simp [tE])
      rw [mFor_s, rg, Re.flow_ok]
      exact e
    unfold tbody at B6
    rw [nx_seq B6]
    have k8 : cutF none (some 8) (.lst ((fullT b c).map sD)) = some (.lst (((fullT b c).map sD).take 8)) := (cut_to 8 ((fullT b c).map sD)).1
    have k7 : cutF none (some 7) (.lst ((fullT b c).map sD)) = some (.lst (((fullT b c).map sD).take 7)) := (cut_to 7 ((fullT b c).map sD)).1
    have k8r : cutF none (some 8) (.rol ((fullT b c).map sD)) = some (.lst (((fullT b c).map sD).take 8)) := (cut_to 8 ((fullT b c).map sD)).2.1
    have k7r : cutF none (some 7) (.rol ((fullT b c).map sD)) = some (.lst (((fullT b c).map sD).take 7)) := (cut_to 7 ((fullT b c).map sD)).2.1
    have lf : (fullT b c).length = c + 2 := by simp [fullT, base, upto_length]
    by_cases h8 : (fullT b c).length ≤ 8
    · have t8 : List.take 8 ((fullT b c).map sD) = (fullT b c).map sD := List.take_of_length_le (by simpa using h8)
      rw [t8] at k8 k8r
      have h8' : ((fullT b c).length : Int) ≤ 8 := by omega
      simp [tE, lenF, leT_int, h8', mCut, oNone, oSome, asI, k8, k8r, tupF, line, outsOf, List.range_succ, twinF, h8, caseD, fD]
    · have h8' : ¬((fullT b c).length : Int) ≤ 8 := by omega
      have ad : addF (.tup (((fullT b c).map sD).take 7)) (.tup [.tup [.tup [.tup [], .int 7]]]) = some (.tup (((fullT b c).map sD).take 7 ++ [.tup [.tup [.tup [], .int 7]]])) := by
        have hl : ((((fullT b c).map sD).take 7) ++ [D.tup [.tup [.tup [], .int 7]]]).length ≤ 16777216 := by simp; omega
        simp [addF, line]
        try omega
      have s7 : sD [⟨[], 7⟩] = .tup [.tup [.tup [], .int 7]] := rfl
      simp [tE, lenF, leT_int, h8', mCut, oNone, oSome, asI, k7, k7r, tupF, line, outsOf, List.range_succ, twinF, h8, caseD, fD, s7, ad, List.map_take]
end K10f
set_option Elab.async false
set_option linter.all false
set_option maxRecDepth 100000
set_option maxHeartbeats 4000000
namespace K10f
open PySem PySem.Spec PyProof.Rows L2 Mp K10
theorem isA_self (a : Arc) : isA a (aD a) := ⟨_, .inl rfl, .inl rfl⟩
theorem isS_self (s : St1) : isS s (sD s) := ⟨_, .inl rfl, by simp, fun i a y p q => by
  rw [List.getElem?_map, p] at q
  cases q
  exact isA_self a⟩
theorem isF_self (f : Flow) : isFl f (fD f) := ⟨_, .inl rfl, by simp, fun i a y p q => by
  rw [List.getElem?_map, p] at q
  cases q
  exact isS_self a⟩
theorem o2 (fn : Fn) (a d : D) (b : Bool) (xs ys : List D) (rest : Mp.Env) (h : fn [.va a, .ow true xs] = .ok d [.un, .ow true ys]) : callF fn [.va a, .ix 1] (.va a :: .ow b xs :: rest) = .ok d (.va a :: .ow b ys :: rest) := by
  simp [callF, ixs, argsOf, h, putB]
theorem o3 (fn : Fn) (a x d : D) (b : Bool) (xs ys : List D) (rest : Mp.Env) (h : fn [.va a, .ow true xs, .va x] = .ok d [.un, .ow true ys, .un]) : callF fn [.va a, .ix 1, .va x] (.va a :: .ow b xs :: rest) = .ok d (.va a :: .ow b ys :: rest) := by
  simp [callF, ixs, argsOf, h, putB]
theorem o4 (fn : Fn) (a x y d : D) (b : Bool) (xs ys : List D) (rest : Mp.Env) (h : fn [.va a, .ow true xs, .va x, .va y] = .ok d [.un, .ow true ys, .un, .un]) : callF fn [.va a, .ix 1, .va x, .va y] (.va a :: .ow b xs :: rest) = .ok d (.va a :: .ow b ys :: rest) := by
  simp [callF, ixs, argsOf, h, putB]
theorem case_ok (row : List Int) (hr : row ≠ []) (i : Int) (hi : 0 ≤ i) : ∃ (n : Nat) (ks : List K5) (f : Flow) (i' : Int), Good n ks f ∧ 0 ≤ i' ∧ fn_law_case [.va (.lst (iL row)), .ow true [.int i]] = .ok (caseD n ks (fD f)) [.un, .ow true [.int i']] := by
  by_cases hz : dV row i 8 = 0
  · obtain ⟨ks, f, i', G, h0, e⟩ := twin_ok row hr (i + 1) (by omega)
    refine ⟨2, ks, f, i', G, h0, ?_⟩
    simp [fn_law_case, fnOf, b_law_case, eqF_int, call_take row i 8 true _ hi (by omega) hr, hz, o2 _ _ _ _ _ _ _ e, outsOf, List.range_succ]
  · have r3 := dV_range row (i + 1) 4 (by omega)
    obtain ⟨mo, hm1, hm3, emo⟩ : ∃ mo : Int, 1 ≤ mo ∧ mo ≤ 3 ∧ mo = (if 0 < dV row (i + 1) 4 then 2 else 3) := by
      by_cases h : 0 < dV row (i + 1) 4
      · exact ⟨2, by omega, by omega, by simp [h]⟩
      · exact ⟨3, by omega, by omega, by simp [h]⟩
    obtain ⟨n, ks, i1, n1, n3, k1, k3, ok, hi1, e1⟩ := desk_ok mo hm1 hm3 row hr (i + 1 + 1) (by omega)
    have r5 := dV_range row i1 3 (by omega)
    obtain ⟨wd, hw, hw8, ew⟩ : ∃ wd : Int, 1 ≤ wd ∧ wd ≤ 8 ∧ atI [D.int 1, .int 3, .int 8] (dV row i1 3) = some (.int wd) := by
      have : dV row i1 3 = 0 ∨ dV row i1 3 = 1 ∨ dV row i1 3 = 2 := by omega
      rcases this with h | h | h <;> rw [h]
      · exact ⟨1, by omega, by omega, rfl⟩
      · exact ⟨3, by omega, by omega, rfl⟩
      · exact ⟨8, by omega, by omega, rfl⟩
    obtain ⟨f, i2, okf, hb, hi2, e2⟩ := stream_ok row hr ks.length wd (by omega) (by omega) hw hw8 (i1 + 1) (by omega)
    refine ⟨n, ks, f, i2, ⟨by omega, ⟨by omega, by omega⟩, ok, okf, hb⟩, hi2, ?_⟩
    unfold fn_law_case fnOf b_law_case
    have lo : [Sl.va (.lst (iL row)), Sl.ow true [D.int i]].length = 2 := rfl
    rw [if_pos lo]
    have ap : [Sl.va (.lst (iL row)), Sl.ow true [D.int i]] ++ List.replicate (3 - 2) Sl.un = [.va (.lst (iL row)), .ow true [.int i], .un] := rfl
    rw [ap]
    have A1 : mIfS (mBin eqF (vOf (mFn fn_law_take (aCons (mOwn 0) (aCons (mOwn 1) (aCons (vOf (mC (.int 8))) aNil))))) (vOf (mC (.int 0)))) (mRet (mFn fn_law_twin_case (aCons (mOwn 0) (aCons (mOwn 1) aNil)))) mNext [.va (.lst (iL row)), .ow true [.int i], .un] = .nx [.va (.lst (iL row)), .ow true [.int (i + 1)], .un] := by
      simp [eqF_int, call_take row i 8 true _ hi (by omega) hr, hz]
    have A2 : mSet 2 (mFn fn_law_desk (aCons (mOwn 0) (aCons (mOwn 1) (aCons (vOf (mIf (mBin gtF (vOf (mFn fn_law_take (aCons (mOwn 0) (aCons (mOwn 1) (aCons (vOf (mC (.int 4))) aNil))))) (vOf (mC (.int 0)))) (mC (.int 2)) (mC (.int 3)))) aNil)))) [.va (.lst (iL row)), .ow true [.int (i + 1)], .un] =
        .nx [.va (.lst (iL row)), .ow true [.int i1], .va (.tup [.int n, .tup (ks.map kD)])] := by
      by_cases h : 0 < dV row (i + 1) 4
      · rw [if_pos h] at emo
        subst emo
        simp [call_take row (i + 1) 4 true _ (by omega) (by omega) hr, h, o3 _ _ _ _ _ _ _ _ e1]
      · rw [if_neg h] at emo
        subst emo
        simp [call_take row (i + 1) 4 true _ (by omega) (by omega) hr, h, o3 _ _ _ _ _ _ _ _ e1]
    rw [nx_seq A1, nx_seq A2]
    simp [atF, at1, lenF, line, call_take row i1 3 true _ hi1 (by omega) hr, ew, o4 _ _ _ _ _ _ _ _ _ e2, outsOf, List.range_succ, caseD]
theorem made_ok (n : Nat) (ks : List K5) (f : Flow) (G : Good n ks f) : fn_law_made [.va (caseD n ks (fD f))] = .ok (deskD n ks) [.un] := by
  have h1 := G.hn
  have e := K10.fi_ok n (by omega) (by omega) ks G.hk.1 G.hk.2 G.ok (.tup (ks.map kD)) _ (.inl rfl) (same_kD ks)
  simp [fn_law_made, fnOf, b_law_made, caseD, atF, at0, at1, mMake_s, makeF, vals, e, deskD, outsOf, List.range_succ]
theorem flow_ok (n : Nat) (ks : List K5) (f : Flow) (G : Good n ks f) : fn_law_flow [.va (caseD n ks (fD f))] = .ok (streamD f) [.un] := by
  have e := fi_ok f G.hf (fD f) (isF_self f)
  simp [fn_law_flow, fnOf, b_law_flow, caseD, atF, at0, at1, mMake_s, makeF, vals, e, streamD, outsOf, List.range_succ]
end K10f
set_option Elab.async false
set_option linter.all false
set_option maxRecDepth 100000
set_option maxHeartbeats 4000000
namespace K10f
open PySem PySem.Spec PyProof.Rows L2 Mp K10
def ssE (row : List Int) (i : Int) (cs : D) (ts : List T3) (s4 s5 s6 : Sl) : Mp.Env := [.va (.lst (iL row)), .ow true [.int i], .va cs, .ow false (ts.map tD), s4, s5, s6]
def ssbody : MS :=
    (mSeq (mSet 5 (mFn fn_law_take (aCons (mOwn 0) (aCons (mOwn 1) (aCons (vOf (mCall lenF (aCons (vOf (mBin atF (vOf (mBin atF (mOwn 2) (vOf (mC (.int 0))))) (vOf (mC (.int 1))))) aNil))) aNil)))))
    (mSeq (mSet 6 (mBin atF (vOf (mBin atF (vOf (mBin atF (mOwn 2) (vOf (mC (.int 0))))) (vOf (mC (.int 1))))) (mOwn 5)))
    (mAppend 3 (mTup (aCons (mOwn 5) (aCons (vOf (mBin addF (vOf (mC (.int 1))) (vOf (mFn fn_law_take (aCons (mOwn 0) (aCons (mOwn 1) (aCons (vOf (mBin atF (mOwn 6) (vOf (mC (.int 0))))) aNil))))))) (aCons (vOf (mBin addF (vOf (mC (.int 1))) (vOf (mFn fn_law_take (aCons (mOwn 0) (aCons (mOwn 1) (aCons (vOf (mBin atF (mOwn 6) (vOf (mC (.int 1))))) aNil))))))) aNil)))))))
theorem okT_of {n : Int} {ks : List K5} {f : Flow} (G : Good n ks f) {k a b : Int} {r : K5} (h0 : 0 ≤ k) (h1 : k < ks.length) (hr : ks[k.toNat]? = some r) (ha : 1 ≤ a ∧ a ≤ r.w) (hb : 1 ≤ b ∧ b ≤ r.p) : okT ks (k, a, b) = true := by
  unfold okT
  rw [hr]
  simp
  omega
theorem c00 (n : Int) (ks : List K5) (f : D) : atF (caseD n ks f) (.int 0) = some (.tup [.int n, .tup (ks.map kD)]) := by simp [caseD, atF, at0]
theorem c01 (n : Int) (ks : List K5) : atF (.tup [.int n, .tup (ks.map kD)]) (.int 1) = some (.tup (ks.map kD)) := by simp [atF, at1]
theorem c02 (n : Int) (ks : List K5) (f : Flow) : atF (caseD n ks (fD f)) (.int 1) = some (.tup (f.map sD)) := by simp [caseD, atF, at1, fD]
theorem lk (ks : List K5) : lenF [.tup (ks.map kD)] = some (.int ks.length) := by simp [lenF]
theorem lfl (f : Flow) : lenF [.tup (f.map sD)] = some (.int f.length) := by simp [lenF]
theorem k0 (r : K5) : atF (kD r) (.int 0) = some (.int r.w) := by simp [kD, atF, at0]
theorem k1 (r : K5) : atF (kD r) (.int 1) = some (.int r.p) := by simp [kD, atF, at1]
theorem ss_step (row : List Int) (hr : row ≠ []) (n : Nat) (ks : List K5) (f : Flow) (G : Good n ks f) (i : Int) (hi : 0 ≤ i) (ts : List T3) (hl : ts.length ≤ 50) (s4 s5 s6 : Sl) (f5 : Fr s5) (f6 : Fr s6) :
    ∃ (t : T3) (t5 t6 : Sl), okT ks t = true ∧ Fr t5 ∧ Fr t6 ∧ ssbody (ssE row i (caseD n ks (fD f)) ts s4 s5 s6) = .nx (ssE row (i + 1 + 1 + 1) (caseD n ks (fD f)) (ts ++ [t]) s4 t5 t6) := by
  have hk := G.hk
  have rk := dV_range row i ks.length (by omega)
  obtain ⟨r, hr1, ha⟩ := kget ks (dV row i ks.length) rk.1 rk.2
  have o := G.ok _ r hr1
  have rw_ := dV_range row (i + 1) r.w (by have := o.w; omega)
  have rp := dV_range row (i + 1 + 1) r.p (by have := o.p; omega)
  refine ⟨(dV row i ks.length, 1 + dV row (i + 1) r.w, 1 + dV row (i + 1 + 1) r.p), .va _, .va (kD r), okT_of G rk.1 rk.2 hr1 (by omega) (by omega), .va (.int (dV row i ks.length)), .va _, ?_⟩
  have A1 : mSet 5 (mFn fn_law_take (aCons (mOwn 0) (aCons (mOwn 1) (aCons (vOf (mCall lenF (aCons (vOf (mBin atF (vOf (mBin atF (mOwn 2) (vOf (mC (.int 0))))) (vOf (mC (.int 1))))) aNil))) aNil)))) (ssE row i (caseD n ks (fD f)) ts s4 s5 s6) = .nx (ssE row (i + 1) (caseD n ks (fD f)) ts s4 (.va (.int (dV row i ks.length))) s6) := by
    cases f5 <;> simp [ssE, c00, at1, lk, call_take row i ks.length true _ hi (by omega) hr]
  have g : atF (.tup (ks.map kD)) (.int (dV row i ks.length)) = some (kD r) := by simp [atF, ha]
  have A2 : mSet 6 (mBin atF (vOf (mBin atF (vOf (mBin atF (mOwn 2) (vOf (mC (.int 0))))) (vOf (mC (.int 1))))) (mOwn 5)) (ssE row (i + 1) (caseD n ks (fD f)) ts s4 (.va (.int (dV row i ks.length))) s6) = .nx (ssE row (i + 1) (caseD n ks (fD f)) ts s4 (.va (.int (dV row i ks.length))) (.va (kD r))) := by
    cases f6 <;> simp [ssE, c00, at1, ha]
  unfold ssbody
  rw [nx_seq A1, nx_seq A2]
  have hlt : ts.length < 16777216 := by omega
  simp [ssE, mAppend, k0, k1, call_take row (i + 1) r.w true _ (by omega) (by have := o.w; omega) hr, call_take row (i + 1 + 1) r.p true _ (by omega) (by have := o.p; omega) hr, hlt, line, tD]
theorem ss_loop (row : List Int) (hr : row ≠ []) (n : Nat) (ks : List K5) (f : Flow) (G : Good n ks f) : ∀ (l : List Int) (i : Int) (ts : List T3) (s4 s5 s6 : Sl), 0 ≤ i → ts.length + l.length ≤ 50 → (∀ t ∈ ts, okT ks t = true) → Fr s4 → Fr s5 → Fr s6 →
    ∃ (ts' : List T3) (i' : Int) (t4 t5 t6 : Sl), ts'.length = ts.length + l.length ∧ (∀ t ∈ ts', okT ks t = true) ∧ 0 ≤ i' ∧ forF (putG 4) ssbody (iL l) (ssE row i (caseD n ks (fD f)) ts s4 s5 s6) = .nx (ssE row i' (caseD n ks (fD f)) ts' t4 t5 t6)
  | [], i, ts, s4, s5, s6, hi, _, ok, _, _, _ => ⟨ts, i, s4, s5, s6, rfl, ok, hi, rfl⟩
  | k :: l, i, ts, s4, s5, s6, hi, hl, ok, f4, f5, f6 => by
    have hl' : ts.length + (l.length + 1) ≤ 50 := hl
    obtain ⟨t, t5, t6, ot, g5, g6, e⟩ := ss_step row hr n ks f G i hi ts (by omega) (.va (.int k)) s5 s6 f5 f6
    obtain ⟨ts', i', u4, u5, u6, q1, q2, q3, e2⟩ := ss_loop row hr n ks f G l (i + 1 + 1 + 1) (ts ++ [t]) (.va (.int k)) t5 t6 (by omega) (by simp; omega) (fun x hx => by
      rcases List.mem_append.mp hx with hx | hx
      · exact ok x hx
      · rw [List.mem_singleton.mp hx]; exact ot) (.va _) g5 g6
    refine ⟨ts', i', u4, u5, u6, by simp at q1 ⊢; omega, q2, q3, ?_⟩
    have p : putG 4 (.int k) (ssE row i (caseD n ks (fD f)) ts s4 s5 s6) = some (ssE row i (caseD n ks (fD f)) ts (.va (.int k)) s5 s6) := by cases f4 <;> simp [ssE]
    rw [iL_cons, forF, p]
    simp only [e]
    exact e2
theorem scn_ok (row : List Int) (hr : row ≠ []) (n : Nat) (ks : List K5) (f : Flow) (G : Good n ks f) (i : Int) (hi : 0 ≤ i) :
    ∃ (s : Nat) (ts : List T3) (i' : Int), s < f.length ∧ ts.length ≤ 5 ∧ (∀ t ∈ ts, okT ks t = true) ∧ sT ts = ts ∧ 0 ≤ i' ∧ fn_law_scene [.va (.lst (iL row)), .ow true [.int i], .va (caseD n ks (fD f))] = .ok (scD s ts) [.un, .ow true [.int i'], .un] := by
  have r0 := dV_range row i 6 (by omega)
  obtain ⟨c, hc⟩ := Int.eq_ofNat_of_zero_le r0.1
  obtain ⟨ts, i1, t4, t5, t6, hl, ok, hi1, e⟩ := ss_loop row hr n ks f G (upto c) (i + 1) [] .un .un .un (by omega) (by rw [upto_length]; simp; omega) (fun t h => by simp at h) .un .un .un
  have hf := G.hf.l1
  have rs := dV_range row i1 f.length (by omega)
  obtain ⟨s, hs⟩ := Int.eq_ofNat_of_zero_le rs.1
  refine ⟨s, sT ts, i1 + 1, by omega, by rw [sT_length, hl, upto_length]; simp; omega, fun t ht => ok t ((sT_mem ts t).mp ht), sT_idem ts, by omega, ?_⟩
  unfold fn_law_scene fnOf b_law_scene
  have lo : [Sl.va (.lst (iL row)), Sl.ow true [D.int i], Sl.va (caseD n ks (fD f))].length = 3 := rfl
  rw [if_pos lo]
  have ap : [Sl.va (.lst (iL row)), Sl.ow true [D.int i], Sl.va (caseD n ks (fD f))] ++ List.replicate (7 - 3) Sl.un = [.va (.lst (iL row)), .ow true [.int i], .va (caseD n ks (fD f)), .un, .un, .un, .un] := rfl
  rw [ap]
  have A1 : mSetO 3 (lLst aNil) [.va (.lst (iL row)), .ow true [.int i], .va (caseD n ks (fD f)), .un, .un, .un, .un] = .nx (ssE row i (caseD n ks (fD f)) [] .un .un .un) := by
    simp [ownG, line, ssE]
  have A2 : mFor (lRange1 (mFn fn_law_take (aCons (mOwn 0) (aCons (mOwn 1) (aCons (vOf (mC (.int 6))) aNil))))) (putG 4) ssbody (ssE row i (caseD n ks (fD f)) [] .un .un .un) = .nx (ssE row i1 (caseD n ks (fD f)) ts t4 t5 t6) := by
    have m1 : mFn fn_law_take (aCons (mOwn 0) (aCons (mOwn 1) (aCons (vOf (mC (.int 6))) aNil))) (ssE row i (caseD n ks (fD f)) [] .un .un .un) = .ok (.int c) (ssE row (i + 1) (caseD n ks (fD f)) [] .un .un .un) := by
      simp [ssE, call_take row i 6 true _ hi (by omega) hr, hc]
    have m2 : lRange1 (mFn fn_law_take (aCons (mOwn 0) (aCons (mOwn 1) (aCons (vOf (mC (.int 6))) aNil)))) (ssE row i (caseD n ks (fD f)) [] .un .un .un) = .ok (iL (upto c)) (ssE row (i + 1) (caseD n ks (fD f)) [] .un .un .un) := by
      have e62 : (2 : Int) ^ 62 = 4611686018427387904 := by simp
      have h1 : -(2 ^ 62) ≤ (c : Int) ∧ (c : Int) < 2 ^ 62 := by
        rw [e62]
        omega
      unfold lRange1
      rw [m1, Re.bind_ok]
      dsimp only
      rw [if_pos h1, Int.toNat_natCast, range_iL]
    rw [mFor_s, m2, Re.flow_ok, e]
  unfold ssbody at A2
  rw [nx_seq A1, nx_seq A2]
  have srt := sort_t (.lst (ts.map tD)) ts (.inr rfl)
  simp [ssE, c02, lfl, call_take row i1 f.length true _ hi1 (by omega) hr, hs, srt, tupF, line, outsOf, List.range_succ, scD]
/-! ### the crowd -/
theorem copies (row : List Int) (i : Int) (cs d3 d4 d5 : D) : ∀ l : List Int, lcF [6] (putG 6) tYesF (mVar 5) (iL l) [.va (.lst (iL row)), .ow true [.int i], .va cs, .va d3, .va d4, .va d5, .un] = .ok (l.map fun _ => d5) [.va (.lst (iL row)), .ow true [.int i], .va cs, .va d3, .va d4, .va d5, .un]
  | [] => rfl
  | x :: l => by
    have ih := copies row i cs d3 d4 d5 l
    rw [iL_cons, lcF]
    simp [free_, isOw, enterE, wipeE, tYesF, backE, ih]
theorem crowd_ok (row : List Int) (hr : row ≠ []) (n : Nat) (ks : List K5) (f : Flow) (G : Good n ks f) (i : Int) (hi : 0 ≤ i) :
    ∃ (s : Nat) (ts : List T3) (i' : Int), s < f.length ∧ ts.length ≤ 37 ∧ (∀ t ∈ ts, okT ks t = true) ∧ sT ts = ts ∧ 0 ≤ i' ∧ fn_law_crowd [.va (.lst (iL row)), .ow true [.int i], .va (caseD n ks (fD f))] = .ok (scD s ts) [.un, .ow true [.int i'], .un] := by
  have hk := G.hk
  have hf := G.hf.l1
  have rk := dV_range row i ks.length (by omega)
  obtain ⟨r, hr1, ha⟩ := kget ks (dV row i ks.length) rk.1 rk.2
  have o := G.ok _ r hr1
  have rw_ := dV_range row (i + 1) r.w (by have := o.w; omega)
  have rp := dV_range row (i + 1 + 1) r.p (by have := o.p; omega)
  have rs := dV_range row (i + 1 + 1 + 1) f.length (by omega)
  obtain ⟨s, hs⟩ := Int.eq_ofNat_of_zero_le rs.1
  have rc := dV_range row (i + 1 + 1 + 1 + 1) 30 (by omega)
  obtain ⟨c, hc⟩ := Int.eq_ofNat_of_zero_le (show 0 ≤ 8 + dV row (i + 1 + 1 + 1 + 1) 30 by omega)
  let t : T3 := (dV row i ks.length, 1 + dV row (i + 1) r.w, 1 + dV row (i + 1 + 1) r.p)
  have ot : okT ks t = true := okT_of G rk.1 rk.2 hr1 (by omega) (by omega)
  refine ⟨s, (upto c).map fun _ => t, i + 1 + 1 + 1 + 1 + 1, by omega, by simp [upto_length]; omega, fun x hx => ?_, ?_, by omega, ?_⟩
  · obtain ⟨_, _, rfl⟩ := List.mem_map.mp hx
    exact ot
  · refine sT_self ?_
    rw [List.pairwise_map]
    exact List.pairwise_of_forall (fun _ _ => by simp [lx])
  · unfold fn_law_crowd fnOf b_law_crowd
    have lo : [Sl.va (.lst (iL row)), Sl.ow true [D.int i], Sl.va (caseD n ks (fD f))].length = 3 := rfl
    rw [if_pos lo]
    have ap : [Sl.va (.lst (iL row)), Sl.ow true [D.int i], Sl.va (caseD n ks (fD f))] ++ List.replicate (7 - 3) Sl.un = [.va (.lst (iL row)), .ow true [.int i], .va (caseD n ks (fD f)), .un, .un, .un, .un] := rfl
    rw [ap]
    have A1 : mSet 3 (mFn fn_law_take (aCons (mOwn 0) (aCons (mOwn 1) (aCons (vOf (mCall lenF (aCons (vOf (mBin atF (vOf (mBin atF (mOwn 2) (vOf (mC (.int 0))))) (vOf (mC (.int 1))))) aNil))) aNil)))) [.va (.lst (iL row)), .ow true [.int i], .va (caseD n ks (fD f)), .un, .un, .un, .un] =
        .nx [.va (.lst (iL row)), .ow true [.int (i + 1)], .va (caseD n ks (fD f)), .va (.int (dV row i ks.length)), .un, .un, .un] := by
      simp [c00, at1, lk, call_take row i ks.length true _ hi (by omega) hr]
    have A2 : mSet 4 (mBin atF (vOf (mBin atF (vOf (mBin atF (mOwn 2) (vOf (mC (.int 0))))) (vOf (mC (.int 1))))) (mOwn 3)) [.va (.lst (iL row)), .ow true [.int (i + 1)], .va (caseD n ks (fD f)), .va (.int (dV row i ks.length)), .un, .un, .un] =
        .nx [.va (.lst (iL row)), .ow true [.int (i + 1)], .va (caseD n ks (fD f)), .va (.int (dV row i ks.length)), .va (kD r), .un, .un] := by
      simp [c00, at1, ha]
    have A3 : mSet 5 (mTup (aCons (mOwn 3) (aCons (vOf (mBin addF (vOf (mC (.int 1))) (vOf (mFn fn_law_take (aCons (mOwn 0) (aCons (mOwn 1) (aCons (vOf (mBin atF (mOwn 4) (vOf (mC (.int 0))))) aNil))))))) (aCons (vOf (mBin addF (vOf (mC (.int 1))) (vOf (mFn fn_law_take (aCons (mOwn 0) (aCons (mOwn 1) (aCons (vOf (mBin atF (mOwn 4) (vOf (mC (.int 1))))) aNil))))))) aNil))))
        [.va (.lst (iL row)), .ow true [.int (i + 1)], .va (caseD n ks (fD f)), .va (.int (dV row i ks.length)), .va (kD r), .un, .un] = .nx [.va (.lst (iL row)), .ow true [.int (i + 1 + 1 + 1)], .va (caseD n ks (fD f)), .va (.int (dV row i ks.length)), .va (kD r), .va (tD t), .un] := by
      simp [k0, k1, call_take row (i + 1) r.w true _ (by omega) (by have := o.w; omega) hr, call_take row (i + 1 + 1) r.p true _ (by omega) (by have := o.p; omega) hr, line, tD, t]
    rw [nx_seq A1, nx_seq A2, nx_seq A3]
    have m1 : mBin addF (vOf (mC (.int 8))) (vOf (mFn fn_law_take (aCons (mOwn 0) (aCons (mOwn 1) (aCons (vOf (mC (.int 30))) aNil))))) [.va (.lst (iL row)), .ow true [.int (i + 1 + 1 + 1 + 1)], .va (caseD n ks (fD f)), .va (.int (dV row i ks.length)), .va (kD r), .va (tD t), .un] = .ok (.int c) [.va (.lst (iL row)), .ow true [.int (i + 1 + 1 + 1 + 1 + 1)], .va (caseD n ks (fD f)), .va (.int (dV row i ks.length)), .va (kD r), .va (tD t), .un] := by
      simp [call_take row (i + 1 + 1 + 1 + 1) 30 true _ (by omega) (by omega) hr, hc]
    have m2 : lRange1 (mBin addF (vOf (mC (.int 8))) (vOf (mFn fn_law_take (aCons (mOwn 0) (aCons (mOwn 1) (aCons (vOf (mC (.int 30))) aNil)))))) [.va (.lst (iL row)), .ow true [.int (i + 1 + 1 + 1 + 1)], .va (caseD n ks (fD f)), .va (.int (dV row i ks.length)), .va (kD r), .va (tD t), .un] = .ok (iL (upto c)) [.va (.lst (iL row)), .ow true [.int (i + 1 + 1 + 1 + 1 + 1)], .va (caseD n ks (fD f)), .va (.int (dV row i ks.length)), .va (kD r), .va (tD t), .un] := by
      have e62 : (2 : Int) ^ 62 = 4611686018427387904 := by simp
      have h1 : -(2 ^ 62) ≤ (c : Int) ∧ (c : Int) < 2 ^ 62 := by
        rw [e62]
        omega
      unfold lRange1
      rw [m1, Re.bind_ok]
      dsimp only
      rw [if_pos h1, Int.toNat_natCast, range_iL]
    have lu : (upto c).length ≤ 16777216 := by rw [upto_length]; omega
    have cp := copies row (i + 1 + 1 + 1 + 1 + 1) (caseD n ks (fD f)) (.int (dV row i ks.length)) (kD r) (tD t) (upto c)
    simp [c02, lfl, call_take row (i + 1 + 1 + 1) f.length true _ (by omega) (by omega) hr, hs, m2, lu, cp, tupF, line, outsOf, List.range_succ, scD]
end K10f
set_option Elab.async false
set_option linter.all false
set_option maxRecDepth 100000
set_option maxHeartbeats 4000000
namespace K10f
open PySem PySem.Spec PyProof.Rows L2 Mp K10
structure TL (n : Int) (ks : List K5) (f : Flow) (d : D) (r : Option T3) : Prop where
  p : fn_plain_ticket [.va (deskD n ks), .va d] = .ok (oD r) [.un, .un]
  l : fn_law_is_ticket [.va (caseD n ks (fD f)), .va d] = .ok (.bl r.isSome) [.un, .un]
  e : ∀ t, r = some t → d = tD t
theorem tl_t (n : Int) (ks : List K5) (f : Flow) (t : T3) : ∃ r, TL n ks f (tD t) r := by
  have h1 := ticket_ok n ks (tD t) t (.inl rfl)
  have h2 := lt_ok n ks (fD f) t
  by_cases h : okT ks t = true
  · rw [if_pos h] at h1
    rw [h] at h2
    exact ⟨some t, h1, h2, fun t' e => by cases e; rfl⟩
  · rw [if_neg h] at h1
    rw [Bool.not_eq_true] at h
    rw [h] at h2
    exact ⟨none, h1, h2, fun t' e => by cases e⟩
theorem tl_non (n : Int) (ks : List K5) (f : Flow) : ∃ r, TL n ks f .non r := ⟨none, ticket_len n ks .non (len_no .non 3 3 seq_n), lt_non _, fun t e => by cases e⟩
theorem len_bad (d : D) (xs : List D) (h : isSq d xs) (k : Nat) (hk : xs.length ≠ k) : fn_has_length [.va d, .va (.int k), .va (.int k)] = .ok (.bl false) [.un, .un, .un] := by
  have e := length_ok d xs h k k
  have : decide ((k : Int) ≤ xs.length ∧ (xs.length : Int) ≤ k) = false := by
    rw [decide_eq_false_iff_not]
    omega
  rw [this] at e
  exact e
theorem tl_len (n : Int) (ks : List K5) (f : Flow) (xs : List D) (h : xs.length ≠ 3) : ∃ r, TL n ks f (.tup xs) r := ⟨none, ticket_len n ks _ (len_bad _ xs (.inl rfl) 3 h), lt_len _ xs h, fun t e => by cases e⟩
theorem tl_bool (n : Int) (ks : List K5) (f : Flow) (b : Bool) (x y : D) : ∃ r, TL n ks f (.tup [.bl b, x, y]) r := ⟨none, ticket_bool n ks b x y, lt_bool _ b x y, fun t e => by cases e⟩
theorem tls (n : Int) (ks : List K5) (f : Flow) : ∀ ds : List D, (∀ d ∈ ds, ∃ r, TL n ks f d r) → ∃ rs : List (Option T3), ds.length = rs.length ∧ (∀ (i : Nat) (d : D) (r : Option T3), ds[i]? = some d → rs[i]? = some r → TL n ks f d r) ∧ ∀ ts, allS rs = some ts → ds = ts.map tD
  | [], _ => ⟨[], rfl, fun i d r a _ => by simp at a, fun ts h => by cases h; rfl⟩
  | d :: ds, h => by
    obtain ⟨r, hr⟩ := h d (by simp)
    obtain ⟨rs, q1, q2, q3⟩ := tls n ks f ds fun x hx => h x (by simp [hx])
    refine ⟨r :: rs, by simp [q1], fun i d' r' a b => ?_, fun ts hts => ?_⟩
    · cases i with
      | zero => cases a; cases b; exact hr
      | succ i => exact q2 i d' r' (by simpa using a) (by simpa using b)
    · cases r with
      | none => cases hts
      | some t =>
        simp [allS] at hts
        obtain ⟨us, h1, rfl⟩ := hts
        rw [List.map_cons, ← q3 us h1, hr.e t rfl]
def Agree (n : Int) (ks : List K5) (f : Flow) (v : D) : Prop := ∃ b, fn_is_scene [.va (deskD n ks), .va (streamD f), .va v] = .ok (.bl b) [.un, .un, .un] ∧ fn_law_is_scene [.va (caseD n ks (fD f)), .va v, .va (.int 40)] = .ok (.bl b) [.un, .un, .un]
section
variable {n : Int} {ks : List K5} {f : Flow}
theorem ag_non (G : Good n ks f) : Agree n ks f .non := ⟨false, isScene_ok n ks f G _ _ (scene_short n ks f 40 .non (len_no .non 2 2 seq_n)), ls_non _ _⟩
theorem ag_int (G : Good n ks f) (i : Int) : Agree n ks f (.int i) := ⟨false, isScene_ok n ks f G _ _ (scene_short n ks f 40 (.int i) (len_no (.int i) 2 2 (seq_i i))), ls_int _ _ _⟩
theorem ag_len (G : Good n ks f) (xs : List D) (h : xs.length ≠ 2) : Agree n ks f (.tup xs) := ⟨false, isScene_ok n ks f G _ _ (scene_short n ks f 40 (.tup xs) (len_bad _ xs (.inl rfl) 2 h)), ls_len _ xs _ h⟩
theorem ag_bool (G : Good n ks f) (b : Bool) (w : D) : Agree n ks f (.tup [.bl b, w]) := ⟨false, isScene_ok n ks f G _ _ (scene_bool n ks f G.hf.l8 40 b w), ls_bool _ b w _⟩
theorem ag_nolist (G : Good n ks f) (s : Int) : Agree n ks f (.tup [.int s, .non]) := ⟨false, isScene_ok n ks f G _ _ (scene_nolist n ks f G.hf.l8 40 s .non (len_no .non 0 40 seq_n)), ls_nolist _ s _⟩
theorem ag_full (G : Good n ks f) (s : Int) (ds : List D) (h : ∀ d ∈ ds, ∃ r, TL n ks f d r) : Agree n ks f (.tup [.int s, .tup ds]) := by
  obtain ⟨rs, q1, q2, q3⟩ := tls n ks f ds h
  exact ⟨_, isScene_ok n ks f G _ _ (scene_ok n ks f G 40 (by omega) _ (.tup ds) s ds rs (.inl rfl) (.inl rfl) q1 fun i d r a b => (q2 i d r a b).p), ls_ok n ks f 40 (by omega) s ds rs q1 (fun i d r a b => (q2 i d r a b).l) q3⟩
/-- the wrong ones, and some right ones -/
def odd1 (f : Flow) (r : K5) (s : Int) (ts : List T3) : List D := [.non, .int 5, .tup [], .tup [.int s], .tup [.int s, .tup (ts.map tD), .int 0], .tup [.int f.length, .tup []], .tup [.int (-1), .tup []], .tup [.bl true, .tup []], .tup [.int 0, .non], .tup [.int 0, .tup [tD (0, r.w + 1, 1)]], .tup [.int 0, .tup [tD (0, 0, 1)]], .tup [.int 0, .tup [tD (0, 1, r.p + 1)]]]
def odd2 (ks : List K5) (r : K5) : List D := [.tup [.int 0, .tup [tD (0, 1, 0)]], .tup [.int 0, .tup [tD (ks.length, 1, 1)]], .tup [.int 0, .tup [.tup [.int 0, .int r.w]]], .tup [.int 0, .tup [.non]]]
def odd3 (r : K5) (s : Int) (ts : List T3) : List D := [.tup [.int 0, .tup ((upto 41).map fun _ => tD (0, r.w, r.p))], .tup [.int 0, .tup ((upto 40).map fun _ => tD (0, r.w, r.p))], .tup [.int 0, .tup [tD (0, r.w, r.p), tD (0, 1, 1)]], .tup [.int 0, .tup [.tup [.bl true, .int 1, .int 1]]], .tup [.int 0, .tup [tD (0, 1, 1), tD (0, r.w, r.p)]], .tup [.int s, .tup (ts.map tD).reverse]]
theorem one_t (t : T3) : ∀ d ∈ [tD t], ∃ r, TL n ks f d r := fun d h => by rw [List.mem_singleton.mp h]; exact tl_t n ks f t
theorem odd1_ok (G : Good n ks f) (r : K5) (s : Int) (ts : List T3) : ∀ v ∈ odd1 f r s ts, Agree n ks f v := by
  intro v hv
  simp only [odd1, List.mem_cons, List.not_mem_nil, or_false] at hv
  rcases hv with rfl | rfl | rfl | rfl | rfl | rfl | rfl | rfl | rfl | rfl | rfl | rfl
  · exact ag_non G
  · exact ag_int G 5
  · exact ag_len G _ (by simp)
  · exact ag_len G _ (by simp)
  · exact ag_len G _ (by simp)
  · exact ag_full G _ _ (fun d h => by simp at h)
  · exact ag_full G _ _ (fun d h => by simp at h)
  · exact ag_bool G _ _
  · exact ag_nolist G _
  · exact ag_full G _ _ (one_t _)
  · exact ag_full G _ _ (one_t _)
  · exact ag_full G _ _ (one_t _)
theorem odd2_ok (G : Good n ks f) (r : K5) : ∀ v ∈ odd2 ks r, Agree n ks f v := by
  intro v hv
  simp only [odd2, List.mem_cons, List.not_mem_nil, or_false] at hv
  rcases hv with rfl | rfl | rfl | rfl
  · exact ag_full G _ _ (one_t _)
  · exact ag_full G _ _ (one_t _)
  · exact ag_full G _ _ (fun d h => by rw [List.mem_singleton.mp h]; exact tl_len n ks f _ (by simp))
  · exact ag_full G _ _ (fun d h => by rw [List.mem_singleton.mp h]; exact tl_non n ks f)
theorem odd3_ok (G : Good n ks f) (r : K5) (s : Int) (ts : List T3) : ∀ v ∈ odd3 r s ts, Agree n ks f v := by
  intro v hv
  simp only [odd3, List.mem_cons, List.not_mem_nil, or_false] at hv
  have two : ∀ (t u : T3), ∀ d ∈ [tD t, tD u], ∃ r, TL n ks f d r := fun t u d h => by
    rcases List.mem_cons.mp h with rfl | h
    · exact tl_t n ks f t
    · rw [List.mem_singleton.mp h]; exact tl_t n ks f u
  have rep : ∀ (k : Nat) (t : T3), ∀ d ∈ (upto k).map fun _ => tD t, ∃ r, TL n ks f d r := fun k t d h => by
    obtain ⟨_, _, rfl⟩ := List.mem_map.mp h
    exact tl_t n ks f t
  rcases hv with rfl | rfl | rfl | rfl | rfl | rfl
  · exact ag_full G _ _ (rep _ _)
  · exact ag_full G _ _ (rep _ _)
  · exact ag_full G _ _ (two _ _)
  · exact ag_full G _ _ (fun d h => by rw [List.mem_singleton.mp h]; exact tl_bool n ks f _ _ _)
  · exact ag_full G _ _ (two _ _)
  · refine ag_full G _ _ (fun d h => ?_)
    obtain ⟨t, _, rfl⟩ := List.mem_map.mp (List.mem_reverse.mp h)
    exact tl_t n ks f t
end
/-! ### right scenes -/
theorem right_scene {n : Int} {ks : List K5} {f : Flow} (G : Good n ks f) (m : Int) (hm : m ≤ 60) (s : Nat) (hs : s < f.length) (ts : List T3) (hl : (ts.length : Int) ≤ m) (ok : ∀ t ∈ ts, okT ks t = true) (hso : sT ts = ts) (v : D) (hv : Lo (scD s ts) v) :
    fn_plain_scene [.va (deskD n ks), .va (streamD f), .va v, .va (.int m)] = .ok (scD s ts) [.un, .un, .un, .un] := by
  obtain ⟨ys, h1, h2, h3⟩ := hv.tup
  have hy : ∃ w, ys = [.int s, w] ∧ Lo (.tup (ts.map tD)) w := by
    match ys, h2 with
    | [a, w], _ =>
      have ha := (h3 0 (.int s) a rfl rfl).int_
      exact ⟨w, by rw [ha], h3 1 _ w rfl rfl⟩
  obtain ⟨w, rfl, hw⟩ := hy
  obtain ⟨ds, w1, w2, w3⟩ := hw.tup
  have hds : ds.length = (ts.map some).length := by
    have := w2
    simp at this ⊢
    omega
  have key := scene_ok n ks f G m hm v w s ds (ts.map some) h1 w1 hds fun i d r a b => by
    rw [List.getElem?_map, Option.map_eq_some_iff] at b
    obtain ⟨t, b1, rfl⟩ := b
    have lo := w3 i (tD t) d (by simp [b1]) a
    obtain ⟨zs, z1, z2, z3⟩ := lo.tup
    have hz : zs = [.int t.1, .int t.2.1, .int t.2.2] := by
      match zs, z2 with
      | [x, y, z], _ =>
        rw [(z3 0 _ x rfl rfl).int_, (z3 1 _ y rfl rfl).int_, (z3 2 _ z rfl rfl).int_]
    rw [hz] at z1
    have e := ticket_ok n ks d t z1
    rw [if_pos (ok t (List.mem_of_getElem? b1))] at e
    exact e
  have al : ∀ ts : List T3, allS (ts.map some) = some ts := fun ts => by
    induction ts with
    | nil => rfl
    | cons t ts ih => simp [allS, ih]
  have hc : (0 ≤ (s : Int) ∧ (s : Int) < f.length) ∧ ((ts.map some).length : Int) ≤ m := by simp; omega
  have er : rT ts = true := by rw [rT_eq, hso]; simp
  unfold sceneR at key
  rw [if_pos hc, al] at key
  simp only [er, if_true] at key
  exact key
end K10f
set_option Elab.async false
set_option linter.all false
set_option maxRecDepth 100000
set_option maxHeartbeats 4000000
namespace K10f
open PySem PySem.Spec PyProof.Rows L2 Mp K10
def LE (sc : D) (row : List Int) (i : Int) (d3 d4 d5 d6 d7 s8 s9 s10 s11 s12 : Sl) : Mp.Env := [.va sc, .va (.lst (iL row)), .ow false [.int i], d3, d4, d5, d6, d7, s8, s9, s10, s11, s12, .un]
theorem takeL (row : List Int) (i lim : Int) (b : Bool) (s0 s1 : Sl) (rest : Mp.Env) (h0 : 0 ≤ i) (hl : 0 < lim) (hr : row ≠ []) :
    callF fn_law_take [.va (.lst (iL row)), .ix 2, .va (.int lim)] (s0 :: s1 :: .ow b [.int i] :: rest) = .ok (.int (dV row i lim)) (s0 :: s1 :: .ow b [.int (i + 1)] :: rest) := by
  simp [callF, ixs, argsOf, take_ok row i lim h0 hl hr, putB]
theorem p2 (fn : Fn) (a d : D) (b : Bool) (s0 s1 : Sl) (xs ys : List D) (rest : Mp.Env) (h : fn [.va a, .ow true xs] = .ok d [.un, .ow true ys]) : callF fn [.va a, .ix 2] (s0 :: s1 :: .ow b xs :: rest) = .ok d (s0 :: s1 :: .ow b ys :: rest) := by
  simp [callF, ixs, argsOf, h, putB]
theorem p3 (fn : Fn) (a x d : D) (b : Bool) (s0 s1 : Sl) (xs ys : List D) (rest : Mp.Env) (h : fn [.va a, .ow true xs, .va x] = .ok d [.un, .ow true ys, .un]) : callF fn [.va a, .ix 2, .va x] (s0 :: s1 :: .ow b xs :: rest) = .ok d (s0 :: s1 :: .ow b ys :: rest) := by
  simp [callF, ixs, argsOf, h, putB]
theorem S0 (ns : List Int) (row : List Int) (h : fn_law_numbers [.va (.rol (iL ns))] = .ok (.lst (iL row)) [.un]) :
    law_s0 [.va (.rol (iL ns)), .un, .un, .un, .un, .un, .un, .un, .un, .un, .un, .un, .un, .un] = .nx [.va (.rol (iL ns)), .va (.lst (iL row)), .un, .un, .un, .un, .un, .un, .un, .un, .un, .un, .un, .un] := by
  simp [law_s0, call_va1 _ _ _ _ _ h]
theorem S1 (sc : D) (row : List Int) : law_s1 [.va sc, .va (.lst (iL row)), .un, .un, .un, .un, .un, .un, .un, .un, .un, .un, .un, .un] = .nx (LE sc row 0 .un .un .un .un .un .un .un .un .un .un) := by
  simp [law_s1, ownG, line, LE]
section
variable {n : Nat} {ks : List K5} {f : Flow}
theorem S2 (sc : D) (row : List Int) (i i' : Int) (h : fn_law_case [.va (.lst (iL row)), .ow true [.int i]] = .ok (caseD n ks (fD f)) [.un, .ow true [.int i']]) :
    law_s2 (LE sc row i .un .un .un .un .un .un .un .un .un .un) = .nx (LE sc row i' (.va (caseD n ks (fD f))) .un .un .un .un .un .un .un .un .un) := by
  simp [law_s2, LE, p2 _ _ _ _ _ _ _ _ _ h]
theorem S3 (G : Good n ks f) (sc : D) (row : List Int) (i : Int) : law_s3 (LE sc row i (.va (caseD n ks (fD f))) .un .un .un .un .un .un .un .un .un) = .nx (LE sc row i (.va (caseD n ks (fD f))) (.va (deskD n ks)) .un .un .un .un .un .un .un .un) := by
  simp [law_s3, LE, call_va1 _ _ _ _ _ (made_ok n ks f G)]
theorem S4 (G : Good n ks f) (sc : D) (row : List Int) (i : Int) : law_s4 (LE sc row i (.va (caseD n ks (fD f))) (.va (deskD n ks)) .un .un .un .un .un .un .un .un) = .nx (LE sc row i (.va (caseD n ks (fD f))) (.va (deskD n ks)) (.va (streamD f)) .un .un .un .un .un .un .un) := by
  simp [law_s4, LE, call_va1 _ _ _ _ _ (flow_ok n ks f G)]
theorem S5 (sc : D) (row : List Int) (i i' : Int) (d : D) (h : fn_law_scene [.va (.lst (iL row)), .ow true [.int i], .va (caseD n ks (fD f))] = .ok d [.un, .ow true [.int i'], .un]) :
    law_s5 (LE sc row i (.va (caseD n ks (fD f))) (.va (deskD n ks)) (.va (streamD f)) .un .un .un .un .un .un .un) = .nx (LE sc row i' (.va (caseD n ks (fD f))) (.va (deskD n ks)) (.va (streamD f)) (.va d) .un .un .un .un .un .un) := by
  simp [law_s5, LE, p3 _ _ _ _ _ _ _ _ _ _ h]
theorem S6 (sc : D) (row : List Int) (i i' : Int) (d d6 : D) (h : fn_law_crowd [.va (.lst (iL row)), .ow true [.int i], .va (caseD n ks (fD f))] = .ok d [.un, .ow true [.int i'], .un]) :
    law_s6 (LE sc row i (.va (caseD n ks (fD f))) (.va (deskD n ks)) (.va (streamD f)) (.va d6) .un .un .un .un .un .un) = .nx (LE sc row i' (.va (caseD n ks (fD f))) (.va (deskD n ks)) (.va (streamD f)) (.va d6) (.va d) .un .un .un .un .un) := by
  simp [law_s6, LE, p3 _ _ _ _ _ _ _ _ _ _ h]
theorem S7 (sc : D) (row : List Int) (i : Int) (d3 d4 d5 d6 : Sl) (s : Nat) (ts : List T3) (hl : ts.length ≤ 37) :
    law_s7 (LE sc row i d3 d4 d5 d6 (.va (scD s ts)) .un .un .un .un .un) = .nx (LE sc row i d3 d4 d5 d6 (.va (scD s ts)) .un .un .un .un .un) := by
  have c : cutF none (some 37) (.tup (ts.map tD)) = some (.tup ((ts.map tD).take 37)) := (cut_to 37 (ts.map tD)).2.2
  rw [List.take_of_length_le (by simpa using hl)] at c
  simp [law_s7, LE, scD, at0, at1, mCut, oNone, oSome, asI, c, line]
theorem lo_t (t : T3) : Lo (tD t) (tD t) := .sq _ _ _ rfl (fun i x y a b => by
  rw [a] at b
  cases b
  have := List.mem_of_getElem? a
  simp at this
  rcases this with rfl | rfl | rfl <;> exact .int _) (.inl rfl)
theorem lo_sc (s : Int) (ts : List T3) : Lo (scD s ts) (scD s ts) := .sq _ _ _ rfl (fun i x y a b => by
  rw [a] at b
  cases b
  have := List.mem_of_getElem? a
  simp at this
  rcases this with rfl | rfl
  · exact .int _
  · exact .sq _ _ _ rfl (fun i x y a b => by
      rw [a] at b
      cases b
      have := List.mem_of_getElem? a
      obtain ⟨t, _, rfl⟩ := List.mem_map.mp this
      exact lo_t t) (.inl rfl)) (.inl rfl)
theorem pl_t (m : Nat) (t : T3) : Pl (m + 1) (tD t) := .tup _ (by simp) fun x hx => by
  simp at hx
  rcases hx with rfl | rfl | rfl <;> exact .int _
theorem pl_sc (m : Nat) (s : Int) (ts : List T3) (hl : ts.length ≤ 1000) : Pl (m + 3) (scD s ts) := .tup _ (by simp) fun x hx => by
  simp at hx
  rcases hx with rfl | rfl
  · exact .int _
  · exact .tup _ (by simpa using hl) fun y hy => by
      obtain ⟨t, _, rfl⟩ := List.mem_map.mp hy
      exact pl_t m t
def cR (ks : List K5) (ts : List T3) (a : Arc) : D := scD a.n (sT (comeT ks ts a.k))
theorem soT (d : D) (h : Pl 7 d) (e : Mp.Env) : callF (fn_law_so 8) [.va d, .va d] e = .ok (.bl true) e := call_va2 _ _ _ _ e .un .un (so_true 7 d h)
theorem same_come (G : Good n ks f) (s : Nat) (ts : List T3) (hl : ts.length ≤ 37) (ok : ∀ t ∈ ts, okT ks t = true) (hso : sT ts = ts) (v : D) (hv : Lo (scD s ts) v) (j : Nat) (st : St1) (a : Arc) (hs : f[s]? = some st) (ha : st[j]? = some a) :
    ∃ d, Pl 7 d ∧ (∀ e, callF fn_come [.va (deskD n ks), .va (streamD f), .va v, .va (.int j)] e = .ok d e) ∧ ∀ e, callF fn_law_come [.va (caseD n ks (fD f)), .va (scD s ts), .va (.int j)] e = .ok d e := by
  have hst : st ∈ f := List.mem_of_getElem? hs
  have hat : a ∈ st := List.mem_of_getElem? ha
  have oka := (G.hf.s st hst).a a hat
  have l3 := oka.l
  have hsl : s < f.length := (List.getElem?_eq_some_iff.mp hs).1
  have rs := right_scene G 37 (by omega) s hsl ts (by omega) ok hso v hv
  have e1 := come_ok n ks f G v s ts j st a hs ha hl rs
  have e2 := lcome_ok n ks f s ts j st a hs ha (fun x hx => ⟨(oka.m x hx).1, G.hb st hst a hat x hx⟩) (by omega)
  have hc := comeT_len ks a.k ts
  exact ⟨cR ks ts a, pl_sc 4 _ _ (by rw [sT_length]; omega), fun e => call_va4 _ _ _ _ _ _ e e1, fun e => call_va3 _ _ _ _ _ e _ _ _ e2⟩
theorem S8 (G : Good n ks f) (sc : D) (row : List Int) (i : Int) (d6 : Sl) (s : Nat) (hs : s < f.length) (ts : List T3) (hl : ts.length ≤ 37) (ok : ∀ t ∈ ts, okT ks t = true) (hso : sT ts = ts) :
    law_s8 (LE sc row i (.va (caseD n ks (fD f))) (.va (deskD n ks)) (.va (streamD f)) d6 (.va (scD s ts)) .un .un .un .un .un) = .nx (LE sc row i (.va (caseD n ks (fD f))) (.va (deskD n ks)) (.va (streamD f)) d6 (.va (scD s ts)) .un .un .un .un .un) := by
  have hst : f[s]? = some f[s] := List.getElem?_eq_getElem hs
  have l1 := (G.hf.s f[s] (List.getElem_mem hs)).l1
  have ha : f[s][0]? = some f[s][0] := List.getElem?_eq_getElem (by omega)
  obtain ⟨d, pd, c1, c2⟩ := same_come G s ts hl ok hso _ (lo_sc s ts) 0 _ _ hst ha
  have c1' : ∀ e, callF fn_come [.va (deskD n ks), .va (streamD f), .va (scD s ts), .va (.int 0)] e = .ok d e := c1
  have c2' : ∀ e, callF fn_law_come [.va (caseD n ks (fD f)), .va (scD s ts), .va (.int 0)] e = .ok d e := c2
  simp [law_s8, LE, c1', c2', soT d pd]
end
end K10f
set_option Elab.async false
set_option linter.all false
set_option maxRecDepth 100000
set_option maxHeartbeats 4000000
namespace K10f
open PySem PySem.Spec PyProof.Rows L2 Mp K10
section
variable {n : Nat} {ks : List K5} {f : Flow}
def abody : MS :=
    (mIfS (mNot (mTest (mFn (fn_law_so 8) (aCons (vOf (mFn fn_come (aCons (mOwn 4) (aCons (mOwn 5) (aCons (vOf (mFn (fn_law_loose 8) (aCons (mOwn 6) (aCons (vOf (mFn fn_law_take (aCons (mOwn 1) (aCons (mOwn 2) (aCons (vOf (mC (.int 2))) aNil))))) aNil)))) (aCons (mOwn 8) aNil)))))) (aCons (vOf (mFn fn_law_come (aCons (mOwn 3) (aCons (mOwn 6) (aCons (mOwn 8) aNil))))) aNil))))) (mRet (mC (.bl false))) mNext)
theorem loose_sc (s : Int) (ts : List T3) (hl : ts.length ≤ 1000) (t : Int) : ∃ v, Lo (scD s ts) v ∧ ∀ e, callF (fn_law_loose 8) [.va (scD s ts), .va (.int t)] e = .ok v e := by
  obtain ⟨v, h1, h2⟩ := loose_ok 7 _ (pl_sc 4 s ts hl) t
  exact ⟨v, h1, fun e => call_va2 _ _ _ _ e .un .un h2⟩
theorem a_step (G : Good n ks f) (sc : D) (row : List Int) (hr : row ≠ []) (i : Int) (hi : 0 ≤ i) (d7 : Sl) (s : Nat) (ts : List T3) (hl : ts.length ≤ 37) (ok : ∀ t ∈ ts, okT ks t = true) (hso : sT ts = ts) (j : Nat) (st : St1) (a : Arc) (hs : f[s]? = some st) (ha : st[j]? = some a) :
    abody (LE sc row i (.va (caseD n ks (fD f))) (.va (deskD n ks)) (.va (streamD f)) (.va (scD s ts)) d7 (.va (.int j)) .un .un .un .un) = .nx (LE sc row (i + 1) (.va (caseD n ks (fD f))) (.va (deskD n ks)) (.va (streamD f)) (.va (scD s ts)) d7 (.va (.int j)) .un .un .un .un) := by
  obtain ⟨v, lv, cv⟩ := loose_sc s ts (by omega) (dV row i 2)
  obtain ⟨d, pd, c1, c2⟩ := same_come G s ts hl ok hso v lv j st a hs ha
  simp [abody, LE, takeL row i 2 false _ _ _ hi (by omega) hr, cv, c1, c2, soT d pd]
theorem a_loop (G : Good n ks f) (sc : D) (row : List Int) (hr : row ≠ []) (d7 : Sl) (s : Nat) (ts : List T3) (hl : ts.length ≤ 37) (ok : ∀ t ∈ ts, okT ks t = true) (hso : sT ts = ts) (st : St1) (hs : f[s]? = some st) : ∀ (m j : Nat) (i : Int) (s8 : Sl), 0 ≤ i → j + m = st.length → Fr s8 →
    ∃ i' t8, 0 ≤ i' ∧ Fr t8 ∧ forF (putG 8) abody (iL ((List.range' j m).map fun i => ((i : Nat) : Int))) (LE sc row i (.va (caseD n ks (fD f))) (.va (deskD n ks)) (.va (streamD f)) (.va (scD s ts)) d7 s8 .un .un .un .un) = .nx (LE sc row i' (.va (caseD n ks (fD f))) (.va (deskD n ks)) (.va (streamD f)) (.va (scD s ts)) d7 t8 .un .un .un .un)
  | 0, j, i, s8, hi, _, f8 => ⟨i, s8, hi, f8, rfl⟩
  | m + 1, j, i, s8, hi, hj, f8 => by
    have hjl : j < st.length := by omega
    have ha : st[j]? = some st[j] := List.getElem?_eq_getElem hjl
    have e := a_step G sc row hr i hi d7 s ts hl ok hso j st _ hs ha
    obtain ⟨i', t8, hi', g8, e2⟩ := a_loop G sc row hr d7 s ts hl ok hso st hs m (j + 1) (i + 1) (.va (.int j)) (by omega) (by omega) (.va _)
    refine ⟨i', t8, hi', g8, ?_⟩
    have p : putG 8 (.int j) (LE sc row i (.va (caseD n ks (fD f))) (.va (deskD n ks)) (.va (streamD f)) (.va (scD s ts)) d7 s8 .un .un .un .un) = some (LE sc row i (.va (caseD n ks (fD f))) (.va (deskD n ks)) (.va (streamD f)) (.va (scD s ts)) d7 (.va (.int j)) .un .un .un .un) := by
      cases f8 <;> simp [LE]
    rw [List.range'_succ, List.map_cons, iL_cons, forF, p]
    simp only [e]
    exact e2
theorem S9 (G : Good n ks f) (sc : D) (row : List Int) (hr : row ≠ []) (i : Int) (hi : 0 ≤ i) (d7 : D) (s : Nat) (hs : s < f.length) (ts : List T3) (hl : ts.length ≤ 37) (ok : ∀ t ∈ ts, okT ks t = true) (hso : sT ts = ts) :
    ∃ i' t8, 0 ≤ i' ∧ Fr t8 ∧ law_s9 (LE sc row i (.va (caseD n ks (fD f))) (.va (deskD n ks)) (.va (streamD f)) (.va (scD s ts)) (.va d7) .un .un .un .un .un) = .nx (LE sc row i' (.va (caseD n ks (fD f))) (.va (deskD n ks)) (.va (streamD f)) (.va (scD s ts)) (.va d7) t8 .un .un .un .un) := by
  have hst : f[s]? = some f[s] := List.getElem?_eq_getElem hs
  have l4 := (G.hf.s f[s] (List.getElem_mem hs)).l4
  obtain ⟨i', t8, hi', g8, e⟩ := a_loop G sc row hr (.va d7) s ts hl ok hso f[s] hst f[s].length 0 i .un hi (by omega) .un
  refine ⟨i', t8, hi', g8, ?_⟩
  have g := st_get f s _ hst
  have ln : lenF [sD f[s]] = some (.int f[s].length) := by simp [sD, lenF]
  have rg := rng (mCall lenF (aCons (vOf (mBin atF (vOf (mBin atF (mOwn 3) (vOf (mC (.int 1))))) (vOf (mBin atF (mOwn 6) (vOf (mC (.int 0))))))) aNil)) (LE sc row i (.va (caseD n ks (fD f))) (.va (deskD n ks)) (.va (streamD f)) (.va (scD s ts)) (.va d7) .un .un .un .un .un) f[s].length (by omega) (by
    have s0 : atF (scD s ts) (.int 0) = some (.int s) := by simp [scD, at0]
    simp [LE, c02, s0, g, ln])
  have A : mFor (lRange1 (mCall lenF (aCons (vOf (mBin atF (vOf (mBin atF (mOwn 3) (vOf (mC (.int 1))))) (vOf (mBin atF (mOwn 6) (vOf (mC (.int 0))))))) aNil))) (putG 8) abody (LE sc row i (.va (caseD n ks (fD f))) (.va (deskD n ks)) (.va (streamD f)) (.va (scD s ts)) (.va d7) .un .un .un .un .un) = .nx (LE sc row i' (.va (caseD n ks (fD f))) (.va (deskD n ks)) (.va (streamD f)) (.va (scD s ts)) (.va d7) t8 .un .un .un .un) := by
    rw [mFor_s, rg, Re.flow_ok, upto, List.range_eq_range']
    exact e
  exact A
theorem S10 (G : Good n ks f) (sc : D) (row : List Int) (i : Int) (d7 : D) (t8 : Sl) (s : Nat) (hs : s < f.length) (ts : List T3) (hl : ts.length ≤ 37) (ok : ∀ t ∈ ts, okT ks t = true) (hso : sT ts = ts) :
    law_s10 (LE sc row i (.va (caseD n ks (fD f))) (.va (deskD n ks)) (.va (streamD f)) (.va (scD s ts)) (.va d7) t8 .un .un .un .un) = .nx (LE sc row i (.va (caseD n ks (fD f))) (.va (deskD n ks)) (.va (streamD f)) (.va (scD s ts)) (.va d7) t8 .un .un .un .un) := by
  obtain ⟨v, lv, cv⟩ := loose_sc s ts (by omega) 0
  have rs := right_scene G 40 (by omega) s hs ts (by omega) ok hso v lv
  have e := isScene_ok n ks f G v _ rs
  have c1 := fun en => call_va3 fn_is_scene _ _ _ _ en .un .un .un e
  have nn : (scD s ts).isNon = false := rfl
  have so := soT (.bl true) (.bl true)
  simp [law_s10, LE, cv, c1, nn, so]
theorem S11 (sc : D) (row : List Int) (i : Int) (d4 d5 d6 d7 t8 : Sl) (r : K5) (h : atI (ks.map kD) 0 = some (kD r)) :
    law_s11 (LE sc row i (.va (caseD n ks (fD f))) d4 d5 d6 d7 t8 .un .un .un .un) = .nx (LE sc row i (.va (caseD n ks (fD f))) d4 d5 d6 d7 t8 (.va (kD r)) .un .un .un) := by
  simp [law_s11, LE, c00, at1, h]
theorem S12 (sc : D) (row : List Int) (i : Int) (d3 d4 d5 d6 d7 t8 : Sl) (r : K5) :
    law_s12 (LE sc row i d3 d4 d5 d6 d7 t8 (.va (kD r)) .un .un .un) = .nx (LE sc row i d3 d4 d5 d6 d7 t8 (.va (kD r)) (.va (tD (0, r.w, r.p))) .un .un) := by
  simp [law_s12, LE, k0, k1, line, tD]
theorem S13 (sc : D) (row : List Int) (i : Int) (d4 d5 d7 t8 s10 : Sl) (r : K5) (s : Nat) (ts : List T3) :
    law_s13 (LE sc row i (.va (caseD n ks (fD f))) d4 d5 (.va (scD s ts)) d7 t8 (.va (kD r)) s10 .un .un) = .nx (LE sc row i (.va (caseD n ks (fD f))) d4 d5 (.va (scD s ts)) d7 t8 (.va (kD r)) s10 (.va (.lst (odd1 f r s ts))) .un) := by
  have c : cutF none (some 1) (scD s ts) = some (.tup [.int s]) := (cut_to 1 [.int s, .tup (ts.map tD)]).2.2
  have ad : addF (scD s ts) (.tup [.int 0]) = some (.tup [.int s, .tup (ts.map tD), .int 0]) := by simp [scD, addF, line]
  have ng : negF (.int 1) = some (.int (-1)) := by rfl
  simp [law_s13, LE, mCut, oNone, oSome, asI, c, ad, c02, lfl, ng, k0, k1, line, odd1, tD]
theorem S14 (sc : D) (row : List Int) (i : Int) (d4 d5 d6 d7 t8 s9 : Sl) (r : K5) (o : List D) (ho : o.length = 12) :
    law_s14 (LE sc row i (.va (caseD n ks (fD f))) d4 d5 d6 d7 t8 s9 (.va (tD (0, r.w, r.p))) (.va (.lst o)) .un) = .nx (LE sc row i (.va (caseD n ks (fD f))) d4 d5 d6 d7 t8 s9 (.va (tD (0, r.w, r.p))) (.va (.lst (o ++ odd2 ks r))) .un) := by
  have c : cutF none (some 2) (.tup [.int 0, .int r.w, .int r.p]) = some (.tup [.int 0, .int r.w]) := (cut_to 2 [.int 0, .int r.w, .int r.p]).2.2
  simp [law_s14, LE, mCut, oNone, oSome, asI, c, c00, at1, lk, line, odd2, tD, addF, ho]
theorem reps (v0 v1 : D) (xs : List D) (d3 d4 d5 d6 d7 d8 d9 d10 d11 : D) (t8 : Sl) (f8 : Fr t8) : ∀ l : List Int, lcF [13] (putG 13) tYesF (mVar 10) (iL l) [.va v0, .va v1, .ow false xs, .va d3, .va d4, .va d5, .va d6, .va d7, t8, .va d9, .va d10, .va d11, .un, .un] = .ok (l.map fun _ => d10) [.va v0, .va v1, .ow false xs, .va d3, .va d4, .va d5, .va d6, .va d7, t8, .va d9, .va d10, .va d11, .un, .un]
  | [] => rfl
  | x :: l => by
    have ih := reps v0 v1 xs d3 d4 d5 d6 d7 d8 d9 d10 d11 t8 f8 l
    rw [iL_cons, lcF]
    simp [free_, isOw, enterE, wipeE, tYesF, f8.mark, backE, f8.back, ih]
theorem S15 (sc : D) (row : List Int) (i : Int) (d3 d4 d5 d7 : D) (t8 : Sl) (f8 : Fr t8) (d9 : D) (r : K5) (s : Nat) (ts : List T3) (hl : ts.length ≤ 37) (o : List D) (ho : o.length = 16) :
    law_s15 (LE sc row i (.va d3) (.va d4) (.va d5) (.va (scD s ts)) (.va d7) t8 (.va d9) (.va (tD (0, r.w, r.p))) (.va (.lst o)) .un) = .nx (LE sc row i (.va d3) (.va d4) (.va d5) (.va (scD s ts)) (.va d7) t8 (.va d9) (.va (tD (0, r.w, r.p))) (.va (.lst (o ++ odd3 r s ts))) .un) := by
  have g41 := rng (mC (.int 41)) (LE sc row i (.va d3) (.va d4) (.va d5) (.va (scD s ts)) (.va d7) t8 (.va d9) (.va (tD (0, r.w, r.p))) (.va (.lst o)) .un) 41 (by omega) (by simp [LE])
  have g40 := rng (mC (.int 40)) (LE sc row i (.va d3) (.va d4) (.va d5) (.va (scD s ts)) (.va d7) t8 (.va d9) (.va (tD (0, r.w, r.p))) (.va (.lst o)) .un) 40 (by omega) (by simp [LE])
  have rp := fun l => reps sc (.lst (iL row)) [.int i] d3 d4 d5 (scD s ts) d7 d7 d9 (tD (0, r.w, r.p)) (.lst o) t8 f8 l
  have l41 : (upto 41).length ≤ 16777216 := by rw [upto_length]; omega
  have l40 : (upto 40).length ≤ 16777216 := by rw [upto_length]; omega
  have s0 : atF (scD s ts) (.int 0) = some (.int s) := by simp [scD, at0]
  have s1 : atF (scD s ts) (.int 1) = some (.tup (ts.map tD)) := by simp [scD, at1]
  have hr : List.length (ts.map tD) ≤ 16777216 := by simp; omega
  unfold LE at *
  have g41' : lRange1 (mC (.int 41)) [Sl.va sc, .va (.lst (iL row)), .ow false [.int i], .va d3, .va d4, .va d5, .va (scD s ts), .va d7, t8, .va d9, .va (tD (0, r.w, r.p)), .va (.lst o), .un, .un] = .ok (iL (upto 41)) [Sl.va sc, .va (.lst (iL row)), .ow false [.int i], .va d3, .va d4, .va d5, .va (scD s ts), .va d7, t8, .va d9, .va (tD (0, r.w, r.p)), .va (.lst o), .un, .un] := g41
  have g40' : lRange1 (mC (.int 40)) [Sl.va sc, .va (.lst (iL row)), .ow false [.int i], .va d3, .va d4, .va d5, .va (scD s ts), .va d7, t8, .va d9, .va (tD (0, r.w, r.p)), .va (.lst o), .un, .un] = .ok (iL (upto 40)) [Sl.va sc, .va (.lst (iL row)), .ow false [.int i], .va d3, .va d4, .va d5, .va (scD s ts), .va d7, t8, .va d9, .va (tD (0, r.w, r.p)), .va (.lst o), .un, .un] := g40
  generalize hA : (upto 41) = u41 at *
  generalize hB : (upto 40) = u40 at *
  simp [law_s15, g41', g40', rp, l41, l40, tupF, s0, s1, mRev, line, odd3, addF, ho, hA, hB]
  simp [tD]
end
end K10f
set_option Elab.async false
set_option linter.all false
set_option maxRecDepth 100000
set_option maxHeartbeats 4000000
namespace K10f
open PySem PySem.Spec PyProof.Rows L2 Mp K10
section
variable {n : Nat} {ks : List K5} {f : Flow}
theorem S16 (sc : D) (row : List Int) (hr : row ≠ []) (i : Int) (hi : 0 ≤ i) (d3 d4 d5 d6 d7 t8 s9 s10 : Sl) (o : List D) (ho : o.length = 22) :
    ∃ v ∈ o, law_s16 (LE sc row i d3 d4 d5 d6 d7 t8 s9 s10 (.va (.lst o)) .un) = .nx (LE sc row (i + 1) d3 d4 d5 d6 d7 t8 s9 s10 (.va (.lst o)) (.va v)) := by
  have rd := dV_range row i 22 (by omega)
  obtain ⟨v, _, hv, ha⟩ := atJ o (dV row i 22) rd.1 (by omega)
  exact ⟨v, hv, by simp [law_s16, LE, takeL row i 22 false _ _ _ hi (by omega) hr, ha]⟩
theorem S17 (sc : D) (row : List Int) (i : Int) (d6 d7 t8 s9 s10 s11 : Sl) (v : D) (A : Agree n ks f v) :
    ∃ e, law_s17 (LE sc row i (.va (caseD n ks (fD f))) (.va (deskD n ks)) (.va (streamD f)) d6 d7 t8 s9 s10 s11 (.va v)) = .rt (.bl true) e := by
  obtain ⟨b, h1, h2⟩ := A
  have c1 := fun e => call_va3 fn_is_scene _ _ _ _ e .un .un .un h1
  have c2 := fun e => call_va3 fn_law_is_scene _ _ _ _ e .un .un .un h2
  exact ⟨_, by simp [law_s17, LE, c1, c2, soT (.bl b) (.bl b)]; rfl⟩
end
end K10f
namespace K10
open PySem PySem.Spec PyProof.Rows L2 Mp K10f
theorem law_true : ∀ ns : List Int, ns.length ≤ 63 → ∃ outs, fn_law [.va (.rol (ns.map D.int))] = .ok (.bl true) outs := fun ns hn => by
  obtain ⟨row, hr, hrow⟩ := numbers_ok ns hn
  obtain ⟨n, ks, f, i1, G, hi1, hcase⟩ := case_ok row hr 0 (by omega)
  obtain ⟨s, ts, i2, hs, hl, ok, hso, hi2, hscn⟩ := scn_ok row hr n ks f G i1 hi1
  obtain ⟨s', ts', i3, hs', hl', ok', hso', hi3, hcr⟩ := crowd_ok row hr n ks f G i2 hi2
  obtain ⟨i4, t8, hi4, g8, e9⟩ := S9 G (.rol (iL ns)) row hr i3 hi3 (scD s' ts') s hs ts (by omega) ok hso
  obtain ⟨r, _, hr0⟩ := kget ks 0 (by omega) (by have := G.hk.1; omega)
  have lo : (odd1 f r s ts ++ odd2 ks r ++ odd3 r s ts).length = 22 := rfl
  obtain ⟨v, hv, e16⟩ := S16 (.rol (iL ns)) row hr i4 hi4 (.va (caseD n ks (fD f))) (.va (deskD n ks)) (.va (streamD f)) (.va (scD s ts)) (.va (scD s' ts')) t8 (.va (kD r)) (.va (tD (0, r.w, r.p))) _ lo
  have hA : Agree n ks f v := by
    rcases List.mem_append.mp hv with h | h
    · rcases List.mem_append.mp h with h | h
      · exact odd1_ok G r s ts v h
      · exact odd2_ok G r v h
    · exact odd3_ok G r s ts v h
  obtain ⟨e, e17⟩ := S17 (.rol (iL ns)) row (i4 + 1) (.va (scD s ts)) (.va (scD s' ts')) t8 (.va (kD r)) (.va (tD (0, r.w, r.p))) (.va (.lst (odd1 f r s ts ++ odd2 ks r ++ odd3 r s ts))) v hA
  have key : b_law [.va (.rol (iL ns)), .un, .un, .un, .un, .un, .un, .un, .un, .un, .un, .un, .un, .un] = .rt (.bl true) e := by
    unfold b_law
    rw [nx_seq (S0 ns row hrow), nx_seq (S1 _ row), nx_seq (S2 _ row 0 i1 hcase), nx_seq (S3 G _ row i1), nx_seq (S4 G _ row i1), nx_seq (S5 _ row i1 i2 _ hscn), nx_seq (S6 _ row i2 i3 _ _ hcr), nx_seq (S7 _ row i3 _ _ _ _ s' ts' hl'), nx_seq (S8 G _ row i3 _ s' hs' ts' hl' ok' hso'), nx_seq e9, nx_seq (S10 G _ row i4 _ t8 s hs ts (by omega) ok hso), nx_seq (S11 _ row i4 _ _ _ _ t8 r hr0), nx_seq (S12 _ row i4 _ _ _ _ _ t8 r), nx_seq (S13 _ row i4 _ _ _ t8 _ r s ts), nx_seq (S14 _ row i4 _ _ _ _ t8 _ r _ rfl), nx_seq (S15 _ row i4 _ _ _ _ t8 g8 _ r s ts (by omega) _ rfl), nx_seq e16, e17]
  refine ⟨outsOf 1 e, ?_⟩
  unfold fn_law fnOf
  rw [if_pos (by rfl)]
  show (match b_law [.va (.rol (iL ns)), .un, .un, .un, .un, .un, .un, .un, .un, .un, .un, .un, .un, .un] with | .rt d e => FR.ok d (outsOf 1 e) | .nx e => .ok .non (outsOf 1 e) | .exc c v e => .exc c v (outsOf 1 e) | _ => .no) = _
  rw [key]
theorem par_Stream : ∀ x ds, runInit 2 4 b_Stream__init st_Stream x ds = fi_Stream ds := K10f.par_Stream
end K10
set_option Elab.async false
set_option linter.all false
set_option maxRecDepth 100000
set_option maxHeartbeats 4000000
namespace K10
open PySem PySem.Spec PyProof.Rows L2 Mp
abbrev s_Deskkinds : Stmt := inClass (topS 25) 2
theorem sc_Deskkinds : FnScope ["self"] ["self"] (defScope s_Deskkinds) := ⟨rfl, rfl, rfl, by decide +kernel, rfl, by decide +kernel, by decide +kernel⟩
abbrev s_Streamstates : Stmt := inClass (topS 26) 1
theorem sc_Streamstates : FnScope ["self"] ["self"] (defScope s_Streamstates) := ⟨rfl, rfl, rfl, by decide +kernel, rfl, by decide +kernel, by decide +kernel⟩
def gOf (K : PySem.W.Frag) (CDesk CStream CBadValue CBadKind CBadState : Addr) : Gc := ⟨K, (fun c => if c = "Desk" then some (CDesk, (["_agents", "_kinds"] : List Str)) else if c = "Stream" then some (CStream, (["_states"] : List Str)) else none), (fun c => if c = "BadValue" then some (CBadValue, ("at" : Str)) else if c = "BadKind" then some (CBadKind, ("at" : Str)) else if c = "BadState" then some (CBadState, ("at" : Str)) else none)⟩
theorem all_mk {P : Program} {w : World} {K : PySem.W.Frag} {h : Heap} {mg : Str → Option Value} {fa CDesk CStream CDeskError CBadValue fBadValue CBadKind fBadKind CBadState fBadState flaw_numbers flaw_draw flaw_take flaw_twin_case flaw_desk flaw_stream flaw_case fis_whole fis_between fis_sequence fhas_length fall_below fis_ascending fis_ascending_below fis_kind fplain_kind fDesk__init flaw_made fis_rising fis_arc fis_state fplain_state fStream__init flaw_flow flaw_scene flaw_crowd flaw_so ffits fcheck_both fStream__len fplain_ticket fplain_scene tplain_scene fkinds_of fmoment_by fcome flaw_come flaw_loose fis_scene flaw_numeric flaw_is_ticket flaw_is_scene flaw qDeskkinds fDeskkinds qStreamstates fStreamstates : Addr} {ocBadValue kVBadValue dcBadValue pmBadValue cdBadValue ctBadValue : Value} {odBadValue anBadValue : Option Addr} {slBadValue : Array (Option Value)} {ocBadKind kVBadKind dcBadKind pmBadKind cdBadKind ctBadKind : Value} {odBadKind anBadKind : Option Addr} {slBadKind : Array (Option Value)} {ocBadState kVBadState dcBadState pmBadState cdBadState ctBadState : Value} {odBadState anBadState : Option Addr} {slBadState : Array (Option Value)} {oclaw_numbers kVlaw_numbers dclaw_numbers pmlaw_numbers cdlaw_numbers ctlaw_numbers : Value} {odlaw_numbers anlaw_numbers : Option Addr} {sllaw_numbers : Array (Option Value)} {oclaw_draw kVlaw_draw dclaw_draw pmlaw_draw cdlaw_draw ctlaw_draw : Value} {odlaw_draw anlaw_draw : Option Addr} {sllaw_draw : Array (Option Value)} {oclaw_take kVlaw_take dclaw_take pmlaw_take cdlaw_take ctlaw_take : Value} {odlaw_take anlaw_take : Option Addr} {sllaw_take : Array (Option Value)} {oclaw_twin_case kVlaw_twin_case dclaw_twin_case pmlaw_twin_case cdlaw_twin_case ctlaw_twin_case : Value} {odlaw_twin_case anlaw_twin_case : Option Addr} {sllaw_twin_case : Array (Option Value)} {oclaw_desk kVlaw_desk dclaw_desk pmlaw_desk cdlaw_desk ctlaw_desk : Value} {odlaw_desk anlaw_desk : Option Addr} {sllaw_desk : Array (Option Value)} {oclaw_stream kVlaw_stream dclaw_stream pmlaw_stream cdlaw_stream ctlaw_stream : Value} {odlaw_stream anlaw_stream : Option Addr} {sllaw_stream : Array (Option Value)} {oclaw_case kVlaw_case dclaw_case pmlaw_case cdlaw_case ctlaw_case : Value} {odlaw_case anlaw_case : Option Addr} {sllaw_case : Array (Option Value)} {ocis_whole kVis_whole dcis_whole pmis_whole cdis_whole ctis_whole : Value} {odis_whole anis_whole : Option Addr} {slis_whole : Array (Option Value)} {ocis_between kVis_between dcis_between pmis_between cdis_between ctis_between : Value} {odis_between anis_between : Option Addr} {slis_between : Array (Option Value)} {ocis_sequence kVis_sequence dcis_sequence pmis_sequence cdis_sequence ctis_sequence : Value} {odis_sequence anis_sequence : Option Addr} {slis_sequence : Array (Option Value)} {ochas_length kVhas_length dchas_length pmhas_length cdhas_length cthas_length : Value} {odhas_length anhas_length : Option Addr} {slhas_length : Array (Option Value)} {ocall_below kVall_below dcall_below pmall_below cdall_below ctall_below : Value} {odall_below anall_below : Option Addr} {slall_below : Array (Option Value)} {ocis_ascending kVis_ascending dcis_ascending pmis_ascending cdis_ascending ctis_ascending : Value} {odis_ascending anis_ascending : Option Addr} {slis_ascending : Array (Option Value)} {ocis_ascending_below kVis_ascending_below dcis_ascending_below pmis_ascending_below cdis_ascending_below ctis_ascending_below : Value} {odis_ascending_below anis_ascending_below : Option Addr} {slis_ascending_below : Array (Option Value)} {ocis_kind kVis_kind dcis_kind pmis_kind cdis_kind ctis_kind : Value} {odis_kind anis_kind : Option Addr} {slis_kind : Array (Option Value)} {ocplain_kind kVplain_kind dcplain_kind pmplain_kind cdplain_kind ctplain_kind : Value} {odplain_kind anplain_kind : Option Addr} {slplain_kind : Array (Option Value)} {ocDesk__init kVDesk__init dcDesk__init pmDesk__init cdDesk__init ctDesk__init : Value} {odDesk__init anDesk__init : Option Addr} {slDesk__init : Array (Option Value)} {oclaw_made kVlaw_made dclaw_made pmlaw_made cdlaw_made ctlaw_made : Value} {odlaw_made anlaw_made : Option Addr} {sllaw_made : Array (Option Value)} {ocis_rising kVis_rising dcis_rising pmis_rising cdis_rising ctis_rising : Value} {odis_rising anis_rising : Option Addr} {slis_rising : Array (Option Value)} {ocis_arc kVis_arc dcis_arc pmis_arc cdis_arc ctis_arc : Value} {odis_arc anis_arc : Option Addr} {slis_arc : Array (Option Value)} {ocis_state kVis_state dcis_state pmis_state cdis_state ctis_state : Value} {odis_state anis_state : Option Addr} {slis_state : Array (Option Value)} {ocplain_state kVplain_state dcplain_state pmplain_state cdplain_state ctplain_state : Value} {odplain_state anplain_state : Option Addr} {slplain_state : Array (Option Value)} {ocStream__init kVStream__init dcStream__init pmStream__init cdStream__init ctStream__init : Value} {odStream__init anStream__init : Option Addr} {slStream__init : Array (Option Value)} {oclaw_flow kVlaw_flow dclaw_flow pmlaw_flow cdlaw_flow ctlaw_flow : Value} {odlaw_flow anlaw_flow : Option Addr} {sllaw_flow : Array (Option Value)} {oclaw_scene kVlaw_scene dclaw_scene pmlaw_scene cdlaw_scene ctlaw_scene : Value} {odlaw_scene anlaw_scene : Option Addr} {sllaw_scene : Array (Option Value)} {oclaw_crowd kVlaw_crowd dclaw_crowd pmlaw_crowd cdlaw_crowd ctlaw_crowd : Value} {odlaw_crowd anlaw_crowd : Option Addr} {sllaw_crowd : Array (Option Value)} {oclaw_so kVlaw_so dclaw_so pmlaw_so cdlaw_so ctlaw_so : Value} {odlaw_so anlaw_so : Option Addr} {sllaw_so : Array (Option Value)} {ocfits kVfits dcfits pmfits cdfits ctfits : Value} {odfits anfits : Option Addr} {slfits : Array (Option Value)} {occheck_both kVcheck_both dccheck_both pmcheck_both cdcheck_both ctcheck_both : Value} {odcheck_both ancheck_both : Option Addr} {slcheck_both : Array (Option Value)} {ocStream__len kVStream__len dcStream__len pmStream__len cdStream__len ctStream__len : Value} {odStream__len anStream__len : Option Addr} {slStream__len : Array (Option Value)} {ocplain_ticket kVplain_ticket dcplain_ticket pmplain_ticket cdplain_ticket ctplain_ticket : Value} {odplain_ticket anplain_ticket : Option Addr} {slplain_ticket : Array (Option Value)} {obplain_scene : Value} {oeplain_scene : Option Addr} {seplain_scene : Array (Option Value)} {tkplain_scene : Tok} {nnplain_scene : Nat} {dVplain_scene : Value} {ddplain_scene : Data} {ocplain_scene kVplain_scene dcplain_scene pmplain_scene cdplain_scene ctplain_scene : Value} {odplain_scene anplain_scene : Option Addr} {slplain_scene : Array (Option Value)} {ockinds_of kVkinds_of dckinds_of pmkinds_of cdkinds_of ctkinds_of : Value} {odkinds_of ankinds_of : Option Addr} {slkinds_of : Array (Option Value)} {ocmoment_by kVmoment_by dcmoment_by pmmoment_by cdmoment_by ctmoment_by : Value} {odmoment_by anmoment_by : Option Addr} {slmoment_by : Array (Option Value)} {occome kVcome dccome pmcome cdcome ctcome : Value} {odcome ancome : Option Addr} {slcome : Array (Option Value)} {oclaw_come kVlaw_come dclaw_come pmlaw_come cdlaw_come ctlaw_come : Value} {odlaw_come anlaw_come : Option Addr} {sllaw_come : Array (Option Value)} {oclaw_loose kVlaw_loose dclaw_loose pmlaw_loose cdlaw_loose ctlaw_loose : Value} {odlaw_loose anlaw_loose : Option Addr} {sllaw_loose : Array (Option Value)} {ocis_scene kVis_scene dcis_scene pmis_scene cdis_scene ctis_scene : Value} {odis_scene anis_scene : Option Addr} {slis_scene : Array (Option Value)} {oclaw_numeric kVlaw_numeric dclaw_numeric pmlaw_numeric cdlaw_numeric ctlaw_numeric : Value} {odlaw_numeric anlaw_numeric : Option Addr} {sllaw_numeric : Array (Option Value)} {oclaw_is_ticket kVlaw_is_ticket dclaw_is_ticket pmlaw_is_ticket cdlaw_is_ticket ctlaw_is_ticket : Value} {odlaw_is_ticket anlaw_is_ticket : Option Addr} {sllaw_is_ticket : Array (Option Value)} {oclaw_is_scene kVlaw_is_scene dclaw_is_scene pmlaw_is_scene cdlaw_is_scene ctlaw_is_scene : Value} {odlaw_is_scene anlaw_is_scene : Option Addr} {sllaw_is_scene : Array (Option Value)} {oclaw kVlaw dclaw pmlaw cdlaw ctlaw : Value} {odlaw anlaw : Option Addr} {sllaw : Array (Option Value)} {rDeskkinds : List Value} {ocDeskkinds kVDeskkinds dcDeskkinds pmDeskkinds cdDeskkinds ctDeskkinds : Value} {odDeskkinds anDeskkinds : Option Addr} {slDeskkinds : Array (Option Value)} {rStreamstates : List Value} {ocStreamstates kVStreamstates dcStreamstates pmStreamstates cdStreamstates ctStreamstates : Value} {odStreamstates anStreamstates : Option Addr} {slStreamstates : Array (Option Value)} {tJOINS : Tok} {tMOST_AGENTS : Tok} {tMOST_ARCS : Tok} {tMOST_COMING : Tok} {tMOST_KINDS : Tok} {tMOST_PROMISE : Tok} {tMOST_STATES : Tok} {tMOST_TICKETS_AHEAD : Tok} {tMOST_WORK : Tok} {tPROMISE : Tok} {tWORK : Tok} (X : K.In h) (G : h.Ns mainGlobals mg) (hfa : mg "law" = some (.ref fa))
    (gDesk : PySem.W.nsIn K mainGlobals "Desk" = some (some (.ref CDesk)))
    (gStream : PySem.W.nsIn K mainGlobals "Stream" = some (some (.ref CStream)))
    (pgDesk : PySem.W.plainGet K CDesk Str.empty = true)
    (hdDesk : PySem.W.hasDictIn K CDesk = true)
    (poDesk : PySem.W.plainOver K CDesk = true)
    (saDesk : PySem.W.findIn K (.ref CDesk) "__setattr__" = some (some (.builtin "object.__setattr__")))
    (maDesk : PySem.W.makesIn K CDesk = true)
    (kcDesk : PySem.W.keepIn K (.ref CDesk) = true)
    (nDesk_agents : PySem.W.findIn K (.ref CDesk) "_agents" = some none)
    (nDesk_kinds : PySem.W.findIn K (.ref CDesk) "_kinds" = some none)
    (caDesk : PySem.W.findIn K (.ref CDesk) "__class__" = some (some (.builtin "object.__class__")))
    (moDesk : PySem.W.mroIn K CDesk (.type "object") = some true)
    (icDesk : PySem.W.isClsIn K CDesk = true)
    (tyDesk : PySem.W.typeIn K (.ref CDesk) = some (.type "type"))
    (sNoneTypeDesk : PySem.W.subIn K (.type "NoneType") (.ref CDesk) = some false)
    (sboolDesk : PySem.W.subIn K (.type "bool") (.ref CDesk) = some false)
    (sintDesk : PySem.W.subIn K (.type "int") (.ref CDesk) = some false)
    (sstrDesk : PySem.W.subIn K (.type "str") (.ref CDesk) = some false)
    (stupleDesk : PySem.W.subIn K (.type "tuple") (.ref CDesk) = some false)
    (slistDesk : PySem.W.subIn K (.type "list") (.ref CDesk) = some false)
    (sDeskDesk : PySem.W.subIn K (.ref CDesk) (.ref CDesk) = some true)
    (sStreamDesk : PySem.W.subIn K (.ref CStream) (.ref CDesk) = some false)
    (pgStream : PySem.W.plainGet K CStream Str.empty = true)
    (hdStream : PySem.W.hasDictIn K CStream = true)
    (poStream : PySem.W.plainOver K CStream = true)
    (saStream : PySem.W.findIn K (.ref CStream) "__setattr__" = some (some (.builtin "object.__setattr__")))
    (maStream : PySem.W.makesIn K CStream = true)
    (kcStream : PySem.W.keepIn K (.ref CStream) = true)
    (nStream_states : PySem.W.findIn K (.ref CStream) "_states" = some none)
    (caStream : PySem.W.findIn K (.ref CStream) "__class__" = some (some (.builtin "object.__class__")))
    (moStream : PySem.W.mroIn K CStream (.type "object") = some true)
    (icStream : PySem.W.isClsIn K CStream = true)
    (tyStream : PySem.W.typeIn K (.ref CStream) = some (.type "type"))
    (sNoneTypeStream : PySem.W.subIn K (.type "NoneType") (.ref CStream) = some false)
    (sboolStream : PySem.W.subIn K (.type "bool") (.ref CStream) = some false)
    (sintStream : PySem.W.subIn K (.type "int") (.ref CStream) = some false)
    (sstrStream : PySem.W.subIn K (.type "str") (.ref CStream) = some false)
    (stupleStream : PySem.W.subIn K (.type "tuple") (.ref CStream) = some false)
    (slistStream : PySem.W.subIn K (.type "list") (.ref CStream) = some false)
    (sDeskStream : PySem.W.subIn K (.ref CDesk) (.ref CStream) = some false)
    (sStreamStream : PySem.W.subIn K (.ref CStream) (.ref CStream) = some true)
    (on : PySem.W.specialIn K (.builtin "object.__class__") "__get__" = some (some (.builtin "getset_descriptor.__get__")))
    (ot : PySem.W.takesIn K (.builtin "object.__class__") = some true)
    (gDeskError : PySem.W.nsIn K mainGlobals "DeskError" = some (some (.ref CDeskError)))
    (spDeskError : PySem.W.specialIn K (.ref CDeskError) "__getattribute__" = some (some (.builtin "type.__getattribute__")))
    (rdDeskError : PySem.W.readsIn K CDeskError (.type "type") = true)
    (fiDeskError : PySem.W.findCls K (.ref CDeskError) (.type "type") "__init__" = some (.val (.builtin "Exception.__init__")))
    (gBadValue : PySem.W.nsIn K mainGlobals "BadValue" = some (some (.ref CBadValue)))
    (gBadKind : PySem.W.nsIn K mainGlobals "BadKind" = some (some (.ref CBadKind)))
    (gBadState : PySem.W.nsIn K mainGlobals "BadState" = some (some (.ref CBadState)))
    (mdBadValue : PySem.W.excInitIn K CBadValue exT "Exception.__new__" = true)
    (ovBadValue : PySem.W.excOver K CBadValue exT = true)
    (hdBadValue : PySem.W.hasDictIn K CBadValue = true)
    (tkBadValue : PySem.W.takerIn K CBadValue "at" = some none)
    (saBadValue : PySem.W.findIn K (.ref CBadValue) "__setattr__" = some (some (.builtin "object.__setattr__")))
    (gaBadValue : PySem.W.findIn K (.ref CBadValue) "__getattribute__" = some (some (.builtin "BaseException.__getattribute__")))
    (ggBadValue : PySem.W.findIn K (.ref CBadValue) "__getattr__" = some none)
    (noBadValue : PySem.W.findIn K (.ref CBadValue) "at" = some none)
    (exBadValue : PySem.W.subIn K (.ref CBadValue) (.type "BaseException") = some true)
    (tyBadValue : PySem.W.typeIn K (.ref CBadValue) = some (.type "type"))
    (kpBadValue : PySem.W.keepIn K (.ref CBadValue) = true)
    (icBadValue : PySem.W.isClsIn K CBadValue = true)
    (sBadValueBadValue : PySem.W.subIn K (.ref CBadValue) (.ref CBadValue) = some true)
    (sBadKindBadValue : PySem.W.subIn K (.ref CBadKind) (.ref CBadValue) = some false)
    (sBadStateBadValue : PySem.W.subIn K (.ref CBadState) (.ref CBadValue) = some false)
    (iiBadValue : PySem.W.findIn K (.ref CBadValue) "__init__" = some (some (.ref fBadValue)))
    (tiBadValue : PySem.W.typeIn K (.ref fBadValue) = some (.type "function"))
    (lBadValue : K.lookup fBadValue = some ⟨ocBadValue, odBadValue, .func (PySem.W.fnOf "__init__" "BadValue.__init__" (defArgs s_BadValue_init) (defBody s_BadValue_init) (defScope s_BadValue_init) .none kVBadValue dcBadValue pmBadValue anBadValue cdBadValue ctBadValue), slBadValue⟩)
    (cBadValue : PySem.W.codeIn K cdBadValue "BadValue.__init__" = true)
    (kBadValue : PySem.W.keepIn K (.ref fBadValue) = true)
    (mdBadKind : PySem.W.excInitIn K CBadKind exT "Exception.__new__" = true)
    (ovBadKind : PySem.W.excOver K CBadKind exT = true)
    (hdBadKind : PySem.W.hasDictIn K CBadKind = true)
    (tkBadKind : PySem.W.takerIn K CBadKind "at" = some none)
    (saBadKind : PySem.W.findIn K (.ref CBadKind) "__setattr__" = some (some (.builtin "object.__setattr__")))
    (gaBadKind : PySem.W.findIn K (.ref CBadKind) "__getattribute__" = some (some (.builtin "BaseException.__getattribute__")))
    (ggBadKind : PySem.W.findIn K (.ref CBadKind) "__getattr__" = some none)
    (noBadKind : PySem.W.findIn K (.ref CBadKind) "at" = some none)
    (exBadKind : PySem.W.subIn K (.ref CBadKind) (.type "BaseException") = some true)
    (tyBadKind : PySem.W.typeIn K (.ref CBadKind) = some (.type "type"))
    (kpBadKind : PySem.W.keepIn K (.ref CBadKind) = true)
    (icBadKind : PySem.W.isClsIn K CBadKind = true)
    (sBadValueBadKind : PySem.W.subIn K (.ref CBadValue) (.ref CBadKind) = some false)
    (sBadKindBadKind : PySem.W.subIn K (.ref CBadKind) (.ref CBadKind) = some true)
    (sBadStateBadKind : PySem.W.subIn K (.ref CBadState) (.ref CBadKind) = some false)
    (iiBadKind : PySem.W.findIn K (.ref CBadKind) "__init__" = some (some (.ref fBadKind)))
    (tiBadKind : PySem.W.typeIn K (.ref fBadKind) = some (.type "function"))
    (lBadKind : K.lookup fBadKind = some ⟨ocBadKind, odBadKind, .func (PySem.W.fnOf "__init__" "BadKind.__init__" (defArgs s_BadKind_init) (defBody s_BadKind_init) (defScope s_BadKind_init) .none kVBadKind dcBadKind pmBadKind anBadKind cdBadKind ctBadKind), slBadKind⟩)
    (cBadKind : PySem.W.codeIn K cdBadKind "BadKind.__init__" = true)
    (kBadKind : PySem.W.keepIn K (.ref fBadKind) = true)
    (mdBadState : PySem.W.excInitIn K CBadState exT "Exception.__new__" = true)
    (ovBadState : PySem.W.excOver K CBadState exT = true)
    (hdBadState : PySem.W.hasDictIn K CBadState = true)
    (tkBadState : PySem.W.takerIn K CBadState "at" = some none)
    (saBadState : PySem.W.findIn K (.ref CBadState) "__setattr__" = some (some (.builtin "object.__setattr__")))
    (gaBadState : PySem.W.findIn K (.ref CBadState) "__getattribute__" = some (some (.builtin "BaseException.__getattribute__")))
    (ggBadState : PySem.W.findIn K (.ref CBadState) "__getattr__" = some none)
    (noBadState : PySem.W.findIn K (.ref CBadState) "at" = some none)
    (exBadState : PySem.W.subIn K (.ref CBadState) (.type "BaseException") = some true)
    (tyBadState : PySem.W.typeIn K (.ref CBadState) = some (.type "type"))
    (kpBadState : PySem.W.keepIn K (.ref CBadState) = true)
    (icBadState : PySem.W.isClsIn K CBadState = true)
    (sBadValueBadState : PySem.W.subIn K (.ref CBadValue) (.ref CBadState) = some false)
    (sBadKindBadState : PySem.W.subIn K (.ref CBadKind) (.ref CBadState) = some false)
    (sBadStateBadState : PySem.W.subIn K (.ref CBadState) (.ref CBadState) = some true)
    (iiBadState : PySem.W.findIn K (.ref CBadState) "__init__" = some (some (.ref fBadState)))
    (tiBadState : PySem.W.typeIn K (.ref fBadState) = some (.type "function"))
    (lBadState : K.lookup fBadState = some ⟨ocBadState, odBadState, .func (PySem.W.fnOf "__init__" "BadState.__init__" (defArgs s_BadState_init) (defBody s_BadState_init) (defScope s_BadState_init) .none kVBadState dcBadState pmBadState anBadState cdBadState ctBadState), slBadState⟩)
    (cBadState : PySem.W.codeIn K cdBadState "BadState.__init__" = true)
    (kBadState : PySem.W.keepIn K (.ref fBadState) = true)
    (alaw_numbers : PySem.W.nsIn K mainGlobals "_law_numbers" = some (some (.ref flaw_numbers)))
    (llaw_numbers : K.lookup flaw_numbers = some ⟨oclaw_numbers, odlaw_numbers, .func (PySem.W.fnOf "_law_numbers" "_law_numbers" (defArgs s_law_numbers) (defBody s_law_numbers) (defScope s_law_numbers) .none kVlaw_numbers dclaw_numbers pmlaw_numbers anlaw_numbers cdlaw_numbers ctlaw_numbers), sllaw_numbers⟩)
    (claw_numbers : PySem.W.codeIn K cdlaw_numbers "_law_numbers" = true)
    (klaw_numbers : PySem.W.keepIn K (.ref flaw_numbers) = true)
    (alaw_draw : PySem.W.nsIn K mainGlobals "_law_draw" = some (some (.ref flaw_draw)))
    (llaw_draw : K.lookup flaw_draw = some ⟨oclaw_draw, odlaw_draw, .func (PySem.W.fnOf "_law_draw" "_law_draw" (defArgs s_law_draw) (defBody s_law_draw) (defScope s_law_draw) .none kVlaw_draw dclaw_draw pmlaw_draw anlaw_draw cdlaw_draw ctlaw_draw), sllaw_draw⟩)
    (claw_draw : PySem.W.codeIn K cdlaw_draw "_law_draw" = true)
    (klaw_draw : PySem.W.keepIn K (.ref flaw_draw) = true)
    (alaw_take : PySem.W.nsIn K mainGlobals "_law_take" = some (some (.ref flaw_take)))
    (llaw_take : K.lookup flaw_take = some ⟨oclaw_take, odlaw_take, .func (PySem.W.fnOf "_law_take" "_law_take" (defArgs s_law_take) (defBody s_law_take) (defScope s_law_take) .none kVlaw_take dclaw_take pmlaw_take anlaw_take cdlaw_take ctlaw_take), sllaw_take⟩)
    (claw_take : PySem.W.codeIn K cdlaw_take "_law_take" = true)
    (klaw_take : PySem.W.keepIn K (.ref flaw_take) = true)
    (alaw_twin_case : PySem.W.nsIn K mainGlobals "_law_twin_case" = some (some (.ref flaw_twin_case)))
    (llaw_twin_case : K.lookup flaw_twin_case = some ⟨oclaw_twin_case, odlaw_twin_case, .func (PySem.W.fnOf "_law_twin_case" "_law_twin_case" (defArgs s_law_twin_case) (defBody s_law_twin_case) (defScope s_law_twin_case) .none kVlaw_twin_case dclaw_twin_case pmlaw_twin_case anlaw_twin_case cdlaw_twin_case ctlaw_twin_case), sllaw_twin_case⟩)
    (claw_twin_case : PySem.W.codeIn K cdlaw_twin_case "_law_twin_case" = true)
    (klaw_twin_case : PySem.W.keepIn K (.ref flaw_twin_case) = true)
    (alaw_desk : PySem.W.nsIn K mainGlobals "_law_desk" = some (some (.ref flaw_desk)))
    (llaw_desk : K.lookup flaw_desk = some ⟨oclaw_desk, odlaw_desk, .func (PySem.W.fnOf "_law_desk" "_law_desk" (defArgs s_law_desk) (defBody s_law_desk) (defScope s_law_desk) .none kVlaw_desk dclaw_desk pmlaw_desk anlaw_desk cdlaw_desk ctlaw_desk), sllaw_desk⟩)
    (claw_desk : PySem.W.codeIn K cdlaw_desk "_law_desk" = true)
    (klaw_desk : PySem.W.keepIn K (.ref flaw_desk) = true)
    (alaw_stream : PySem.W.nsIn K mainGlobals "_law_stream" = some (some (.ref flaw_stream)))
    (llaw_stream : K.lookup flaw_stream = some ⟨oclaw_stream, odlaw_stream, .func (PySem.W.fnOf "_law_stream" "_law_stream" (defArgs s_law_stream) (defBody s_law_stream) (defScope s_law_stream) .none kVlaw_stream dclaw_stream pmlaw_stream anlaw_stream cdlaw_stream ctlaw_stream), sllaw_stream⟩)
    (claw_stream : PySem.W.codeIn K cdlaw_stream "_law_stream" = true)
    (klaw_stream : PySem.W.keepIn K (.ref flaw_stream) = true)
    (alaw_case : PySem.W.nsIn K mainGlobals "_law_case" = some (some (.ref flaw_case)))
    (llaw_case : K.lookup flaw_case = some ⟨oclaw_case, odlaw_case, .func (PySem.W.fnOf "_law_case" "_law_case" (defArgs s_law_case) (defBody s_law_case) (defScope s_law_case) .none kVlaw_case dclaw_case pmlaw_case anlaw_case cdlaw_case ctlaw_case), sllaw_case⟩)
    (claw_case : PySem.W.codeIn K cdlaw_case "_law_case" = true)
    (klaw_case : PySem.W.keepIn K (.ref flaw_case) = true)
    (ais_whole : PySem.W.nsIn K mainGlobals "is_whole" = some (some (.ref fis_whole)))
    (lis_whole : K.lookup fis_whole = some ⟨ocis_whole, odis_whole, .func (PySem.W.fnOf "is_whole" "is_whole" (defArgs s_is_whole) (defBody s_is_whole) (defScope s_is_whole) .none kVis_whole dcis_whole pmis_whole anis_whole cdis_whole ctis_whole), slis_whole⟩)
    (cis_whole : PySem.W.codeIn K cdis_whole "is_whole" = true)
    (kis_whole : PySem.W.keepIn K (.ref fis_whole) = true)
    (ais_between : PySem.W.nsIn K mainGlobals "is_between" = some (some (.ref fis_between)))
    (lis_between : K.lookup fis_between = some ⟨ocis_between, odis_between, .func (PySem.W.fnOf "is_between" "is_between" (defArgs s_is_between) (defBody s_is_between) (defScope s_is_between) .none kVis_between dcis_between pmis_between anis_between cdis_between ctis_between), slis_between⟩)
    (cis_between : PySem.W.codeIn K cdis_between "is_between" = true)
    (kis_between : PySem.W.keepIn K (.ref fis_between) = true)
    (ais_sequence : PySem.W.nsIn K mainGlobals "is_sequence" = some (some (.ref fis_sequence)))
    (lis_sequence : K.lookup fis_sequence = some ⟨ocis_sequence, odis_sequence, .func (PySem.W.fnOf "is_sequence" "is_sequence" (defArgs s_is_sequence) (defBody s_is_sequence) (defScope s_is_sequence) .none kVis_sequence dcis_sequence pmis_sequence anis_sequence cdis_sequence ctis_sequence), slis_sequence⟩)
    (cis_sequence : PySem.W.codeIn K cdis_sequence "is_sequence" = true)
    (kis_sequence : PySem.W.keepIn K (.ref fis_sequence) = true)
    (ahas_length : PySem.W.nsIn K mainGlobals "has_length" = some (some (.ref fhas_length)))
    (lhas_length : K.lookup fhas_length = some ⟨ochas_length, odhas_length, .func (PySem.W.fnOf "has_length" "has_length" (defArgs s_has_length) (defBody s_has_length) (defScope s_has_length) .none kVhas_length dchas_length pmhas_length anhas_length cdhas_length cthas_length), slhas_length⟩)
    (chas_length : PySem.W.codeIn K cdhas_length "has_length" = true)
    (khas_length : PySem.W.keepIn K (.ref fhas_length) = true)
    (aall_below : PySem.W.nsIn K mainGlobals "all_below" = some (some (.ref fall_below)))
    (lall_below : K.lookup fall_below = some ⟨ocall_below, odall_below, .func (PySem.W.fnOf "all_below" "all_below" (defArgs s_all_below) (defBody s_all_below) (defScope s_all_below) .none kVall_below dcall_below pmall_below anall_below cdall_below ctall_below), slall_below⟩)
    (call_below : PySem.W.codeIn K cdall_below "all_below" = true)
    (kall_below : PySem.W.keepIn K (.ref fall_below) = true)
    (ais_ascending : PySem.W.nsIn K mainGlobals "is_ascending" = some (some (.ref fis_ascending)))
    (lis_ascending : K.lookup fis_ascending = some ⟨ocis_ascending, odis_ascending, .func (PySem.W.fnOf "is_ascending" "is_ascending" (defArgs s_is_ascending) (defBody s_is_ascending) (defScope s_is_ascending) .none kVis_ascending dcis_ascending pmis_ascending anis_ascending cdis_ascending ctis_ascending), slis_ascending⟩)
    (cis_ascending : PySem.W.codeIn K cdis_ascending "is_ascending" = true)
    (kis_ascending : PySem.W.keepIn K (.ref fis_ascending) = true)
    (ais_ascending_below : PySem.W.nsIn K mainGlobals "is_ascending_below" = some (some (.ref fis_ascending_below)))
    (lis_ascending_below : K.lookup fis_ascending_below = some ⟨ocis_ascending_below, odis_ascending_below, .func (PySem.W.fnOf "is_ascending_below" "is_ascending_below" (defArgs s_is_ascending_below) (defBody s_is_ascending_below) (defScope s_is_ascending_below) .none kVis_ascending_below dcis_ascending_below pmis_ascending_below anis_ascending_below cdis_ascending_below ctis_ascending_below), slis_ascending_below⟩)
    (cis_ascending_below : PySem.W.codeIn K cdis_ascending_below "is_ascending_below" = true)
    (kis_ascending_below : PySem.W.keepIn K (.ref fis_ascending_below) = true)
    (ais_kind : PySem.W.nsIn K mainGlobals "is_kind" = some (some (.ref fis_kind)))
    (lis_kind : K.lookup fis_kind = some ⟨ocis_kind, odis_kind, .func (PySem.W.fnOf "is_kind" "is_kind" (defArgs s_is_kind) (defBody s_is_kind) (defScope s_is_kind) .none kVis_kind dcis_kind pmis_kind anis_kind cdis_kind ctis_kind), slis_kind⟩)
    (cis_kind : PySem.W.codeIn K cdis_kind "is_kind" = true)
    (kis_kind : PySem.W.keepIn K (.ref fis_kind) = true)
    (aplain_kind : PySem.W.nsIn K mainGlobals "plain_kind" = some (some (.ref fplain_kind)))
    (lplain_kind : K.lookup fplain_kind = some ⟨ocplain_kind, odplain_kind, .func (PySem.W.fnOf "plain_kind" "plain_kind" (defArgs s_plain_kind) (defBody s_plain_kind) (defScope s_plain_kind) .none kVplain_kind dcplain_kind pmplain_kind anplain_kind cdplain_kind ctplain_kind), slplain_kind⟩)
    (cplain_kind : PySem.W.codeIn K cdplain_kind "plain_kind" = true)
    (kplain_kind : PySem.W.keepIn K (.ref fplain_kind) = true)
    (iDesk__init : PySem.W.findIn K (.ref CDesk) "__init__" = some (some (.ref fDesk__init)))
    (jDesk__init : PySem.W.isFn K (.ref fDesk__init) = true)
    (lDesk__init : K.lookup fDesk__init = some ⟨ocDesk__init, odDesk__init, .func (PySem.W.fnOf "__init__" "Desk.__init__" (defArgs s_Desk__init) (defBody s_Desk__init) (defScope s_Desk__init) .none kVDesk__init dcDesk__init pmDesk__init anDesk__init cdDesk__init ctDesk__init), slDesk__init⟩)
    (cDesk__init : PySem.W.codeIn K cdDesk__init "Desk.__init__" = true)
    (kDesk__init : PySem.W.keepIn K (.ref fDesk__init) = true)
    (alaw_made : PySem.W.nsIn K mainGlobals "_law_made" = some (some (.ref flaw_made)))
    (llaw_made : K.lookup flaw_made = some ⟨oclaw_made, odlaw_made, .func (PySem.W.fnOf "_law_made" "_law_made" (defArgs s_law_made) (defBody s_law_made) (defScope s_law_made) .none kVlaw_made dclaw_made pmlaw_made anlaw_made cdlaw_made ctlaw_made), sllaw_made⟩)
    (claw_made : PySem.W.codeIn K cdlaw_made "_law_made" = true)
    (klaw_made : PySem.W.keepIn K (.ref flaw_made) = true)
    (ais_rising : PySem.W.nsIn K mainGlobals "is_rising" = some (some (.ref fis_rising)))
    (lis_rising : K.lookup fis_rising = some ⟨ocis_rising, odis_rising, .func (PySem.W.fnOf "is_rising" "is_rising" (defArgs s_is_rising) (defBody s_is_rising) (defScope s_is_rising) .none kVis_rising dcis_rising pmis_rising anis_rising cdis_rising ctis_rising), slis_rising⟩)
    (cis_rising : PySem.W.codeIn K cdis_rising "is_rising" = true)
    (kis_rising : PySem.W.keepIn K (.ref fis_rising) = true)
    (ais_arc : PySem.W.nsIn K mainGlobals "is_arc" = some (some (.ref fis_arc)))
    (lis_arc : K.lookup fis_arc = some ⟨ocis_arc, odis_arc, .func (PySem.W.fnOf "is_arc" "is_arc" (defArgs s_is_arc) (defBody s_is_arc) (defScope s_is_arc) .none kVis_arc dcis_arc pmis_arc anis_arc cdis_arc ctis_arc), slis_arc⟩)
    (cis_arc : PySem.W.codeIn K cdis_arc "is_arc" = true)
    (kis_arc : PySem.W.keepIn K (.ref fis_arc) = true)
    (ais_state : PySem.W.nsIn K mainGlobals "is_state" = some (some (.ref fis_state)))
    (lis_state : K.lookup fis_state = some ⟨ocis_state, odis_state, .func (PySem.W.fnOf "is_state" "is_state" (defArgs s_is_state) (defBody s_is_state) (defScope s_is_state) .none kVis_state dcis_state pmis_state anis_state cdis_state ctis_state), slis_state⟩)
    (cis_state : PySem.W.codeIn K cdis_state "is_state" = true)
    (kis_state : PySem.W.keepIn K (.ref fis_state) = true)
    (aplain_state : PySem.W.nsIn K mainGlobals "plain_state" = some (some (.ref fplain_state)))
    (lplain_state : K.lookup fplain_state = some ⟨ocplain_state, odplain_state, .func (PySem.W.fnOf "plain_state" "plain_state" (defArgs s_plain_state) (defBody s_plain_state) (defScope s_plain_state) .none kVplain_state dcplain_state pmplain_state anplain_state cdplain_state ctplain_state), slplain_state⟩)
    (cplain_state : PySem.W.codeIn K cdplain_state "plain_state" = true)
    (kplain_state : PySem.W.keepIn K (.ref fplain_state) = true)
    (iStream__init : PySem.W.findIn K (.ref CStream) "__init__" = some (some (.ref fStream__init)))
    (jStream__init : PySem.W.isFn K (.ref fStream__init) = true)
    (lStream__init : K.lookup fStream__init = some ⟨ocStream__init, odStream__init, .func (PySem.W.fnOf "__init__" "Stream.__init__" (defArgs s_Stream__init) (defBody s_Stream__init) (defScope s_Stream__init) .none kVStream__init dcStream__init pmStream__init anStream__init cdStream__init ctStream__init), slStream__init⟩)
    (cStream__init : PySem.W.codeIn K cdStream__init "Stream.__init__" = true)
    (kStream__init : PySem.W.keepIn K (.ref fStream__init) = true)
    (alaw_flow : PySem.W.nsIn K mainGlobals "_law_flow" = some (some (.ref flaw_flow)))
    (llaw_flow : K.lookup flaw_flow = some ⟨oclaw_flow, odlaw_flow, .func (PySem.W.fnOf "_law_flow" "_law_flow" (defArgs s_law_flow) (defBody s_law_flow) (defScope s_law_flow) .none kVlaw_flow dclaw_flow pmlaw_flow anlaw_flow cdlaw_flow ctlaw_flow), sllaw_flow⟩)
    (claw_flow : PySem.W.codeIn K cdlaw_flow "_law_flow" = true)
    (klaw_flow : PySem.W.keepIn K (.ref flaw_flow) = true)
    (alaw_scene : PySem.W.nsIn K mainGlobals "_law_scene" = some (some (.ref flaw_scene)))
    (llaw_scene : K.lookup flaw_scene = some ⟨oclaw_scene, odlaw_scene, .func (PySem.W.fnOf "_law_scene" "_law_scene" (defArgs s_law_scene) (defBody s_law_scene) (defScope s_law_scene) .none kVlaw_scene dclaw_scene pmlaw_scene anlaw_scene cdlaw_scene ctlaw_scene), sllaw_scene⟩)
    (claw_scene : PySem.W.codeIn K cdlaw_scene "_law_scene" = true)
    (klaw_scene : PySem.W.keepIn K (.ref flaw_scene) = true)
    (alaw_crowd : PySem.W.nsIn K mainGlobals "_law_crowd" = some (some (.ref flaw_crowd)))
    (llaw_crowd : K.lookup flaw_crowd = some ⟨oclaw_crowd, odlaw_crowd, .func (PySem.W.fnOf "_law_crowd" "_law_crowd" (defArgs s_law_crowd) (defBody s_law_crowd) (defScope s_law_crowd) .none kVlaw_crowd dclaw_crowd pmlaw_crowd anlaw_crowd cdlaw_crowd ctlaw_crowd), sllaw_crowd⟩)
    (claw_crowd : PySem.W.codeIn K cdlaw_crowd "_law_crowd" = true)
    (klaw_crowd : PySem.W.keepIn K (.ref flaw_crowd) = true)
    (alaw_so : PySem.W.nsIn K mainGlobals "_law_so" = some (some (.ref flaw_so)))
    (llaw_so : K.lookup flaw_so = some ⟨oclaw_so, odlaw_so, .func (PySem.W.fnOf "_law_so" "_law_so" (defArgs s_law_so) (defBody s_law_so) (defScope s_law_so) .none kVlaw_so dclaw_so pmlaw_so anlaw_so cdlaw_so ctlaw_so), sllaw_so⟩)
    (claw_so : PySem.W.codeIn K cdlaw_so "_law_so" = true)
    (klaw_so : PySem.W.keepIn K (.ref flaw_so) = true)
    (afits : PySem.W.nsIn K mainGlobals "fits" = some (some (.ref ffits)))
    (lfits : K.lookup ffits = some ⟨ocfits, odfits, .func (PySem.W.fnOf "fits" "fits" (defArgs s_fits) (defBody s_fits) (defScope s_fits) .none kVfits dcfits pmfits anfits cdfits ctfits), slfits⟩)
    (cfits : PySem.W.codeIn K cdfits "fits" = true)
    (kfits : PySem.W.keepIn K (.ref ffits) = true)
    (acheck_both : PySem.W.nsIn K mainGlobals "check_both" = some (some (.ref fcheck_both)))
    (lcheck_both : K.lookup fcheck_both = some ⟨occheck_both, odcheck_both, .func (PySem.W.fnOf "check_both" "check_both" (defArgs s_check_both) (defBody s_check_both) (defScope s_check_both) .none kVcheck_both dccheck_both pmcheck_both ancheck_both cdcheck_both ctcheck_both), slcheck_both⟩)
    (ccheck_both : PySem.W.codeIn K cdcheck_both "check_both" = true)
    (kcheck_both : PySem.W.keepIn K (.ref fcheck_both) = true)
    (iStream__len : PySem.W.findIn K (.ref CStream) "__len__" = some (some (.ref fStream__len)))
    (jStream__len : PySem.W.isFn K (.ref fStream__len) = true)
    (lStream__len : K.lookup fStream__len = some ⟨ocStream__len, odStream__len, .func (PySem.W.fnOf "__len__" "Stream.__len__" (defArgs s_Stream__len) (defBody s_Stream__len) (defScope s_Stream__len) .none kVStream__len dcStream__len pmStream__len anStream__len cdStream__len ctStream__len), slStream__len⟩)
    (cStream__len : PySem.W.codeIn K cdStream__len "Stream.__len__" = true)
    (kStream__len : PySem.W.keepIn K (.ref fStream__len) = true)
    (aplain_ticket : PySem.W.nsIn K mainGlobals "plain_ticket" = some (some (.ref fplain_ticket)))
    (lplain_ticket : K.lookup fplain_ticket = some ⟨ocplain_ticket, odplain_ticket, .func (PySem.W.fnOf "plain_ticket" "plain_ticket" (defArgs s_plain_ticket) (defBody s_plain_ticket) (defScope s_plain_ticket) .none kVplain_ticket dcplain_ticket pmplain_ticket anplain_ticket cdplain_ticket ctplain_ticket), slplain_ticket⟩)
    (cplain_ticket : PySem.W.codeIn K cdplain_ticket "plain_ticket" = true)
    (kplain_ticket : PySem.W.keepIn K (.ref fplain_ticket) = true)
    (aplain_scene : PySem.W.nsIn K mainGlobals "plain_scene" = some (some (.ref fplain_scene)))
    (lplain_scene : K.lookup fplain_scene = some ⟨ocplain_scene, odplain_scene, .func (PySem.W.fnOf "plain_scene" "plain_scene" (defArgs s_plain_scene) (defBody s_plain_scene) (defScope s_plain_scene) dVplain_scene kVplain_scene dcplain_scene pmplain_scene anplain_scene cdplain_scene ctplain_scene), slplain_scene⟩)
    (cplain_scene : PySem.W.codeIn K cdplain_scene "plain_scene" = true)
    (kplain_scene : PySem.W.keepIn K (.ref fplain_scene) = true)
    (evplain_scene : dVplain_scene = .ref tplain_scene)
    (dtplain_scene : K.lookup tplain_scene = some ⟨obplain_scene, oeplain_scene, ddplain_scene, seplain_scene⟩)
    (edplain_scene : ddplain_scene = .seq #[.int 40 tkplain_scene] nnplain_scene)
    (akinds_of : PySem.W.nsIn K mainGlobals "kinds_of" = some (some (.ref fkinds_of)))
    (lkinds_of : K.lookup fkinds_of = some ⟨ockinds_of, odkinds_of, .func (PySem.W.fnOf "kinds_of" "kinds_of" (defArgs s_kinds_of) (defBody s_kinds_of) (defScope s_kinds_of) .none kVkinds_of dckinds_of pmkinds_of ankinds_of cdkinds_of ctkinds_of), slkinds_of⟩)
    (ckinds_of : PySem.W.codeIn K cdkinds_of "kinds_of" = true)
    (kkinds_of : PySem.W.keepIn K (.ref fkinds_of) = true)
    (amoment_by : PySem.W.nsIn K mainGlobals "moment_by" = some (some (.ref fmoment_by)))
    (lmoment_by : K.lookup fmoment_by = some ⟨ocmoment_by, odmoment_by, .func (PySem.W.fnOf "moment_by" "moment_by" (defArgs s_moment_by) (defBody s_moment_by) (defScope s_moment_by) .none kVmoment_by dcmoment_by pmmoment_by anmoment_by cdmoment_by ctmoment_by), slmoment_by⟩)
    (cmoment_by : PySem.W.codeIn K cdmoment_by "moment_by" = true)
    (kmoment_by : PySem.W.keepIn K (.ref fmoment_by) = true)
    (acome : PySem.W.nsIn K mainGlobals "come" = some (some (.ref fcome)))
    (lcome : K.lookup fcome = some ⟨occome, odcome, .func (PySem.W.fnOf "come" "come" (defArgs s_come) (defBody s_come) (defScope s_come) .none kVcome dccome pmcome ancome cdcome ctcome), slcome⟩)
    (ccome : PySem.W.codeIn K cdcome "come" = true)
    (kcome : PySem.W.keepIn K (.ref fcome) = true)
    (alaw_come : PySem.W.nsIn K mainGlobals "_law_come" = some (some (.ref flaw_come)))
    (llaw_come : K.lookup flaw_come = some ⟨oclaw_come, odlaw_come, .func (PySem.W.fnOf "_law_come" "_law_come" (defArgs s_law_come) (defBody s_law_come) (defScope s_law_come) .none kVlaw_come dclaw_come pmlaw_come anlaw_come cdlaw_come ctlaw_come), sllaw_come⟩)
    (claw_come : PySem.W.codeIn K cdlaw_come "_law_come" = true)
    (klaw_come : PySem.W.keepIn K (.ref flaw_come) = true)
    (alaw_loose : PySem.W.nsIn K mainGlobals "_law_loose" = some (some (.ref flaw_loose)))
    (llaw_loose : K.lookup flaw_loose = some ⟨oclaw_loose, odlaw_loose, .func (PySem.W.fnOf "_law_loose" "_law_loose" (defArgs s_law_loose) (defBody s_law_loose) (defScope s_law_loose) .none kVlaw_loose dclaw_loose pmlaw_loose anlaw_loose cdlaw_loose ctlaw_loose), sllaw_loose⟩)
    (claw_loose : PySem.W.codeIn K cdlaw_loose "_law_loose" = true)
    (klaw_loose : PySem.W.keepIn K (.ref flaw_loose) = true)
    (ais_scene : PySem.W.nsIn K mainGlobals "is_scene" = some (some (.ref fis_scene)))
    (lis_scene : K.lookup fis_scene = some ⟨ocis_scene, odis_scene, .func (PySem.W.fnOf "is_scene" "is_scene" (defArgs s_is_scene) (defBody s_is_scene) (defScope s_is_scene) .none kVis_scene dcis_scene pmis_scene anis_scene cdis_scene ctis_scene), slis_scene⟩)
    (cis_scene : PySem.W.codeIn K cdis_scene "is_scene" = true)
    (kis_scene : PySem.W.keepIn K (.ref fis_scene) = true)
    (alaw_numeric : PySem.W.nsIn K mainGlobals "_law_numeric" = some (some (.ref flaw_numeric)))
    (llaw_numeric : K.lookup flaw_numeric = some ⟨oclaw_numeric, odlaw_numeric, .func (PySem.W.fnOf "_law_numeric" "_law_numeric" (defArgs s_law_numeric) (defBody s_law_numeric) (defScope s_law_numeric) .none kVlaw_numeric dclaw_numeric pmlaw_numeric anlaw_numeric cdlaw_numeric ctlaw_numeric), sllaw_numeric⟩)
    (claw_numeric : PySem.W.codeIn K cdlaw_numeric "_law_numeric" = true)
    (klaw_numeric : PySem.W.keepIn K (.ref flaw_numeric) = true)
    (alaw_is_ticket : PySem.W.nsIn K mainGlobals "_law_is_ticket" = some (some (.ref flaw_is_ticket)))
    (llaw_is_ticket : K.lookup flaw_is_ticket = some ⟨oclaw_is_ticket, odlaw_is_ticket, .func (PySem.W.fnOf "_law_is_ticket" "_law_is_ticket" (defArgs s_law_is_ticket) (defBody s_law_is_ticket) (defScope s_law_is_ticket) .none kVlaw_is_ticket dclaw_is_ticket pmlaw_is_ticket anlaw_is_ticket cdlaw_is_ticket ctlaw_is_ticket), sllaw_is_ticket⟩)
    (claw_is_ticket : PySem.W.codeIn K cdlaw_is_ticket "_law_is_ticket" = true)
    (klaw_is_ticket : PySem.W.keepIn K (.ref flaw_is_ticket) = true)
    (alaw_is_scene : PySem.W.nsIn K mainGlobals "_law_is_scene" = some (some (.ref flaw_is_scene)))
    (llaw_is_scene : K.lookup flaw_is_scene = some ⟨oclaw_is_scene, odlaw_is_scene, .func (PySem.W.fnOf "_law_is_scene" "_law_is_scene" (defArgs s_law_is_scene) (defBody s_law_is_scene) (defScope s_law_is_scene) .none kVlaw_is_scene dclaw_is_scene pmlaw_is_scene anlaw_is_scene cdlaw_is_scene ctlaw_is_scene), sllaw_is_scene⟩)
    (claw_is_scene : PySem.W.codeIn K cdlaw_is_scene "_law_is_scene" = true)
    (klaw_is_scene : PySem.W.keepIn K (.ref flaw_is_scene) = true)
    (alaw : PySem.W.nsIn K mainGlobals "law" = some (some (.ref flaw)))
    (llaw : K.lookup flaw = some ⟨oclaw, odlaw, .func (PySem.W.fnOf "law" "law" (defArgs s_law) (defBody s_law) (defScope s_law) .none kVlaw dclaw pmlaw anlaw cdlaw ctlaw), sllaw⟩)
    (claw : PySem.W.codeIn K cdlaw "law" = true)
    (klaw : PySem.W.keepIn K (.ref flaw) = true)
    (iDeskkinds : PySem.W.findIn K (.ref CDesk) "kinds" = some (some (.ref qDeskkinds)))
    (uDeskkinds : PySem.W.specialIn K (.ref qDeskkinds) "__get__" = some (some (.builtin "property.__get__")))
    (vDeskkinds : PySem.W.takesIn K (.ref qDeskkinds) = some true)
    (wDeskkinds : PySem.W.recIn K qDeskkinds "property" = some (.ref fDeskkinds :: rDeskkinds))
    (lDeskkinds : K.lookup fDeskkinds = some ⟨ocDeskkinds, odDeskkinds, .func (PySem.W.fnOf "kinds" "Desk.kinds" (defArgs s_Deskkinds) (defBody s_Deskkinds) (defScope s_Deskkinds) .none kVDeskkinds dcDeskkinds pmDeskkinds anDeskkinds cdDeskkinds ctDeskkinds), slDeskkinds⟩)
    (cDeskkinds : PySem.W.codeIn K cdDeskkinds "Desk.kinds" = true)
    (kDeskkinds : PySem.W.keepIn K (.ref fDeskkinds) = true)
    (iStreamstates : PySem.W.findIn K (.ref CStream) "states" = some (some (.ref qStreamstates)))
    (uStreamstates : PySem.W.specialIn K (.ref qStreamstates) "__get__" = some (some (.builtin "property.__get__")))
    (vStreamstates : PySem.W.takesIn K (.ref qStreamstates) = some true)
    (wStreamstates : PySem.W.recIn K qStreamstates "property" = some (.ref fStreamstates :: rStreamstates))
    (lStreamstates : K.lookup fStreamstates = some ⟨ocStreamstates, odStreamstates, .func (PySem.W.fnOf "states" "Stream.states" (defArgs s_Streamstates) (defBody s_Streamstates) (defScope s_Streamstates) .none kVStreamstates dcStreamstates pmStreamstates anStreamstates cdStreamstates ctStreamstates), slStreamstates⟩)
    (cStreamstates : PySem.W.codeIn K cdStreamstates "Stream.states" = true)
    (kStreamstates : PySem.W.keepIn K (.ref fStreamstates) = true)
    (vJOINS : PySem.W.nsIn K mainGlobals "JOINS" = some (some (.int 4 tJOINS)))
    (vMOST_AGENTS : PySem.W.nsIn K mainGlobals "MOST_AGENTS" = some (some (.int 3 tMOST_AGENTS)))
    (vMOST_ARCS : PySem.W.nsIn K mainGlobals "MOST_ARCS" = some (some (.int 4 tMOST_ARCS)))
    (vMOST_COMING : PySem.W.nsIn K mainGlobals "MOST_COMING" = some (some (.int 3 tMOST_COMING)))
    (vMOST_KINDS : PySem.W.nsIn K mainGlobals "MOST_KINDS" = some (some (.int 3 tMOST_KINDS)))
    (vMOST_PROMISE : PySem.W.nsIn K mainGlobals "MOST_PROMISE" = some (some (.int 12 tMOST_PROMISE)))
    (vMOST_STATES : PySem.W.nsIn K mainGlobals "MOST_STATES" = some (some (.int 8 tMOST_STATES)))
    (vMOST_TICKETS_AHEAD : PySem.W.nsIn K mainGlobals "MOST_TICKETS_AHEAD" = some (some (.int 37 tMOST_TICKETS_AHEAD)))
    (vMOST_WORK : PySem.W.nsIn K mainGlobals "MOST_WORK" = some (some (.int 4 tMOST_WORK)))
    (vPROMISE : PySem.W.nsIn K mainGlobals "PROMISE" = some (some (.int 1 tPROMISE)))
    (vWORK : PySem.W.nsIn K mainGlobals "WORK" = some (some (.int 0 tWORK)))
    (zall : PySem.W.nsIn K mainGlobals "all" = some none)
    (zbool : PySem.W.nsIn K mainGlobals "bool" = some none)
    (zenumerate : PySem.W.nsIn K mainGlobals "enumerate" = some none)
    (zint : PySem.W.nsIn K mainGlobals "int" = some none)
    (zisinstance : PySem.W.nsIn K mainGlobals "isinstance" = some none)
    (zlen : PySem.W.nsIn K mainGlobals "len" = some none)
    (zlist : PySem.W.nsIn K mainGlobals "list" = some none)
    (zmin : PySem.W.nsIn K mainGlobals "min" = some none)
    (zrange : PySem.W.nsIn K mainGlobals "range" = some none)
    (zsorted : PySem.W.nsIn K mainGlobals "sorted" = some none)
    (zstr : PySem.W.nsIn K mainGlobals "str" = some none)
    (ztuple : PySem.W.nsIn K mainGlobals "tuple" = some none)
    (zzip : PySem.W.nsIn K mainGlobals "zip" = some none) :
    ∃ fd : FuncData, (∀ (s : Shared) (v : Value), BindsTo s fd ⟨[v], []⟩ [("script", v)]) ∧ ∀ base : Heap, K.In base → base.Ns mainGlobals mg → FnOk P w K mg base (L2.CX P w) 10 fa fd ["script"] (spLaw K) := by
  have e := hfa.symm.trans (PySem.W.mg_of X G alaw)
  cases e
  refine ⟨PySem.W.fnOf "law" "law" (defArgs s_law) (defBody s_law) (defScope s_law) .none kVlaw dclaw pmlaw anlaw cdlaw ctlaw, fun s v => .of_eq rfl, fun base _ _ => ?_⟩
  · subst evplain_scene edplain_scene
    have coDesk : ClO (gOf K CDesk CStream CBadValue CBadKind CBadState) "Desk" CDesk ["_agents", "_kinds"] := ⟨by first | rfl | simp [gOf], ⟨pgDesk, hdDesk, poDesk, saDesk⟩, by decide, (fun f h => by rcases List.mem_cons.mp h with rfl | h; exact nDesk_agents; rcases List.mem_cons.mp h with rfl | h; exact nDesk_kinds; cases h), by decide⟩
    have coStream : ClO (gOf K CDesk CStream CBadValue CBadKind CBadState) "Stream" CStream ["_states"] := ⟨by first | rfl | simp [gOf], ⟨pgStream, hdStream, poStream, saStream⟩, by decide, (fun f h => by rcases List.mem_cons.mp h with rfl | h; exact nStream_states; cases h), by decide⟩
    have isDesk : HasIs (gOf K CDesk CStream CBadValue CBadKind CBadState) "Desk" := by
      refine ⟨⟨CDesk, _, coDesk.cl, (fun t h => by rcases List.mem_cons.mp h with rfl | h; exact kit_typ icDesk tyDesk sNoneTypeDesk; rcases List.mem_cons.mp h with rfl | h; exact kit_typ icDesk tyDesk sboolDesk; rcases List.mem_cons.mp h with rfl | h; exact kit_typ icDesk tyDesk sintDesk; rcases List.mem_cons.mp h with rfl | h; exact kit_typ icDesk tyDesk sstrDesk; rcases List.mem_cons.mp h with rfl | h; exact kit_typ icDesk tyDesk stupleDesk; rcases List.mem_cons.mp h with rfl | h; exact kit_typ icDesk tyDesk slistDesk; cases h), fun c' C' ns' h => ?_⟩, on, ot⟩
      by_cases e0 : c' = "Desk"
      · subst e0
        rw [coDesk.cl] at h
        cases h
        exact ⟨coDesk.cls, caDesk, moDesk, kit_ref icDesk tyDesk sDeskDesk sDeskDesk⟩
      by_cases e1 : c' = "Stream"
      · subst e1
        rw [coStream.cl] at h
        cases h
        exact ⟨coStream.cls, caStream, moStream, kit_ref icDesk tyDesk sDeskDesk sStreamDesk⟩
      simp [gOf, e0, e1] at h
    have isStream : HasIs (gOf K CDesk CStream CBadValue CBadKind CBadState) "Stream" := by
      refine ⟨⟨CStream, _, coStream.cl, (fun t h => by rcases List.mem_cons.mp h with rfl | h; exact kit_typ icStream tyStream sNoneTypeStream; rcases List.mem_cons.mp h with rfl | h; exact kit_typ icStream tyStream sboolStream; rcases List.mem_cons.mp h with rfl | h; exact kit_typ icStream tyStream sintStream; rcases List.mem_cons.mp h with rfl | h; exact kit_typ icStream tyStream sstrStream; rcases List.mem_cons.mp h with rfl | h; exact kit_typ icStream tyStream stupleStream; rcases List.mem_cons.mp h with rfl | h; exact kit_typ icStream tyStream slistStream; cases h), fun c' C' ns' h => ?_⟩, on, ot⟩
      by_cases e0 : c' = "Desk"
      · subst e0
        rw [coDesk.cl] at h
        cases h
        exact ⟨coDesk.cls, caDesk, moDesk, kit_ref icStream tyStream sStreamStream sDeskStream⟩
      by_cases e1 : c' = "Stream"
      · subst e1
        rw [coStream.cl] at h
        cases h
        exact ⟨coStream.cls, caStream, moStream, kit_ref icStream tyStream sStreamStream sStreamStream⟩
      simp [gOf, e0, e1] at h
    have ZBadValue : ExC K CBadValue "at" := ⟨mdBadValue, ovBadValue, hdBadValue, tkBadValue, saBadValue, gaBadValue, ggBadValue, noBadValue, exBadValue, tyBadValue, kpBadValue⟩
    have xcBadValue : Gc.xc (gOf K CDesk CStream CBadValue CBadKind CBadState) "BadValue" = some (CBadValue, ("at" : Str)) := by first | rfl | simp [gOf]
    have ZBadKind : ExC K CBadKind "at" := ⟨mdBadKind, ovBadKind, hdBadKind, tkBadKind, saBadKind, gaBadKind, ggBadKind, noBadKind, exBadKind, tyBadKind, kpBadKind⟩
    have xcBadKind : Gc.xc (gOf K CDesk CStream CBadValue CBadKind CBadState) "BadKind" = some (CBadKind, ("at" : Str)) := by first | rfl | simp [gOf]
    have ZBadState : ExC K CBadState "at" := ⟨mdBadState, ovBadState, hdBadState, tkBadState, saBadState, gaBadState, ggBadState, noBadState, exBadState, tyBadState, kpBadState⟩
    have xcBadState : Gc.xc (gOf K CDesk CStream CBadValue CBadKind CBadState) "BadState" = some (CBadState, ("at" : Str)) := by first | rfl | simp [gOf]
    have T : Txt (gOf K CDesk CStream CBadValue CBadKind CBadState) mg := ⟨PySem.W.mg_none_of X G zall, PySem.W.mg_none_of X G zbool, PySem.W.mg_none_of X G zenumerate, PySem.W.mg_none_of X G zint, PySem.W.mg_none_of X G zisinstance, PySem.W.mg_none_of X G zlen, PySem.W.mg_none_of X G zlist, PySem.W.mg_none_of X G zmin, PySem.W.mg_none_of X G zrange, PySem.W.mg_none_of X G zsorted, PySem.W.mg_none_of X G zstr, PySem.W.mg_none_of X G ztuple, PySem.W.mg_none_of X G zzip, ⟨_, PySem.W.mg_of X G vJOINS⟩, ⟨_, PySem.W.mg_of X G vMOST_AGENTS⟩, ⟨_, PySem.W.mg_of X G vMOST_ARCS⟩, ⟨_, PySem.W.mg_of X G vMOST_COMING⟩, ⟨_, PySem.W.mg_of X G vMOST_KINDS⟩, ⟨_, PySem.W.mg_of X G vMOST_PROMISE⟩, ⟨_, PySem.W.mg_of X G vMOST_STATES⟩, ⟨_, PySem.W.mg_of X G vMOST_TICKETS_AHEAD⟩, ⟨_, PySem.W.mg_of X G vMOST_WORK⟩, ⟨_, PySem.W.mg_of X G vPROMISE⟩, ⟨_, PySem.W.mg_of X G vWORK⟩, ⟨_, PySem.W.mg_of X G gDesk, coDesk.cl⟩, ⟨_, PySem.W.mg_of X G gStream, coStream.cl⟩, isDesk, isStream, ⟨_, coStream⟩⟩
    have hx_BadValue : HasX P w mg base (gOf K CDesk CStream CBadValue CBadKind CBadState) 1 "BadValue" := x_BadValue ZBadValue iiBadValue tiBadValue (fun_mk lBadValue cBadValue kBadValue) ((fun_mk lBadValue cBadValue kBadValue).binds (ps := ["self", "at"]) fun _ _ _ _ _ _ us hl => match us, hl with | [_, _], _ => rfl) (PySem.W.mg_of X G gBadValue) xcBadValue ⟨PySem.W.mg_of X G gDeskError, spDeskError, rdDeskError, fiDeskError⟩
    have hx_BadKind : HasX P w mg base (gOf K CDesk CStream CBadValue CBadKind CBadState) 1 "BadKind" := x_BadKind ZBadKind iiBadKind tiBadKind (fun_mk lBadKind cBadKind kBadKind) ((fun_mk lBadKind cBadKind kBadKind).binds (ps := ["self", "at"]) fun _ _ _ _ _ _ us hl => match us, hl with | [_, _], _ => rfl) (PySem.W.mg_of X G gBadKind) xcBadKind ⟨PySem.W.mg_of X G gDeskError, spDeskError, rdDeskError, fiDeskError⟩
    have hx_BadState : HasX P w mg base (gOf K CDesk CStream CBadValue CBadKind CBadState) 1 "BadState" := x_BadState ZBadState iiBadState tiBadState (fun_mk lBadState cBadState kBadState) ((fun_mk lBadState cBadState kBadState).binds (ps := ["self", "at"]) fun _ _ _ _ _ _ us hl => match us, hl with | [_, _], _ => rfl) (PySem.W.mg_of X G gBadState) xcBadState ⟨PySem.W.mg_of X G gDeskError, spDeskError, rdDeskError, fiDeskError⟩
    have hp_Desk_kinds : HasPr P w mg base (gOf K CDesk CStream CBadValue CBadKind CBadState) 1 "Desk" "kinds" 1 := has_pr (N := ["self"]) coDesk (by rfl) ⟨iDeskkinds, uDeskkinds, vDeskkinds, ⟨_, wDeskkinds⟩⟩ (fun_mk lDeskkinds cDeskkinds kDeskkinds) sc_Deskkinds rfl ((fun_mk lDeskkinds cDeskkinds kDeskkinds).binds (ps := ["self"]) fun _ _ _ _ _ _ us hl => match us, hl with | [_], _ => rfl) (Or.inl rfl) (by rfl)
    have hp_Stream_states : HasPr P w mg base (gOf K CDesk CStream CBadValue CBadKind CBadState) 1 "Stream" "states" 0 := has_pr (N := ["self"]) coStream (by rfl) ⟨iStreamstates, uStreamstates, vStreamstates, ⟨_, wStreamstates⟩⟩ (fun_mk lStreamstates cStreamstates kStreamstates) sc_Streamstates rfl ((fun_mk lStreamstates cStreamstates kStreamstates).binds (ps := ["self"]) fun _ _ _ _ _ _ us hl => match us, hl with | [_], _ => rfl) (Or.inl rfl) (by rfl)
    have h_law_numbers := ok_law_numbers (P := P) (w := w) (base := base) T ⟨_, _, fun_mk llaw_numbers claw_numbers klaw_numbers, PySem.W.mg_of X G alaw_numbers, (fun_mk llaw_numbers claw_numbers klaw_numbers).binds (ps := ["script"]) fun _ _ _ _ _ _ us hl => match us, hl with | [_], _ => rfl⟩ 
    have h_law_draw := ok_law_draw (P := P) (w := w) (base := base) T ⟨_, _, fun_mk llaw_draw claw_draw klaw_draw, PySem.W.mg_of X G alaw_draw, (fun_mk llaw_draw claw_draw klaw_draw).binds (ps := ["row", "at", "limit"]) fun _ _ _ _ _ _ us hl => match us, hl with | [_, _, _], _ => rfl⟩ 
    have h_law_take := ok_law_take (P := P) (w := w) (base := base) T ⟨_, _, fun_mk llaw_take claw_take klaw_take, PySem.W.mg_of X G alaw_take, (fun_mk llaw_take claw_take klaw_take).binds (ps := ["row", "spot", "limit"]) fun _ _ _ _ _ _ us hl => match us, hl with | [_, _, _], _ => rfl⟩ h_law_draw
    have h_law_twin_case := ok_law_twin_case (P := P) (w := w) (base := base) T ⟨_, _, fun_mk llaw_twin_case claw_twin_case klaw_twin_case, PySem.W.mg_of X G alaw_twin_case, (fun_mk llaw_twin_case claw_twin_case klaw_twin_case).binds (ps := ["row", "spot"]) fun _ _ _ _ _ _ us hl => match us, hl with | [_, _], _ => rfl⟩ h_law_take
    have h_law_desk := ok_law_desk (P := P) (w := w) (base := base) T ⟨_, _, fun_mk llaw_desk claw_desk klaw_desk, PySem.W.mg_of X G alaw_desk, (fun_mk llaw_desk claw_desk klaw_desk).binds (ps := ["row", "spot", "most"]) fun _ _ _ _ _ _ us hl => match us, hl with | [_, _, _], _ => rfl⟩ h_law_take
    have h_law_stream := ok_law_stream (P := P) (w := w) (base := base) T ⟨_, _, fun_mk llaw_stream claw_stream klaw_stream, PySem.W.mg_of X G alaw_stream, (fun_mk llaw_stream claw_stream klaw_stream).binds (ps := ["row", "spot", "kinds", "wide"]) fun _ _ _ _ _ _ us hl => match us, hl with | [_, _, _, _], _ => rfl⟩ h_law_take
    have h_law_case := ok_law_case (P := P) (w := w) (base := base) T ⟨_, _, fun_mk llaw_case claw_case klaw_case, PySem.W.mg_of X G alaw_case, (fun_mk llaw_case claw_case klaw_case).binds (ps := ["row", "spot"]) fun _ _ _ _ _ _ us hl => match us, hl with | [_, _], _ => rfl⟩ h_law_take h_law_twin_case h_law_desk h_law_stream
    have h_is_whole := ok_is_whole (P := P) (w := w) (base := base) T ⟨_, _, fun_mk lis_whole cis_whole kis_whole, PySem.W.mg_of X G ais_whole, (fun_mk lis_whole cis_whole kis_whole).binds (ps := ["value"]) fun _ _ _ _ _ _ us hl => match us, hl with | [_], _ => rfl⟩ 
    have h_is_between := ok_is_between (P := P) (w := w) (base := base) T ⟨_, _, fun_mk lis_between cis_between kis_between, PySem.W.mg_of X G ais_between, (fun_mk lis_between cis_between kis_between).binds (ps := ["value", "low", "high"]) fun _ _ _ _ _ _ us hl => match us, hl with | [_, _, _], _ => rfl⟩ h_is_whole
    have h_is_sequence := ok_is_sequence (P := P) (w := w) (base := base) T ⟨_, _, fun_mk lis_sequence cis_sequence kis_sequence, PySem.W.mg_of X G ais_sequence, (fun_mk lis_sequence cis_sequence kis_sequence).binds (ps := ["value"]) fun _ _ _ _ _ _ us hl => match us, hl with | [_], _ => rfl⟩ 
    have h_has_length := ok_has_length (P := P) (w := w) (base := base) T ⟨_, _, fun_mk lhas_length chas_length khas_length, PySem.W.mg_of X G ahas_length, (fun_mk lhas_length chas_length khas_length).binds (ps := ["value", "least", "most"]) fun _ _ _ _ _ _ us hl => match us, hl with | [_, _, _], _ => rfl⟩ h_is_sequence
    have h_all_below := ok_all_below (P := P) (w := w) (base := base) T ⟨_, _, fun_mk lall_below call_below kall_below, PySem.W.mg_of X G aall_below, (fun_mk lall_below call_below kall_below).binds (ps := ["value", "end"]) fun _ _ _ _ _ _ us hl => match us, hl with | [_, _], _ => rfl⟩ h_is_sequence h_is_between
    have h_is_ascending := ok_is_ascending (P := P) (w := w) (base := base) T ⟨_, _, fun_mk lis_ascending cis_ascending kis_ascending, PySem.W.mg_of X G ais_ascending, (fun_mk lis_ascending cis_ascending kis_ascending).binds (ps := ["values"]) fun _ _ _ _ _ _ us hl => match us, hl with | [_], _ => rfl⟩ 
    have h_is_ascending_below := ok_is_ascending_below (P := P) (w := w) (base := base) T ⟨_, _, fun_mk lis_ascending_below cis_ascending_below kis_ascending_below, PySem.W.mg_of X G ais_ascending_below, (fun_mk lis_ascending_below cis_ascending_below kis_ascending_below).binds (ps := ["value", "end"]) fun _ _ _ _ _ _ us hl => match us, hl with | [_, _], _ => rfl⟩ h_all_below h_is_ascending
    have h_is_kind := ok_is_kind (P := P) (w := w) (base := base) T ⟨_, _, fun_mk lis_kind cis_kind kis_kind, PySem.W.mg_of X G ais_kind, (fun_mk lis_kind cis_kind kis_kind).binds (ps := ["value", "number", "agents"]) fun _ _ _ _ _ _ us hl => match us, hl with | [_, _, _], _ => rfl⟩ h_has_length h_is_between h_is_ascending_below
    have h_plain_kind := ok_plain_kind (P := P) (w := w) (base := base) T ⟨_, _, fun_mk lplain_kind cplain_kind kplain_kind, PySem.W.mg_of X G aplain_kind, (fun_mk lplain_kind cplain_kind kplain_kind).binds (ps := ["kind"]) fun _ _ _ _ _ _ us hl => match us, hl with | [_], _ => rfl⟩ 
    have m_Desk := ok_Desk__init (P := P) (w := w) (base := base) T ⟨coDesk, ⟨maDesk, iDesk__init, jDesk__init, kcDesk⟩, PySem.W.mg_of X G gDesk, fun_mk lDesk__init cDesk__init kDesk__init, (fun_mk lDesk__init cDesk__init kDesk__init).binds (ps := ["self", "agents", "kinds"]) fun _ _ _ _ _ _ us hl => match us, hl with | [_, _, _], _ => rfl, fun s u ws _ hl => match ws, hl with | [_, _], _ => .of_eq rfl⟩ h_is_between hx_BadValue h_has_length h_is_kind hx_BadKind h_plain_kind par_Desk
    have mk_Desk := m_Desk.1
    have mkk_Desk := m_Desk.2
    have h_law_made := ok_law_made (P := P) (w := w) (base := base) T ⟨_, _, fun_mk llaw_made claw_made klaw_made, PySem.W.mg_of X G alaw_made, (fun_mk llaw_made claw_made klaw_made).binds (ps := ["case"]) fun _ _ _ _ _ _ us hl => match us, hl with | [_], _ => rfl⟩ mk_Desk
    have h_is_rising := ok_is_rising (P := P) (w := w) (base := base) T ⟨_, _, fun_mk lis_rising cis_rising kis_rising, PySem.W.mg_of X G ais_rising, (fun_mk lis_rising cis_rising kis_rising).binds (ps := ["values"]) fun _ _ _ _ _ _ us hl => match us, hl with | [_], _ => rfl⟩ 
    have h_is_arc := ok_is_arc (P := P) (w := w) (base := base) T ⟨_, _, fun_mk lis_arc cis_arc kis_arc, PySem.W.mg_of X G ais_arc, (fun_mk lis_arc cis_arc kis_arc).binds (ps := ["value", "states"]) fun _ _ _ _ _ _ us hl => match us, hl with | [_, _], _ => rfl⟩ h_has_length h_all_below h_is_rising h_is_between
    have h_is_state := ok_is_state (P := P) (w := w) (base := base) T ⟨_, _, fun_mk lis_state cis_state kis_state, PySem.W.mg_of X G ais_state, (fun_mk lis_state cis_state kis_state).binds (ps := ["value", "states"]) fun _ _ _ _ _ _ us hl => match us, hl with | [_, _], _ => rfl⟩ h_has_length h_is_arc
    have h_plain_state := ok_plain_state (P := P) (w := w) (base := base) T ⟨_, _, fun_mk lplain_state cplain_state kplain_state, PySem.W.mg_of X G aplain_state, (fun_mk lplain_state cplain_state kplain_state).binds (ps := ["state"]) fun _ _ _ _ _ _ us hl => match us, hl with | [_], _ => rfl⟩ 
    have m_Stream := ok_Stream__init (P := P) (w := w) (base := base) T ⟨coStream, ⟨maStream, iStream__init, jStream__init, kcStream⟩, PySem.W.mg_of X G gStream, fun_mk lStream__init cStream__init kStream__init, (fun_mk lStream__init cStream__init kStream__init).binds (ps := ["self", "states"]) fun _ _ _ _ _ _ us hl => match us, hl with | [_, _], _ => rfl, fun s u ws _ hl => match ws, hl with | [_], _ => .of_eq rfl⟩ h_has_length hx_BadValue h_is_state hx_BadState h_plain_state par_Stream
    have mk_Stream := m_Stream.1
    have mkk_Stream := m_Stream.2
    have h_law_flow := ok_law_flow (P := P) (w := w) (base := base) T ⟨_, _, fun_mk llaw_flow claw_flow klaw_flow, PySem.W.mg_of X G alaw_flow, (fun_mk llaw_flow claw_flow klaw_flow).binds (ps := ["case"]) fun _ _ _ _ _ _ us hl => match us, hl with | [_], _ => rfl⟩ mk_Stream
    have h_law_scene := ok_law_scene (P := P) (w := w) (base := base) T ⟨_, _, fun_mk llaw_scene claw_scene klaw_scene, PySem.W.mg_of X G alaw_scene, (fun_mk llaw_scene claw_scene klaw_scene).binds (ps := ["row", "spot", "case"]) fun _ _ _ _ _ _ us hl => match us, hl with | [_, _, _], _ => rfl⟩ h_law_take
    have h_law_crowd := ok_law_crowd (P := P) (w := w) (base := base) T ⟨_, _, fun_mk llaw_crowd claw_crowd klaw_crowd, PySem.W.mg_of X G alaw_crowd, (fun_mk llaw_crowd claw_crowd klaw_crowd).binds (ps := ["row", "spot", "case"]) fun _ _ _ _ _ _ us hl => match us, hl with | [_, _, _], _ => rfl⟩ h_law_take
    have h_law_so := ok_law_so (P := P) (w := w) (base := base) T ⟨_, _, fun_mk llaw_so claw_so klaw_so, PySem.W.mg_of X G alaw_so, (fun_mk llaw_so claw_so klaw_so).binds (ps := ["found", "meant"]) fun _ _ _ _ _ _ us hl => match us, hl with | [_, _], _ => rfl⟩  8
    have h_fits := ok_fits (P := P) (w := w) (base := base) T ⟨_, _, fun_mk lfits cfits kfits, PySem.W.mg_of X G afits, (fun_mk lfits cfits kfits).binds (ps := ["desk", "stream"]) fun _ _ _ _ _ _ us hl => match us, hl with | [_, _], _ => rfl⟩ h_all_below hp_Stream_states hp_Desk_kinds
    have h_check_both := ok_check_both (P := P) (w := w) (base := base) T ⟨_, _, fun_mk lcheck_both ccheck_both kcheck_both, PySem.W.mg_of X G acheck_both, (fun_mk lcheck_both ccheck_both kcheck_both).binds (ps := ["desk", "stream"]) fun _ _ _ _ _ _ us hl => match us, hl with | [_, _], _ => rfl⟩ hx_BadValue h_fits
    have hl_Stream := ok_Stream__len (P := P) (w := w) (base := base) T coStream.cl iStream__len jStream__len (fun_mk lStream__len cStream__len kStream__len) ((fun_mk lStream__len cStream__len kStream__len).binds (ps := ["self"]) fun _ _ _ _ _ _ us hl => match us, hl with | [_], _ => rfl) 
    have h_plain_ticket := ok_plain_ticket (P := P) (w := w) (base := base) T ⟨_, _, fun_mk lplain_ticket cplain_ticket kplain_ticket, PySem.W.mg_of X G aplain_ticket, (fun_mk lplain_ticket cplain_ticket kplain_ticket).binds (ps := ["desk", "value"]) fun _ _ _ _ _ _ us hl => match us, hl with | [_, _], _ => rfl⟩ h_has_length h_is_between hp_Desk_kinds
    have hh_plain_scene := ok_plain_scene (P := P) (w := w) (base := base) T (fnAtD_one (n := 3) lplain_scene cplain_scene kplain_scene dtplain_scene (PySem.W.mg_of X G aplain_scene) rfl (fun _ _ _ _ _ _ _ us its h1 h2 => match us, its, h1, h2 with | [_, _, _, _], [_], _, _ => ⟨_, rfl, rfl⟩) (fun _ _ _ _ _ _ _ us its h1 h2 => match us, its, h1, h2 with | [_, _, _], [_], _, _ => ⟨_, rfl, rfl⟩)) h_has_length h_is_between hl_Stream h_plain_ticket h_is_rising
    have h_plain_scene := hh_plain_scene.1
    have hdf_plain_scene := hh_plain_scene.2
    have h_kinds_of := ok_kinds_of (P := P) (w := w) (base := base) T ⟨_, _, fun_mk lkinds_of ckinds_of kkinds_of, PySem.W.mg_of X G akinds_of, (fun_mk lkinds_of ckinds_of kkinds_of).binds (ps := ["tickets"]) fun _ _ _ _ _ _ us hl => match us, hl with | [_], _ => rfl⟩ 
    have h_moment_by := ok_moment_by (P := P) (w := w) (base := base) T ⟨_, _, fun_mk lmoment_by cmoment_by kmoment_by, PySem.W.mg_of X G amoment_by, (fun_mk lmoment_by cmoment_by kmoment_by).binds (ps := ["desk", "stream", "scene", "arc"]) fun _ _ _ _ _ _ us hl => match us, hl with | [_, _, _, _], _ => rfl⟩ hp_Stream_states hp_Desk_kinds h_kinds_of
    have h_come := ok_come (P := P) (w := w) (base := base) T ⟨_, _, fun_mk lcome ccome kcome, PySem.W.mg_of X G acome, (fun_mk lcome ccome kcome).binds (ps := ["desk", "stream", "scene", "arc"]) fun _ _ _ _ _ _ us hl => match us, hl with | [_, _, _, _], _ => rfl⟩ h_check_both h_plain_scene hx_BadValue h_is_between hp_Stream_states h_moment_by
    have h_law_come := ok_law_come (P := P) (w := w) (base := base) T ⟨_, _, fun_mk llaw_come claw_come klaw_come, PySem.W.mg_of X G alaw_come, (fun_mk llaw_come claw_come klaw_come).binds (ps := ["case", "scene", "arc"]) fun _ _ _ _ _ _ us hl => match us, hl with | [_, _, _], _ => rfl⟩ 
    have h_law_loose := ok_law_loose (P := P) (w := w) (base := base) T ⟨_, _, fun_mk llaw_loose claw_loose klaw_loose, PySem.W.mg_of X G alaw_loose, (fun_mk llaw_loose claw_loose klaw_loose).binds (ps := ["value", "turn"]) fun _ _ _ _ _ _ us hl => match us, hl with | [_, _], _ => rfl⟩  8
    have h_is_scene := ok_is_scene (P := P) (w := w) (base := base) T ⟨_, _, fun_mk lis_scene cis_scene kis_scene, PySem.W.mg_of X G ais_scene, (fun_mk lis_scene cis_scene kis_scene).binds (ps := ["desk", "stream", "value"]) fun _ _ _ _ _ _ us hl => match us, hl with | [_, _, _], _ => rfl⟩ h_check_both hdf_plain_scene
    have h_law_numeric := ok_law_numeric (P := P) (w := w) (base := base) T ⟨_, _, fun_mk llaw_numeric claw_numeric klaw_numeric, PySem.W.mg_of X G alaw_numeric, (fun_mk llaw_numeric claw_numeric klaw_numeric).binds (ps := ["value"]) fun _ _ _ _ _ _ us hl => match us, hl with | [_], _ => rfl⟩ 
    have h_law_is_ticket := ok_law_is_ticket (P := P) (w := w) (base := base) T ⟨_, _, fun_mk llaw_is_ticket claw_is_ticket klaw_is_ticket, PySem.W.mg_of X G alaw_is_ticket, (fun_mk llaw_is_ticket claw_is_ticket klaw_is_ticket).binds (ps := ["case", "one"]) fun _ _ _ _ _ _ us hl => match us, hl with | [_, _], _ => rfl⟩ h_law_numeric
    have h_law_is_scene := ok_law_is_scene (P := P) (w := w) (base := base) T ⟨_, _, fun_mk llaw_is_scene claw_is_scene klaw_is_scene, PySem.W.mg_of X G alaw_is_scene, (fun_mk llaw_is_scene claw_is_scene klaw_is_scene).binds (ps := ["case", "value", "most"]) fun _ _ _ _ _ _ us hl => match us, hl with | [_, _, _], _ => rfl⟩ h_law_numeric h_law_is_ticket
    exact law_of (okf_law T (fun_mk llaw claw klaw) h_law_numbers h_law_case h_law_made h_law_flow h_law_scene h_law_crowd h_law_so h_come h_law_come h_law_loose h_law_take h_is_scene h_law_is_scene) law_true
theorem walk {l : PySem.W.OpenLaw} {q : Program} {loose : List Str} {XP : (Str → Option Value) → Heap → Prop} {YP : World → Heap → Prop} {d : DefRec} {K : Params → PySem.W.Frag} (hn : l.most = some 63) (hdf : d.params.defaults = [])
    (hY : ∀ (w : World) (h : Heap), YP w h → (K w.params).In h)
    (F : ∀ (w : World) (mg : Str → Option Value) (fa : Addr) (h : Heap), (K w.params).In h → h.Ns mainGlobals mg → mg d.name = some (.ref fa) →
      ∃ fd : FuncData, (∀ (s : Shared) (u : Value), BindsTo s fd ⟨[u], []⟩ [("script", u)]) ∧ ∀ base : Heap, (K w.params).In base → base.Ns mainGlobals mg → FnOk l.prog w (K w.params) mg base (L2.CX l.prog w) 10 fa fd ["script"] (spLaw (K w.params))) :
    PySem.W.WalkO q loose XP YP l.row.toRowW d [] (fun f vs => PySem.call f vs) :=
  L2.walk_of (n := 63) (k := 10) (x := "script") (CX := fun w => L2.CX l.prog w) (sp := fun w => spLaw (K w.params)) hn (by decide) hdf ⟨rfl, by decide, by decide⟩ hY F (fun _ _ a ns hl _ hS => ⟨a, ns, rfl, hS, hl, fun _ => rfl⟩) fun w H s e s' h => by
    obtain ⟨_, _, _, _, _, _, _, _, _, _, _, _, z⟩ := h
    exact z.elim

end K10
set_option Elab.async false
set_option linter.all false
set_option maxRecDepth 100000
set_option maxHeartbeats 4000000

open PySem PySem.W PyProof.Rows in
set_option maxRecDepth 100000 in
set_option maxHeartbeats 0 in
theorem PySem.Challenge.cw_promisedesk_k10_tickets_that_come_holds : PySem.Challenge.rw_promisedesk_k10_tickets_that_come.Holds := by
  w_on; o_law; k_head; (case hw => w_witness2)
  k_fill
  refine K10.walk (l := PySem.Challenge.rw_promisedesk_k10_tickets_that_come) rfl rfl (fun w h Y => PySem.W.kIn_of Y) ?F
  case F =>
    intro w mg fa h KX G hmg
    refine' K10.all_mk KX G hmg ?gDesk ?gStream ?pgDesk ?hdDesk ?poDesk ?saDesk ?maDesk ?kcDesk ?nDesk_agents ?nDesk_kinds ?caDesk ?moDesk ?icDesk ?tyDesk ?sNoneTypeDesk ?sboolDesk ?sintDesk ?sstrDesk ?stupleDesk ?slistDesk ?sDeskDesk ?sStreamDesk ?pgStream ?hdStream ?poStream ?saStream ?maStream ?kcStream ?nStream_states ?caStream ?moStream ?icStream ?tyStream ?sNoneTypeStream ?sboolStream ?sintStream ?sstrStream ?stupleStream ?slistStream ?sDeskStream ?sStreamStream ?on ?ot ?gDeskError ?spDeskError ?rdDeskError ?fiDeskError ?gBadValue ?gBadKind ?gBadState ?mdBadValue ?ovBadValue ?hdBadValue ?tkBadValue ?saBadValue ?gaBadValue ?ggBadValue ?noBadValue ?exBadValue ?tyBadValue ?kpBadValue ?icBadValue ?sBadValueBadValue ?sBadKindBadValue ?sBadStateBadValue ?iiBadValue ?tiBadValue ?lBadValue ?cBadValue ?kBadValue ?mdBadKind ?ovBadKind ?hdBadKind ?tkBadKind ?saBadKind ?gaBadKind ?ggBadKind ?noBadKind ?exBadKind ?tyBadKind ?kpBadKind ?icBadKind ?sBadValueBadKind ?sBadKindBadKind ?sBadStateBadKind ?iiBadKind ?tiBadKind ?lBadKind ?cBadKind ?kBadKind ?mdBadState ?ovBadState ?hdBadState ?tkBadState ?saBadState ?gaBadState ?ggBadState ?noBadState ?exBadState ?tyBadState ?kpBadState ?icBadState ?sBadValueBadState ?sBadKindBadState ?sBadStateBadState ?iiBadState ?tiBadState ?lBadState ?cBadState ?kBadState ?alaw_numbers ?llaw_numbers ?claw_numbers ?klaw_numbers ?alaw_draw ?llaw_draw ?claw_draw ?klaw_draw ?alaw_take ?llaw_take ?claw_take ?klaw_take ?alaw_twin_case ?llaw_twin_case ?claw_twin_case ?klaw_twin_case ?alaw_desk ?llaw_desk ?claw_desk ?klaw_desk ?alaw_stream ?llaw_stream ?claw_stream ?klaw_stream ?alaw_case ?llaw_case ?claw_case ?klaw_case ?ais_whole ?lis_whole ?cis_whole ?kis_whole ?ais_between ?lis_between ?cis_between ?kis_between ?ais_sequence ?lis_sequence ?cis_sequence ?kis_sequence ?ahas_length ?lhas_length ?chas_length ?khas_length ?aall_below ?lall_below ?call_below ?kall_below ?ais_ascending ?lis_ascending ?cis_ascending ?kis_ascending ?ais_ascending_below ?lis_ascending_below ?cis_ascending_below ?kis_ascending_below ?ais_kind ?lis_kind ?cis_kind ?kis_kind ?aplain_kind ?lplain_kind ?cplain_kind ?kplain_kind ?iDesk__init ?jDesk__init ?lDesk__init ?cDesk__init ?kDesk__init ?alaw_made ?llaw_made ?claw_made ?klaw_made ?ais_rising ?lis_rising ?cis_rising ?kis_rising ?ais_arc ?lis_arc ?cis_arc ?kis_arc ?ais_state ?lis_state ?cis_state ?kis_state ?aplain_state ?lplain_state ?cplain_state ?kplain_state ?iStream__init ?jStream__init ?lStream__init ?cStream__init ?kStream__init ?alaw_flow ?llaw_flow ?claw_flow ?klaw_flow ?alaw_scene ?llaw_scene ?claw_scene ?klaw_scene ?alaw_crowd ?llaw_crowd ?claw_crowd ?klaw_crowd ?alaw_so ?llaw_so ?claw_so ?klaw_so ?afits ?lfits ?cfits ?kfits ?acheck_both ?lcheck_both ?ccheck_both ?kcheck_both ?iStream__len ?jStream__len ?lStream__len ?cStream__len ?kStream__len ?aplain_ticket ?lplain_ticket ?cplain_ticket ?kplain_ticket ?aplain_scene ?lplain_scene ?cplain_scene ?kplain_scene ?evplain_scene ?dtplain_scene ?edplain_scene ?akinds_of ?lkinds_of ?ckinds_of ?kkinds_of ?amoment_by ?lmoment_by ?cmoment_by ?kmoment_by ?acome ?lcome ?ccome ?kcome ?alaw_come ?llaw_come ?claw_come ?klaw_come ?alaw_loose ?llaw_loose ?claw_loose ?klaw_loose ?ais_scene ?lis_scene ?cis_scene ?kis_scene ?alaw_numeric ?llaw_numeric ?claw_numeric ?klaw_numeric ?alaw_is_ticket ?llaw_is_ticket ?claw_is_ticket ?klaw_is_ticket ?alaw_is_scene ?llaw_is_scene ?claw_is_scene ?klaw_is_scene ?alaw ?llaw ?claw ?klaw ?iDeskkinds ?uDeskkinds ?vDeskkinds ?wDeskkinds ?lDeskkinds ?cDeskkinds ?kDeskkinds ?iStreamstates ?uStreamstates ?vStreamstates ?wStreamstates ?lStreamstates ?cStreamstates ?kStreamstates ?vJOINS ?vMOST_AGENTS ?vMOST_ARCS ?vMOST_COMING ?vMOST_KINDS ?vMOST_PROMISE ?vMOST_STATES ?vMOST_TICKETS_AHEAD ?vMOST_WORK ?vPROMISE ?vWORK ?zall ?zbool ?zenumerate ?zint ?zisinstance ?zlen ?zlist ?zmin ?zrange ?zsorted ?zstr ?ztuple ?zzip
    (case gDesk => k_is)
    (case gStream => k_is)
    (case pgDesk => k_is)
    (case hdDesk => k_is)
    (case poDesk => k_is)
    (case saDesk => k_is)
    (case maDesk => k_is)
    (case kcDesk => k_is)
    (case nDesk_agents => k_is)
    (case nDesk_kinds => k_is)
    (case caDesk => k_is)
    (case moDesk => k_is)
    (case icDesk => k_is)
    (case tyDesk => k_is)
    (case sNoneTypeDesk => k_is)
    (case sboolDesk => k_is)
    (case sintDesk => k_is)
    (case sstrDesk => k_is)
    (case stupleDesk => k_is)
    (case slistDesk => k_is)
    (case sDeskDesk => k_is)
    (case sStreamDesk => k_is)
    (case pgStream => k_is)
    (case hdStream => k_is)
    (case poStream => k_is)
    (case saStream => k_is)
    (case maStream => k_is)
    (case kcStream => k_is)
    (case nStream_states => k_is)
    (case caStream => k_is)
    (case moStream => k_is)
    (case icStream => k_is)
    (case tyStream => k_is)
    (case sNoneTypeStream => k_is)
    (case sboolStream => k_is)
    (case sintStream => k_is)
    (case sstrStream => k_is)
    (case stupleStream => k_is)
    (case slistStream => k_is)
    (case sDeskStream => k_is)
    (case sStreamStream => k_is)
    (case on => k_is)
    (case ot => k_is)
    (case gDeskError => k_is)
    (case spDeskError => k_is)
    (case rdDeskError => k_is)
    (case fiDeskError => k_is)
    (case gBadValue => k_is)
    (case gBadKind => k_is)
    (case gBadState => k_is)
    (case mdBadValue => kx_is)
    (case ovBadValue => kx_is)
    (case hdBadValue => k_is)
    (case tkBadValue => k_is)
    (case saBadValue => k_is)
    (case gaBadValue => k_is)
    (case ggBadValue => k_is)
    (case noBadValue => k_is)
    (case exBadValue => k_is)
    (case tyBadValue => k_is)
    (case kpBadValue => k_is)
    (case icBadValue => k_is)
    (case sBadValueBadValue => k_is)
    (case sBadKindBadValue => k_is)
    (case sBadStateBadValue => k_is)
    (case iiBadValue => k_is)
    (case tiBadValue => k_is)
    (case lBadValue => k_is)
    (case cBadValue => k_is)
    (case kBadValue => k_is)
    (case mdBadKind => kx_is)
    (case ovBadKind => kx_is)
    (case hdBadKind => k_is)
    (case tkBadKind => k_is)
    (case saBadKind => k_is)
    (case gaBadKind => k_is)
    (case ggBadKind => k_is)
    (case noBadKind => k_is)
    (case exBadKind => k_is)
    (case tyBadKind => k_is)
    (case kpBadKind => k_is)
    (case icBadKind => k_is)
    (case sBadValueBadKind => k_is)
    (case sBadKindBadKind => k_is)
    (case sBadStateBadKind => k_is)
    (case iiBadKind => k_is)
    (case tiBadKind => k_is)
    (case lBadKind => k_is)
    (case cBadKind => k_is)
    (case kBadKind => k_is)
    (case mdBadState => kx_is)
    (case ovBadState => kx_is)
    (case hdBadState => k_is)
    (case tkBadState => k_is)
    (case saBadState => k_is)
    (case gaBadState => k_is)
    (case ggBadState => k_is)
    (case noBadState => k_is)
    (case exBadState => k_is)
    (case tyBadState => k_is)
    (case kpBadState => k_is)
    (case icBadState => k_is)
    (case sBadValueBadState => k_is)
    (case sBadKindBadState => k_is)
    (case sBadStateBadState => k_is)
    (case iiBadState => k_is)
    (case tiBadState => k_is)
    (case lBadState => k_is)
    (case cBadState => k_is)
    (case kBadState => k_is)
    (case alaw_numbers => k_is)
    (case llaw_numbers => k_is)
    (case claw_numbers => k_is)
    (case klaw_numbers => k_is)
    (case alaw_draw => k_is)
    (case llaw_draw => k_is)
    (case claw_draw => k_is)
    (case klaw_draw => k_is)
    (case alaw_take => k_is)
    (case llaw_take => k_is)
    (case claw_take => k_is)
    (case klaw_take => k_is)
    (case alaw_twin_case => k_is)
    (case llaw_twin_case => k_is)
    (case claw_twin_case => k_is)
    (case klaw_twin_case => k_is)
    (case alaw_desk => k_is)
    (case llaw_desk => k_is)
    (case claw_desk => k_is)
    (case klaw_desk => k_is)
    (case alaw_stream => k_is)
    (case llaw_stream => k_is)
    (case claw_stream => k_is)
    (case klaw_stream => k_is)
    (case alaw_case => k_is)
    (case llaw_case => k_is)
    (case claw_case => k_is)
    (case klaw_case => k_is)
    (case ais_whole => k_is)
    (case lis_whole => k_is)
    (case cis_whole => k_is)
    (case kis_whole => k_is)
    (case ais_between => k_is)
    (case lis_between => k_is)
    (case cis_between => k_is)
    (case kis_between => k_is)
    (case ais_sequence => k_is)
    (case lis_sequence => k_is)
    (case cis_sequence => k_is)
    (case kis_sequence => k_is)
    (case ahas_length => k_is)
    (case lhas_length => k_is)
    (case chas_length => k_is)
    (case khas_length => k_is)
    (case aall_below => k_is)
    (case lall_below => k_is)
    (case call_below => k_is)
    (case kall_below => k_is)
    (case ais_ascending => k_is)
    (case lis_ascending => k_is)
    (case cis_ascending => k_is)
    (case kis_ascending => k_is)
    (case ais_ascending_below => k_is)
    (case lis_ascending_below => k_is)
    (case cis_ascending_below => k_is)
    (case kis_ascending_below => k_is)
    (case ais_kind => k_is)
    (case lis_kind => k_is)
    (case cis_kind => k_is)
    (case kis_kind => k_is)
    (case aplain_kind => k_is)
    (case lplain_kind => k_is)
    (case cplain_kind => k_is)
    (case kplain_kind => k_is)
    (case iDesk__init => k_is)
    (case jDesk__init => k_is)
    (case lDesk__init => k_is)
    (case cDesk__init => k_is)
    (case kDesk__init => k_is)
    (case alaw_made => k_is)
    (case llaw_made => k_is)
    (case claw_made => k_is)
    (case klaw_made => k_is)
    (case ais_rising => k_is)
    (case lis_rising => k_is)
    (case cis_rising => k_is)
    (case kis_rising => k_is)
    (case ais_arc => k_is)
    (case lis_arc => k_is)
    (case cis_arc => k_is)
    (case kis_arc => k_is)
    (case ais_state => k_is)
    (case lis_state => k_is)
    (case cis_state => k_is)
    (case kis_state => k_is)
    (case aplain_state => k_is)
    (case lplain_state => k_is)
    (case cplain_state => k_is)
    (case kplain_state => k_is)
    (case iStream__init => k_is)
    (case jStream__init => k_is)
    (case lStream__init => k_is)
    (case cStream__init => k_is)
    (case kStream__init => k_is)
    (case alaw_flow => k_is)
    (case llaw_flow => k_is)
    (case claw_flow => k_is)
    (case klaw_flow => k_is)
    (case alaw_scene => k_is)
    (case llaw_scene => k_is)
    (case claw_scene => k_is)
    (case klaw_scene => k_is)
    (case alaw_crowd => k_is)
    (case llaw_crowd => k_is)
    (case claw_crowd => k_is)
    (case klaw_crowd => k_is)
    (case alaw_so => k_is)
    (case llaw_so => k_is)
    (case claw_so => k_is)
    (case klaw_so => k_is)
    (case afits => k_is)
    (case lfits => k_is)
    (case cfits => k_is)
    (case kfits => k_is)
    (case acheck_both => k_is)
    (case lcheck_both => k_is)
    (case ccheck_both => k_is)
    (case kcheck_both => k_is)
    (case iStream__len => k_is)
    (case jStream__len => k_is)
    (case lStream__len => k_is)
    (case cStream__len => k_is)
    (case kStream__len => k_is)
    (case aplain_ticket => k_is)
    (case lplain_ticket => k_is)
    (case cplain_ticket => k_is)
    (case kplain_ticket => k_is)
    (case aplain_scene => k_is)
    (case lplain_scene => k_is)
    (case cplain_scene => k_is)
    (case kplain_scene => k_is)
    (case evplain_scene => rfl)
    (case dtplain_scene => k_is)
    (case edplain_scene => rfl)
    (case akinds_of => k_is)
    (case lkinds_of => k_is)
    (case ckinds_of => k_is)
    (case kkinds_of => k_is)
    (case amoment_by => k_is)
    (case lmoment_by => k_is)
    (case cmoment_by => k_is)
    (case kmoment_by => k_is)
    (case acome => k_is)
    (case lcome => k_is)
    (case ccome => k_is)
    (case kcome => k_is)
    (case alaw_come => k_is)
    (case llaw_come => k_is)
    (case claw_come => k_is)
    (case klaw_come => k_is)
    (case alaw_loose => k_is)
    (case llaw_loose => k_is)
    (case claw_loose => k_is)
    (case klaw_loose => k_is)
    (case ais_scene => k_is)
    (case lis_scene => k_is)
    (case cis_scene => k_is)
    (case kis_scene => k_is)
    (case alaw_numeric => k_is)
    (case llaw_numeric => k_is)
    (case claw_numeric => k_is)
    (case klaw_numeric => k_is)
    (case alaw_is_ticket => k_is)
    (case llaw_is_ticket => k_is)
    (case claw_is_ticket => k_is)
    (case klaw_is_ticket => k_is)
    (case alaw_is_scene => k_is)
    (case llaw_is_scene => k_is)
    (case claw_is_scene => k_is)
    (case klaw_is_scene => k_is)
    (case alaw => k_is)
    (case llaw => k_is)
    (case claw => k_is)
    (case klaw => k_is)
    (case iDeskkinds => k_is)
    (case uDeskkinds => k_is)
    (case vDeskkinds => k_is)
    (case wDeskkinds => k_is)
    (case lDeskkinds => k_is)
    (case cDeskkinds => k_is)
    (case kDeskkinds => k_is)
    (case iStreamstates => k_is)
    (case uStreamstates => k_is)
    (case vStreamstates => k_is)
    (case wStreamstates => k_is)
    (case lStreamstates => k_is)
    (case cStreamstates => k_is)
    (case kStreamstates => k_is)
    (case vJOINS => k_is)
    (case vMOST_AGENTS => k_is)
    (case vMOST_ARCS => k_is)
    (case vMOST_COMING => k_is)
    (case vMOST_KINDS => k_is)
    (case vMOST_PROMISE => k_is)
    (case vMOST_STATES => k_is)
    (case vMOST_TICKETS_AHEAD => k_is)
    (case vMOST_WORK => k_is)
    (case vPROMISE => k_is)
    (case vWORK => k_is)
    (case zall => k_is)
    (case zbool => k_is)
    (case zenumerate => k_is)
    (case zint => k_is)
    (case zisinstance => k_is)
    (case zlen => k_is)
    (case zlist => k_is)
    (case zmin => k_is)
    (case zrange => k_is)
    (case zsorted => k_is)
    (case zstr => k_is)
    (case ztuple => k_is)
    (case zzip => k_is)
