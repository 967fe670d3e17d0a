import PyProof.Rows.All
import Wide.All
import OpenK.AllK
import Wide.FinOn
import KE.OsRunLaw
import PySem.Challenge.RW_firmstops_k03_whole_works_made_and_refus
import HandS.ForExc
import HandS.Comp
import HandS.Iter
import HandS.Deep
import HandS.IsInst
import HandS.Gcd
import HandS.Style
import HandS.Wide
import HandS.Defaults
import HandS.Zip
import HandS.Conv
import HandS.ExcIs
import HandS.ExcInit
import HandS.Walk
import HandS.Evl
import HandS.ExcField
import HandS.StrMore
import HandS.Rev
import HandS.MapJoin
import HandS.WideBits
import HandS.Codes
import PyProof.Rows.SeqMore
import HandS.SortRule
import KE.GoesEnum
import HandS.Property
import KE.GoesComp
import KE.GoesRaise
import HandS.ExcValue
import KE.KExcIs
import HandS.Dict
import HandS.DeepEq
import HandS.More
import PyProof.InstNe
import HandS.TupAny
import HandS.TryOnly
set_option Elab.async false
set_option linter.all false
set_option maxRecDepth 100000
/-! The head, first: by one run. -/
namespace K03
open PySem PySem.W PyProof.Rows

set_option maxHeartbeats 0 in
open_top hd for PySem.Challenge.rw_firmstops_k03_whole_works_made_and_refus
end K03
set_option Elab.async false
set_option linter.all false
set_option maxRecDepth 100000
/-! A logic of values over the hand layer: things, slots, expressions, statements. -/
namespace DL
open PySem PySem.Spec PyProof.Rows L2

abbrev Ex (H H' : Hp) : Prop := ∀ a o, H a = some o → H' a = some o
theorem Ex.refl (H : Hp) : Ex H H := fun _ _ h => h
theorem Ex.trans {H H1 H2 : Hp} (a : Ex H H1) (b : Ex H1 H2) : Ex H H2 := fun x o h => b x o (a x o h)
theorem Ex.new {H : Hp} {p : Addr} {o : HO} (h : H p = none) : Ex H (upd H p o) := fun a u e => by
  rw [upd_ne (ne_of_none e h)]
  exact e
def hide (S : List Addr) (H : Hp) : Hp := fun a => if a ∈ S then none else H a
theorem hide_in {S : List Addr} {H : Hp} {a : Addr} (h : a ∈ S) : hide S H a = none := if_pos h
theorem hide_out {S : List Addr} {H : Hp} {a : Addr} (h : a ∉ S) : hide S H a = H a := if_neg h
theorem hide_ex {S : List Addr} {H H' : Hp} (e : Ex H H') : Ex (hide S H) (hide S H') := fun a o h => by
  by_cases q : a ∈ S
  · rw [hide_in q] at h; cases h
  · rw [hide_out q] at h ⊢; exact e a o h
theorem hide_le {S : List Addr} {H : Hp} : Ex (hide S H) H := fun a o h => by
  by_cases q : a ∈ S
  · rw [hide_in q] at h; cases h
  · rw [hide_out q] at h; exact h
theorem hide_sub {S S' : List Addr} {H : Hp} (e : ∀ a ∈ S, a ∈ S') : Ex (hide S' H) (hide S H) := fun a o h => by
  by_cases q : a ∈ S'
  · rw [hide_in q] at h; cases h
  · rw [hide_out q] at h; rw [hide_out (fun z => q (e a z))]; exact h
theorem hide_upd {S : List Addr} {H : Hp} {a : Addr} {o : HO} (h : a ∈ S) : hide S (upd H a o) = hide S H := by
  funext b
  by_cases q : b ∈ S
  · rw [hide_in q, hide_in q]
  · rw [hide_out q, hide_out q, upd_ne (fun z => q (by rw [z]; exact h))]
def Dom (S : List Addr) (H : Hp) : Prop := ∀ a ∈ S, H a ≠ none
theorem Dom.up {S : List Addr} {H H' : Hp} (d : Dom S H) (e : Ex H H') : Dom S H' := fun a h z => by
  cases q : H a with
  | none => exact d a h q
  | some o => rw [e a o q] at z; cases z
theorem Dom.new {S : List Addr} {H : Hp} {p : Addr} (d : Dom S H) (h : H p = none) : p ∉ S := fun z => d p z h
theorem ex_rd {H H' : Hp} {a : Addr} {u : HO} (e : Ex H H') (h : Rd H a u) : Rd H' a u := by
  rcases h with h | ⟨o, h⟩
  · exact Or.inl (e a _ h)
  · exact Or.inr ⟨o, e a _ h⟩
theorem ex_l {K : PySem.W.Frag} {H H' : Hp} {a : Addr} {xs : List V} (e : Ex H H') (h : SqL K H a xs) : SqL K H' a xs := by
  rcases h with h | h
  · exact Or.inl (ex_rd e h)
  · exact Or.inr h
theorem ex_t {K : PySem.W.Frag} {H H' : Hp} {a : Addr} {xs : List V} (e : Ex H H') (h : SqT K H a xs) : SqT K H' a xs := by
  rcases h with h | h
  · exact Or.inl (ex_rd e h)
  · exact Or.inr h
mutual
theorem dp_up {K : PySem.W.Frag} {H H' : Hp} (e : Ex H H') : ∀ {d : PyData} {v : V}, Dp K H v d → Dp K H' v d
  | .none, _, .non => .non
  | .bool _, _, .bl b => .bl b
  | .int _, _, .int i => .int i
  | .str _, _, .str x => .str x
  | .list _, _, .lst h a => .lst (ex_l e h) (dpa_up e a)
  | .tuple _, _, .tup h a => .tup (ex_t e h) (dpa_up e a)
theorem dpa_up {K : PySem.W.Frag} {H H' : Hp} (e : Ex H H') : ∀ {ds : List PyData} {vs : List V}, DpAll K H vs ds → DpAll K H' vs ds
  | [], _, .nil => .nil
  | _ :: _, _, .cons h t => .cons (dp_up e h) (dpa_up e t)
end

/-! ### things -/
/-- a thing: which values are it, in which heaps -/
structure Th where
  R : Hp → V → Prop
  up : ∀ H H' v, Ex H H' → R H v → R H' v
/-- data -/
def dat (K : PySem.W.Frag) (d : PyData) : Th := ⟨fun H v => Dp K H v d, fun _ _ _ e h => dp_up e h⟩
/-- the things of a row of values -/
def All (H : Hp) : List Th → List V → Prop
  | [], [] => True
  | t :: ts, v :: vs => t.R H v ∧ All H ts vs
  | _, _ => False
theorem All.up {H H' : Hp} (e : Ex H H') : ∀ {ts : List Th} {vs : List V}, All H ts vs → All H' ts vs
  | [], [], _ => trivial
  | t :: ts, v :: vs, h => ⟨t.up _ _ _ e h.1, All.up e h.2⟩
  | [], _ :: _, h => h.elim
  | _ :: _, [], h => h.elim
theorem All.len {H : Hp} : ∀ {ts : List Th} {vs : List V}, All H ts vs → ts.length = vs.length
  | [], [], _ => rfl
  | t :: ts, v :: vs, h => by rw [List.length_cons, List.length_cons, All.len h.2]
  | [], _ :: _, h => h.elim
  | _ :: _, [], h => h.elim
theorem All.app {H : Hp} : ∀ {ts us : List Th} {vs ws : List V}, All H ts vs → All H us ws → All H (ts ++ us) (vs ++ ws)
  | [], _, [], _, _, h => h
  | t :: ts, us, v :: vs, ws, h, g => ⟨h.1, All.app h.2 g⟩
  | [], _, _ :: _, _, h, _ => h.elim
  | _ :: _, _, [], _, h, _ => h.elim
theorem All.get {H : Hp} : ∀ {ts : List Th} {vs : List V} {i : Nat} {v : V}, All H ts vs → vs[i]? = some v → ∃ t, ts[i]? = some t ∧ t.R H v
  | [], [], i, v, _, e => by simp at e
  | t :: ts, w :: vs, 0, v, h, e => by
    have e' : w = v := Option.some.inj e
    subst e'
    exact ⟨t, rfl, h.1⟩
  | t :: ts, w :: vs, i + 1, v, h, e => All.get (ts := ts) (vs := vs) (i := i) h.2 e
  | [], _ :: _, _, _, h, _ => h.elim
  | _ :: _, [], _, _, h, _ => h.elim
theorem All.get' {H : Hp} : ∀ {ts : List Th} {vs : List V} {i : Nat} {t : Th}, All H ts vs → ts[i]? = some t → ∃ v, vs[i]? = some v ∧ t.R H v
  | [], [], i, v, _, e => by simp at e
  | t :: ts, w :: vs, 0, v, h, e => by
    have e' : t = v := Option.some.inj e
    subst e'
    exact ⟨w, rfl, h.1⟩
  | t :: ts, w :: vs, i + 1, v, h, e => All.get' (ts := ts) (vs := vs) (i := i) h.2 e
  | [], _ :: _, _, _, h, _ => h.elim
  | _ :: _, [], _, _, h, _ => h.elim
theorem all_dpa {K : PySem.W.Frag} {H : Hp} : ∀ {ds : List PyData} {vs : List V}, All H (ds.map (dat K)) vs → DpAll K H vs ds
  | [], [], _ => .nil
  | d :: ds, v :: vs, h => .cons h.1 (all_dpa h.2)
  | [], _ :: _, h => h.elim
  | _ :: _, [], h => h.elim
theorem dpa_all {K : PySem.W.Frag} {H : Hp} : ∀ {ds : List PyData} {vs : List V}, DpAll K H vs ds → All H (ds.map (dat K)) vs
  | [], _, .nil => trivial
  | _ :: _, _, .cons h t => ⟨h, dpa_all t⟩

/-! ### slots -/
/-- a slot: nothing is known; a thing; a list of things that this def may change -/
inductive Sl where
  | no
  | th (t : Th)
  | ml (ts : List Th)
/-- where a slot's own list stands (S: the addresses that data don't lean on) -/
def SlR (S : List Addr) (H : Hp) (o : Option V) : Sl → Prop
  | .no => True
  | .th t => ∃ v, o = some v ∧ t.R (hide S H) v
  | .ml ts => ∃ a xs, o = some (.ref a) ∧ a ∈ S ∧ H a = some (.lst xs) ∧ All (hide S H) ts xs
def SlsR (S : List Addr) (H : Hp) : List Sl → L2.St → Prop
  | [], [] => True
  | s :: ss, o :: os => SlR S H o s ∧ SlsR S H ss os
  | _, _ => False
def Sl.isMl : Sl → Bool
  | .ml _ => true
  | _ => false
/-- no two lists that may be changed are one -/
def Apart (Δ : List Sl) (σ : L2.St) : Prop := ∀ (i j : Nat) (ts us : List Th) (a : Addr), Δ[i]? = some (.ml ts) → Δ[j]? = some (.ml us) → σ[i]? = some (some (.ref a)) → σ[j]? = some (some (.ref a)) → i = j
/-- the lists that a state may change are among M0, or new -/
def Own (M0 : List Addr) (H0 : Hp) (Δ : List Sl) (σ : L2.St) : Prop := ∀ (i : Nat) (ts : List Th) (a : Addr), Δ[i]? = some (.ml ts) → σ[i]? = some (some (.ref a)) → a ∈ M0 ∨ H0 a = none
/-- the state of a piece of a def that began at H0 (S0: the addresses that data don't lean on; M0: those that may be changed) -/
structure At (S0 M0 : List Addr) (H0 : Hp) (Δ : List Sl) (σ : L2.St) (H : Hp) (S : List Addr) : Prop where
  sub : ∀ a ∈ S0, a ∈ S
  msub : ∀ a ∈ M0, a ∈ S0
  new : ∀ a ∈ S, a ∈ S0 ∨ H0 a = none
  ex : Ex (hide M0 H0) H
  dom : Dom S H
  env : SlsR S H Δ σ
  apart : Apart Δ σ
  own : Own M0 H0 Δ σ

theorem SlR.up {S : List Addr} {H H' : Hp} (e : Ex H H') {o : Option V} {s : Sl} (h : SlR S H o s) : SlR S H' o s := by
  cases s with
  | no => trivial
  | th t => obtain ⟨v, e1, r⟩ := h; exact ⟨v, e1, t.up _ _ _ (hide_ex e) r⟩
  | ml ts => obtain ⟨a, xs, e1, m, q, r⟩ := h; exact ⟨a, xs, e1, m, e a _ q, r.up (hide_ex e)⟩
theorem SlsR.up {S : List Addr} {H H' : Hp} (e : Ex H H') : ∀ {Δ : List Sl} {σ : L2.St}, SlsR S H Δ σ → SlsR S H' Δ σ
  | [], [], _ => trivial
  | _ :: _, _ :: _, h => ⟨h.1.up e, SlsR.up e h.2⟩
  | [], _ :: _, h => h.elim
  | _ :: _, [], h => h.elim
theorem SlsR.get {S : List Addr} {H : Hp} : ∀ {Δ : List Sl} {σ : L2.St} {i : Nat} {s : Sl}, SlsR S H Δ σ → Δ[i]? = some s → ∃ o, σ[i]? = some o ∧ SlR S H o s
  | [], [], i, s, _, e => by simp at e
  | s' :: ss, o :: os, 0, s, h, e => by
    have e' : s' = s := Option.some.inj e
    subst e'
    exact ⟨o, rfl, h.1⟩
  | s' :: ss, o :: os, i + 1, s, h, e => SlsR.get (Δ := ss) (σ := os) (i := i) h.2 e
  | [], _ :: _, _, _, h, _ => h.elim
  | _ :: _, [], _, _, h, _ => h.elim
theorem SlsR.set {S : List Addr} {H : Hp} {o : Option V} {s : Sl} (r : SlR S H o s) : ∀ {Δ : List Sl} {σ : L2.St} {i : Nat}, SlsR S H Δ σ → SlsR S H (Δ.set i s) (σ.set i o)
  | [], [], i, _ => trivial
  | s' :: ss, o' :: os, 0, h => ⟨r, h.2⟩
  | s' :: ss, o' :: os, i + 1, h => ⟨h.1, SlsR.set r (Δ := ss) (σ := os) (i := i) h.2⟩
  | [], _ :: _, _, h => h.elim
  | _ :: _, [], _, h => h.elim
theorem At.up {S0 M0 S : List Addr} {H0 H H' : Hp} {Δ : List Sl} {σ : L2.St} (A : At S0 M0 H0 Δ σ H S) (e : Ex H H') : At S0 M0 H0 Δ σ H' S :=
  ⟨A.sub, A.msub, A.new, A.ex.trans e, A.dom.up e, A.env.up e, A.apart, A.own⟩
theorem set_ml {Δ : List Sl} {i : Nat} {s : Sl} (hs : s.isMl = false) {k : Nat} {ws : List Th} (h : (Δ.set i s)[k]? = some (.ml ws)) : i ≠ k ∧ Δ[k]? = some (.ml ws) := by
  by_cases q : i = k
  · subst q
    rw [List.getElem?_set_self'] at h
    cases z : Δ[i]? with
    | none => rw [z] at h; simp at h
    | some w =>
      rw [z] at h
      have h' : s = .ml ws := by simpa using h
      rw [h'] at hs
      cases hs
  · rw [List.getElem?_set_ne q] at h
    exact ⟨q, h⟩
/-- a slot gets a thing -/
theorem At.setS {S0 M0 S : List Addr} {H0 H : Hp} {Δ : List Sl} {σ : L2.St} (A : At S0 M0 H0 Δ σ H S) {i : Nat} {s : Sl} {o : Option V} (hs : s.isMl = false) (r : SlR S H o s) : At S0 M0 H0 (Δ.set i s) (σ.set i o) H S := by
  refine ⟨A.sub, A.msub, A.new, A.ex, A.dom, SlsR.set r A.env, fun m j ts us a h1 h2 h3 h4 => ?_, fun m ts a h1 h3 => ?_⟩
  · obtain ⟨n1, g1⟩ := set_ml hs h1
    obtain ⟨n2, g2⟩ := set_ml hs h2
    rw [List.getElem?_set_ne n1] at h3
    rw [List.getElem?_set_ne n2] at h4
    exact A.apart m j ts us a g1 g2 h3 h4
  · obtain ⟨n1, g1⟩ := set_ml hs h1
    rw [List.getElem?_set_ne n1] at h3
    exact A.own m ts a g1 h3
theorem At.set {S0 M0 S : List Addr} {H0 H : Hp} {Δ : List Sl} {σ : L2.St} (A : At S0 M0 H0 Δ σ H S) {i : Nat} {t : Th} {v : V} (r : t.R (hide S H) v) : At S0 M0 H0 (Δ.set i (.th t)) (σ.set i (some v)) H S :=
  A.setS (s := .th t) rfl ⟨v, rfl, r⟩
/-- the lists that may be changed -/
def mls : List Sl → L2.St → List Addr
  | Sl.ml _ :: Δ, some (V.ref a) :: σ => a :: mls Δ σ
  | _ :: Δ, _ :: σ => mls Δ σ
  | _, _ => []
theorem mem_mls : ∀ {Δ : List Sl} {σ : L2.St} {a : Addr}, a ∈ mls Δ σ → ∃ (i : Nat) (ts : List Th), Δ[i]? = some (Sl.ml ts) ∧ σ[i]? = some (some (V.ref a))
  | [], _, a, h => by simp [mls] at h
  | s :: Δ, [], a, h => by cases s <;> simp [mls] at h
  | s :: Δ, o :: σ, a, h => by
    have step : a ∈ mls Δ σ → ∃ (i : Nat) (ts : List Th), (s :: Δ)[i]? = some (Sl.ml ts) ∧ (o :: σ)[i]? = some (some (V.ref a)) := fun h => by
      obtain ⟨i, ts, h1, h2⟩ := mem_mls h
      exact ⟨i + 1, ts, h1, h2⟩
    cases s with
    | no => exact step (by simpa [mls] using h)
    | th t => exact step (by simpa [mls] using h)
    | ml ts =>
      cases o with
      | none => exact step (by simpa [mls] using h)
      | some v =>
        cases v with
        | ref b =>
          have h' : a = b ∨ a ∈ mls Δ σ := by simpa [mls] using h
          rcases h' with e | h'
          · subst e
            exact ⟨0, ts, rfl, rfl⟩
          · exact step h'
        | _ => exact step (by simpa [mls] using h)
theorem mls_mem : ∀ {Δ : List Sl} {σ : L2.St} {i : Nat} {ts : List Th} {a : Addr}, Δ[i]? = some (.ml ts) → σ[i]? = some (some (.ref a)) → a ∈ mls Δ σ
  | [], _, i, ts, a, h, _ => by simp at h
  | s :: Δ, [], i, ts, a, _, h => by simp at h
  | s :: Δ, o :: σ, 0, ts, a, h1, h2 => by
    have e1 : s = .ml ts := Option.some.inj h1
    have e2 : o = some (.ref a) := Option.some.inj h2
    subst e1; subst e2
    simp [mls]
  | s :: Δ, o :: σ, i + 1, ts, a, h1, h2 => by
    have q := mls_mem (Δ := Δ) (σ := σ) (i := i) (ts := ts) (a := a) (by simpa using h1) (by simpa using h2)
    cases s with
    | no => simpa [mls] using q
    | th t => simpa [mls] using q
    | ml us =>
      cases o with
      | none => simpa [mls] using q
      | some v => cases v <;> first | (simpa [mls] using q) | (simp [mls]; exact Or.inr q)
/-- a state as the beginning of a piece -/
theorem At.here {S0 M0 S : List Addr} {H0 H : Hp} {Δ : List Sl} {σ : L2.St} (A : At S0 M0 H0 Δ σ H S) : At S (mls Δ σ) H Δ σ H S := by
  refine ⟨fun _ h => h, fun a h => ?_, fun a h => Or.inl h, hide_le, A.dom, A.env, A.apart, fun i ts a h1 h2 => Or.inl (mls_mem h1 h2)⟩
  obtain ⟨i, ts, h1, h2⟩ := mem_mls h
  obtain ⟨o, e1, a', xs, e2, m, _⟩ := A.env.get h1
  rw [h2] at e1
  have e3 := Option.some.inj e1
  rw [← e3] at e2
  have e4 : a = a' := V.ref.inj (Option.some.inj e2)
  rw [e4]; exact m
theorem At.mown {S0 M0 S : List Addr} {H0 H : Hp} {Δ : List Sl} {σ : L2.St} (A : At S0 M0 H0 Δ σ H S) : ∀ a ∈ mls Δ σ, a ∈ M0 ∨ H0 a = none := fun a h => by
  obtain ⟨i, ts, h1, h2⟩ := mem_mls h
  exact A.own i ts a h1 h2
theorem ex_none {H H' : Hp} {M : List Addr} (e : Ex (hide M H) H') {a : Addr} (h : H' a = none) (n : a ∉ M) : H a = none := by
  cases q : H a with
  | none => rfl
  | some o =>
    have := e a o (by rw [hide_out n]; exact q)
    rw [this] at h; cases h
/-- .. and back to the whole -/
theorem At.lift {S0 M0 S S1 M1 : List Addr} {H0 H H1 : Hp} {Δ Δ1 : List Sl} {σ σ1 : L2.St} (A : At S0 M0 H0 Δ σ H S) (hM : ∀ a ∈ M1, a ∈ M0 ∨ H0 a = none) (B : At S M1 H Δ1 σ1 H1 S1) : At S0 M0 H0 Δ1 σ1 H1 S1 := by
  have back : ∀ a, H a = none → a ∈ M0 ∨ H0 a = none := fun a h => by
    by_cases q : a ∈ M0
    · exact Or.inl q
    · exact Or.inr (ex_none A.ex h q)
  refine ⟨fun a h => B.sub a (A.sub a h), A.msub, fun a h => ?_, fun a o h => ?_, B.dom, B.env, B.apart, fun i ts a h1 h2 => ?_⟩
  · rcases B.new a h with h | h
    · exact A.new a h
    · rcases back a h with h | h
      · exact Or.inl (A.msub a h)
      · exact Or.inr h
  · have n0 : a ∉ M0 := fun z => by rw [hide_in z] at h; cases h
    have h' : H0 a = some o := by rw [hide_out n0] at h; exact h
    have n1 : a ∉ M1 := fun z => by
      rcases hM a z with z | z
      · exact n0 z
      · rw [z] at h'; cases h'
    exact B.ex a o (by rw [hide_out n1]; exact A.ex a o h)
  · rcases B.own i ts a h1 h2 with h | h
    · exact hM a h
    · exact back a h

/-! ### expressions -/
/-- e evaluates, from any state of Δ, to a thing of A; what stood stays -/
def PX (X : Cx) (Δ : List Sl) (e : Expr) (A : Th → Prop) : Prop :=
  ∃ t : TE, PE X e t ∧ ∀ S0 M0 H0 σ H S, At S0 M0 H0 Δ σ H S → ∀ Q : VK, (∀ th v H2, A th → Ex H H2 → th.R (hide S H2) v → Q v H2) → t σ H Q
abbrev PD (X : Cx) (Δ : List Sl) (e : Expr) (th : Th) : Prop := PX X Δ e (fun t => t = th)
/-- a test -/
def PB (X : Cx) (Δ : List Sl) (e : Expr) (b : Bool) : Prop :=
  ∃ t : TT, PT X e t ∧ ∀ S0 M0 H0 σ H S, At S0 M0 H0 Δ σ H S → ∀ Q : Bool → Hp → Prop, (∀ H2, Ex H H2 → Q b H2) → t σ H Q
/-- arguments -/
def PL (X : Cx) (Δ : List Sl) (es : List Expr) (A : List Th → Prop) : Prop :=
  ∃ t : TA, PA X es t ∧ ∀ S0 M0 H0 σ H S, At S0 M0 H0 Δ σ H S → ∀ Q : List V → Hp → Prop, (∀ ths vs H2, A ths → Ex H H2 → All (hide S H2) ths vs → Q vs H2) → t σ H Q
abbrev PLD (X : Cx) (Δ : List Sl) (es : List Expr) (ths : List Th) : Prop := PL X Δ es (fun t => t = ths)

section
variable {X : Cx} {Δ : List Sl} {e a b c : Expr} {es : List Expr} {A B C : Th → Prop} {pos : Pos}
theorem PX.imp (h : PX X Δ e A) (i : ∀ t, A t → B t) : PX X Δ e B := by
  obtain ⟨t, p, f⟩ := h
  exact ⟨t, p, fun S0 M0 H0 σ H S hA Q q => f S0 M0 H0 σ H S hA Q fun th v H2 x => q th v H2 (i th x)⟩
theorem px_var (i : Nat) {x : Str} {t : Th} (h : Δ[i]? = some (.th t)) (hN : X.N[i]? = some x := by rfl) (hv : Vis X.env.scope x := by first | exact Or.inl rfl | exact Or.inr (Or.inl rfl) | exact Or.inr (Or.inr rfl)) (hd : (x == ("__debug__" : Str)) = false := by decide)
    (hcd : (x == ("__classdict__" : Str)) = false := by decide) : PD X Δ (.Name x pos) t :=
  ⟨_, pe_var hN hv hd hcd, fun S0 M0 H0 σ H S hA Q q => by
    obtain ⟨o, e1, v, e2, r⟩ := hA.env.get h
    subst e2
    exact ⟨v, e1, q _ v H rfl (Ex.refl H) r⟩⟩
theorem px_int {i : Int} {j : Nat} : PD X Δ (.Constant (.int i) j pos) (dat X.K (.int i)) := ⟨_, pe_int, fun _ _ _ _ H S _ Q q => q _ _ H rfl (Ex.refl H) (Dp.int i)⟩
theorem px_str {x : Str} {j : Nat} : PD X Δ (.Constant (.str x) j pos) (dat X.K (.str x)) := ⟨_, pe_str, fun _ _ _ _ H S _ Q q => q _ _ H rfl (Ex.refl H) (Dp.str x)⟩
theorem px_none {j : Nat} : PD X Δ (.Constant .none j pos) (dat X.K .none) := ⟨_, pe_non, fun _ _ _ _ H S _ Q q => q _ _ H rfl (Ex.refl H) Dp.non⟩
theorem px_bool {k : Bool} {j : Nat} : PD X Δ (.Constant (.bool k) j pos) (dat X.K (.bool k)) := ⟨_, pe_bl, fun _ _ _ _ H S _ Q q => q _ _ H rfl (Ex.refl H) (Dp.bl k)⟩
/-- two expressions, then what is done with their values -/
theorem px_two {r : R2} {e : Expr} (h : ∀ ta tb, PE X a ta → PE X b tb → PE X e (tOp r ta tb)) (ha : PX X Δ a A) (hb : PX X Δ b B)
    (f : ∀ (S : List Addr) (H : Hp) x y v w, Dom S H → A x → B y → x.R (hide S H) v → y.R (hide S H) w → ∀ Q : VK, (∀ th u H2, C th → Ex H H2 → th.R (hide S H2) u → Q u H2) → r v w H Q) : PX X Δ e C := by
  obtain ⟨ta, pa, fa⟩ := ha
  obtain ⟨tb, pb, fb⟩ := hb
  refine ⟨_, h ta tb pa pb, fun S0 M0 H0 σ H S hA Q q => ?_⟩
  refine fa S0 M0 H0 σ H S hA _ fun x v H1 hx e1 rx => fb S0 M0 H0 σ H1 S (hA.up e1) _ fun y w H2 hy e2 ry => ?_
  exact f S H2 x y v w ((hA.up e1).up e2).dom hx hy (x.up _ _ _ (hide_ex e2) rx) ry Q fun th u H3 c e3 r3 => q th u H3 c ((e1.trans e2).trans e3) r3
theorem px_one {r : V → Hp → VK → Prop} {e : Expr} (h : ∀ ta, PE X a ta → PE X e (tUn r ta)) (ha : PX X Δ a A)
    (f : ∀ (S : List Addr) (H : Hp) x v, Dom S H → A x → x.R (hide S H) v → ∀ Q : VK, (∀ th u H2, C th → Ex H H2 → th.R (hide S H2) u → Q u H2) → r v H Q) : PX X Δ e C := by
  obtain ⟨ta, pa, fa⟩ := ha
  refine ⟨_, h ta pa, fun S0 M0 H0 σ H S hA Q q => ?_⟩
  refine fa S0 M0 H0 σ H S hA _ fun x v H1 hx e1 rx => ?_
  exact f S H1 x v (hA.up e1).dom hx rx Q fun th u H3 c e3 r3 => q th u H3 c (e1.trans e3) r3
theorem dp_int {K : PySem.W.Frag} {H : Hp} {v : V} {i : Int} (h : Dp K H v (.int i)) : v = .int i := by cases h; rfl
theorem dp_bool {K : PySem.W.Frag} {H : Hp} {v : V} {i : Bool} (h : Dp K H v (.bool i)) : v = .bl i := by cases h; rfl
theorem dp_str {K : PySem.W.Frag} {H : Hp} {v : V} {i : Str} (h : Dp K H v (.str i)) : v = .str i := by cases h; rfl
theorem dp_tup {K : PySem.W.Frag} {H : Hp} {v : V} {ds : List PyData} (h : Dp K H v (.tuple ds)) : ∃ a xs, v = .ref a ∧ SqT K H a xs ∧ DpAll K H xs ds := by
  cases h with
  | tup h g => exact ⟨_, _, rfl, h, g⟩
theorem dp_lst {K : PySem.W.Frag} {H : Hp} {v : V} {ds : List PyData} (h : Dp K H v (.list ds)) : ∃ a xs, v = .ref a ∧ SqL K H a xs ∧ DpAll K H xs ds := by
  cases h with
  | lst h g => exact ⟨_, _, rfl, h, g⟩
/-- ints -/
def isI (K : PySem.W.Frag) (P : Int → Prop) (t : Th) : Prop := ∃ i, t = dat K (.int i) ∧ P i
theorem px_opI {op : Operator} {Cn : Int → Int → Prop} {g : Int → Int → Int} (ho : OpR X (binaryOp op) (rI Cn fun i j => .int (g i j))) {P Q R : Int → Prop} (ha : PX X Δ a (isI X.K P)) (hb : PX X Δ b (isI X.K Q))
    (h : ∀ i j, P i → Q j → Cn i j ∧ R (g i j)) : PX X Δ (.BinOp a op b pos) (isI X.K R) :=
  px_two (fun _ _ => pe_op ho) ha hb fun S H x y v w _ ⟨i, ex, pi⟩ ⟨j, ey, pj⟩ rx ry Q q => by
    subst ex; subst ey
    have e1 := dp_int rx
    have e2 := dp_int ry
    subst e1; subst e2
    exact ⟨i, j, rfl, rfl, (h i j pi pj).1, q _ _ H ⟨_, rfl, (h i j pi pj).2⟩ (Ex.refl H) (Dp.int _)⟩
theorem px_opI0 {op : Operator} {g : Int → Int → Int} (ho : OpR X (binaryOp op) (rI0 fun i j => .int (g i j))) {P Q R : Int → Prop} (ha : PX X Δ a (isI X.K P)) (hb : PX X Δ b (isI X.K Q))
    (h : ∀ i j, P i → Q j → R (g i j)) : PX X Δ (.BinOp a op b pos) (isI X.K R) :=
  px_two (fun _ _ => pe_op ho) ha hb fun S H x y v w _ ⟨i, ex, pi⟩ ⟨j, ey, pj⟩ rx ry Q q => by
    subst ex; subst ey
    have e1 := dp_int rx
    have e2 := dp_int ry
    subst e1; subst e2
    exact ⟨i, j, rfl, rfl, q _ _ H ⟨_, rfl, (h i j pi pj)⟩ (Ex.refl H) (Dp.int _)⟩
theorem pi_of {i : Int} (h : PD X Δ e (dat X.K (.int i))) : PX X Δ e (isI X.K (· = i)) := h.imp fun t ht => ⟨i, ht, rfl⟩
theorem pd_of {i : Int} (h : PX X Δ e (isI X.K (· = i))) : PD X Δ e (dat X.K (.int i)) := h.imp fun t ⟨j, ht, hj⟩ => by rw [ht, hj]
theorem pd_add {i j : Int} (ha : PD X Δ a (dat X.K (.int i))) (hb : PD X Δ b (dat X.K (.int j))) : PD X Δ (.BinOp a .Add b pos) (dat X.K (.int (i + j))) :=
  pd_of (px_opI0 op_add (pi_of ha) (pi_of hb) fun _ _ h1 h2 => by rw [h1, h2])
theorem pd_sub {i j : Int} (ha : PD X Δ a (dat X.K (.int i))) (hb : PD X Δ b (dat X.K (.int j))) : PD X Δ (.BinOp a .Sub b pos) (dat X.K (.int (i - j))) :=
  pd_of (px_opI0 op_sub (pi_of ha) (pi_of hb) fun _ _ h1 h2 => by rw [h1, h2])
theorem op_mulO : OpR X (binaryOp .Mult) (rI IntMulOk fun i j => .int (i * j)) := opI fun _ _ _ _ _ _ _ hc q => mul_int q hc
/-- a divisor that is not 0 and below 2 ^ 9000 -/
def CDv (_ j : Int) : Prop := j ≠ 0 ∧ j.natAbs.log2 < 9000
theorem op_fdivO : OpR X (binaryOp .FloorDiv) (rI CDv fun i j => .int (i.fdiv j)) := opI fun _ _ _ _ _ _ _ hc q => floordiv_int hc.1 q (.inl (PyProof.noPylong_of_log2 hc.2))
theorem pd_mul {i j : Int} (ha : PD X Δ a (dat X.K (.int i))) (hb : PD X Δ b (dat X.K (.int j))) (h : IntMulOk i j) : PD X Δ (.BinOp a .Mult b pos) (dat X.K (.int (i * j))) :=
  pd_of (px_opI op_mulO (pi_of ha) (pi_of hb) fun _ _ h1 h2 => by rw [h1, h2]; exact ⟨h, rfl⟩)
theorem pd_fdiv {i j : Int} (ha : PD X Δ a (dat X.K (.int i))) (hb : PD X Δ b (dat X.K (.int j))) (h : CDv i j) : PD X Δ (.BinOp a .FloorDiv b pos) (dat X.K (.int (i.fdiv j))) :=
  pd_of (px_opI op_fdivO (pi_of ha) (pi_of hb) fun _ _ h1 h2 => by rw [h1, h2]; exact ⟨h, rfl⟩)
theorem pd_mod {i j : Int} (ha : PD X Δ a (dat X.K (.int i))) (hb : PD X Δ b (dat X.K (.int j))) (h : j ≠ 0) : PD X Δ (.BinOp a .Mod b pos) (dat X.K (.int (i.fmod j))) :=
  pd_of (px_opI op_modN (pi_of ha) (pi_of hb) fun _ _ h1 h2 => by rw [h1, h2]; exact ⟨h, rfl⟩)
theorem pd_neg {i : Int} (ha : PD X Δ a (dat X.K (.int i))) : PD X Δ (.UnaryOp .USub a pos) (dat X.K (.int (-i))) :=
  px_one (fun _ => pe_un un_neg) ha fun S H x v _ hx rx Q q => by
    subst hx
    have e1 := dp_int rx
    subst e1
    exact ⟨i, rfl, q _ _ H rfl (Ex.refl H) (Dp.int _)⟩
/-- an item by a place -/
def ixD : PyData → Int → Option PyData
  | .tuple ds, k => atI ds k
  | .list ds, k => atI ds k
  | _, _ => none
theorem dpa_get {K : PySem.W.Frag} {H : Hp} : ∀ {vs : List V} {ds : List PyData} {i : Nat} {d : PyData}, DpAll K H vs ds → ds[i]? = some d → ∃ v, vs[i]? = some v ∧ Dp K H v d
  | _, _, i, d, .nil, h => by simp at h
  | v :: _, d' :: _, 0, d, .cons h t, e => by
    have e' : d' = d := Option.some.inj e
    subst e'
    exact ⟨v, rfl, h⟩
  | _ :: vs, _ :: ds, i + 1, d, .cons h t, e => dpa_get (vs := vs) (ds := ds) (i := i) t e
theorem dpa_len {K : PySem.W.Frag} {H : Hp} : ∀ {vs : List V} {ds : List PyData}, DpAll K H vs ds → vs.length = ds.length
  | _, _, .nil => rfl
  | _ :: _, _ :: _, .cons _ t => by rw [List.length_cons, List.length_cons, dpa_len t]
theorem dpa_at {K : PySem.W.Frag} {H : Hp} {vs : List V} {ds : List PyData} {k : Int} {d : PyData} (h : DpAll K H vs ds) (e : atI ds k = some d) : ∃ v, atI vs k = some v ∧ Dp K H v d := by
  unfold atI at e ⊢
  rw [dpa_len h]
  cases q : ixN ds.length k with
  | none => rw [q] at e; simp at e
  | some j =>
    rw [q] at e
    obtain ⟨v, e1, r⟩ := dpa_get h (show ds[j]? = some d from e)
    exact ⟨v, e1, r⟩
theorem pd_ix {D d : PyData} {k : Int} (ha : PD X Δ a (dat X.K D)) (hb : PD X Δ b (dat X.K (.int k))) (h : ixD D k = some d) (hs : PlainIx b := by exact fun _ _ => rfl) : PD X Δ (.Subscript a b pos) (dat X.K d) :=
  px_two (r := fun x y H Q => rIxL X.K x y H Q ∨ rIxT X.K x y H Q) (fun _ _ pa pb => pe_ix (ix_list.or ix_tup) pa pb hs) ha hb fun S H x y v w _ hx hy rx ry Q q => by
    subst hx; subst hy
    have e2 := dp_int ry
    subst e2
    cases D with
    | tuple ds =>
      obtain ⟨p, xs, rfl, hq, hd⟩ := dp_tup rx
      obtain ⟨u, e1, r⟩ := dpa_at hd (show atI ds k = some d from h)
      exact Or.inr ⟨p, xs, k, u, rfl, rfl, ex_t hide_le hq, e1, q _ u H rfl (Ex.refl H) r⟩
    | list ds =>
      obtain ⟨p, xs, rfl, hq, hd⟩ := dp_lst rx
      obtain ⟨u, e1, r⟩ := dpa_at hd (show atI ds k = some d from h)
      exact Or.inl ⟨p, xs, k, u, rfl, rfl, ex_l hide_le hq, e1, q _ u H rfl (Ex.refl H) r⟩
    | none => cases h
    | bool _ => cases h
    | int _ => cases h
    | str _ => cases h
    | dict _ => cases h
/-! arguments -/
theorem pl_nil : PLD X Δ [] [] := ⟨_, pa_nil, fun _ _ _ _ H S _ Q q => q [] [] H rfl (Ex.refl H) trivial⟩
theorem pl_consA {B : List Th → Prop} {C : List Th → Prop} (ha : PX X Δ e A) (hr : PL X Δ es B) (h : ∀ t ts, A t → B ts → C (t :: ts)) (hs : starEach (e :: es) X.env = (false, eval e X.env) :: starEach es X.env := by rfl) : PL X Δ (e :: es) C := by
  obtain ⟨ta, pa, fa⟩ := ha
  obtain ⟨tb, pb, fb⟩ := hr
  refine ⟨_, pa_cons pa pb hs, fun S0 M0 H0 σ H S hA Q q => ?_⟩
  refine fa S0 M0 H0 σ H S hA _ fun x v H1 hx e1 rx => fb S0 M0 H0 σ H1 S (hA.up e1) _ fun ys ws H2 hy e2 ry => ?_
  exact q (x :: ys) (v :: ws) H2 (h x ys hx hy) (e1.trans e2) ⟨x.up _ _ _ (hide_ex e2) rx, ry⟩
theorem pl_cons {t : Th} {ts : List Th} (ha : PD X Δ e t) (hr : PLD X Δ es ts) (hs : starEach (e :: es) X.env = (false, eval e X.env) :: starEach es X.env := by rfl) : PLD X Δ (e :: es) (t :: ts) :=
  pl_consA ha hr (fun _ _ h1 h2 => by rw [h1, h2]) hs
theorem sz_of {n : Nat} (h : n ≤ 100000) : n ≤ sizeLine := Nat.le_trans h (by decide)
theorem pd_tup {ds : List PyData} {x1} (h : PLD X Δ es (ds.map (dat X.K))) (hl : ds.length ≤ 100000 := by exact Nat.le_of_ble_eq_true rfl) : PD X Δ (.Tuple es x1 pos) (dat X.K (.tuple ds)) := by
  obtain ⟨t, p, f⟩ := h
  refine ⟨_, pe_tup p, fun S0 M0 H0 σ H S hA Q q => f S0 M0 H0 σ H S hA _ fun ths vs H2 ht e2 r => ?_⟩
  subst ht
  have hd := all_dpa r
  refine ⟨sz_of (by rw [dpa_len hd]; exact hl), fun p hp => q _ _ _ rfl (e2.trans (Ex.new hp)) ?_⟩
  have np := ((hA.up e2).dom).new hp
  refine Dp.tup (SqT.of ?_) (dpa_up (hide_ex (Ex.new hp)) hd)
  rw [hide_out np]
  exact upd_same
theorem pd_lst {ds : List PyData} (h : PLD X Δ es (ds.map (dat X.K))) (hl : ds.length ≤ 100000 := by exact Nat.le_of_ble_eq_true rfl) : PD X Δ (.List es pos) (dat X.K (.list ds)) := by
  obtain ⟨t, p, f⟩ := h
  refine ⟨_, pe_lst p, fun S0 M0 H0 σ H S hA Q q => f S0 M0 H0 σ H S hA _ fun ths vs H2 ht e2 r => ?_⟩
  subst ht
  have hd := all_dpa r
  refine ⟨sz_of (by rw [dpa_len hd]; exact hl), fun p hp => q _ _ _ rfl (e2.trans (Ex.new hp)) ?_⟩
  have np := ((hA.up e2).dom).new hp
  refine Dp.lst (SqL.of ?_) (dpa_up (hide_ex (Ex.new hp)) hd)
  rw [hide_out np]
  exact upd_same
end
end DL
set_option Elab.async false
set_option linter.all false
set_option maxRecDepth 100000
/-! Tests, comparisons, calls, statements. -/
namespace DL
open PySem PySem.Spec PyProof.Rows L2

section
variable {X : Cx} {Δ : List Sl} {e a b c : Expr} {es : List Expr} {A B C : Th → Prop} {pos : Pos}
/-! ### tests -/
theorem pb_val {k : Bool} (h : PD X Δ e (dat X.K (.bool k))) (he : ∀ whole, isTrue e X.env whole = (do let v ← whole; standAt e.pos; holding [v] (truthy v)) := by intro _; rfl) : PB X Δ e k := by
  obtain ⟨t, p, f⟩ := h
  refine ⟨_, pt_val p he, fun S0 M0 H0 σ H S hA Q q => f S0 M0 H0 σ H S hA _ fun th v H2 ht e2 r => ?_⟩
  subst ht
  exact ⟨k, dp_bool r, q H2 e2⟩
/-- a comparison's answer is k -/
theorem pb_two {r : R2} {k : Bool} (h : ∀ ta tb, PE X a ta → PE X b tb → PT X e (tTest (tOp r ta tb))) (ha : PX X Δ a A) (hb : PX X Δ b B)
    (f : ∀ (S : List Addr) (H : Hp) x y v w, Dom S H → A x → B y → x.R (hide S H) v → y.R (hide S H) w → ∀ Q : VK, (∀ H2, Ex H H2 → Q (.bl k) H2) → r v w H Q) : PB X Δ e k := by
  obtain ⟨ta, pa, fa⟩ := ha
  obtain ⟨tb, pb, fb⟩ := hb
  refine ⟨_, h ta tb pa pb, fun S0 M0 H0 σ H S hA Q q => ?_⟩
  refine fa S0 M0 H0 σ H S hA _ fun x v H1 hx e1 rx => fb S0 M0 H0 σ H1 S (hA.up e1) _ fun y w H2 hy e2 ry => ?_
  exact f S H2 x y v w ((hA.up e1).up e2).dom hx hy (x.up _ _ _ (hide_ex e2) rx) ry _ fun H3 e3 => ⟨k, rfl, q H3 ((e1.trans e2).trans e3)⟩
/-- how a comparison op of x and y answers -/
def CmpT (X : Cx) (op : CmpOp) (x y : Th) (k : Bool) : Prop := ∃ r : R2, OpR X (compareOp op) r ∧
  ∀ (S : List Addr) (H : Hp) v w, Dom S H → x.R (hide S H) v → y.R (hide S H) w → ∀ Q : VK, (∀ H2, Ex H H2 → Q (.bl k) H2) → r v w H Q
theorem pd_cmp {op : CmpOp} {x y : Th} {k : Bool} (h : CmpT X op x y k) (ha : PD X Δ a x) (hb : PD X Δ b y) (hm : behindInMarks op b = false) : PD X Δ (.Compare a [op] [b] pos) (dat X.K (.bool k)) := by
  obtain ⟨r, ho, f⟩ := h
  refine px_two (fun _ _ pa pb => pe_cmpR ho pa pb hm) ha hb fun S H x' y' v w hd hx hy rx ry Q q => ?_
  subst hx; subst hy
  exact f S H v w hd rx ry Q fun H2 e2 => q _ _ H2 rfl e2 (Dp.bl k)
theorem pb_cmp {op : CmpOp} {x y : Th} {k : Bool} (h : CmpT X op x y k) (ha : PD X Δ a x) (hb : PD X Δ b y) (hm : behindInMarks op b = false) : PB X Δ (.Compare a [op] [b] pos) k := by
  obtain ⟨r, ho, f⟩ := h
  refine pb_two (fun _ _ pa pb => pt_cmpR ho pa pb hm) ha hb fun S H x' y' v w hd hx hy rx ry Q q => ?_
  subst hx; subst hy
  exact f S H v w hd rx ry Q q
theorem ct_int {op : CmpOp} {g : Int → Int → Bool} (ho : OpR X (compareOp op) (rI0 fun i j => .bl (g i j))) {i j : Int} : CmpT X op (dat X.K (.int i)) (dat X.K (.int j)) (g i j) :=
  ⟨_, ho, fun S H v w _ rx ry Q q => ⟨i, j, dp_int rx, dp_int ry, q H (Ex.refl H)⟩⟩
theorem ct_lt {i j : Int} : CmpT X .Lt (dat X.K (.int i)) (dat X.K (.int j)) (decide (i < j)) := ct_int op_lt
theorem ct_le {i j : Int} : CmpT X .LtE (dat X.K (.int i)) (dat X.K (.int j)) (decide (i ≤ j)) := ct_int op_le
theorem ct_gt {i j : Int} : CmpT X .Gt (dat X.K (.int i)) (dat X.K (.int j)) (decide (j < i)) := ct_int op_gt
theorem ct_ge {i j : Int} : CmpT X .GtE (dat X.K (.int i)) (dat X.K (.int j)) (decide (j ≤ i)) := ct_int op_ge
theorem ct_eq {d d' : PyData} (hu : X.A.units + 64 < cLine) (h1 : SeqAt.shaped d = true) (h2 : SeqAt.shaped d' = true) : CmpT X .Eq (dat X.K d) (dat X.K d') (PyData.eqv d d') :=
  ⟨_, op_eqD hu, fun S H v w _ rx ry Q q => ⟨d, d', dp_up hide_le rx, dp_up hide_le ry, h1, h2, q H (Ex.refl H)⟩⟩
theorem ct_ne {d d' : PyData} (hu : X.A.units + 64 < cLine) (h1 : SeqAt.shaped d = true) (h2 : SeqAt.shaped d' = true) : CmpT X .NotEq (dat X.K d) (dat X.K d') (!PyData.eqv d d') :=
  ⟨_, op_neD hu, fun S H v w _ rx ry Q q => ⟨d, d', dp_up hide_le rx, dp_up hide_le ry, h1, h2, q H (Ex.refl H)⟩⟩
theorem ct_isB {k k' : Bool} : CmpT X .Is (dat X.K (.bool k)) (dat X.K (.bool k')) (decide (k = k')) :=
  ⟨_, op_isBl, fun S H v w _ rx ry Q q => ⟨k, k', dp_bool rx, dp_bool ry, q H (Ex.refl H)⟩⟩
theorem ct_notB {k k' : Bool} : CmpT X .IsNot (dat X.K (.bool k)) (dat X.K (.bool k')) (!decide (k = k')) :=
  ⟨_, op_notBl, fun S H v w _ rx ry Q q => ⟨k, k', dp_bool rx, dp_bool ry, q H (Ex.refl H)⟩⟩
def isNo : PyData → Bool
  | .none => true
  | _ => false
theorem dp_non {K : PySem.W.Frag} {H : Hp} {v : V} {d : PyData} (h : Dp K H v d) : decide (v = .non) = isNo d := by
  cases h <;> first | rfl | exact decide_eq_false (fun z => nomatch z)
theorem ct_isN {d : PyData} : CmpT X .Is (dat X.K d) (dat X.K .none) (isNo d) :=
  ⟨_, op_isN, fun S H v w _ rx ry Q q => ⟨by cases ry; rfl, by rw [dp_non rx]; exact q H (Ex.refl H)⟩⟩
theorem ct_notN {d : PyData} : CmpT X .IsNot (dat X.K d) (dat X.K .none) (!isNo d) :=
  ⟨_, op_notN, fun S H v w _ rx ry Q q => ⟨by cases ry; rfl, by rw [dp_non rx]; exact q H (Ex.refl H)⟩⟩
theorem ct_in {d : PyData} {ds : List PyData} (hu : X.A.units + 65 < cLine) (h1 : SeqAt.shaped d = true) (h2 : SeqAt.shaped (.list ds) = true) : CmpT X .In (dat X.K d) (dat X.K (.list ds)) (ds.any fun z => PyData.eqv z d) :=
  ⟨_, op_inD hu, fun S H v w _ rx ry Q q => ⟨d, ds, dp_up hide_le rx, dp_up hide_le ry, h1, h2, q H (Ex.refl H)⟩⟩
theorem ct_nin {d : PyData} {ds : List PyData} (hu : X.A.units + 65 < cLine) (h1 : SeqAt.shaped d = true) (h2 : SeqAt.shaped (.list ds) = true) : CmpT X .NotIn (dat X.K d) (dat X.K (.list ds)) (!ds.any fun z => PyData.eqv z d) :=
  ⟨_, op_notInD hu, fun S H v w _ rx ry Q q => ⟨d, ds, dp_up hide_le rx, dp_up hide_le ry, h1, h2, q H (Ex.refl H)⟩⟩
/-- a chain a op b op' c -/
theorem pb_chainT {op op' : CmpOp} {x y z : Th} {k k' : Bool} (h : CmpT X op x y k) (h' : CmpT X op' y z k') (ha : PD X Δ a x) (hb : PD X Δ b y) (hc : PD X Δ c z)
    (hp : ∀ r r' ta tb tc, OpR X (compareOp op) r → OpR X (compareOp op') r' → PE X a ta → PE X b tb → PE X c tc → PE X e (tChain r r' ta tb tc)) : PD X Δ e (dat X.K (.bool (k && k'))) := by
  obtain ⟨r, ho, f⟩ := h
  obtain ⟨r', ho', f'⟩ := h'
  obtain ⟨ta, pa, fa⟩ := ha
  obtain ⟨tb, pb, fb⟩ := hb
  obtain ⟨tc, pc, fc⟩ := hc
  refine ⟨_, hp r r' ta tb tc ho ho' pa pb pc, fun S0 M0 H0 σ H S hA Q q => ?_⟩
  refine fa S0 M0 H0 σ H S hA _ fun x' v H1 hx e1 rx => fb S0 M0 H0 σ H1 S (hA.up e1) _ fun y' w H2 hy e2 ry => ?_
  subst hx; subst hy
  refine f S H2 v w ((hA.up e1).up e2).dom (x'.up _ _ _ (hide_ex e2) rx) ry _ fun H3 e3 => ⟨k, rfl, ?_⟩
  cases k with
  | true =>
    refine fc S0 M0 H0 σ H3 S (((hA.up e1).up e2).up e3) _ fun z' u H4 hz e4 rz => ?_
    subst hz
    refine f' S H4 w u ((((hA.up e1).up e2).up e3).up e4).dom (y'.up _ _ _ (hide_ex (e3.trans e4)) ry) rz _ fun H5 e5 => ?_
    exact q _ _ H5 rfl ((((e1.trans e2).trans e3).trans e4).trans e5) (Dp.bl _)
  | false => exact q _ _ H3 rfl ((e1.trans e2).trans e3) (Dp.bl _)
/-! and, or, not -/
def PBW (X : Cx) (Δ : List Sl) (e : Expr) (b : Bool) : Prop :=
  ∃ t : TT, PW X e t ∧ ∀ S0 M0 H0 σ H S, At S0 M0 H0 Δ σ H S → ∀ Q : Bool → Hp → Prop, (∀ H2, Ex H H2 → Q b H2) → t σ H Q
theorem PBW.pb {k : Bool} (h : PBW X Δ e k) : PB X Δ e k := let ⟨t, p, f⟩ := h; ⟨t, p.pt, f⟩
theorem pw1a {k : Bool} (h : PB X Δ a k) : PBW X Δ (.BoolOp .And [a] pos) k := let ⟨t, p, f⟩ := h; ⟨t, pw_and1 p, f⟩
theorem pw1o {k : Bool} (h : PB X Δ a k) : PBW X Δ (.BoolOp .Or [a] pos) k := let ⟨t, p, f⟩ := h; ⟨t, pw_or1 p, f⟩
theorem pwa {rest : List Expr} {k j : Bool} (h : PB X Δ a k) (g : PBW X Δ (.BoolOp .And (b :: rest) pos) j) : PBW X Δ (.BoolOp .And (a :: b :: rest) pos) (k && j) := by
  obtain ⟨t, p, f⟩ := h
  obtain ⟨u, p', f'⟩ := g
  refine ⟨_, pw_and p p', fun S0 M0 H0 σ H S hA Q q => f S0 M0 H0 σ H S hA _ fun H1 e1 => ?_⟩
  cases k with
  | true => exact f' S0 M0 H0 σ H1 S (hA.up e1) _ fun H2 e2 => q H2 (e1.trans e2)
  | false => exact q H1 e1
theorem pwo {rest : List Expr} {k j : Bool} (h : PB X Δ a k) (g : PBW X Δ (.BoolOp .Or (b :: rest) pos) j) : PBW X Δ (.BoolOp .Or (a :: b :: rest) pos) (k || j) := by
  obtain ⟨t, p, f⟩ := h
  obtain ⟨u, p', f'⟩ := g
  refine ⟨_, pw_or p p', fun S0 M0 H0 σ H S hA Q q => f S0 M0 H0 σ H S hA _ fun H1 e1 => ?_⟩
  cases k with
  | true => exact q H1 e1
  | false => exact f' S0 M0 H0 σ H1 S (hA.up e1) _ fun H2 e2 => q H2 (e1.trans e2)
/-- the first one decides: the others are not asked (u: their syntax stands) -/
theorem pwa_f {rest : List Expr} (h : PB X Δ a false) (g : ∃ u, PW X (.BoolOp .And (b :: rest) pos) u) : PBW X Δ (.BoolOp .And (a :: b :: rest) pos) false := by
  obtain ⟨t, p, f⟩ := h
  obtain ⟨u, p'⟩ := g
  exact ⟨_, pw_and p p', fun S0 M0 H0 σ H S hA Q q => f S0 M0 H0 σ H S hA _ fun H1 e1 => q H1 e1⟩
theorem pwo_t {rest : List Expr} (h : PB X Δ a true) (g : ∃ u, PW X (.BoolOp .Or (b :: rest) pos) u) : PBW X Δ (.BoolOp .Or (a :: b :: rest) pos) true := by
  obtain ⟨t, p, f⟩ := h
  obtain ⟨u, p'⟩ := g
  exact ⟨_, pw_or p p', fun S0 M0 H0 σ H S hA Q q => f S0 M0 H0 σ H S hA _ fun H1 e1 => q H1 e1⟩
theorem never_w : ∃ u, PW X e u := ⟨fun _ _ _ => False, ⟨fun _ _ _ _ _ _ _ h => h.elim⟩⟩
theorem pb_not {k : Bool} (h : PB X Δ a k) : PB X Δ (.UnaryOp .Not a pos) (!k) := by
  obtain ⟨t, p, f⟩ := h
  exact ⟨_, pt_not p, fun S0 M0 H0 σ H S hA Q q => f S0 M0 H0 σ H S hA _ fun H1 e1 => q H1 e1⟩
/-- as values -/
theorem pd_one {op} {t : Th} (h : PD X Δ a t) : PD X Δ (.BoolOp op [a] pos) t := let ⟨u, p, f⟩ := h; ⟨u, pe_one p, f⟩
theorem pd_and {rest : List Expr} {k j : Bool} (h : PD X Δ a (dat X.K (.bool k))) (g : PD X Δ (.BoolOp .And (b :: rest) pos) (dat X.K (.bool j))) : PD X Δ (.BoolOp .And (a :: b :: rest) pos) (dat X.K (.bool (k && j))) := by
  obtain ⟨t, p, f⟩ := h
  obtain ⟨u, p', f'⟩ := g
  refine ⟨_, pe_and p p', fun S0 M0 H0 σ H S hA Q q => f S0 M0 H0 σ H S hA _ fun x v H1 hx e1 r => ⟨k, by subst hx; exact dp_bool r, ?_⟩⟩
  cases k with
  | true => exact f' S0 M0 H0 σ H1 S (hA.up e1) _ fun y w H2 hy e2 r2 => q y w H2 hy (e1.trans e2) r2
  | false => exact q _ _ H1 rfl e1 (Dp.bl _)
theorem pd_or {rest : List Expr} {k j : Bool} (h : PD X Δ a (dat X.K (.bool k))) (g : PD X Δ (.BoolOp .Or (b :: rest) pos) (dat X.K (.bool j))) : PD X Δ (.BoolOp .Or (a :: b :: rest) pos) (dat X.K (.bool (k || j))) := by
  obtain ⟨t, p, f⟩ := h
  obtain ⟨u, p', f'⟩ := g
  refine ⟨_, pe_or p p', fun S0 M0 H0 σ H S hA Q q => f S0 M0 H0 σ H S hA _ fun x v H1 hx e1 r => ⟨k, by subst hx; exact dp_bool r, ?_⟩⟩
  cases k with
  | true => exact q _ _ H1 rfl e1 (Dp.bl _)
  | false => exact f' S0 M0 H0 σ H1 S (hA.up e1) _ fun y w H2 hy e2 r2 => q y w H2 hy (e1.trans e2) r2
theorem never_e : ∃ u, PE X e u := ⟨fun _ _ _ => False, ⟨fun _ _ _ _ _ _ h => h.elim⟩⟩
theorem pd_and_f {rest : List Expr} (h : PD X Δ a (dat X.K (.bool false))) : PD X Δ (.BoolOp .And (a :: b :: rest) pos) (dat X.K (.bool false)) := by
  obtain ⟨t, p, f⟩ := h
  obtain ⟨u, p'⟩ := never_e (X := X) (e := .BoolOp .And (b :: rest) pos)
  exact ⟨_, pe_and p p', fun S0 M0 H0 σ H S hA Q q => f S0 M0 H0 σ H S hA _ fun x v H1 hx e1 r => ⟨false, by subst hx; exact dp_bool r, q _ _ H1 rfl e1 (Dp.bl _)⟩⟩
theorem pd_or_t {rest : List Expr} (h : PD X Δ a (dat X.K (.bool true))) : PD X Δ (.BoolOp .Or (a :: b :: rest) pos) (dat X.K (.bool true)) := by
  obtain ⟨t, p, f⟩ := h
  obtain ⟨u, p'⟩ := never_e (X := X) (e := .BoolOp .Or (b :: rest) pos)
  exact ⟨_, pe_or p p', fun S0 M0 H0 σ H S hA Q q => f S0 M0 H0 σ H S hA _ fun x v H1 hx e1 r => ⟨true, by subst hx; exact dp_bool r, q _ _ H1 rfl e1 (Dp.bl _)⟩⟩
theorem pd_not {k : Bool} (h : PD X Δ a (dat X.K (.bool k))) : PD X Δ (.UnaryOp .Not a pos) (dat X.K (.bool (!k))) := by
  obtain ⟨t, p, f⟩ := h
  exact ⟨_, pe_not p, fun S0 M0 H0 σ H S hA Q q => f S0 M0 H0 σ H S hA _ fun x v H1 hx e1 r => ⟨k, by subst hx; exact dp_bool r, q _ _ H1 rfl e1 (Dp.bl _)⟩⟩
/-- a if c else b -/
theorem px_ifT (hc : PB X Δ c true) (ha : PX X Δ a A) : PX X Δ (.IfExp c a b pos) A := by
  obtain ⟨t, p, f⟩ := hc
  obtain ⟨ta, pa, fa⟩ := ha
  obtain ⟨tb, pb⟩ := never_e (X := X) (e := b)
  exact ⟨_, pe_ifExp p pa pb, fun S0 M0 H0 σ H S hA Q q => f S0 M0 H0 σ H S hA _ fun H1 e1 => fa S0 M0 H0 σ H1 S (hA.up e1) _ fun y w H2 hy e2 r2 => q y w H2 hy (e1.trans e2) r2⟩
theorem px_ifF (hc : PB X Δ c false) (hb : PX X Δ b A) : PX X Δ (.IfExp c a b pos) A := by
  obtain ⟨t, p, f⟩ := hc
  obtain ⟨tb, pb, fb⟩ := hb
  obtain ⟨ta, pa⟩ := never_e (X := X) (e := a)
  exact ⟨_, pe_ifExp p pa pb, fun S0 M0 H0 σ H S hA Q q => f S0 M0 H0 σ H S hA _ fun H1 e1 => fb S0 M0 H0 σ H1 S (hA.up e1) _ fun y w H2 hy e2 r2 => q y w H2 hy (e1.trans e2) r2⟩
theorem px_if {k : Bool} (hc : PB X Δ c k) (ha : k = true → PX X Δ a A) (hb : k = false → PX X Δ b A) : PX X Δ (.IfExp c a b pos) A := by
  cases k with
  | true => exact px_ifT hc (ha rfl)
  | false => exact px_ifF hc (hb rfl)
/-! ### calls -/
end
/-- R: from which things to which things -/
abbrev Cn := List Th → (Th → Prop) → Prop
/-- the promise: a thing of A, nothing that stood is changed -/
def spT (R : Cn) : Sp := fun vs H Q _ => ∃ S ths A, Dom S H ∧ All (hide S H) ths vs ∧ R ths A ∧ ∀ t v H', A t → Ex H H' → t.R (hide S H') v → Q v H'
/-- the module's name x is a def that keeps R; dts: what fills up the arguments that are left out -/
structure Gd (P : Program) (w : World) (K : PySem.W.Frag) (mg : Str → Option Value) (base : Heap) (x : Str) (k : Nat) (dts : List Th) (R : Cn) : Prop where
  ex : ∃ f fd ps ds dvs, mg x = some (.ref f) ∧ PySem.W.keepIn K (.ref f) = true ∧ Binds K fd ps ds ∧ Vals dvs ds ∧ (∀ H, All H dts dvs) ∧ FnOk P w K mg base CX0 k f fd ps (spT R)
section
variable {X : Cx} {Δ : List Sl} {e a b c : Expr} {es : List Expr} {A B C : Th → Prop} {pos : Pos}
theorem px_call {x : Str} {k : Nat} {dts : List Th} {R : Cn} {p : Pos} {B : List Th → Prop} (G : Gd X.prog X.w X.K X.mg X.base x k dts R) (hr : Room k X.A) (ha : PL X Δ (e :: es) B) (h : ∀ ts, B ts → ∃ A, R (ts ++ dts) A ∧ ∀ t, A t → C t)
    (hg : Gl X x := by rfl) (hdb : (x == ("__debug__" : Str)) = false := by decide) (he : starEach (e :: es) X.env = (false, eval e X.env) :: starEach es X.env := by rfl) (hpl : (backTo pos (starEach es X.env)).any (·.1) = false := by rfl) :
    PX X Δ (.Call (.Name x p) (e :: es) [] pos) C := by
  obtain ⟨f, fd, ps, ds, dvs, hm, hk, hb, hd, hdt, F⟩ := G.ex
  obtain ⟨t, pa, fa⟩ := ha
  refine ⟨_, pe_call (E := E0) F hr hg hm hk hb hd pass0 pa hdb he hpl, fun S0 M0 H0 σ H S hA Q q => ?_⟩
  refine fa S0 M0 H0 σ H S hA _ fun ths vs H1 hB e1 r => ?_
  obtain ⟨A, hR, hC⟩ := h ths hB
  exact ⟨S, ths ++ dts, A, (hA.up e1).dom, r.app (hdt _), hR, fun th v H2 hA2 e2 r2 => q th v H2 (hC th hA2) (e1.trans e2) r2⟩
theorem px_call0 {x : Str} {k : Nat} {dts : List Th} {R : Cn} {p : Pos} (G : Gd X.prog X.w X.K X.mg X.base x k dts R) (hr : Room k X.A) (h : ∃ A, R dts A ∧ ∀ t, A t → C t)
    (hg : Gl X x := by rfl) (hdb : (x == ("__debug__" : Str)) = false := by decide) : PX X Δ (.Call (.Name x p) [] [] pos) C := by
  obtain ⟨f, fd, ps, ds, dvs, hm, hk, hb, hd, hdt, F⟩ := G.ex
  refine ⟨_, pe_call0 (E := E0) F hr hg hm hk hb hd pass0 hdb, fun S0 M0 H0 σ H S hA Q q => ?_⟩
  obtain ⟨A, hR, hC⟩ := h
  exact ⟨S, dts, A, hA.dom, hdt _, hR, fun th v H2 hA2 e2 r2 => q th v H2 (hC th hA2) e2 r2⟩
/-- a deterministic promise -/
theorem pd_call {x : Str} {k : Nat} {dts : List Th} {R : Cn} {p : Pos} {ts : List Th} {t : Th} (G : Gd X.prog X.w X.K X.mg X.base x k dts R) (hr : Room k X.A) (ha : PLD X Δ (e :: es) ts) (h : R (ts ++ dts) (· = t))
    (hg : Gl X x := by rfl) (hdb : (x == ("__debug__" : Str)) = false := by decide) (he : starEach (e :: es) X.env = (false, eval e X.env) :: starEach es X.env := by rfl) (hpl : (backTo pos (starEach es X.env)).any (·.1) = false := by rfl) :
    PD X Δ (.Call (.Name x p) (e :: es) [] pos) t := px_call G hr ha (fun us hu => ⟨_, by rw [hu]; exact h, fun _ z => z⟩) hg hdb he hpl
/-- a built-in by its name -/
theorem px_blt {x : Str} {id : String} {r : List V → Hp → VK → Prop} {p : Pos} {B : List Th → Prop} (hc : CallR X (.builtin id) r) (hm : X.mg x = none) (ha : PL X Δ (e :: es) B)
    (f : ∀ (S : List Addr) (H : Hp) ts vs, Dom S H → B ts → All (hide S H) ts vs → ∀ Q : VK, (∀ th u H2, C th → Ex H H2 → th.R (hide S H2) u → Q u H2) → r vs H Q)
    (hv : bootBuiltins x = some (.builtin id) := by decide +kernel) (hg : Gl X x := by rfl) (hn : x ≠ "__name__" := by decide) (hdb : (x == ("__debug__" : Str)) = false := by decide) (he : starEach (e :: es) X.env = (false, eval e X.env) :: starEach es X.env := by rfl)
    (hpl : (backTo pos (starEach es X.env)).any (·.1) = false := by rfl) : PX X Δ (.Call (.Name x p) (e :: es) [] pos) C := by
  obtain ⟨t, pa, fa⟩ := ha
  refine ⟨_, pe_callB hc hg hm hv pa hn hdb he hpl, fun S0 M0 H0 σ H S hA Q q => ?_⟩
  refine fa S0 M0 H0 σ H S hA _ fun ths vs H1 hB e1 r1 => ?_
  exact f S H1 ths vs (hA.up e1).dom hB r1 Q fun th u H2 c e2 r2 => q th u H2 c (e1.trans e2) r2
theorem px_bltT {x : Str} {T : String} {r : List V → Hp → VK → Prop} {p : Pos} {B : List Th → Prop} (hc : CallR X (.type T) r) (hm : X.mg x = none) (ha : PL X Δ (e :: es) B)
    (f : ∀ (S : List Addr) (H : Hp) ts vs, Dom S H → B ts → All (hide S H) ts vs → ∀ Q : VK, (∀ th u H2, C th → Ex H H2 → th.R (hide S H2) u → Q u H2) → r vs H Q)
    (hv : bootBuiltins x = some (.type T) := by decide +kernel) (hg : Gl X x := by rfl) (hn : x ≠ "__name__" := by decide) (hdb : (x == ("__debug__" : Str)) = false := by decide) (he : starEach (e :: es) X.env = (false, eval e X.env) :: starEach es X.env := by rfl)
    (hpl : (backTo pos (starEach es X.env)).any (·.1) = false := by rfl) : PX X Δ (.Call (.Name x p) (e :: es) [] pos) C := by
  obtain ⟨t, pa, fa⟩ := ha
  refine ⟨_, pe_callTy hc hg hm hv pa hn hdb he hpl, fun S0 M0 H0 σ H S hA Q q => ?_⟩
  refine fa S0 M0 H0 σ H S hA _ fun ths vs H1 hB e1 r1 => ?_
  exact f S H1 ths vs (hA.up e1).dom hB r1 Q fun th u H2 c e2 r2 => q th u H2 c (e1.trans e2) r2
theorem all1 {H : Hp} {t : Th} {vs : List V} (h : All H [t] vs) : ∃ v, vs = [v] ∧ t.R H v := by
  match vs, h with
  | [v], h => exact ⟨v, rfl, h.1⟩
theorem all2 {H : Hp} {t u : Th} {vs : List V} (h : All H [t, u] vs) : ∃ v w, vs = [v, w] ∧ t.R H v ∧ u.R H w := by
  match vs, h with
  | [v, w], h => exact ⟨v, w, rfl, h.1, h.2.1⟩
theorem all3 {H : Hp} {t u s : Th} {vs : List V} (h : All H [t, u, s] vs) : ∃ v w x, vs = [v, w, x] ∧ t.R H v ∧ u.R H w ∧ s.R H x := by
  match vs, h with
  | [v, w, x], h => exact ⟨v, w, x, rfl, h.1, h.2.1, h.2.2.1⟩
theorem pd_int {p : Pos} {i : Int} (hm : X.mg "int" = none) (ha : PD X Δ e (dat X.K (.int i))) (hg : Gl X "int" := by rfl) (he : starEach [e] X.env = (false, eval e X.env) :: starEach [] X.env := by rfl) (hpl : (backTo pos (starEach [] X.env)).any (·.1) = false := by rfl) :
    PD X Δ (.Call (.Name "int" p) [e] [] pos) (dat X.K (.int i)) :=
  px_bltT call_int1 hm (pl_cons ha pl_nil he) (fun S H ts vs _ hB r Q q => by
    subst hB
    obtain ⟨v, rfl, r0⟩ := all1 r
    have := dp_int r0
    subst this
    exact Or.inl ⟨i, rfl, q _ _ H rfl (Ex.refl H) (Dp.int i)⟩) (by decide +kernel) hg (by decide) (by decide) he hpl
theorem pd_abs {p : Pos} {i : Int} (hm : X.mg "abs" = none) (ha : PD X Δ e (dat X.K (.int i))) (hg : Gl X "abs" := by rfl) (he : starEach [e] X.env = (false, eval e X.env) :: starEach [] X.env := by rfl) (hpl : (backTo pos (starEach [] X.env)).any (·.1) = false := by rfl) :
    PD X Δ (.Call (.Name "abs" p) [e] [] pos) (dat X.K (.int (if i < 0 then -i else i))) :=
  px_blt call_abs hm (pl_cons ha pl_nil he) (fun S H ts vs _ hB r Q q => by
    subst hB
    obtain ⟨v, rfl, r0⟩ := all1 r
    have := dp_int r0
    subst this
    exact ⟨i, rfl, q _ _ H rfl (Ex.refl H) (Dp.int _)⟩) (by decide +kernel) hg (by decide) (by decide) he hpl
/-- the length of data -/
def lenD : PyData → Option Nat
  | .tuple ds => some ds.length
  | .list ds => some ds.length
  | _ => none
theorem pd_len {p : Pos} {d : PyData} {n : Nat} (hm : X.mg "len" = none) (ha : PD X Δ e (dat X.K d)) (hl : lenD d = some n) (hg : Gl X "len" := by rfl) (he : starEach [e] X.env = (false, eval e X.env) :: starEach [] X.env := by rfl) (hpl : (backTo pos (starEach [] X.env)).any (·.1) = false := by rfl) :
    PD X Δ (.Call (.Name "len" p) [e] [] pos) (dat X.K (.int n)) :=
  px_blt call_len_seq hm (pl_cons ha pl_nil he) (fun S H ts vs _ hB r Q q => by
    subst hB
    obtain ⟨v, rfl, r0⟩ := all1 r
    cases d with
    | tuple ds =>
      obtain ⟨a, xs, rfl, hq, hd⟩ := dp_tup r0
      have e1 : ds.length = n := Option.some.inj hl
      refine ⟨a, xs, rfl, Or.inr (ex_t hide_le hq), ?_⟩
      rw [dpa_len hd, e1]
      exact q _ _ H rfl (Ex.refl H) (Dp.int _)
    | list ds =>
      obtain ⟨a, xs, rfl, hq, hd⟩ := dp_lst r0
      have e1 : ds.length = n := Option.some.inj hl
      refine ⟨a, xs, rfl, Or.inl (ex_l hide_le hq), ?_⟩
      rw [dpa_len hd, e1]
      exact q _ _ H rfl (Ex.refl H) (Dp.int _)
    | none => cases hl
    | bool _ => cases hl
    | int _ => cases hl
    | str _ => cases hl
    | dict _ => cases hl) (by decide +kernel) hg (by decide) (by decide) he hpl
theorem pd_gcd {x : Str} {p : Pos} {i j : Int} (hm : X.mg x = some (.builtin "math.gcd")) (ha : PD X Δ a (dat X.K (.int i))) (hb : PD X Δ b (dat X.K (.int j))) (hg : Gl X x := by rfl) (hdb : (x == ("__debug__" : Str)) = false := by decide)
    (he1 : starEach [b] X.env = (false, eval b X.env) :: starEach [] X.env := by rfl) (he : starEach [a, b] X.env = (false, eval a X.env) :: starEach [b] X.env := by rfl) (hpl : (backTo pos (starEach [b] X.env)).any (·.1) = false := by rfl) :
    PD X Δ (.Call (.Name x p) [a, b] [] pos) (dat X.K (.int ((Nat.gcd i.natAbs j.natAbs : Nat) : Int))) := by
  obtain ⟨t, pa, fa⟩ := pl_cons ha (pl_cons hb pl_nil he1) he
  refine ⟨_, pe_callBfun cr_gcd hg hm pa hdb he hpl, fun S0 M0 H0 σ H S hA Q q => ?_⟩
  refine fa S0 M0 H0 σ H S hA _ fun ths vs H1 hB e1 r1 => ?_
  subst hB
  obtain ⟨v, w, rfl, r, r'⟩ := all2 r1
  have := dp_int r
  have := dp_int r'
  subst v; subst w
  exact ⟨i, j, rfl, q _ _ H1 rfl e1 (Dp.int _)⟩
/-! isinstance -/
def tyD : PyData → String
  | .none => "NoneType"
  | .bool _ => "bool"
  | .int _ => "int"
  | .str _ => "str"
  | .list _ => "list"
  | .tuple _ => "tuple"
  | .dict _ => "dict"
theorem frz_l {H : Hp} {a : Addr} {o : Obj} {xs : List V} {K : PySem.W.Frag} (h : H a = some (.frz o (.lst xs))) : TyX K H (.ref a) (.type "list") := .base (.frz h)
theorem sq_tyL {K : PySem.W.Frag} {H : Hp} {a : Addr} {xs : List V} (h : SqL K H a xs) : TyX K H (.ref a) (.type "list") := by
  rcases h with (h | ⟨o, h⟩) | h
  · exact .base (.lst h)
  · exact frz_l h
  · obtain ⟨o, its, n, e, c, _⟩ := h
    exact .kList e c
theorem sq_tyT {K : PySem.W.Frag} {H : Hp} {a : Addr} {xs : List V} (h : SqT K H a xs) : TyX K H (.ref a) (.type "tuple") := by
  rcases h with (h | ⟨o, h⟩) | h
  · exact .base (.tup h)
  · exact .fTuple h
  · obtain ⟨o, its, n, e, c, _⟩ := h
    exact .kTuple e c
theorem dp_ty {K : PySem.W.Frag} {H : Hp} {v : V} {d : PyData} (h : Dp K H v d) : TyX K H v (.type (tyD d)) := by
  cases h with
  | non => exact .base .non
  | bl b => exact .base (.bl b)
  | int i => exact .base (.int i)
  | str x => exact .base (.str x)
  | lst h _ => exact sq_tyL h
  | tup h _ => exact sq_tyT h
/-- a built-in class as a value -/
def tyT (n : String) : Th := ⟨fun _ v => v = .ty n, fun _ _ _ _ h => h⟩
theorem pd_tyN {x : Str} {n : String} (hm : X.mg x = none) (hv : bootBuiltins x = some (.type n) := by decide +kernel) (hg : Gl X x := by rfl) (hn : x ≠ "__name__" := by decide) (hd : (x == ("__debug__" : Str)) = false := by decide) : PD X Δ (.Name x pos) (tyT n) :=
  ⟨_, pe_bltn hg hm hv (show RelV (.ty n) _ from rfl) hn hd, fun _ _ _ _ H S _ Q q => q _ _ H rfl (Ex.refl H) rfl⟩
theorem pd_isi {p : Pos} {d : PyData} {n : String} {k : Bool} (hm : X.mg "isinstance" = none) (ha : PD X Δ a (dat X.K d)) (hb : PD X Δ b (tyT n)) (hk : kitB (tyD d) n = some k) (hg : Gl X "isinstance" := by rfl)
    (he1 : starEach [b] X.env = (false, eval b X.env) :: starEach [] X.env := by rfl) (he : starEach [a, b] X.env = (false, eval a X.env) :: starEach [b] X.env := by rfl) (hpl : (backTo pos (starEach [b] X.env)).any (·.1) = false := by rfl) :
    PD X Δ (.Call (.Name "isinstance" p) [a, b] [] pos) (dat X.K (.bool k)) :=
  px_blt call_isi hm (pl_cons ha (pl_cons hb pl_nil he1) he) (fun S H ts vs _ hB r Q q => by
    subst hB
    obtain ⟨v, w, rfl, r0, r2⟩ := all2 r
    have r' : w = .ty n := r2
    subst r'
    exact ⟨v, .ty n, _, _, k, rfl, .ty n, dp_ty (dp_up hide_le r0), kit_ty hk, q _ _ H rfl (Ex.refl H) (Dp.bl k)⟩) (by decide +kernel) hg (by decide) (by decide) he hpl
end
end DL
set_option Elab.async false
set_option linter.all false
set_option maxRecDepth 100000
/-! Statements, loops, defs. -/
namespace DL
open PySem PySem.Spec PyProof.Rows L2

/-- what is wanted behind a piece -/
structure Post where
  nx : List Sl → Prop
  rt : Th → Prop
  bk : List Sl → Prop := fun _ => False
  ct : List Sl → Prop := fun _ => False
  xc : Addr → List (Str × Th) → List Sl → Prop := fun _ _ _ => False
  /-- the def's own level: no list of a caller's may be changed -/
  top : Bool := false
/-- what an exception carries -/
def XF (H : Hp) (d : Option Addr) (fs : List (Str × Th)) : Prop := (fs = [] ∧ d = none) ∨ fs ≠ [] ∧ ∃ a kvs, d = some a ∧ H a = some (.xd kvs) ∧ ∀ f t, fs.lookup f = some t → ∃ v, kvs.lookup f = some v ∧ t.R H v
theorem XF.up {H H' : Hp} (e : Ex H H') {d : Option Addr} {fs : List (Str × Th)} (h : XF H d fs) : XF H' d fs := by
  rcases h with h | ⟨ne, a, kvs, e1, e2, h⟩
  · exact Or.inl h
  · exact Or.inr ⟨ne, a, kvs, e1, e a _ e2, fun f t hf => let ⟨v, q, r⟩ := h f t hf; ⟨v, q, t.up _ _ _ e r⟩⟩
/-- the exceptions that the piece may let out are wished -/
def XW (S0 M0 : List Addr) (H0 : Hp) (P : Post) (W : WX) : Prop := (∀ σ H C fs d Δ S, P.xc C fs Δ → At S0 M0 H0 Δ σ H S → XF (hide S H) d fs → (∀ a, d = some a → a ∉ S) → W (.ref C) d σ H) ∧ (P.top = true → M0 = [] ∧ Dom S0 H0)
def ends (S0 M0 : List Addr) (H0 : Hp) (P : Post) : Ends where
  nx := fun σ H => ∃ Δ S, P.nx Δ ∧ At S0 M0 H0 Δ σ H S
  rt := fun v H => ∃ t, P.rt t ∧ Ex (hide M0 H0) H ∧ t.R (hide S0 H) v
  bk := fun σ H => ∃ Δ S, P.bk Δ ∧ At S0 M0 H0 Δ σ H S
  ct := fun σ H => ∃ Δ S, P.ct Δ ∧ At S0 M0 H0 Δ σ H S
structure Le (D D' : Ends) : Prop where
  nx : ∀ σ H, D.nx σ H → D'.nx σ H
  rt : ∀ v H, D.rt v H → D'.rt v H
  bk : ∀ σ H, D.bk σ H → D'.bk σ H
  ct : ∀ σ H, D.ct σ H → D'.ct σ H
def SS (X : Cx) (W : WX) (st : Stmt) (P : Post) (Δ : List Sl) : Prop :=
  ∃ t : TS, PS X st t ∧ ∀ S0 M0 H0 σ H S, At S0 M0 H0 Δ σ H S → ∀ D, Le (ends S0 M0 H0 P) D → XW S0 M0 H0 P W → t D σ H
def SD (X : Cx) (W : WX) (sts : List Stmt) (P : Post) (Δ : List Sl) : Prop :=
  ∃ t : TS, PSs X sts t ∧ ∀ S0 M0 H0 σ H S, At S0 M0 H0 Δ σ H S → ∀ D, Le (ends S0 M0 H0 P) D → XW S0 M0 H0 P W → t D σ H
/-- the piece's own ends seen from the whole -/
theorem ends_lift {S0 M0 S M1 : List Addr} {H0 H : Hp} {Δ : List Sl} {σ : L2.St} {P : Post} {D : Ends} (A : At S0 M0 H0 Δ σ H S) (hM : ∀ a ∈ M1, a ∈ M0 ∨ H0 a = none) (le : Le (ends S0 M0 H0 P) D) : Le (ends S M1 H P) D := by
  refine ⟨fun σ1 H1 ⟨Δ1, S1, p, B⟩ => le.nx _ _ ⟨Δ1, S1, p, A.lift hM B⟩, fun v H1 ⟨t, p, e, r⟩ => le.rt _ _ ⟨t, p, fun a o h => ?_, t.up _ _ _ (hide_sub A.sub) r⟩, fun σ1 H1 ⟨Δ1, S1, p, B⟩ => le.bk _ _ ⟨Δ1, S1, p, A.lift hM B⟩, fun σ1 H1 ⟨Δ1, S1, p, B⟩ => le.ct _ _ ⟨Δ1, S1, p, A.lift hM B⟩⟩
  have n0 : a ∉ M0 := fun z => by rw [hide_in z] at h; cases h
  have h' : H0 a = some o := by rw [hide_out n0] at h; exact h
  have n1 : a ∉ M1 := fun z => by
    rcases hM a z with z | z
    · exact n0 z
    · rw [z] at h'; cases h'
  exact e a o (by rw [hide_out n1]; exact A.ex a o h)

theorem xw_lift {S0 M0 S M1 : List Addr} {H0 H : Hp} {Δ : List Sl} {σ : L2.St} {P P' : Post} {W : WX} (A : At S0 M0 H0 Δ σ H S) (hM : ∀ a ∈ M1, a ∈ M0 ∨ H0 a = none) (xw : XW S0 M0 H0 P W) (hx : ∀ C fs Δ, P'.xc C fs Δ → P.xc C fs Δ) (ht : P'.top = false) : XW S M1 H P' W :=
  ⟨fun σ1 H1 C fs d Δ1 S1 p B r nd => xw.1 σ1 H1 C fs d Δ1 S1 (hx _ _ _ p) (A.lift hM B) r nd, fun z => by rw [ht] at z; cases z⟩
theorem xw_is {S0 M0 : List Addr} {H0 : Hp} {P P' : Post} {W : WX} (xw : XW S0 M0 H0 P W) (hx : ∀ C fs Δ, P'.xc C fs Δ → P.xc C fs Δ) (ht : P'.top = true → P.top = true) : XW S0 M0 H0 P' W :=
  ⟨fun σ1 H1 C fs d Δ1 S1 p B r nd => xw.1 σ1 H1 C fs d Δ1 S1 (hx _ _ _ p) B r nd, fun z => xw.2 (ht z)⟩

section
variable {X : Cx} {Δ : List Sl} {e a b c : Expr} {es : List Expr} {A B C : Th → Prop} {pos : Pos} {P : Post} {rest body els : List Stmt} {st : Stmt} {W : WX}
theorem Le.of_nx {S0 M0 : List Addr} {H0 : Hp} {D : Ends} {N : L2.St → Hp → Prop} {Nx : List Sl → Prop} (le : Le (ends S0 M0 H0 P) D) (h : ∀ σ H Δ S, Nx Δ → At S0 M0 H0 Δ σ H S → N σ H) : Le (ends S0 M0 H0 { P with nx := Nx }) { D with nx := N } :=
  ⟨fun σ H ⟨Δ, S, p, hA⟩ => h σ H Δ S p hA, le.rt, le.bk, le.ct⟩
theorem sd_nil (h : P.nx Δ) : SD X W [] P Δ := ⟨_, pss_nil, fun S0 M0 H0 σ H S hA D le xw => le.nx _ _ ⟨Δ, S, h, hA⟩⟩
theorem sd_cons (h : SS X W st { P with nx := fun Δ' => SD X W rest P Δ' } Δ) : SD X W (st :: rest) P Δ := by
  obtain ⟨t, p, f⟩ := h
  have q : PSs X rest (fun D σ H => ∃ u, PSs X rest u ∧ u D σ H) := ⟨fun pins s σ H D I ⟨u, pu, hu⟩ => pu.run pins s σ H D I hu⟩
  refine ⟨_, pss_cons p q, fun S0 M0 H0 σ H S hA D le xw => ?_⟩
  refine f S0 M0 H0 σ H S hA _ (le.of_nx fun σ1 H1 Δ1 S1 ⟨u, pu, fu⟩ hA1 => ⟨u, pu, fu S0 M0 H0 σ1 H1 S1 hA1 D le xw⟩) xw
theorem SS.imp {P' : Post} (h : SS X W st P Δ) (n : ∀ Δ, P.nx Δ → P'.nx Δ) (r : ∀ t, P.rt t → P'.rt t) (bk : ∀ Δ, P.bk Δ → P'.bk Δ) (ct : ∀ Δ, P.ct Δ → P'.ct Δ) (xc : ∀ C fs Δ, P.xc C fs Δ → P'.xc C fs Δ) (tp : P.top = true → P'.top = true) : SS X W st P' Δ := by
  obtain ⟨t, p, f⟩ := h
  exact ⟨t, p, fun S0 M0 H0 σ H S hA D le xw => f S0 M0 H0 σ H S hA D ⟨fun σ H ⟨Δ, S, q, x⟩ => le.nx _ _ ⟨Δ, S, n _ q, x⟩, fun v H ⟨t, q, x⟩ => le.rt _ _ ⟨t, r _ q, x⟩, fun σ H ⟨Δ, S, q, x⟩ => le.bk _ _ ⟨Δ, S, bk _ q, x⟩, fun σ H ⟨Δ, S, q, x⟩ => le.ct _ _ ⟨Δ, S, ct _ q, x⟩⟩ (xw_is xw xc tp)⟩
theorem SD.imp {P' : Post} {sts : List Stmt} (h : SD X W sts P Δ) (n : ∀ Δ, P.nx Δ → P'.nx Δ) (r : ∀ t, P.rt t → P'.rt t) (bk : ∀ Δ, P.bk Δ → P'.bk Δ) (ct : ∀ Δ, P.ct Δ → P'.ct Δ) (xc : ∀ C fs Δ, P.xc C fs Δ → P'.xc C fs Δ) (tp : P.top = true → P'.top = true) : SD X W sts P' Δ := by
  obtain ⟨t, p, f⟩ := h
  exact ⟨t, p, fun S0 M0 H0 σ H S hA D le xw => f S0 M0 H0 σ H S hA D ⟨fun σ H ⟨Δ, S, q, x⟩ => le.nx _ _ ⟨Δ, S, n _ q, x⟩, fun v H ⟨t, q, x⟩ => le.rt _ _ ⟨t, r _ q, x⟩, fun σ H ⟨Δ, S, q, x⟩ => le.bk _ _ ⟨Δ, S, bk _ q, x⟩, fun σ H ⟨Δ, S, q, x⟩ => le.ct _ _ ⟨Δ, S, ct _ q, x⟩⟩ (xw_is xw xc tp)⟩
/-- x = e -/
theorem ss_asg (i : Nat) {x : Str} {p : Pos} (he : PX X Δ e A) (k : ∀ t, A t → P.nx (Δ.set i (.th t))) (hN : X.N.Nodup) (hi : X.N[i]? = some x := by rfl) (hx : Loc X.env.scope x := by first | exact Or.inl rfl | exact Or.inr rfl)
    (hs : swapsWith e (some (.Name x p)) pos.line X.env = pure false := by rfl) (hw : swappedStores [.Name x p] e X.env = pure none := by rfl)
    (hf : X.fn x = true ∨ X.env.scope.names.lookup x = some .local := by first | exact .inl rfl | exact .inr rfl) : SS X W (.Assign [.Name x p] e pos) P Δ := by
  obtain ⟨t, pe, f⟩ := he
  exact ⟨_, ps_asg pe (pg_name hN hi hx hf) hs hw, fun S0 M0 H0 σ H S hA D le xw => f S0 M0 H0 σ H S hA _ fun th v H2 ha e2 r => le.nx _ _ ⟨_, S, k th ha, (hA.up e2).set r⟩⟩
theorem sd_asg (i : Nat) {x : Str} {p : Pos} {t : Th} (he : PD X Δ e t) (k : SD X W rest P (Δ.set i (.th t))) (hN : X.N.Nodup) (hi : X.N[i]? = some x := by rfl) (hx : Loc X.env.scope x := by first | exact Or.inl rfl | exact Or.inr rfl)
    (hs : swapsWith e (some (.Name x p)) pos.line X.env = pure false := by rfl) (hw : swappedStores [.Name x p] e X.env = pure none := by rfl)
    (hf : X.fn x = true ∨ X.env.scope.names.lookup x = some .local := by first | exact .inl rfl | exact .inr rfl) : SD X W (.Assign [.Name x p] e pos :: rest) P Δ :=
  sd_cons (ss_asg i he (fun _ h => by subst h; exact k) hN hi hx hs hw hf)
theorem sd_asgX (i : Nat) {x : Str} {p : Pos} (he : PX X Δ e A) (k : ∀ t, A t → SD X W rest P (Δ.set i (.th t))) (hN : X.N.Nodup) (hi : X.N[i]? = some x := by rfl) (hx : Loc X.env.scope x := by first | exact Or.inl rfl | exact Or.inr rfl)
    (hs : swapsWith e (some (.Name x p)) pos.line X.env = pure false := by rfl) (hw : swappedStores [.Name x p] e X.env = pure none := by rfl)
    (hf : X.fn x = true ∨ X.env.scope.names.lookup x = some .local := by first | exact .inl rfl | exact .inr rfl) : SD X W (.Assign [.Name x p] e pos :: rest) P Δ :=
  sd_cons (ss_asg i he k hN hi hx hs hw hf)
/-- return e -/
theorem ss_ret (he : PX X Δ e A) (k : ∀ t, A t → P.rt t) : SS X W (.Return (some e) pos) P Δ := by
  obtain ⟨t, pe, f⟩ := he
  exact ⟨_, ps_ret pe, fun S0 M0 H0 σ H S hA D le xw => f S0 M0 H0 σ H S hA _ fun th v H2 ha e2 r => le.rt _ _ ⟨th, k th ha, (hA.up e2).ex, th.up _ _ _ (hide_sub hA.sub) r⟩⟩
theorem sd_retX (he : PX X Δ e A) (k : ∀ t, A t → P.rt t) : SD X W (.Return (some e) pos :: rest) P Δ := sd_cons (ss_ret he k)
theorem sd_ret {t : Th} (he : PD X Δ e t) (k : P.rt t) : SD X W (.Return (some e) pos :: rest) P Δ := sd_cons (ss_ret he fun _ h => by subst h; exact k)
theorem never_s {sts : List Stmt} : ∃ u, PSs X sts u := ⟨tNever, pss_never⟩
theorem ss_if {k : Bool} (hc : PB X Δ c k) (h1 : k = true → SD X W body P Δ) (h2 : k = false → SD X W els P Δ) : SS X W (.If c body els pos) P Δ := by
  obtain ⟨t, p, f⟩ := hc
  cases k with
  | true =>
    obtain ⟨u, pu, fu⟩ := h1 rfl
    obtain ⟨w, pw⟩ := never_s (X := X) (sts := els)
    exact ⟨_, ps_if p pu pw, fun S0 M0 H0 σ H S hA D le xw => f S0 M0 H0 σ H S hA _ fun H1 e1 => fu S0 M0 H0 σ H1 S (hA.up e1) D le xw⟩
  | false =>
    obtain ⟨u, pu, fu⟩ := h2 rfl
    obtain ⟨w, pw⟩ := never_s (X := X) (sts := body)
    exact ⟨_, ps_if p pw pu, fun S0 M0 H0 σ H S hA D le xw => f S0 M0 H0 σ H S hA _ fun H1 e1 => fu S0 M0 H0 σ H1 S (hA.up e1) D le xw⟩
theorem sd_if {k : Bool} (hc : PB X Δ c k) (h1 : k = true → SD X W body { P with nx := fun Δ' => SD X W rest P Δ' } Δ) (h2 : k = false → SD X W els { P with nx := fun Δ' => SD X W rest P Δ' } Δ) : SD X W (.If c body els pos :: rest) P Δ := sd_cons (ss_if hc h1 h2)
theorem sd_ifT (hc : PB X Δ c true) (h1 : SD X W body { P with nx := fun Δ' => SD X W rest P Δ' } Δ) : SD X W (.If c body els pos :: rest) P Δ := sd_if hc (fun _ => h1) (fun z => nomatch z)
theorem sd_ifF (hc : PB X Δ c false) (h2 : SD X W els { P with nx := fun Δ' => SD X W rest P Δ' } Δ) : SD X W (.If c body els pos :: rest) P Δ := sd_if hc (fun z => nomatch z) (fun _ => h2)
/-- if c: .. without else, c False -/
theorem sd_skip (hc : PB X Δ c false) (h2 : SD X W rest P Δ) : SD X W (.If c body [] pos :: rest) P Δ := sd_ifF hc (sd_nil h2)
/-- if c: (leaves) ; rest -/
theorem sd_when {k : Bool} (hc : PB X Δ c k) (h1 : k = true → SD X W body { P with nx := fun Δ' => SD X W rest P Δ' } Δ) (h2 : k = false → SD X W rest P Δ) : SD X W (.If c body [] pos :: rest) P Δ := sd_if hc h1 fun z => sd_nil (h2 z)
/-- a, b = e, e a tuple (or a list) of two -/
theorem sd_tup2 (i j : Nat) {x y : Str} {px py pt : Pos} {kk : Nat} {d d' : PyData} (he : PD X Δ e (dat X.K (.tuple [d, d']))) (k : SD X W rest P ((Δ.set i (.th (dat X.K d))).set j (.th (dat X.K d')))) (hN : X.N.Nodup)
    (hc : X.calm = true := by rfl) (hi : X.N[i]? = some x := by rfl) (hj : X.N[j]? = some y := by rfl) (hx : Loc X.env.scope x := by first | exact Or.inl rfl | exact Or.inr rfl) (hy : Loc X.env.scope y := by first | exact Or.inl rfl | exact Or.inr rfl)
    (hn : (assignEach [.Name x px, .Name y py] X.env).length = 2 := by rfl) (hst : (assignEach [.Name x px, .Name y py] X.env).findIdx? (·.1) = none := by rfl)
    (hs : swapsWithSole [.Tuple [.Name x px, .Name y py] kk pt] e pos.line X.env = pure false := by rfl) (hw : swappedStores [.Tuple [.Name x px, .Name y py] kk pt] e X.env = pure none := by rfl)
    (hf : X.fn x = true ∨ X.env.scope.names.lookup x = some .local := by first | exact .inl rfl | exact .inr rfl) (hf' : X.fn y = true ∨ X.env.scope.names.lookup y = some .local := by first | exact .inl rfl | exact .inr rfl) :
    SD X W (.Assign [.Tuple [.Name x px, .Name y py] kk pt] e pos :: rest) P Δ := by
  refine sd_cons ?_
  obtain ⟨t, pe, f⟩ := he
  refine ⟨_, ps_asg pe (pg_tup hc (pgs_cons (pg_name hN hi hx hf) (pgs_cons (pg_name hN hj hy hf') pgs_nil)) hn hst) hs hw, fun S0 M0 H0 σ H S hA D le xw => f S0 M0 H0 σ H S hA _ fun th v H2 ha e2 r => ?_⟩
  subst ha
  obtain ⟨p, xs, rfl, hq, hd⟩ := dp_tup r
  have hA2 := hA.up e2
  cases hd with
  | cons r1 hd =>
    cases hd with
    | cons r2 hd =>
      cases hd
      refine ⟨p, _, rfl, ex_t hide_le hq, rfl, _, _, rfl, _, _, rfl, rfl, ?_⟩
      exact le.nx _ _ ⟨_, S, k, (hA2.set (t := dat X.K d) r1).set (t := dat X.K d') r2⟩
end

/-! ### a def -/
def startΔ (N : List Str) (ts : List Th) : List Sl := ts.map Sl.th ++ List.replicate (N.length - ts.length) .no
theorem sls_start {S : List Addr} {H : Hp} {n : Nat} : ∀ {ts : List Th} {vs : List V}, All (hide S H) ts vs → SlsR S H (ts.map Sl.th ++ List.replicate n .no) (vs.map some ++ List.replicate n none)
  | [], [], _ => by
    show SlsR S H (List.replicate n .no) (List.replicate n none)
    induction n with
    | zero => trivial
    | succ n ih => exact ⟨trivial, ih⟩
  | t :: ts, v :: vs, h => ⟨⟨v, rfl, h.1⟩, sls_start h.2⟩
  | [], _ :: _, h => h.elim
  | _ :: _, [], h => h.elim
theorem start_ml {ts : List Th} {n i : Nat} {ws : List Th} (h : (ts.map Sl.th ++ List.replicate n .no)[i]? = some (.ml ws)) : False := by
  rw [List.getElem?_append] at h
  split at h
  · rw [List.getElem?_map] at h
    cases q : ts[i]? with
    | none => rw [q] at h; cases h
    | some t => rw [q] at h; cases h
  · rw [List.getElem?_replicate] at h
    split at h <;> cases h
/-- what a def hands back -/
def retOf (K : PySem.W.Frag) (A : Th → Prop) : Post := { nx := fun _ => A (dat K .none), rt := A, top := true }
section
variable {P : Program} {w : World} {K : PySem.W.Frag} {mg : Str → Option Value} {base : Heap}
theorem ends_ret {S : List Addr} {H : Hp} {A : Th → Prop} {Q : VK} (k : ∀ t v H', A t → Ex H H' → t.R (hide S H') v → Q v H') : Le (ends S [] H (retOf K A)) { nx := fun _ H' => Q .non H', rt := Q } := by
  have ex0 : ∀ H', Ex (hide [] H) H' → Ex H H' := fun H' e a o h => e a o (by rw [hide_out (by simp)]; exact h)
  exact ⟨fun σ H' ⟨Δ, S', p, hA⟩ => k _ _ _ p (ex0 _ hA.ex) Dp.non, fun v H' ⟨t, p, e, r⟩ => k t v H' p (ex0 _ e) r, fun _ _ ⟨_, _, p, _⟩ => p.elim, fun _ _ ⟨_, _, p, _⟩ => p.elim⟩
theorem at_start {S : List Addr} {H : Hp} {N : List Str} {ts : List Th} {vs : List V} (dom : Dom S H) (r : All (hide S H) ts vs) : At S [] H (startΔ N ts) (start N vs) H S := by
  refine ⟨fun _ h => h, (fun _ h => by cases h), fun _ h => Or.inl h, hide_le, dom, ?_, fun i j ts us a h1 => (start_ml h1).elim, fun i ts a h1 => (start_ml h1).elim⟩
  unfold startΔ L2.start
  rw [r.len]
  exact sls_start r
/-- THE RULE for a def -/
theorem fn_mk {x qual : Str} {st : Stmt} {f : Addr} {fd : FuncData} {N ps : List Str} {k : Nat} {R : Cn} (F : Fun K x qual st f fd) (Sc : FnScope N ps (defScope st)) (hl : ∀ ts A, R ts A → ts.length = ps.length)
    (body : ∀ (cdv : Value) (A : Around) (outer : List Env) (s : Shared) (H : Hp) (E : XK), Room k (A.deeper (envOfC qual (defScope st) s.heap.objs.size f cdv)) → ∀ ts B, R ts B →
      SD (cxOf CX0 P w K mg base N qual (defScope st) f cdv A outer s H E).nox (fun _ _ _ _ => False) (defBody st) (retOf K B) (startΔ N ts)) : FnOk P w K mg base CX0 (k + 1) f fd ps (spT R) := by
  refine F.ok Sc (fun vs H Q E ⟨S, ths, A, _, r, hR, _⟩ => by rw [← r.len]; exact hl _ _ hR) fun cdv A outer s H vs Q E hr ⟨S, ths, B, dom, r, hR, k⟩ => ?_
  obtain ⟨t, p, f⟩ := body cdv A outer s H E hr ths B hR
  exact ⟨t, p, f S [] H _ H S (at_start dom r) _ (ends_ret k) ⟨fun _ _ _ _ _ _ _ p => p.elim, fun _ => ⟨rfl, dom⟩⟩⟩
theorem gd_mk {x : Str} {k : Nat} {R : Cn} {f : Addr} {fd : FuncData} {ps : List Str} (hm : mg x = some (.ref f)) (hk : PySem.W.keepIn K (.ref f) = true) (hb : Binds K fd ps []) (F : FnOk P w K mg base CX0 k f fd ps (spT R)) : Gd P w K mg base x k [] R :=
  ⟨f, fd, ps, [], [], hm, hk, hb, .nil, fun _ => trivial, F⟩
end
end DL
set_option Elab.async false
set_option linter.all false
set_option maxRecDepth 100000
/-! Loops; lists that are filled; a comprehension; globals. -/
namespace DL
open PySem PySem.Spec PyProof.Rows L2
section
variable {X : Cx} {Δ : List Sl} {e a b c : Expr} {es : List Expr} {A B C : Th → Prop} {pos : Pos} {P : Post} {rest body els : List Stmt} {st : Stmt} {W : WX}
theorem sd_while (I : Nat → List Sl → Prop) (h0 : ∃ m, I m Δ)
    (step : ∀ m Δ', I m Δ' → ∃ k, PB X Δ' c k ∧ (k = true → SD X W body { P with nx := fun Δ2 => ∃ m', m' < m ∧ I m' Δ2, ct := fun Δ2 => ∃ m', m' < m ∧ I m' Δ2, bk := fun Δ2 => SD X W rest P Δ2 } Δ') ∧ (k = false → SD X W rest P Δ'))
    (hp : PassesOwn (model X.prog X.w) X.A X.env X.xe := by exact PassesOwn.never) : SD X W (.While c body [] pos :: rest) P Δ := by
  refine sd_cons ?_
  -- the test's and the body's readings, whatever the state
  have qc : PT X c (fun σ H Q => ∃ t, PT X c t ∧ t σ H Q) := ⟨fun pins s σ H Q J ⟨t, p, h⟩ => p.run pins s σ H Q J h⟩
  have qb : PSs X body (fun D σ H => ∃ t, PSs X body t ∧ t D σ H) := ⟨fun pins s σ H D J ⟨t, p, h⟩ => p.run pins s σ H D J h⟩
  refine ⟨_, ps_while hp qc qb, fun S0 M0 H0 σ H S hA D le xw => ?_⟩
  refine ⟨fun m σ' H' => ∃ Δ' S', I m Δ' ∧ At S0 M0 H0 Δ' σ' H' S', ?_, fun m σ' H' ⟨Δ', S', i', hA'⟩ => ?_⟩
  · obtain ⟨m, i0⟩ := h0
    exact ⟨m, Δ, S, i0, hA⟩
  · obtain ⟨k, ⟨t, p, f⟩, h1, h2⟩ := step m Δ' i'
    refine ⟨t, p, f S0 M0 H0 σ' H' S' hA' _ fun H1 e1 => ?_⟩
    cases k with
    | true =>
      obtain ⟨u, pu, fu⟩ := h1 rfl
      refine ⟨fun σ2 H2 => ∃ Δ2 S2, (∃ m', m' < m ∧ I m' Δ2) ∧ At S0 M0 H0 Δ2 σ2 H2 S2, fun σ2 H2 ⟨Δ2, S2, ⟨m', l, i2⟩, hA2⟩ => ⟨m', l, Δ2, S2, i2, hA2⟩, u, pu, ?_⟩
      exact fu S0 M0 H0 σ' H1 S' (hA'.up e1) _ ⟨fun _ _ z => z, le.rt, le.nx, fun _ _ z => z⟩ (xw_is xw (fun _ _ _ z => z) fun z => z)
    | false => exact le.nx _ _ ⟨Δ', S', h2 rfl, hA'.up e1⟩
/-- for x in range(n) -/
theorem sd_forR {x : Str} {px p pos2 : Pos} (j : Nat) {n : Int} (I : Nat → List Sl → Prop) (hm : X.mg "range" = none) (he : PD X Δ e (dat X.K (.int n))) (hn : n < 2 ^ 62) (hn0 : -(2 ^ 62) ≤ n) (h0 : I 0 Δ)
    (step : ∀ (i : Nat) Δ', (i : Int) < n → I i Δ' → SD X W body { P with nx := I (i + 1), ct := I (i + 1), bk := fun Δ2 => SD X W rest P Δ2 } (Δ'.set j (.th (dat X.K (.int (i : Int))))))
    (hd : ∀ Δ', I n.toNat Δ' → SD X W rest P Δ') (hN : X.N.Nodup) (hc : X.calm = true := by rfl) (hg : Gl X "range" := by rfl) (hi : X.N[j]? = some x := by rfl) (hx : Loc X.env.scope x := by first | exact Or.inl rfl | exact Or.inr rfl)
    (hf : X.fn x = true ∨ X.env.scope.names.lookup x = some .local := by first | exact .inl rfl | exact .inr rfl)
    (hse : starEach [e] X.env = (false, eval e X.env) :: starEach [] X.env := by rfl) (hs1 : starEach [e] X.env = [(false, eval e X.env)] := by rfl)
    (hp : PassesOwn (model X.prog X.w) X.A X.env X.xe := by exact PassesOwn.never) : SD X W (.For (.Name x px) (.Call (.Name "range" p) [e] [] pos2) body [] pos :: rest) P Δ := by
  refine sd_cons ?_
  obtain ⟨t, pa, fa⟩ := pl_cons he pl_nil hse
  have qb : PSs X body (fun D σ H => ∃ t, PSs X body t ∧ t D σ H) := ⟨fun pins s σ H D J ⟨t, p, h⟩ => p.run pins s σ H D J h⟩
  refine ⟨_, ps_for hp hc (pi_range1 hg hm pa hs1) (pg_name hN hi hx hf) qb, fun S0 M0 H0 σ H S hA D le xw => ?_⟩
  refine fa S0 M0 H0 σ H S hA _ fun ths vs H1 ht e1 r => ?_
  subst ht
  obtain ⟨v, rfl, r0⟩ := all1 r
  have := dp_int r0
  subst this
  refine ⟨n, rfl, hn0, hn, for_range (lo := 0) (n := n.toNat) (g := gName j) (tb := fun D σ H => ∃ t, PSs X body t ∧ t D σ H) (fun i σ' H' => ∃ Δ' S', I i Δ' ∧ At S0 M0 H0 Δ' σ' H' S') ⟨Δ, S, h0, hA.up e1⟩ (fun i σ' H' hi' ⟨Δ', S', i', hA'⟩ => ?_) (fun σ' H' ⟨Δ', S', i', hA'⟩ => le.nx _ _ ⟨Δ', S', hd Δ' i', hA'⟩)⟩
  obtain ⟨u, pu, fu⟩ := step i Δ' (by omega) i'
  have e0 : (0 : Int) + (i : Int) = (i : Int) := Int.zero_add _
  refine ⟨u, pu, ?_⟩
  rw [e0]
  exact fu S0 M0 H0 _ H' S' (hA'.set (t := dat X.K (.int (i : Int))) (Dp.int _)) _ ⟨fun _ _ z => z, le.rt, le.nx, fun _ _ z => z⟩ (xw_is xw (fun _ _ _ z => z) fun z => z)
theorem hide_new {S M S1 : List Addr} {H H1 : Hp} (hMS : ∀ a ∈ M, a ∈ S) (ex : Ex (hide M H) H1) (new : ∀ a ∈ S1, a ∈ S ∨ H a = none) : Ex (hide S H) (hide S1 H1) := fun a o h => by
  have n0 : a ∉ S := fun z => by rw [hide_in z] at h; cases h
  have h' : H a = some o := by rw [hide_out n0] at h; exact h
  have n1 : a ∉ S1 := fun z => by
    rcases new a z with z | z
    · exact n0 z
    · rw [z] at h'; cases h'
  rw [hide_out n1]
  exact ex a o (by rw [hide_out fun z => n0 (hMS a z)]; exact h')
theorem At.hid {S0 M0 S : List Addr} {H0 H : Hp} {Δ : List Sl} {σ : L2.St} (A : At S0 M0 H0 Δ σ H S) : Ex (hide S0 H0) (hide S H) := hide_new A.msub A.ex A.new
/-- for x in e, e data: a list or a tuple -/
theorem sd_forD {x : Str} {px : Pos} (j : Nat) {d : PyData} {ds : List PyData} (I : Nat → List Sl → Prop) (he : PD X Δ e (dat X.K d)) (hd0 : d = .tuple ds ∨ d = .list ds) (h0 : I 0 Δ)
    (step : ∀ (i : Nat) z Δ', ds[i]? = some z → I i Δ' → SD X W body { P with nx := I (i + 1), ct := I (i + 1), bk := fun Δ2 => SD X W rest P Δ2, top := false } (Δ'.set j (.th (dat X.K z))))
    (hd : ∀ Δ', I ds.length Δ' → SD X W rest P Δ') (hN : X.N.Nodup) (hc : X.calm = true := by rfl) (hi : X.N[j]? = some x := by rfl) (hx : Loc X.env.scope x := by first | exact Or.inl rfl | exact Or.inr rfl)
    (hf : X.fn x = true ∨ X.env.scope.names.lookup x = some .local := by first | exact .inl rfl | exact .inr rfl)
    (hp : PassesOwn (model X.prog X.w) X.A X.env X.xe := by exact PassesOwn.never) (hfs : ∀ x, foldedSetIterable e X.env x = pure x := by intro _; rfl) : SD X W (.For (.Name x px) e body [] pos :: rest) P Δ := by
  refine sd_cons ?_
  obtain ⟨t, pe, f⟩ := he
  have qb : PSs X body (fun D σ H => ∃ t, PSs X body t ∧ t D σ H) := ⟨fun pins s σ H D J ⟨t, p, h⟩ => p.run pins s σ H D J h⟩
  -- one turn, from a state of the loop
  have turn : ∀ {S0 M0 S : List Addr} {H0 H H' : Hp} {σ σ' : L2.St} {D : Ends} {xs : List V} {i : Nat} {v : V} {Δ' : List Sl} {S' : List Addr}, At S0 M0 H0 Δ σ H S → Le (ends S0 M0 H0 { P with nx := fun Δ' => SD X W rest P Δ' }) D → XW S0 M0 H0 P W → DpAll X.K (hide S H) xs ds → xs[i]? = some v →
      I i Δ' → At S (mls Δ σ) H Δ' σ' H' S' → (fun D σ H => ∃ t, PSs X body t ∧ t D σ H) { D with nx := fun σ2 H2 => ∃ Δ2 S2, I (i + 1) Δ2 ∧ At S (mls Δ σ) H Δ2 σ2 H2 S2, ct := fun σ2 H2 => ∃ Δ2 S2, I (i + 1) Δ2 ∧ At S (mls Δ σ) H Δ2 σ2 H2 S2, bk := D.nx } (σ'.set j (some v)) H' := by
    intro S0 M0 S H0 H H' σ σ' D xs i v Δ' S' hA le xw hx' hv i' hA'
    obtain ⟨z, hz, r⟩ : ∃ z, ds[i]? = some z ∧ Dp X.K (hide S H) v z := by
      have hl := dpa_len hx'
      have li : i < ds.length := by rw [← hl]; exact (List.getElem?_eq_some_iff.mp hv).1
      obtain ⟨v', e1, r1⟩ := dpa_get hx' (List.getElem?_eq_getElem li)
      rw [hv] at e1
      have e2 := Option.some.inj e1
      exact ⟨ds[i], List.getElem?_eq_getElem li, by rw [e2]; exact r1⟩
    obtain ⟨u, pu, fu⟩ := step i z Δ' hz i'
    have le' := ends_lift hA hA.mown le
    exact ⟨u, pu, fu S (mls Δ σ) H _ H' S' (hA'.set (t := dat X.K z) (dp_up hA'.hid r)) _ ⟨fun _ _ q => q, le'.rt, le'.nx, fun _ _ q => q⟩ (xw_lift hA hA.mown xw (fun _ _ _ z => z) rfl)⟩
  have fin : ∀ {S0 M0 S : List Addr} {H0 H H' : Hp} {σ σ' : L2.St} {D : Ends}, At S0 M0 H0 Δ σ H S → Le (ends S0 M0 H0 { P with nx := fun Δ' => SD X W rest P Δ' }) D → (∃ Δ' S', I ds.length Δ' ∧ At S (mls Δ σ) H Δ' σ' H' S') → D.nx σ' H' :=
    fun hA le ⟨Δ', S', i', hA'⟩ => le.nx _ _ ⟨Δ', S', hd Δ' i', hA.lift hA.mown hA'⟩
  rcases hd0 with rfl | rfl
  · refine ⟨_, ps_for hp hc (pi_tup pe) (pg_name hN hi hx hf) qb hfs, fun S0 M0 H0 σ H S hA D le xw => ?_⟩
    refine f S0 M0 H0 σ H S hA _ fun th v H1 ht e1 r => ?_
    subst ht
    obtain ⟨p, xs, rfl, hq, hxs⟩ := dp_tup r
    have hA1 := hA.up e1
    refine ⟨p, rfl, ⟨xs, ex_t hide_le hq⟩, for_tup (K := X.K) (a := p) (xs := xs) (g := gName j) (tb := fun D σ H => ∃ t, PSs X body t ∧ t D σ H) (fun i σ' H' => ∃ Δ' S', I i Δ' ∧ At S (mls Δ σ) H1 Δ' σ' H' S') ⟨Δ, S, h0, hA1.here⟩ (fun i σ' H' _ ⟨Δ', S', _, hA'⟩ => ex_t hide_le (ex_t hA'.hid hq)) (fun i v σ' H' hv ⟨Δ', S', i', hA'⟩ => turn hA1 le xw hxs hv i' hA') (fun σ' H' w => fin hA1 le (by rw [← dpa_len hxs]; exact w))⟩
  · refine ⟨_, ps_for hp hc (pi_list pe) (pg_name hN hi hx hf) qb hfs, fun S0 M0 H0 σ H S hA D le xw => ?_⟩
    refine f S0 M0 H0 σ H S hA _ fun th v H1 ht e1 r => ?_
    subst ht
    obtain ⟨p, xs, rfl, hq, hxs⟩ := dp_lst r
    have hA1 := hA.up e1
    refine ⟨p, rfl, ⟨xs, ex_l hide_le hq⟩, for_list (K := X.K) (a := p) (xs := xs) (g := gName j) (tb := fun D σ H => ∃ t, PSs X body t ∧ t D σ H) (fun i σ' H' => ∃ Δ' S', I i Δ' ∧ At S (mls Δ σ) H1 Δ' σ' H' S') ⟨Δ, S, h0, hA1.here⟩ (fun i σ' H' _ ⟨Δ', S', _, hA'⟩ => ex_l hide_le (ex_l hA'.hid hq)) (fun i v σ' H' hv ⟨Δ', S', i', hA'⟩ => turn hA1 le xw hxs hv i' hA') (fun σ' H' w => fin hA1 le (by rw [← dpa_len hxs]; exact w))⟩
/-! globals -/
/-- the module's name x holds the data d -/
def GlD (K : PySem.W.Frag) (mg : Str → Option Value) (x : Str) (d : PyData) : Prop := ∃ v u, mg x = some u ∧ RelV v u ∧ ∀ H, Dp K H v d
theorem px_gl {x : Str} {d : PyData} (h : GlD X.K X.mg x d) (hg : Gl X x := by rfl) (hd : (x == ("__debug__" : Str)) = false := by decide) : PD X Δ (.Name x pos) (dat X.K d) := by
  obtain ⟨v, u, hm, r, hx⟩ := h
  exact ⟨_, pe_glob hg hm r hd, fun _ _ _ _ H S _ Q q => q _ _ H rfl (Ex.refl H) (hx _)⟩
/-! a list that this def fills -/
/-- x = [] -/
theorem sd_new (i : Nat) {x : Str} {p p2 : Pos} (k : SD X W rest P (Δ.set i (.ml []))) (hN : X.N.Nodup) (hs0 : (Δ[i]?.map Sl.isMl) = some false := by rfl) (hi : X.N[i]? = some x := by rfl) (hx : Loc X.env.scope x := by first | exact Or.inl rfl | exact Or.inr rfl)
    (hs : swapsWith (.List [] p2) (some (.Name x p)) pos.line X.env = pure false := by rfl) (hw : swappedStores [.Name x p] (.List [] p2) X.env = pure none := by rfl)
    (hf : X.fn x = true ∨ X.env.scope.names.lookup x = some .local := by first | exact .inl rfl | exact .inr rfl) : SD X W (.Assign [.Name x p] (.List [] p2) pos :: rest) P Δ := by
  refine sd_cons ⟨_, ps_asg (pe_lst pa_nil) (pg_name hN hi hx hf) hs hw, fun S0 M0 H0 σ H S hA D le xw => ?_⟩
  refine ⟨Nat.zero_le _, fun l hl => le.nx _ _ ⟨_, l :: S, k, ?_⟩⟩
  have nS : l ∉ S := hA.dom.new hl
  have ex1 : Ex H (upd H l (.lst [])) := Ex.new hl
  have nl : l ∉ M0 → H0 l = none := ex_none hA.ex hl
  have own0 : l ∈ M0 ∨ H0 l = none := by
    by_cases q : l ∈ M0
    · exact Or.inl q
    · exact Or.inr (nl q)
  have hid : Ex (hide S H) (hide (l :: S) (upd H l (.lst []))) := fun a o h => by
    by_cases q : a ∈ S
    · rw [hide_in q] at h; cases h
    · rw [hide_out q] at h
      have ne : a ≠ l := ne_of_none h hl
      rw [hide_out (by simp [ne, q]), upd_ne ne]
      exact h
  have env1 : SlsR (l :: S) (upd H l (.lst [])) Δ σ := by
    have step : ∀ {Δ : List Sl} {σ : L2.St}, SlsR S H Δ σ → SlsR (l :: S) (upd H l (.lst [])) Δ σ := fun {Δ σ} h => by
      induction Δ generalizing σ with
      | nil =>
        cases σ with
        | nil => trivial
        | cons _ _ => exact h.elim
      | cons s ss ih =>
        cases σ with
        | nil => exact h.elim
        | cons o os =>
          refine ⟨?_, ih h.2⟩
          have h1 := h.1
          cases s with
          | no => trivial
          | th t => obtain ⟨v, e1, r⟩ := h1; exact ⟨v, e1, t.up _ _ _ hid r⟩
          | ml ts => obtain ⟨a, xs, e1, m, q, r⟩ := h1; exact ⟨a, xs, e1, List.mem_cons_of_mem _ m, ex1 a _ q, r.up hid⟩
    exact step hA.env
  have other : ∀ {m : Nat} {ts : List Th} {a : Addr}, Δ[m]? = some (.ml ts) → σ[m]? = some (some (V.ref a)) → a ≠ l := fun {m ts a} h1 h2 z => by
    obtain ⟨o, e1, a', xs, e2, mm, q, _⟩ := hA.env.get h1
    rw [h2] at e1
    have e3 := Option.some.inj e1
    rw [← e3] at e2
    have e4 : a = a' := V.ref.inj (Option.some.inj e2)
    exact nS (by rw [← z, e4]; exact mm)
  have at_ : ∀ {m : Nat} {ts : List Th}, (Δ.set i (.ml []))[m]? = some (.ml ts) → m = i ∨ (m ≠ i ∧ Δ[m]? = some (.ml ts)) := fun {m ts} h => by
    by_cases q : m = i
    · exact Or.inl q
    · rw [List.getElem?_set_ne (Ne.symm q)] at h
      exact Or.inr ⟨q, h⟩
  have si : ∀ {a : Addr}, (σ.set i (some (V.ref l)))[i]? = some (some (V.ref a)) → a = l := fun {a} h => by
    rw [List.getElem?_set_self'] at h
    cases z : σ[i]? with
    | none => rw [z] at h; simp at h
    | some w =>
      rw [z] at h
      have h' : V.ref l = V.ref a := by simpa using h
      exact (V.ref.inj h').symm
  refine ⟨fun a h => List.mem_cons_of_mem _ (hA.sub a h), hA.msub, fun a h => ?_, hA.ex.trans ex1, fun a h => ?_, SlsR.set (s := .ml []) ⟨l, [], rfl, List.mem_cons_self, upd_same, trivial⟩ env1, fun m j ts us a h1 h2 h3 h4 => ?_, fun m ts a h1 h3 => ?_⟩
  · rcases List.mem_cons.mp h with z | z
    · subst z
      rcases own0 with z | z
      · exact Or.inl (hA.msub _ z)
      · exact Or.inr z
    · exact hA.new a z
  · rcases List.mem_cons.mp h with z | z
    · subst z
      rw [upd_same]
      exact fun z => nomatch z
    · exact (hA.dom.up ex1) a z
  · rcases at_ h1 with z1 | ⟨z1, g1⟩ <;> rcases at_ h2 with z2 | ⟨z2, g2⟩
    · rw [z1, z2]
    · subst z1
      have e1 := si h3
      rw [List.getElem?_set_ne (Ne.symm z2)] at h4
      exact absurd e1 (other g2 h4)
    · subst z2
      have e1 := si h4
      rw [List.getElem?_set_ne (Ne.symm z1)] at h3
      exact absurd e1 (other g1 h3)
    · rw [List.getElem?_set_ne (Ne.symm z1)] at h3
      rw [List.getElem?_set_ne (Ne.symm z2)] at h4
      exact hA.apart m j ts us a g1 g2 h3 h4
  · rcases at_ h1 with z1 | ⟨z1, g1⟩
    · subst z1
      rw [si h3]
      exact own0
    · rw [List.getElem?_set_ne (Ne.symm z1)] at h3
      exact hA.own m ts a g1 h3
end
end DL
set_option Elab.async false
set_option linter.all false
set_option maxRecDepth 100000
/-! Comprehensions, tuple(..), list(..), all(..), append. -/
namespace DL
open PySem PySem.Spec PyProof.Rows L2
def wipeΔ (Δ : List Sl) : List Nat → List Sl
  | [] => Δ
  | v :: vs => (wipeΔ Δ vs).set v .no
theorem At.wipe {S0 M0 S : List Addr} {H0 H : Hp} {Δ : List Sl} {σ : L2.St} (A : At S0 M0 H0 Δ σ H S) : ∀ vs : List Nat, At S0 M0 H0 (wipeΔ Δ vs) (L2.wipe σ vs) H S
  | [] => A
  | v :: vs => (At.wipe A vs).setS (s := .no) rfl trivial
theorem wipe_setv {σ : L2.St} {j : Nat} {o : Option V} : L2.wipe ((L2.wipe σ [j]).set j o) [j] = L2.wipe σ [j] := by
  show ((σ.set j none).set j o).set j none = σ.set j none
  rw [List.set_set, List.set_set]
/-- a new list hidden -/
theorem At.newD {S0 M0 S : List Addr} {H0 H1 H' : Hp} {Δ : List Sl} {σ : L2.St} (A : At S0 M0 H0 Δ σ H1 S) {D : Addr} (hD : H1 D = none) (e : Ex H1 H') (hD' : H' D ≠ none) : At S (mls Δ σ) H1 Δ σ H' (D :: S) := by
  have B := A.here
  have hid : Ex (hide S H1) (hide (D :: S) H') := fun a o h => by
    have n0 : a ∉ S := fun z => by rw [hide_in z] at h; cases h
    have h' : H1 a = some o := by rw [hide_out n0] at h; exact h
    have ne : a ≠ D := ne_of_none h' hD
    rw [hide_out (by simp [ne, n0])]
    exact e a o h'
  have env1 : ∀ {Δ : List Sl} {σ : L2.St}, SlsR S H1 Δ σ → SlsR (D :: S) H' Δ σ := fun {Δ σ} h => by
    induction Δ generalizing σ with
    | nil =>
      cases σ with
      | nil => trivial
      | cons _ _ => exact h.elim
    | cons s ss ih =>
      cases σ with
      | nil => exact h.elim
      | cons o os =>
        refine ⟨?_, ih h.2⟩
        have h1 := h.1
        cases s with
        | no => trivial
        | th t => obtain ⟨v, e1, r⟩ := h1; exact ⟨v, e1, t.up _ _ _ hid r⟩
        | ml ts => obtain ⟨a, xs, e1, m, q, r⟩ := h1; exact ⟨a, xs, e1, List.mem_cons_of_mem _ m, e a _ q, r.up hid⟩
  refine ⟨fun a h => List.mem_cons_of_mem _ h, B.msub, fun a h => ?_, fun a o h => e a o (hide_le a o h), fun a h => ?_, env1 A.env, A.apart, B.own⟩
  · rcases List.mem_cons.mp h with z | z
    · subst z; exact Or.inr hD
    · exact Or.inl z
  · rcases List.mem_cons.mp h with z | z
    · subst z; exact hD'
    · exact (A.dom.up e) a z
theorem dpa_app {K : PySem.W.Frag} {H : Hp} : ∀ {vs ws : List V} {ds es : List PyData}, DpAll K H vs ds → DpAll K H ws es → DpAll K H (vs ++ ws) (ds ++ es)
  | _, _, _, _, .nil, h => h
  | _, _, _, _, .cons a t, h => .cons a (dpa_app t h)

section
variable {X : Cx} {Δ : List Sl} {e a b c : Expr} {es : List Expr} {A B C : Th → Prop} {pos : Pos} {P : Post} {rest body els : List Stmt} {st : Stmt} {W : WX}
/-- what a comprehension has made after i turns -/
def LcP (K : PySem.W.Frag) (Bw : Nat → PyData → Prop) (S : List Addr) (H1 : Hp) (D : Addr) (i : Nat) (H' : Hp) : Prop :=
  Ex H1 H' ∧ ∃ acc es, H' D = some (.lst acc) ∧ DpAll K (hide (D :: S) H') acc es ∧ es.length = i ∧ ∀ j w, es[j]? = some w → Bw j w
/-- the element's reading: whatever block -/
def teU (X : Cx) (scope : Scope) (elt : Expr) : TE := fun σ H Q => ∀ (s : Shared) (H0 : Hp) (C : Addr) (cl : List (Str × Addr)) (fp : List Addr), ∃ t, PE (X.blk s H0 scope (compEnvC scope cl C X.env) fp) elt t ∧ t σ H Q
theorem lc_fin {S0 M0 S : List Addr} {H0 H1 H' : Hp} {σ : L2.St} {K : PySem.W.Frag} {Bw : Nat → PyData → Prop} {D : Addr} {n : Nat} {Q : VK} (hA : At S0 M0 H0 Δ σ H1 S) (hD : H1 D = none) (p : LcP K Bw S H1 D n H')
    (q : ∀ th v H2, (∃ es, th = dat K (.list es) ∧ es.length = n ∧ ∀ j w, es[j]? = some w → Bw j w) → Ex H1 H2 → th.R (hide S H2) v → Q v H2) : Q (.ref D) H' := by
  obtain ⟨e1, acc, es, h1, h2, h3, h4⟩ := p
  refine q (dat K (.list es)) _ _ ⟨es, rfl, h3, h4⟩ e1 (Dp.lst (xs := acc) (SqL.of ?_) (dpa_up (hide_sub fun a h => List.mem_cons_of_mem _ h) h2))
  rw [hide_out (hA.dom.new hD)]
  exact h1
theorem lc_turn {S0 M0 S : List Addr} {H0 H1 H' : Hp} {σ : L2.St} {scope : Scope} {elt : Expr} {j : Nat} {Bw : Nat → PyData → Prop} {D : Addr} {i : Nat} {z : PyData} {v : V} (hA : At S0 M0 H0 Δ σ H1 S) (hD : H1 D = none) (hi : i < 50000)
    (hz : Dp X.K (hide S H1) v z) (p : LcP X.K Bw S H1 D i H')
    (he : ∀ (s : Shared) (H : Hp) (C : Addr) (cl : List (Str × Addr)) (fp : List Addr), PX (X.blk s H scope (compEnvC scope cl C X.env) fp) ((wipeΔ Δ [j]).set j (.th (dat X.K z))) elt (fun t => ∃ w, t = dat X.K w ∧ Bw i w)) :
    teU X scope elt ((L2.wipe σ [j]).set j (some v)) H' fun y H4 => ∃ acc, H4 D = some (.lst acc) ∧ acc.length < sizeLine ∧ LcP X.K Bw S H1 D (i + 1) (upd H4 D (.lst (acc ++ [y]))) := by
  obtain ⟨e1, acc, es, h1, h2, h3, h4⟩ := p
  have hA2 := hA.newD hD e1 (by rw [h1]; exact fun z => nomatch z)
  have hz2 : Dp X.K (hide (D :: S) H') v z := dp_up (fun a o h => by
    have n0 : a ∉ S := fun z => by rw [hide_in z] at h; cases h
    have h' : H1 a = some o := by rw [hide_out n0] at h; exact h
    have ne : a ≠ D := ne_of_none h' hD
    rw [hide_out (by simp [ne, n0])]
    exact e1 a o h') hz
  intro s H0' C cl fp
  obtain ⟨t, pt, ft⟩ := he s H0' C cl fp
  refine ⟨t, pt, ft S (mls Δ σ) H1 _ H' (D :: S) ((hA2.wipe [j]).set (t := dat X.K z) hz2) _ fun th y H4 ⟨w, hw, bw⟩ e4 r => ?_⟩
  subst hw
  have hlen := dpa_len h2
  refine ⟨acc, e4 D _ h1, Nat.lt_of_lt_of_le (by omega) (by decide : 100000 ≤ sizeLine), fun a o h => ?_, acc ++ [y], es ++ [w], upd_same, ?_, by rw [List.length_append, h3, List.length_singleton], fun k w' hk => ?_⟩
  · rw [upd_ne (ne_of_none h hD)]
    exact e4 a o (e1 a o h)
  · rw [hide_upd (List.mem_cons_self)]
    exact dpa_app (dpa_up (hide_ex e4) h2) (.cons r .nil)
  · rw [List.getElem?_append] at hk
    split at hk
    · exact h4 k w' hk
    · rename_i hge
      have hk0 : k - es.length = 0 := by
        by_cases q : k - es.length = 0
        · exact q
        · rw [List.getElem?_eq_none (by simp; omega)] at hk
          cases hk
      rw [hk0] at hk
      have e5 : w = w' := Option.some.inj hk
      have e6 : k = i := by omega
      rw [← e5, e6]
      exact bw
/-- [elt for x in e], e data -/
theorem px_lcD {x : Str} {px : Pos} {elt : Expr} {scope : Scope} (j : Nat) {d : PyData} {ds : List PyData} (Bw : Nat → PyData → Prop) (he : PD X Δ e (dat X.K d)) (hd : d = .tuple ds ∨ d = .list ds) (hz : ds.length ≤ 40000)
    (ht : ∀ (i : Nat) z, ds[i]? = some z → ∀ (s : Shared) (H : Hp) (C : Addr) (cl : List (Str × Addr)) (fp : List Addr), PX (X.blk s H scope (compEnvC scope cl C X.env) fp) ((wipeΔ Δ [j]).set j (.th (dat X.K z))) elt (fun t => ∃ w, t = dat X.K w ∧ Bw i w))
    (hN : X.N.Nodup) (ok : BlkOk X.N X.env.scope scope [(x, j)])
    (hg : ∀ (s : Shared) (H : Hp) (C : Addr) (cl : List (Str × Addr)) (fp : List Addr), PG (X.blk s H scope (compEnvC scope cl C X.env) fp) (.Name x px) (gName j))
    (hc : X.calm = true := by rfl) (hs : ∀ x, foldedSetIterable e X.env x = pure x := by intro _; rfl) :
    PX X Δ (.ListComp elt [⟨.Name x px, e, [], 0⟩] scope pos) (fun t => ∃ es, t = dat X.K (.list es) ∧ es.length = ds.length ∧ ∀ i w, es[i]? = some w → Bw i w) := by
  obtain ⟨t, pe, f⟩ := he
  have q : ∀ (s : Shared) (H : Hp) (C : Addr) (cl : List (Str × Addr)) (fp : List Addr), PE (X.blk s H scope (compEnvC scope cl C X.env) fp) elt (teU X scope elt) := fun s H C cl fp => ⟨fun pins s' σ H' Q I h => by
    obtain ⟨t, pt, ht⟩ := h s H C cl fp
    exact pt.run pins s' σ H' Q I ht⟩
  have turnV : ∀ {S0 M0 S : List Addr} {H0 H1 H' : Hp} {σ : L2.St} {D : Addr} {xs : List V} {i : Nat} {v : V}, At S0 M0 H0 Δ σ H1 S → H1 D = none → DpAll X.K (hide S H1) xs ds → xs[i]? = some v → LcP X.K Bw S H1 D i H' →
      teU X scope elt ((L2.wipe σ [j]).set j (some v)) H' fun y H4 => ∃ acc, H4 D = some (.lst acc) ∧ acc.length < sizeLine ∧ LcP X.K Bw S H1 D (i + 1) (upd H4 D (.lst (acc ++ [y]))) := by
    intro S0 M0 S H0 H1 H' σ D xs i v hA hD hx hv p
    have hl := dpa_len hx
    have li : i < ds.length := by rw [← hl]; exact (List.getElem?_eq_some_iff.mp hv).1
    obtain ⟨v', e1, r1⟩ := dpa_get hx (List.getElem?_eq_getElem li)
    rw [hv] at e1
    have e2 := Option.some.inj e1
    exact lc_turn hA hD (by omega) (by rw [e2]; exact r1) p (ht i _ (List.getElem?_eq_getElem li))
  have start0 : ∀ {S : List Addr} {H1 : Hp} {D : Addr}, H1 D = none → LcP X.K Bw S H1 D 0 (upd H1 D (.lst [])) := fun {S H1 D} hD => ⟨Ex.new hD, [], [], upd_same, .nil, rfl, fun j w h => by simp at h⟩
  rcases hd with rfl | rfl
  · refine ⟨_, pe_lc (own := [(x, j)]) (g := gName j) (tt := tYes) hc hN (pi_tup pe) ok hg (fun _ _ _ _ _ => pts_nil) q hs, fun S0 M0 H0 σ H S hA Q k => ?_⟩
    refine f S0 M0 H0 σ H S hA _ fun th v H1 hth e1 r => ?_
    subst hth
    obtain ⟨p, xs, rfl, hq, hx⟩ := dp_tup r
    have hA1 := hA.up e1
    refine ⟨p, rfl, ⟨xs, ex_t hide_le hq⟩, fun D hD => lc_tup (K := X.K) (a := p) (xs := xs) (g := gName j) (tt := tYes) (te := teU X scope elt) (vs := [j]) (LcP X.K Bw S H1 D) (start0 hD) (fun i H' _ p => ex_t p.1 (ex_t hide_le hq)) (fun i v H' hv p => ⟨wipe_setv, turnV hA1 hD hx hv p⟩) fun H' p => ?_⟩
    rw [dpa_len hx] at p
    exact lc_fin hA1 hD p fun th v H2 c e2 r2 => k th v H2 c (e1.trans e2) r2
  · refine ⟨_, pe_lc (own := [(x, j)]) (g := gName j) (tt := tYes) hc hN (pi_list pe) ok hg (fun _ _ _ _ _ => pts_nil) q hs, fun S0 M0 H0 σ H S hA Q k => ?_⟩
    refine f S0 M0 H0 σ H S hA _ fun th v H1 hth e1 r => ?_
    subst hth
    obtain ⟨p, xs, rfl, hq, hx⟩ := dp_lst r
    have hA1 := hA.up e1
    refine ⟨p, rfl, ⟨xs, ex_l hide_le hq⟩, fun D hD => lc_list (K := X.K) (a := p) (xs := xs) (g := gName j) (tt := tYes) (te := teU X scope elt) (vs := [j]) (LcP X.K Bw S H1 D) (start0 hD) (fun i H' _ p => ex_l p.1 (ex_l hide_le hq)) (fun i v H' hv p => ⟨wipe_setv, turnV hA1 hD hx hv p⟩) fun H' p => ?_⟩
    rw [dpa_len hx] at p
    exact lc_fin hA1 hD p fun th v H2 c e2 r2 => k th v H2 c (e1.trans e2) r2
/-- [elt for x in range(n)] -/
theorem px_lcR {x : Str} {px p1 p2 : Pos} {elt : Expr} {scope : Scope} (j : Nat) {Nn : Int → Prop} {L : Nat} (Bw : Nat → PyData → Prop) (hm : X.mg "range" = none) (he : PX X Δ e (isI X.K Nn)) (hn : ∀ n, Nn n → 0 ≤ n ∧ n ≤ L) (hL : L ≤ 40000)
    (ht : ∀ (i : Nat), i < L → ∀ (s : Shared) (H : Hp) (C : Addr) (cl : List (Str × Addr)) (fp : List Addr), PX (X.blk s H scope (compEnvC scope cl C X.env) fp) ((wipeΔ Δ [j]).set j (.th (dat X.K (.int (i : Int))))) elt (fun t => ∃ w, t = dat X.K w ∧ Bw i w))
    (hN : X.N.Nodup) (ok : BlkOk X.N X.env.scope scope [(x, j)])
    (hg : ∀ (s : Shared) (H : Hp) (C : Addr) (cl : List (Str × Addr)) (fp : List Addr), PG (X.blk s H scope (compEnvC scope cl C X.env) fp) (.Name x px) (gName j))
    (hc : X.calm = true := by rfl) (hgl : Gl X "range" := by rfl) (hse : starEach [e] X.env = (false, eval e X.env) :: starEach [] X.env := by rfl) (hs1 : starEach [e] X.env = [(false, eval e X.env)] := by rfl)
    (hs : ∀ x, foldedSetIterable (.Call (.Name "range" p1) [e] [] p2) X.env x = pure x := by intro _; rfl) :
    PX X Δ (.ListComp elt [⟨.Name x px, .Call (.Name "range" p1) [e] [] p2, [], 0⟩] scope pos) (fun t => ∃ es n, t = dat X.K (.list es) ∧ Nn n ∧ (es.length : Int) = n ∧ ∀ i w, es[i]? = some w → Bw i w) := by
  obtain ⟨t, pa, f⟩ := pl_consA (C := fun ts => ∃ i, ts = [dat X.K (.int i)] ∧ Nn i) he pl_nil (fun t ts ⟨i, h1, h2⟩ h3 => ⟨i, by rw [h1, h3], h2⟩) hse
  have q : ∀ (s : Shared) (H : Hp) (C : Addr) (cl : List (Str × Addr)) (fp : List Addr), PE (X.blk s H scope (compEnvC scope cl C X.env) fp) elt (teU X scope elt) := fun s H C cl fp => ⟨fun pins s' σ H' Q I h => by
    obtain ⟨t, pt, ht⟩ := h s H C cl fp
    exact pt.run pins s' σ H' Q I ht⟩
  refine ⟨_, pe_lc (own := [(x, j)]) (g := gName j) (tt := tYes) hc hN (pi_range1 hgl hm pa hs1) ok hg (fun _ _ _ _ _ => pts_nil) q hs, fun S0 M0 H0 σ H S hA Q k => ?_⟩
  refine f S0 M0 H0 σ H S hA _ fun ths vs H1 hth e1 r => ?_
  obtain ⟨n, rfl, nn⟩ := hth
  obtain ⟨v, rfl, r0⟩ := all1 r
  have := dp_int r0
  subst this
  have hb := hn n nn
  have hA1 := hA.up e1
  refine ⟨n, rfl, by omega, by omega, fun D hD => lc_range (lo := 0) (n := n.toNat) (g := gName j) (tt := tYes) (te := teU X scope elt) (vs := [j]) (LcP X.K Bw S H1 D) ⟨Ex.new hD, [], [], upd_same, .nil, rfl, fun j w h => by simp at h⟩ (fun i H' hi p => ?_) fun H' p => ?_⟩
  · have e0 : (0 : Int) + (i : Int) = (i : Int) := Int.zero_add _
    rw [e0]
    exact ⟨wipe_setv, lc_turn hA1 hD (by omega) (Dp.int _) p (ht i (by omega))⟩
  · exact lc_fin hA1 hD p fun th v H2 ⟨es, c1, c2, c3⟩ e2 r2 => k th v H2 ⟨es, n, c1, nn, by omega, c3⟩ (e1.trans e2) r2
/-- tuple(e) -/
theorem px_tuple {p : Pos} {L : List PyData → Prop} (hm : X.mg "tuple" = none) (ha : PX X Δ a (fun t => ∃ es, (t = dat X.K (.list es) ∨ t = dat X.K (.tuple es)) ∧ L es)) (hg : Gl X "tuple" := by rfl) (na : starEach [a] X.env = (false, eval a X.env) :: starEach [] X.env := by rfl) :
    PX X Δ (.Call (.Name "tuple" p) [a] [] pos) (fun t => ∃ es, t = dat X.K (.tuple es) ∧ L es) := by
  obtain ⟨t, pe, f⟩ := ha
  refine ⟨_, pe_tupleOf hg hm pe na, fun S0 M0 H0 σ H S hA Q k => ?_⟩
  refine f S0 M0 H0 σ H S hA _ fun th v H1 ⟨es, hth, hl⟩ e1 r => ?_
  rcases hth with rfl | rfl
  · obtain ⟨q, xs, rfl, hq, hd⟩ := dp_lst r
    refine Or.inl ⟨q, xs, rfl, ex_l hide_le hq, fun l hl' => k (dat X.K (.tuple es)) _ _ ⟨es, rfl, hl⟩ (e1.trans (Ex.new hl')) ?_⟩
    refine Dp.tup (SqT.of ?_) (dpa_up (hide_ex (Ex.new hl')) hd)
    rw [hide_out ((hA.up e1).dom.new hl')]
    exact upd_same
  · obtain ⟨q, xs, rfl, hq, hd⟩ := dp_tup r
    exact Or.inr ⟨q, xs, rfl, ex_t hide_le hq, k (dat X.K (.tuple es)) _ _ ⟨es, rfl, hl⟩ e1 r⟩
theorem pd_tuple {p : Pos} {es : List PyData} (hm : X.mg "tuple" = none) (ha : PD X Δ a (dat X.K (.list es)) ∨ PD X Δ a (dat X.K (.tuple es))) (hg : Gl X "tuple" := by rfl) (na : starEach [a] X.env = (false, eval a X.env) :: starEach [] X.env := by rfl) :
    PD X Δ (.Call (.Name "tuple" p) [a] [] pos) (dat X.K (.tuple es)) :=
  (px_tuple (L := (· = es)) hm (by
    rcases ha with ha | ha
    · exact ha.imp fun t h => ⟨es, Or.inl h, rfl⟩
    · exact ha.imp fun t h => ⟨es, Or.inr h, rfl⟩) hg na).imp fun t ⟨es', h, h'⟩ => by rw [h, h']
/-- list(e) -/
theorem pd_list {p : Pos} {es : List PyData} (hm : X.mg "list" = none) (ha : PD X Δ a (dat X.K (.list es)) ∨ PD X Δ a (dat X.K (.tuple es))) (hg : Gl X "list" := by rfl) (na : starEach [a] X.env = (false, eval a X.env) :: starEach [] X.env := by rfl) (hpl : (backTo pos (starEach [] X.env)).any (·.1) = false := by rfl) :
    PD X Δ (.Call (.Name "list" p) [a] [] pos) (dat X.K (.list es)) := by
  have fin : ∀ {S : List Addr} {H : Hp} {xs : List V} {l : Addr} {Q : VK}, Dom S H → H l = none → DpAll X.K (hide S H) xs es → (∀ th u H2, th = dat X.K (.list es) → Ex H H2 → th.R (hide S H2) u → Q u H2) → Q (.ref l) (upd H l (.lst xs)) := fun dom hl hd q =>
    q _ _ _ rfl (Ex.new hl) (Dp.lst (SqL.of (by rw [hide_out (dom.new hl)]; exact upd_same)) (dpa_up (hide_ex (Ex.new hl)) hd))
  rcases ha with ha | ha
  · exact px_bltT call_list_of hm (pl_cons ha pl_nil na) (fun S H ts vs dom hB r Q q => by
      subst hB
      obtain ⟨v, rfl, r0⟩ := all1 r
      obtain ⟨p, xs, rfl, hq, hd⟩ := dp_lst r0
      exact ⟨p, xs, rfl, Or.inl (ex_l hide_le hq), fun l hl => fin dom hl hd q⟩) (by decide +kernel) hg (by decide) (by decide) na hpl
  · exact px_bltT call_list_of hm (pl_cons ha pl_nil na) (fun S H ts vs dom hB r Q q => by
      subst hB
      obtain ⟨v, rfl, r0⟩ := all1 r
      obtain ⟨p, xs, rfl, hq, hd⟩ := dp_tup r0
      exact ⟨p, xs, rfl, Or.inr (ex_t hide_le hq), fun l hl => fin dom hl hd q⟩) (by decide +kernel) hg (by decide) (by decide) na hpl
theorem dpa_bls {K : PySem.W.Frag} {H : Hp} : ∀ {xs : List V} {bs : List Bool}, DpAll K H xs (bs.map .bool) → xs = bs.map V.bl
  | [], [], _ => rfl
  | v :: vs, b :: bs, h => by
    cases h with
    | cons h1 h2 => rw [dp_bool h1, dpa_bls h2]; rfl
  | [], b :: bs, h => by cases h
  | v :: vs, [], h => by cases h
/-- all(list of truths) -/
theorem pd_all {p : Pos} {bs : List Bool} (hm : X.mg "all" = none) (ha : PD X Δ a (dat X.K (.list (bs.map .bool)))) (hc : X.calm = true := by rfl) (hg : Gl X "all" := by rfl) (na : starEach [a] X.env = (false, eval a X.env) :: starEach [] X.env := by rfl) (hpl : (backTo pos (starEach [] X.env)).any (·.1) = false := by rfl) :
    PD X Δ (.Call (.Name "all" p) [a] [] pos) (dat X.K (.bool (bs.all id))) :=
  px_blt (cr_all hc) hm (pl_cons ha pl_nil na) (fun S H ts vs dom hB r Q q => by
    subst hB
    obtain ⟨v, rfl, r0⟩ := all1 r
    obtain ⟨p, xs, rfl, hq, hd⟩ := dp_lst r0
    have hx := dpa_bls hd
    subst hx
    refine ⟨p, bs, rfl, ex_l hide_le hq, ?_⟩
    exact q _ _ H rfl (Ex.refl H) (Dp.bl _)) (by decide +kernel) hg (by decide) (by decide) na hpl
/-- x.append(e), x a list of this def -/
theorem sd_app (i : Nat) {x : Str} {p1 p2 p3 : Pos} {ts : List Th} (h : Δ[i]? = some (.ml ts)) (he : PX X Δ e A) (hl : ts.length < 100000) (k : ∀ t, A t → SD X W rest P (Δ.set i (.ml (ts ++ [t]))))
    (hN : X.N[i]? = some x := by rfl) (hv : Vis X.env.scope x := by first | exact Or.inl rfl | exact Or.inr (Or.inl rfl) | exact Or.inr (Or.inr rfl)) (hpe : ∀ (te : TE), PE X e te → PE X (.Call (.Attribute (.Name x p1) "append" p2) [e] [] p3) (tBM X.K "list" rAppend (tVar i) (tCons te tNil)))
    (hs : swapsWith (.Call (.Attribute (.Name x p1) "append" p2) [e] [] p3) none pos.line X.env = pure false := by rfl) : SD X W (.Expr (.Call (.Attribute (.Name x p1) "append" p2) [e] [] p3) pos :: rest) P Δ := by
  obtain ⟨te, pe, f⟩ := he
  refine sd_cons ⟨_, ps_expr (hpe te pe) hs, fun S0 M0 H0 σ H S hA D le xw => ?_⟩
  obtain ⟨o, e1, a, xs, e2, hm, hH, hx⟩ := hA.env.get h
  subst e2
  refine ⟨.ref a, e1, Or.inl ⟨rfl, xs, Or.inl (Or.inl hH)⟩, ?_⟩
  refine f S0 M0 H0 σ H S hA _ fun th v H2 ha ex2 r => ?_
  have hA2 := hA.up ex2
  have hlen := hx.len
  refine ⟨a, xs, v, rfl, rfl, ex2 a _ hH, Nat.lt_of_lt_of_le (by omega) (by decide : 100000 ≤ sizeLine), le.nx _ _ ⟨_, S, k th ha, ?_⟩⟩
  -- the list at a has grown; all else is told behind S
  have hid : hide S (upd H2 a (.lst (xs ++ [v]))) = hide S H2 := hide_upd hm
  have own_a := hA2.own i ts a h e1
  refine ⟨hA2.sub, hA2.msub, hA2.new, fun b o hb => ?_, fun b hb => ?_, ?_, ?_, ?_⟩
  · have nb : b ∉ M0 := fun z => by rw [hide_in z] at hb; cases hb
    have ne : b ≠ a := fun z => by
      rw [z] at hb nb
      rcases own_a with q | q
      · exact nb q
      · rw [hide_out nb, q] at hb; cases hb
    rw [upd_ne ne]
    exact hA2.ex b o hb
  · by_cases q : b = a
    · rw [q, upd_same]; exact fun z => nomatch z
    · rw [upd_ne q]; exact hA2.dom b hb
  · -- slots
    have gen : ∀ {Δ' : List Sl} {σ' : L2.St} {m : Nat}, SlsR S H2 Δ' σ' → (∀ (n : Nat) us b, Δ'[n]? = some (.ml us) → σ'[n]? = some (some (V.ref b)) → n ≠ m → b ≠ a) → (∀ us, Δ'[m]? = some (.ml us) → us = ts ∧ σ'[m]? = some (some (V.ref a))) →
        SlsR S (upd H2 a (.lst (xs ++ [v]))) (Δ'.set m (.ml (ts ++ [th]))) σ' ∨ Δ'[m]? ≠ some (.ml ts) := by
      intro Δ'
      induction Δ' with
      | nil => intro σ' m _ _ _; exact Or.inr (by simp)
      | cons s ss ih =>
        intro σ' m hs hne hat
        cases σ' with
        | nil => exact hs.elim
        | cons o os =>
          have one : ∀ {s : Sl} {o : Option V}, SlR S H2 o s → (∀ us b, s = .ml us → o = some (V.ref b) → b ≠ a) → SlR S (upd H2 a (.lst (xs ++ [v]))) o s := fun {s o} hr hn => by
            cases s with
            | no => trivial
            | th t => obtain ⟨w, q1, q2⟩ := hr; exact ⟨w, q1, by rw [hid]; exact q2⟩
            | ml us =>
              obtain ⟨b, ys, q1, q2, q3, q4⟩ := hr
              exact ⟨b, ys, q1, q2, by rw [upd_ne (hn us b rfl q1)]; exact q3, by rw [hid]; exact q4⟩
          cases m with
          | zero =>
            by_cases hm0 : s = .ml ts
            · subst hm0
              refine Or.inl ⟨?_, ?_⟩
              · obtain ⟨_, z⟩ := hat ts rfl
                have z' : o = some (V.ref a) := Option.some.inj z
                subst z'
                obtain ⟨b, ys, q1, q2, q3, q4⟩ := hs.1
                have eb : a = b := V.ref.inj (Option.some.inj q1)
                subst eb
                have ey : xs = ys := by
                  rw [ex2 a _ hH] at q3
                  have q5 := Option.some.inj q3
                  exact HO.lst.inj q5
                subst ey
                exact ⟨a, xs ++ [v], rfl, q2, upd_same, by rw [hid]; exact q4.app ⟨r, trivial⟩⟩
              · have rest_ : ∀ {Δ' : List Sl} {σ' : L2.St}, SlsR S H2 Δ' σ' → (∀ (n : Nat) us b, Δ'[n]? = some (.ml us) → σ'[n]? = some (some (V.ref b)) → b ≠ a) → SlsR S (upd H2 a (.lst (xs ++ [v]))) Δ' σ' := by
                  intro Δ'
                  induction Δ' with
                  | nil => intro σ' hs' _; cases σ' with
                    | nil => trivial
                    | cons _ _ => exact hs'.elim
                  | cons s' ss' ih' =>
                    intro σ' hs' hn'
                    cases σ' with
                    | nil => exact hs'.elim
                    | cons o' os' => exact ⟨one hs'.1 fun us b z1 z2 => hn' 0 us b (by rw [z1]; rfl) (by rw [z2]; rfl), ih' hs'.2 fun n us b z1 z2 => hn' (n + 1) us b z1 z2⟩
                exact rest_ hs.2 fun n us b z1 z2 => hne (n + 1) us b z1 z2 (by omega)
            · exact Or.inr fun z => hm0 (Option.some.inj z)
          | succ m =>
            rcases ih (σ' := os) (m := m) hs.2 (fun n us b z1 z2 z3 => hne (n + 1) us b z1 z2 (by omega)) (fun us z => hat us z) with q | q
            · exact Or.inl ⟨one hs.1 fun us b z1 z2 => hne 0 us b (by rw [z1]; rfl) (by rw [z2]; rfl) (by omega), q⟩
            · exact Or.inr q
    rcases gen (m := i) hA2.env (fun n us b z1 z2 z3 => fun z => z3 (hA2.apart n i us ts a z1 h (by rw [← z]; exact z2) e1)) (fun us z => ⟨by rw [h] at z; exact (Sl.ml.inj (Option.some.inj z)).symm, e1⟩) with q | q
    · exact q
    · exact absurd h q
  · intro m j us ws b h1 h2 h3 h4
    have old : ∀ {m : Nat} {us : List Th}, (Δ.set i (.ml (ts ++ [th])))[m]? = some (.ml us) → ∃ us', Δ[m]? = some (.ml us') := fun {m us} z => by
      by_cases q : i = m
      · subst q; exact ⟨ts, h⟩
      · rw [List.getElem?_set_ne q] at z; exact ⟨us, z⟩
    obtain ⟨us', g1⟩ := old h1
    obtain ⟨ws', g2⟩ := old h2
    exact hA2.apart m j us' ws' b g1 g2 h3 h4
  · intro m us b h1 h3
    have old : ∃ us', Δ[m]? = some (.ml us') := by
      by_cases q : i = m
      · subst q; exact ⟨ts, h⟩
      · rw [List.getElem?_set_ne q] at h1; exact ⟨us, h1⟩
    obtain ⟨us', g1⟩ := old
    exact hA2.own m us' b g1 h3
end
end DL
set_option Elab.async false
set_option linter.all false
set_option maxRecDepth 100000
/-! Exceptions. -/
namespace DL
open PySem PySem.Spec PyProof.Rows L2
/-- how a call ends: a thing, or an exception of the class at C with what it carries -/
inductive Out where
  | val (A : Th → Prop)
  | exc (C : Addr) (fs : List (Str × Th))
abbrev CnX := List Th → Out → Prop
def spX (R : CnX) : Sp := fun vs H Q E => ∃ S ths o, Dom S H ∧ All (hide S H) ths vs ∧ R ths o ∧ match o with
  | .val A => ∀ t v H', A t → Ex H H' → t.R (hide S H') v → Q v H'
  | .exc C fs => ∀ d H', Ex H H' → XF (hide S H') d fs → (∀ a, d = some a → a ∉ S) → E (.ref C) d H'
structure GdX (P : Program) (w : World) (K : PySem.W.Frag) (mg : Str → Option Value) (base : Heap) (x : Str) (k : Nat) (R : CnX) : Prop where
  ex : ∃ f fd ps, mg x = some (.ref f) ∧ PySem.W.keepIn K (.ref f) = true ∧ Binds K fd ps [] ∧ FnOk P w K mg base (L2.CX P w) k f fd ps (spX R)
section
variable {X : Cx} {Δ : List Sl} {e a b c : Expr} {es : List Expr} {A B C : Th → Prop} {pos : Pos} {P : Post} {rest body els : List Stmt} {st : Stmt} {W : WX}
/-- a call that may raise, but does not -/
theorem px_callV {x : Str} {k : Nat} {R : CnX} {p : Pos} {B : List Th → Prop} (G : GdX X.prog X.w X.K X.mg X.base x k R) (hr : Room k X.A) (ha : PL X Δ (e :: es) B) (h : ∀ ts, B ts → ∃ A, R ts (.val A) ∧ ∀ t, A t → C t)
    (hg : Gl X x := by rfl) (hdb : (x == ("__debug__" : Str)) = false := by decide) (he : starEach (e :: es) X.env = (false, eval e X.env) :: starEach es X.env := by rfl) (hpl : (backTo pos (starEach es X.env)).any (·.1) = false := by rfl) :
    PX X Δ (.Call (.Name x p) (e :: es) [] pos) C := by
  obtain ⟨f, fd, ps, hm, hk, hb, F⟩ := G.ex
  obtain ⟨t, pa, fa⟩ := ha
  refine ⟨_, pe_call (E := E0) F hr hg hm hk hb (dvs := []) .nil passL pa hdb he hpl, fun S0 M0 H0 σ H S hA Q q => ?_⟩
  refine fa S0 M0 H0 σ H S hA _ fun ths vs H1 hB e1 r => ?_
  obtain ⟨A, hR, hC⟩ := h ths hB
  show spX R (vs ++ []) H1 Q E0
  rw [List.append_nil]
  exact ⟨S, ths, .val A, (hA.up e1).dom, r, hR, fun th v H2 hA2 e2 r2 => q th v H2 (hC th hA2) (e1.trans e2) r2⟩
theorem pd_callV {x : Str} {k : Nat} {R : CnX} {p : Pos} {ts : List Th} {t : Th} (G : GdX X.prog X.w X.K X.mg X.base x k R) (hr : Room k X.A) (ha : PLD X Δ (e :: es) ts) (h : R ts (.val (· = t)))
    (hg : Gl X x := by rfl) (hdb : (x == ("__debug__" : Str)) = false := by decide) (he : starEach (e :: es) X.env = (false, eval e X.env) :: starEach es X.env := by rfl) (hpl : (backTo pos (starEach es X.env)).any (·.1) = false := by rfl) :
    PD X Δ (.Call (.Name x p) (e :: es) [] pos) t := px_callV G hr ha (fun us hu => ⟨_, by rw [hu]; exact h, fun _ z => z⟩) hg hdb he hpl
/-- an expression that raises -/
def PR (X : Cx) (W : WX) (Δ : List Sl) (e : Expr) (C : Addr) (fs : List (Str × Th)) : Prop :=
  ∃ t : TE, PE X e t ∧ ∀ S0 M0 H0 σ H S, At S0 M0 H0 Δ σ H S → (∀ H' d, Ex H H' → XF (hide S H') d fs → (∀ a, d = some a → a ∉ S) → W (.ref C) d σ H') → ∀ Q, t σ H Q
theorem pr_call {x : Str} {k : Nat} {R : CnX} {p : Pos} {B : List Th → Prop} {Cc : Addr} {fs : List (Str × Th)} (tk : Takes X W) (G : GdX X.prog X.w X.K X.mg X.base x k R) (hr : Room k X.A) (ha : PL X Δ (e :: es) B) (h : ∀ ts, B ts → R ts (.exc Cc fs))
    (hg : Gl X x := by rfl) (hdb : (x == ("__debug__" : Str)) = false := by decide) (he : starEach (e :: es) X.env = (false, eval e X.env) :: starEach es X.env := by rfl) (hpl : (backTo pos (starEach es X.env)).any (·.1) = false := by rfl) :
    PR X W Δ (.Call (.Name x p) (e :: es) [] pos) Cc fs := by
  obtain ⟨f, fd, ps, hm, hk, hb, F⟩ := G.ex
  obtain ⟨t, pa, fa⟩ := ha
  refine ⟨_, pe_callS F hr hg hm hk hb (fun σ => passAt tk σ) pa hdb he hpl, fun S0 M0 H0 σ H S hA w Q => ?_⟩
  refine fa S0 M0 H0 σ H S hA _ fun ths vs H1 hB e1 r => ?_
  exact ⟨S, ths, .exc Cc fs, (hA.up e1).dom, r, h ths hB, fun d H' e2 r2 nd => w H' d (e1.trans e2) r2 nd⟩
/-- x = e, return e, e where e raises -/
theorem sd_asgR (i : Nat) {x : Str} {p : Pos} {Cc : Addr} {fs : List (Str × Th)} (he : PR X W Δ e Cc fs) (k : P.xc Cc fs Δ) (hN : X.N.Nodup) (hi : X.N[i]? = some x := by rfl) (hx : Loc X.env.scope x := by first | exact Or.inl rfl | exact Or.inr rfl)
    (hs : swapsWith e (some (.Name x p)) pos.line X.env = pure false := by rfl) (hw : swappedStores [.Name x p] e X.env = pure none := by rfl)
    (hf : X.fn x = true ∨ X.env.scope.names.lookup x = some .local := by first | exact .inl rfl | exact .inr rfl) : SD X W (.Assign [.Name x p] e pos :: rest) P Δ := by
  obtain ⟨t, pe, f⟩ := he
  refine sd_cons ⟨_, ps_asg pe (pg_name hN hi hx hf) hs hw, fun S0 M0 H0 σ H S hA D le xw => ?_⟩
  exact f S0 M0 H0 σ H S hA (fun H' d e1 r nd => xw.1 σ H' Cc fs d Δ S k (hA.up e1) r nd) _
theorem sd_retR {Cc : Addr} {fs : List (Str × Th)} (he : PR X W Δ e Cc fs) (k : P.xc Cc fs Δ) : SD X W (.Return (some e) pos :: rest) P Δ := by
  obtain ⟨t, pe, f⟩ := he
  refine sd_cons ⟨_, ps_ret pe, fun S0 M0 H0 σ H S hA D le xw => ?_⟩
  exact f S0 M0 H0 σ H S hA (fun H' d e1 r nd => xw.1 σ H' Cc fs d Δ S k (hA.up e1) r nd) _
/-- an own exception class without __init__ -/
structure ExC0 (K : PySem.W.Frag) (mg : Str → Option Value) (x : Str) (C : Addr) : Prop where
  gC : mg x = some (.ref C)
  q : PySem.W.excIn K C [.type "ValueError", .type "Exception", .type "BaseException", .type "object"] "ValueError.__new__" = true
  kC : PySem.W.keepIn K (.ref C) = true
  sub : PySem.W.subIn K (.ref C) (.type "BaseException") = some true
  ty : PySem.W.typeIn K (.ref C) = some (.type "type")
/-- X() -/
theorem pmk_own0 {x : Str} {p pos : Pos} {C : Addr} (T : ExC0 X.K X.mg x C) (hg : Gl X x) (hdb : (x == ("__debug__" : Str)) = false := by decide) : PMk X (.Call (.Name x p) [] [] pos) (fun _ H Q => Q (.ref C) none H) := by
  intro pins s σ H Q I h
  refine wpAny_Call_Name_kw (ld_glob I hg T.gC ?_ hdb)
  refine PySem.W.callWith_K0 I.kIn T.kC ?_
  obtain ⟨bm, N, nm, qn, bs, hdct, sn, sub, ab, col, dd, k0, k1, k2, k3, k5, mN, hC, hN, hni, T2⟩ := exc_obj I.kIn T.q
  refine wpAny_call_exc_subT PySem.F.excBase_ValueError T2 hC hN hni (fun h' e hm => ?_) (Nat.zero_le _)
  exact mk_of I hm (raises_own T.sub T.ty) h (I.hok.gone hm.new)
theorem sd_raise0 {x : Str} {p p2 : Pos} {C : Addr} (T : ExC0 X.K X.mg x C) (tk : Takes X W) (k : P.xc C [] Δ) (hg : Gl X x := by rfl) (hc : X.calm = true := by rfl) (hdb : (x == ("__debug__" : Str)) = false := by decide) :
    SD X W (.Raise (some (.Call (.Name x p) [] [] p2)) none pos :: rest) P Δ :=
  sd_cons ⟨_, ps_raise hc tk (pmk_own0 T hg hdb), fun S0 M0 H0 σ H S hA D le xw => xw.1 σ H C [] none Δ S k hA (Or.inl ⟨rfl, rfl⟩) (fun a z => nomatch z)⟩
/-- the exception that a suite holds -/
def refT (a : Addr) : Th := ⟨fun _ v => v = .ref a, fun _ _ _ _ h => h⟩
/-- try: body except x as n: suite -/
theorem sd_tryAs (i : Nat) {x n : Str} {cv : Value} {b0 : Stmt} {suite : List Stmt} {np pos' : Pos} {Wout : WX} (XC : Addr → List (Str × Th) → List Sl → Prop) (hN : X.N.Nodup) (hi : X.N[i]? = some n) (hln : X.env.kindOf n = some .local) (hc : Names X x cv) (tk : Takes X Wout)
    (hb : ∀ (W : WX) (pn : List (Addr × Obj)) (xe : Value → Shared → Prop), Takes (X.tr pn xe) W → PassesOwn (model X.prog X.w) X.A X.env xe → SD (X.tr pn xe) W body { P with nx := fun Δ' => SD X Wout rest P Δ', xc := XC } Δ)
    (hcls : ∀ C fs Δ', XC C fs Δ' → PySem.W.exmOne X.K (.ref C) cv = some true)
    (hsu : ∀ C fs Δ', XC C fs Δ' → ∀ (a : Addr) (oe : Obj) (d : Option Addr) (pn : List (Addr × Obj)), Zc (.ref C) d oe → (∃ vs, oe.data = .fields vs) → (fs = [] → d = none) →
      SD (X.suite a ((a, oe) :: pn)) (fun _ _ _ _ => False) (b0 :: suite) { nx := fun Δ2 => SD X Wout rest P (Δ2.set i .no), rt := P.rt, bk := fun Δ2 => P.bk (Δ2.set i .no), ct := fun Δ2 => P.ct (Δ2.set i .no) } (Δ'.set i (.th (refT a))))
    (hsl : ∀ C fs Δ', XC C fs Δ' → ∀ ts, Δ'[i]? ≠ some (.ml ts))
    (hs : X.stack = X.env :: X.outer := by rfl) (hf : X.env.frame = some X.env.locals := by rfl) :
    SD X Wout (.Try body [.ExceptHandler (some (.Name x np)) (some n) (b0 :: suite) pos'] [] [] pos :: rest) P Δ := by
  refine sd_cons ?_
  have pb : ∀ (W : WX) (pn : List (Addr × Obj)) (xe : Value → Shared → Prop), Takes (X.tr pn xe) W → PassesOwn (model X.prog X.w) X.A X.env xe → PSs (X.tr pn xe) body (fun D σ H => ∀ (pn : List (Addr × Obj)) (xe : Value → Shared → Prop), Takes (X.tr pn xe) W → PassesOwn (model X.prog X.w) X.A X.env xe → ∃ t, PSs (X.tr pn xe) body t ∧ t D σ H) :=
    fun W pn xe tk hp => ⟨fun pins s σ H D I h => by
      obtain ⟨t, p, ht⟩ := h pn xe tk hp
      exact p.run pins s σ H D I ht⟩
  have ps : ∀ (a : Addr) (oe : Obj) (cls : Value) (d : Option Addr) (pn : List (Addr × Obj)), Zc cls d oe → (∃ vs, oe.data = .fields vs) → PSs (X.suite a ((a, oe) :: pn)) (b0 :: suite) (fun D σ H => ∀ (oe : Obj) (pn : List (Addr × Obj)), Zc cls d oe → (∃ vs, oe.data = .fields vs) → ∃ t, PSs (X.suite a ((a, oe) :: pn)) (b0 :: suite) t ∧ t D σ H) :=
    fun a oe cls d pn hz hfl => ⟨fun pins s σ H D I h => by
      obtain ⟨t, p, ht⟩ := h oe pn hz hfl
      exact p.run pins s σ H D I ht⟩
  refine ⟨_, ps_try_as (ts := fun a cls d => fun D σ H => ∀ (oe : Obj) (pn : List (Addr × Obj)), Zc cls d oe → (∃ vs, oe.data = .fields vs) → ∃ t, PSs (X.suite a ((a, oe) :: pn)) (b0 :: suite) t ∧ t D σ H) hs hf hN hi hln hc tk pb ps, fun S0 M0 H0 σ H S hA D le xw => ?_⟩
  intro pn xe tk2 hp2
  obtain ⟨t, p, f⟩ := hb _ pn xe tk2 hp2
  refine ⟨t, p, f S0 M0 H0 σ H S hA D ⟨le.nx, le.rt, le.bk, le.ct⟩ ⟨fun σ1 H1 C fs d Δ1 S1 hxc hA1 r nd => ?_, xw.2⟩⟩
  refine ⟨true, hcls C fs Δ1 hxc, fun _ a na oe pn hz hfl => ?_, fun z => nomatch z⟩
  have hd0 : fs = [] → d = none := fun z => by
    rcases r with ⟨_, r⟩ | ⟨ne, _⟩
    · exact r
    · exact absurd z ne
  obtain ⟨u, pu, fu⟩ := hsu C fs Δ1 hxc a oe d pn hz hfl hd0
  refine ⟨u, pu, fu S0 M0 H0 _ H1 S1 (hA1.setS (s := .th (refT a)) rfl ⟨.ref a, rfl, rfl⟩) _ ⟨fun σ2 H2 ⟨Δ2, S2, n2, hA2⟩ => le.nx _ _ ⟨_, S2, n2, hA2.setS (s := .no) rfl trivial⟩, le.rt, fun σ2 H2 ⟨Δ2, S2, n2, hA2⟩ => le.bk _ _ ⟨_, S2, n2, hA2.setS (s := .no) rfl trivial⟩, fun σ2 H2 ⟨Δ2, S2, n2, hA2⟩ => le.ct _ _ ⟨_, S2, n2, hA2.setS (s := .no) rfl trivial⟩⟩ ⟨fun _ _ _ _ _ _ _ p => p.elim, fun z => nomatch z⟩⟩
end
def postX (K : PySem.W.Frag) : Out → Post
  | .val A => retOf K A
  | .exc C fs => { nx := fun _ => False, rt := fun _ => False, xc := fun C' fs' _ => C' = C ∧ fs' = fs, top := true }
section
variable {P : Program} {w : World} {K : PySem.W.Frag} {mg : Str → Option Value} {base : Heap}
theorem fnX_mk {x qual : Str} {st : Stmt} {f : Addr} {fd : FuncData} {N ps : List Str} {k : Nat} {R : CnX} (F : Fun K x qual st f fd) (Sc : FnScope N ps (defScope st)) (hl : ∀ ts o, R ts o → ts.length = ps.length)
    (body : ∀ (cdv : Value) (A : Around) (outer : List Env) (s : Shared) (H : Hp) (E : XK), Room k (A.deeper (envOfC qual (defScope st) s.heap.objs.size f cdv)) → ∀ ts o, R ts o →
      SD (cxOf (L2.CX P w) P w K mg base N qual (defScope st) f cdv A outer s H E) (fun cls d _ H => E cls d H) (defBody st) (postX K o) (startΔ N ts)) : FnOk P w K mg base (L2.CX P w) (k + 1) f fd ps (spX R) := by
  refine F.okX Sc (fun vs H Q E ⟨S, ths, o, _, r, hR, _⟩ => by rw [← r.len]; exact hl _ _ hR) fun cdv A outer s H vs Q E hr ⟨S, ths, o, dom, r, hR, k⟩ => ?_
  obtain ⟨t, p, f⟩ := body cdv A outer s H E hr ths o hR
  have ex0 : ∀ {H'}, Ex (hide [] H) H' → Ex H H' := fun {H'} e a o h => e a o (by rw [hide_out (by simp)]; exact h)
  refine ⟨t, p, f S [] H _ H S (at_start dom r) _ ?_ ?_⟩
  · cases o with
    | val A => exact ends_ret k
    | exc C fs => exact ⟨fun _ _ ⟨_, _, p, _⟩ => p.elim, fun _ _ ⟨_, p, _⟩ => p.elim, fun _ _ ⟨_, _, p, _⟩ => p.elim, fun _ _ ⟨_, _, p, _⟩ => p.elim⟩
  · cases o with
    | val A => exact ⟨fun _ _ _ _ _ _ _ p => p.elim, fun _ => ⟨rfl, dom⟩⟩
    | exc C fs =>
      refine ⟨?_, fun _ => ⟨rfl, dom⟩⟩
      rintro σ1 H1 C' fs' d Δ1 S1 ⟨rfl, rfl⟩ hA r nd
      exact k d H1 (ex0 hA.ex) (r.up (hide_sub hA.sub)) fun a h z => nd a h (hA.sub a z)
theorem gdx_mk {x : Str} {k : Nat} {R : CnX} {f : Addr} {fd : FuncData} {ps : List Str} (hm : mg x = some (.ref f)) (hk : PySem.W.keepIn K (.ref f) = true) (hb : Binds K fd ps []) (F : FnOk P w K mg base (L2.CX P w) k f fd ps (spX R)) : GdX P w K mg base x k R :=
  ⟨f, fd, ps, hm, hk, hb, F⟩
end
end DL
set_option Elab.async false
set_option linter.all false
set_option maxRecDepth 100000
/-! A hand of numbers: a list that draws change, told by what stays true of it. -/
namespace DL
open PySem PySem.Spec PyProof.Rows L2
/-- a list [cells, place, rest, total] stands at h -/
def handP (c h : Addr) : Heap → Prop := fun hp => ∃ (i r t : Int) (its : List Value) (n : Nat), 0 ≤ i ∧ Vals [V.ref c, .int i, .int r, .int t] its ∧ hp.get? h = some { cls := .type "list", data := .seq its.toArray n }
theorem handP_stay {c h : Addr} (h1 h2 : Heap) (p : handP c h h1) (k : ∀ o, h1.get? h = some o → h2.get? h = some o) : handP c h h2 :=
  let ⟨i, r, t, its, n, a, b, e⟩ := p
  ⟨i, r, t, its, n, a, b, k _ e⟩
def handT : Th := ⟨fun H v => ∃ h c ns, v = .ref h ∧ H h = some (.ext (handP c h)) ∧ H c = some (.lst (List.map V.int ns)), fun H H' v e ⟨h, c, ns, a, b, d⟩ => ⟨h, c, ns, a, e _ _ b, e _ _ d⟩⟩
section
variable {P : Program} {w : World} {K : PySem.W.Frag} {mg : Str → Option Value} {base : Heap} {CXx : CXT}
/-- the same heap seen otherwise at one address -/
theorem hok_swap {H : Hp} {hp : Heap} {a : Addr} {o u : HO} (hok : HOk P w H hp) (hH : H a = some o) (ho : ∀ x, o ≠ .own x) (ho2 : ∀ xs, o ≠ .tup xs) (new : ObjOk P w (upd H a u) hp a u) : HOk P w (upd H a u) hp := fun b x e => by
  by_cases hb : b = a
  · subst hb
    rw [upd_same] at e
    cases e
    exact new
  · rw [upd_ne hb] at e
    refine (hok b x e).stay (fun _ _ _ q => q) (fun c q => ?_) fun c xs q => ?_
    · rw [upd_ne (fun z => by rw [z, hH] at q; exact ho _ (Option.some.inj q))]; exact q
    · rw [upd_ne (fun z => by rw [z, hH] at q; exact ho2 _ (Option.some.inj q))]; exact q
/-- a promise seen with other abstract heaps -/
theorem FnOk.view {k : Nat} {f : Addr} {fd : FuncData} {ps : List Str} {sp1 sp2 : Sp} (F : FnOk P w K mg base CX0 k f fd ps sp1) (len : ∀ vs H Q E, sp2 vs H Q E → vs.length = ps.length)
    (h : ∀ vs H Q E hp, sp2 vs H Q E → HOk P w H hp → ∃ H1, HOk P w H1 hp ∧ (∀ b, H b = none → H1 b = none) ∧
      sp1 vs H1 (fun v H' => ∃ H'', (∀ hp', HOk P w H' hp' → HOk P w H'' hp') ∧ (∀ b, H1 b = none → H' b = none → H'' b = none) ∧ (∀ b xs, H b = some (.tup xs) → H'' b = some (.tup xs)) ∧ (∀ b o u, H b = some (.frz o u) → H'' b = some (.frz o u)) ∧ (∀ b ps, H b = some (.tbl ps) → ∃ more, H'' b = some (.tbl (ps ++ more))) ∧ Q v H'') E) :
    FnOk P w K mg base CX0 k f fd ps sp2 := by
  refine ⟨len, fun A outer s H args us vs Q E hr e0 hb r hsp => ?_⟩
  obtain ⟨H1, hok1, hn, hs1⟩ := h vs H Q E s.heap hsp e0.hok
  refine codeAny_mono (F.run A outer s H1 args us vs _ E hr ⟨e0.frames, e0.mod, fun b o e => ⟨(e0.bs b o e).1, hn b (e0.bs b o e).2⟩, e0.bsz, e0.funs, fun b hb => hn b (e0.frf b hb), hok1, e0.bare⟩ hb r hs1) fun res s' q => ?_
  cases res with
  | error e => exact q.elim
  | ok fl =>
    cases fl with
    | next => exact q.elim
    | brk => exact q.elim
    | cont => exact q.elim
    | ret u =>
      obtain ⟨v, H', os, bare, un, hok, rv, H'', k1, k2, k3, k4, k5, q⟩ := q
      exact ⟨v, H'', os, bare, ⟨fun b o e n => un.keep b o e (hn b n), fun b o e n => un.slot b o e (hn b n), fun b o e n hx => k2 b (hn b n) (un.free b o e (hn b n) hx), un.there, k3, k4, k5⟩, k1 _ hok, rv, q⟩
/-- the hand made: a new list, and its cells -/
def spHandL (K : PySem.W.Frag) : Sp := fun vs H Q _ => ∃ (a : Addr) (ns : List Int), vs = [.ref a] ∧ SqL K H a (List.map V.int ns) ∧ ns.length ≤ 1000 ∧
  ∀ (p c : Addr) (t : Int) (ms : List Int) (H' : Hp), H p = none → H c = none → Ex H H' → H' p = some (.lst [.ref c, .int 0, .int 0, .int t]) → H' c = some (.lst (List.map V.int ms)) → Q (.ref p) H'
def RHand (K : PySem.W.Frag) : Cn := fun ts A => ∃ ns : List Int, ts = [dat K (.list (ns.map .int))] ∧ ns.length ≤ 1000 ∧ A = (· = handT)
theorem obj_hand {H : Hp} {hp : Heap} {p c : Addr} {i r t : Int} (hi : 0 ≤ i) (x : ObjOk P w H hp p (.lst [.ref c, .int i, .int r, .int t])) (H' : Hp) : ObjOk P w H' hp p (.ext (handP c p)) := by
  obtain ⟨_, its, n, rv, e⟩ := x
  exact ⟨⟨i, r, t, its, n, hi, rv, e⟩, ⟨_, e⟩, fun h1 h2 q k => handP_stay h1 h2 q k⟩
theorem lst_own {xs : List V} : ∀ x, HO.lst xs ≠ .own x := fun _ z => by cases z
theorem lst_tup {xs : List V} : ∀ ys, HO.lst xs ≠ .tup ys := fun _ z => by cases z
theorem ints_dp {K : PySem.W.Frag} {H : Hp} : ∀ {xs : List V} {ns : List Int}, DpAll K H xs (ns.map .int) → xs = ns.map V.int
  | [], [], _ => rfl
  | v :: vs, b :: bs, h => by
    cases h with
    | cons h1 h2 => rw [dp_int h1, ints_dp h2]; rfl
  | [], b :: bs, h => by cases h
  | v :: vs, [], h => by cases h
theorem hand_view {k : Nat} {f : Addr} {fd : FuncData} {ps : List Str} (hl : ps.length = 1) (F : FnOk P w K mg base CX0 k f fd ps (spHandL K)) : FnOk P w K mg base CX0 k f fd ps (spT (RHand K)) := by
  refine FnOk.view F (fun vs H Q E ⟨S, ths, A, _, r, ⟨ns, e, _, _⟩, _⟩ => by rw [← r.len, e, hl]; rfl) fun vs H Q E hp ⟨S, ths, A, dom, r, ⟨ns, e, hn, eA⟩, k⟩ hok => ?_
  subst e; subst eA
  obtain ⟨v, rfl, r0⟩ := all1 r
  obtain ⟨a, xs, rfl, hq, hd⟩ := dp_lst r0
  have ex := ints_dp hd
  subst ex
  refine ⟨H, hok, fun b h => h, a, ns, rfl, ex_l hide_le hq, hn, fun p c t ms H' hp0 hc0 e1 h1 h2 => ?_⟩
  have ncp : c ≠ p := fun z => by
    rw [z, h1] at h2
    have z2 := HO.lst.inj (Option.some.inj h2)
    cases ms with
    | nil => cases z2
    | cons m ms => injection z2 with z3 _; cases z3
  have e2 : Ex H (upd H' p (.ext (handP c p))) := fun b o hb => by
    rw [upd_ne (ne_of_none hb hp0)]
    exact e1 b o hb
  refine ⟨upd H' p (.ext (handP c p)), fun hp' hk => hok_swap hk h1 lst_own lst_tup (obj_hand (Int.le_refl 0) (hk p _ h1) _), fun b n1 n2 => ?_, fun b xs q => e2 b _ q, fun b o u q => e2 b _ q, fun b ps q => ⟨#[], by rw [e2 b _ q]; simp⟩, ?_⟩
  · rw [upd_ne (fun z => by rw [z, h1] at n2; cases n2)]
    exact n2
  · have nS : p ∉ S := dom.new hp0
    refine k handT _ _ rfl e2 ⟨p, c, ms, rfl, ?_, ?_⟩
    · rw [hide_out nS]; exact upd_same
    · rw [hide_out (dom.new hc0), upd_ne ncp]; exact h2
/-- a draw -/
def spDrawL : Sp := fun vs H Q _ => ∃ (h c : Addr) (m i r t : Int) (ns : List Int), vs = [.ref h, .int m] ∧ 0 < m ∧ m < 2 ^ 64 ∧ H h = some (.lst [.ref c, .int i, .int r, .int t]) ∧ 0 ≤ i ∧ H c = some (.lst (List.map V.int ns)) ∧
  ∀ (q i' r' t' : Int) (H' : Hp), 0 ≤ q → q < m → 0 ≤ i' → Ex (upd H h (.lst [.ref c, .int i', .int r', .int t'])) H' → Q (.int q) H'
def RDraw (K : PySem.W.Frag) : Cn := fun ts A => ∃ m : Int, ts = [handT, dat K (.int m)] ∧ 0 < m ∧ m < 2 ^ 64 ∧ A = isI K (fun q => 0 ≤ q ∧ q < m)
theorem draw_view {k : Nat} {f : Addr} {fd : FuncData} {ps : List Str} (hl : ps.length = 2) (F : FnOk P w K mg base CX0 k f fd ps spDrawL) : FnOk P w K mg base CX0 k f fd ps (spT (RDraw K)) := by
  refine FnOk.view F (fun vs H Q E ⟨S, ths, A, _, r, ⟨m, e, _, _⟩, _⟩ => by rw [← r.len, e, hl]; rfl) fun vs H Q E hp ⟨S, ths, A, dom, r, ⟨m, e, hm, hm2, eA⟩, k⟩ hok => ?_
  subst e; subst eA
  obtain ⟨v, u, rfl, ⟨h, c, ns, rfl, hh, hc⟩, r1⟩ := all2 r
  have := dp_int r1
  subst this
  have hh' : H h = some (.ext (handP c h)) := hide_le _ _ hh
  have hc' : H c = some (.lst (List.map V.int ns)) := hide_le _ _ hc
  have nch : c ≠ h := ne_of hc' hh' (fun z => nomatch z)
  have hob : ObjOk P w H hp h (.ext (handP c h)) := hok h _ hh'
  obtain ⟨⟨i, rr, t, its, n, hi, rv, eo⟩, _, _⟩ := hob
  have ext_own : ∀ x, HO.ext (handP c h) ≠ .own x := fun _ z => by cases z
  have ext_tup : ∀ x, HO.ext (handP c h) ≠ .tup x := fun _ z => by cases z
  have nb : ∀ {b : Addr}, H b = none → b ≠ h := fun {b} z q => by rw [q, hh'] at z; cases z
  refine ⟨upd H h (.lst [.ref c, .int i, .int rr, .int t]), hok_swap hok hh' ext_own ext_tup ⟨by show 4 ≤ sizeLine; decide, its, n, rv, eo⟩, fun b z => by rw [upd_ne (nb z)]; exact z, ?_⟩
  refine ⟨h, c, m, i, rr, t, ns, rfl, hm, hm2, upd_same, hi, by rw [upd_ne nch]; exact hc', fun q i' r' t' H' q0 q1 hi' e1 => ?_⟩
  rw [upd_upd] at e1
  have h1 : H' h = some (.lst [.ref c, .int i', .int r', .int t']) := e1 h _ upd_same
  have e2 : Ex H (upd H' h (.ext (handP c h))) := fun b o hb => by
    by_cases z : b = h
    · rw [z, upd_same, ← hh', ← z]; exact hb
    · rw [upd_ne z]
      exact e1 b o (by rw [upd_ne z]; exact hb)
  refine ⟨upd H' h (.ext (handP c h)), fun hp' hk => hok_swap hk h1 lst_own lst_tup (obj_hand hi' (hk h _ h1) _), fun b n1 n2 => ?_, fun b xs q => e2 b _ q, fun b o u q => e2 b _ q, fun b ps q => ⟨#[], by rw [e2 b _ q]; simp⟩, k (dat K (.int q)) _ _ ⟨q, rfl, q0, q1⟩ e2 (Dp.int q)⟩
  rw [upd_ne (fun z => by rw [z, h1] at n2; cases n2)]
  exact n2
/-- reading a place of the hand -/
theorem rd {σ : L2.St} {H : Hp} {h : Addr} {xs : List V} {Q : VK} (hσ : σ[0]? = some (some (.ref h))) (hH : H h = some (.lst xs)) {j : Int} {v : V} (e : atI xs j = some v) (q : Q v H) : tOp (rIxL K) (tVar 0) (tC (.int j)) σ H Q :=
  ⟨_, hσ, h, xs, j, v, rfl, rfl, SqL.of hH, e, q⟩
end
/-- the mixing of two numbers -/
def RMix (K : PySem.W.Frag) : Cn := fun ts A => ∃ a b : Int, ts = [dat K (.int a), dat K (.int b)] ∧ A = isI K (fun _ => True)
theorem fmod_lt {a b : Int} (h : 0 < b) : 0 ≤ a.fmod b ∧ a.fmod b < b := by
  rw [Int.fmod_eq_emod_of_nonneg a (by omega)]
  exact ⟨Int.emod_nonneg a (by omega), Int.emod_lt_of_pos a h⟩
theorem mulR {i j : Int} (h : -(2 ^ 64) < j ∧ j < 2 ^ 64) : IntMulOk i j := CMul.ok (Or.inr h)
theorem mulL {i j : Int} (h : -(2 ^ 64) < i ∧ i < 2 ^ 64) : IntMulOk i j := CMul.ok (Or.inl h)
theorem dvS {i j : Int} (h0 : j ≠ 0) (h : j.natAbs < 2 ^ 64) : CDv i j := ⟨h0, Nat.lt_of_lt_of_le (PySem.Flt.log2_lt_of (by decide) h) (by decide)⟩
end DL
set_option Elab.async false
set_option linter.all false
set_option maxRecDepth 100000
/-! Ratios and couples of them. -/
namespace DL
open PySem PySem.Spec PyProof.Rows L2
section
variable {X : Cx} {Δ : List Sl} {e : Expr}
theorem PB.is {k k' : Bool} (h : PB X Δ e k) (q : k = k') : PB X Δ e k' := q ▸ h
theorem PD.is {t t' : Th} (h : PD X Δ e t) (q : t = t') : PD X Δ e t' := q ▸ h
/-- a weaker reading -/
theorem PX.cast {A B : Th → Prop} (h : PX X Δ e A) (i : ∀ t, A t → ∃ t', B t' ∧ ∀ H v, t.R H v → t'.R H v) : PX X Δ e B := by
  obtain ⟨t, p, f⟩ := h
  refine ⟨t, p, fun S0 M0 H0 σ H S hA Q q => f S0 M0 H0 σ H S hA Q fun th v H2 x e2 r => ?_⟩
  obtain ⟨t', b, r'⟩ := i th x
  exact q t' v H2 b e2 (r' _ _ r)
/-- a test whose answer is not known -/
def PBE (X : Cx) (Δ : List Sl) (e : Expr) : Prop :=
  ∃ t : TT, PT X e t ∧ ∀ S0 M0 H0 σ H S, At S0 M0 H0 Δ σ H S → ∀ Q : Bool → Hp → Prop, (∀ b H2, Ex H H2 → Q b H2) → t σ H Q
theorem pbe_cmpI {a b : Expr} {pos : Pos} {op : CmpOp} {g : Int → Int → Bool} {Pa Pb : Int → Prop} (ho : OpR X (compareOp op) (rI0 fun i j => .bl (g i j))) (ha : PX X Δ a (isI X.K Pa)) (hb : PX X Δ b (isI X.K Pb)) (hm : behindInMarks op b = false) : PBE X Δ (.Compare a [op] [b] pos) := by
  obtain ⟨ta, pa, fa⟩ := ha
  obtain ⟨tb, pb, fb⟩ := hb
  refine ⟨_, pt_cmpR ho pa pb hm, fun S0 M0 H0 σ H S hA Q q => ?_⟩
  refine fa S0 M0 H0 σ H S hA _ fun x v H1 ⟨i, hx, _⟩ e1 rx => fb S0 M0 H0 σ H1 S (hA.up e1) _ fun y w H2 ⟨j, hy, _⟩ e2 ry => ?_
  subst hx; subst hy
  exact ⟨i, j, dp_int rx, dp_int ry, _, rfl, q _ H2 (e1.trans e2)⟩
theorem pbe_eq {a b : Expr} {pos : Pos} {Pa Pb : Int → Prop} (ha : PX X Δ a (isI X.K Pa)) (hb : PX X Δ b (isI X.K Pb)) : PBE X Δ (.Compare a [.Eq] [b] pos) := by
  obtain ⟨ta, pa, fa⟩ := ha
  obtain ⟨tb, pb, fb⟩ := hb
  refine ⟨_, pt_cmpR op_eq pa pb (nomark _), fun S0 M0 H0 σ H S hA Q q => ?_⟩
  refine fa S0 M0 H0 σ H S hA _ fun x v H1 ⟨i, hx, _⟩ e1 rx => fb S0 M0 H0 σ H1 S (hA.up e1) _ fun y w H2 ⟨j, hy, _⟩ e2 ry => ?_
  subst hx; subst hy
  have h1 := dp_int rx
  have h2 := dp_int ry
  subst h1; subst h2
  exact ⟨rfl, _, rfl, q _ H2 (e1.trans e2)⟩
theorem sd_ifE {P : Post} {W : WX} {c : Expr} {body els rest : List Stmt} {pos : Pos} (hc : PBE X Δ c) (h1 : SD X W body { P with nx := fun Δ' => SD X W rest P Δ' } Δ) (h2 : SD X W els { P with nx := fun Δ' => SD X W rest P Δ' } Δ) : SD X W (.If c body els pos :: rest) P Δ := by
  refine sd_cons ?_
  obtain ⟨t, p, f⟩ := hc
  obtain ⟨u, pu, fu⟩ := h1
  obtain ⟨w, pw, fw⟩ := h2
  refine ⟨_, ps_if p pu pw, fun S0 M0 H0 σ H S hA D le xw => f S0 M0 H0 σ H S hA _ fun b H1 e1 => ?_⟩
  cases b with
  | true => exact fu S0 M0 H0 σ H1 S (hA.up e1) D le xw
  | false => exact fw S0 M0 H0 σ H1 S (hA.up e1) D le xw
/-- a and b, b's answer not known -/
theorem pbe_and2 {a b : Expr} {pos : Pos} {k : Bool} (ha : PB X Δ a k) (hb : k = true → PBE X Δ b) : PBE X Δ (.BoolOp .And [a, b] pos) := by
  obtain ⟨t, p, f⟩ := ha
  cases k with
  | true =>
    obtain ⟨u, p', f'⟩ := hb rfl
    exact ⟨_, (pw_and p (pw_and1 p')).pt, fun S0 M0 H0 σ H S hA Q q => f S0 M0 H0 σ H S hA _ fun H1 e1 => f' S0 M0 H0 σ H1 S (hA.up e1) _ fun b H2 e2 => q b H2 (e1.trans e2)⟩
  | false =>
    obtain ⟨u, p'⟩ := never_w (X := X) (e := .BoolOp .And [b] pos)
    exact ⟨_, (pw_and p p').pt, fun S0 M0 H0 σ H S hA Q q => f S0 M0 H0 σ H S hA _ fun H1 e1 => q _ H1 e1⟩
/-- a list's truth -/
theorem pb_list {d : PyData} {ds : List PyData} (h : PD X Δ e (dat X.K d)) (hd : d = .list ds ∨ d = .tuple ds) (he : ∀ whole, isTrue e X.env whole = (do let v ← whole; standAt e.pos; holding [v] (truthy v)) := by intro _; rfl) : PB X Δ e (!ds.isEmpty) := by
  obtain ⟨t, p, f⟩ := h
  refine ⟨_, pt_truth p he, fun S0 M0 H0 σ H S hA Q q => f S0 M0 H0 σ H S hA _ fun th v H2 ht e2 r => ?_⟩
  subst ht
  have em : ∀ {xs : List V} {H : Hp}, DpAll X.K H xs ds → (!xs.isEmpty) = !ds.isEmpty := fun {xs H} h => by
    have := dpa_len h
    cases xs <;> cases ds <;> first | rfl | (simp at this)
  rcases hd with rfl | rfl
  · obtain ⟨a, xs, rfl, hq, hx⟩ := dp_lst r
    exact ⟨_, Or.inl ⟨xs, ex_l hide_le hq, rfl⟩, by rw [em hx]; exact q H2 e2⟩
  · obtain ⟨a, xs, rfl, hq, hx⟩ := dp_tup r
    exact ⟨_, Or.inr (Or.inl ⟨xs, ex_t hide_le hq, rfl⟩), by rw [em hx]; exact q H2 e2⟩
/-- an item at a place that is not known -/
theorem px_ixX {a b : Expr} {pos : Pos} {D : PyData} {Pi : Int → Prop} {C : Th → Prop} (ha : PD X Δ a (dat X.K D)) (hb : PX X Δ b (isI X.K Pi)) (h : ∀ i, Pi i → ∃ d, ixD D i = some d ∧ C (dat X.K d)) (hs : PlainIx b := by exact fun _ _ => rfl) : PX X Δ (.Subscript a b pos) C :=
  px_two (r := fun x y H Q => rIxL X.K x y H Q ∨ rIxT X.K x y H Q) (fun _ _ pa pb => pe_ix (ix_list.or ix_tup) pa pb hs) ha hb fun S H x y v w _ hx ⟨k, hy, hk⟩ rx ry Q q => by
    subst hx; subst hy
    have e2 := dp_int ry
    subst e2
    obtain ⟨d, hix, hc⟩ := h k hk
    cases D with
    | tuple ds =>
      obtain ⟨p, xs, rfl, hq, hd⟩ := dp_tup rx
      obtain ⟨u, e1, r⟩ := dpa_at hd (show atI ds k = some d from hix)
      exact Or.inr ⟨p, xs, k, u, rfl, rfl, ex_t hide_le hq, e1, q _ u H hc (Ex.refl H) r⟩
    | list ds =>
      obtain ⟨p, xs, rfl, hq, hd⟩ := dp_lst rx
      obtain ⟨u, e1, r⟩ := dpa_at hd (show atI ds k = some d from hix)
      exact Or.inl ⟨p, xs, k, u, rfl, rfl, ex_l hide_le hq, e1, q _ u H hc (Ex.refl H) r⟩
    | none => cases hix
    | bool _ => cases hix
    | int _ => cases hix
    | str _ => cases hix
    | dict _ => cases hix
end
abbrev Q := Int × Int
abbrev Cp := Q × Q
def gI (i j : Int) : Int := ((Nat.gcd i.natAbs j.natAbs : Nat) : Int)
def sgI (i j : Int) : Int := if j < 0 then -gI i j else gI i j
def lowQ (i j : Int) : Q := (i.fdiv (sgI i j), j.fdiv (sgI i j))
def plusQ (a b : Q) : Q := lowQ (a.1 * b.2 + b.1 * a.2) (a.2 * b.2)
def minusQ (a b : Q) : Q := lowQ (a.1 * b.2 - b.1 * a.2) (a.2 * b.2)
def timesQ (a b : Q) : Q := lowQ (a.1 * b.1) (a.2 * b.2)
def negQ (a : Q) : Q := (-a.1, a.2)
def signI (i : Int) : Int := if i = 0 then 0 else if 0 < i then 1 else -1
def cmpQ (a b : Q) : Int := signI (a.1 * b.2 - b.1 * a.2)
def rD (q : Q) : PyData := .tuple [.int q.1, .int q.2]
def cD (p : Cp) : PyData := .tuple [rD p.1, rD p.2]
/-- below 2 ^ n, the bottom above 0 -/
structure Sm (n : Nat) (q : Q) : Prop where
  t : q.1.natAbs < 2 ^ n
  b : q.2.natAbs < 2 ^ n
  p : 0 < q.2
/-- in lowest terms -/
def Low (q : Q) : Prop := Nat.gcd q.1.natAbs q.2.natAbs = 1 ∧ 0 < q.2
theorem gI_pos {i j : Int} (h : j ≠ 0) : 0 < gI i j := by
  unfold gI
  have : 0 < Nat.gcd i.natAbs j.natAbs := Nat.gcd_pos_of_pos_right _ (by omega)
  omega
theorem sgI_ne {i j : Int} (h : j ≠ 0) : sgI i j ≠ 0 := by
  have := gI_pos (i := i) h
  unfold sgI
  split <;> omega
theorem sgI_abs {i j : Int} : (sgI i j).natAbs = Nat.gcd i.natAbs j.natAbs := by
  unfold sgI gI
  split
  · rw [Int.natAbs_neg, Int.natAbs_natCast]
  · rw [Int.natAbs_natCast]
/-- what the lowest terms are -/
theorem low_spec {i j : Int} (h : j ≠ 0) : ∃ s k l : Int, s ≠ 0 ∧ i = s * k ∧ j = s * l ∧ lowQ i j = (k, l) ∧ 0 < l ∧ Nat.gcd k.natAbs l.natAbs = 1 ∧ s = sgI i j := by
  have hs := sgI_ne (i := i) h
  have hg : (gI i j) ∣ i := by
    unfold gI
    exact Int.ofNat_dvd_left.mpr (Nat.gcd_dvd_left _ _)
  have hg2 : (gI i j) ∣ j := by
    unfold gI
    exact Int.ofNat_dvd_left.mpr (Nat.gcd_dvd_right _ _)
  have hd : sgI i j ∣ i := by
    unfold sgI
    split
    · exact Int.neg_dvd.mpr hg
    · exact hg
  have hd2 : sgI i j ∣ j := by
    unfold sgI
    split
    · exact Int.neg_dvd.mpr hg2
    · exact hg2
  obtain ⟨k, ek⟩ := hd
  obtain ⟨l, el⟩ := hd2
  have e1 : i.fdiv (sgI i j) = k := by
    have : (sgI i j * k).fdiv (sgI i j) = k := Int.mul_fdiv_cancel_left _ hs
    rw [← ek] at this
    exact this
  have e2 : j.fdiv (sgI i j) = l := by
    have : (sgI i j * l).fdiv (sgI i j) = l := Int.mul_fdiv_cancel_left _ hs
    rw [← el] at this
    exact this
  have gp := gI_pos (i := i) h
  have hl : 0 < l := by
    rcases Int.lt_or_lt_of_ne h with hj | hj
    · have es : sgI i j = -gI i j := if_pos hj
      rw [es] at el
      rcases Int.lt_trichotomy l 0 with z | z | z
      · have := Int.mul_pos_of_neg_of_neg (show -gI i j < 0 by omega) z
        omega
      · rw [z] at el; simp at el; omega
      · exact z
    · have es : sgI i j = gI i j := if_neg (by omega)
      rw [es] at el
      rcases Int.lt_trichotomy l 0 with z | z | z
      · have := Int.mul_neg_of_pos_of_neg gp z
        omega
      · rw [z] at el; simp at el; omega
      · exact z
  refine ⟨sgI i j, k, l, hs, ek, el, by unfold lowQ; rw [e1, e2], hl, ?_, rfl⟩
  have h1 : Nat.gcd i.natAbs j.natAbs = (sgI i j).natAbs * Nat.gcd k.natAbs l.natAbs := by
    have a1 : i.natAbs = (sgI i j).natAbs * k.natAbs := by rw [← Int.natAbs_mul, ← ek]
    have a2 : j.natAbs = (sgI i j).natAbs * l.natAbs := by rw [← Int.natAbs_mul, ← el]
    rw [a1, a2, Nat.gcd_mul_left]
  rw [← sgI_abs] at h1
  have hp : 0 < (sgI i j).natAbs := by omega
  have h2 : (sgI i j).natAbs * 1 = (sgI i j).natAbs * Nat.gcd k.natAbs l.natAbs := by rw [Nat.mul_one]; exact h1
  exact (Nat.eq_of_mul_eq_mul_left hp h2).symm
theorem low_low {i j : Int} (h : j ≠ 0) : Low (lowQ i j) := by
  obtain ⟨s, k, l, _, _, _, e, hl, hg, _⟩ := low_spec (i := i) h
  rw [e]
  exact ⟨hg, hl⟩
theorem abs_le_mul {s k : Int} (h : s ≠ 0) : k.natAbs ≤ (s * k).natAbs := by
  rw [Int.natAbs_mul]
  exact Nat.le_mul_of_pos_left _ (by omega)
theorem low_sm {i j : Int} {n : Nat} (h : j ≠ 0) (hi : i.natAbs < 2 ^ n) (hj : j.natAbs < 2 ^ n) : Sm n (lowQ i j) := by
  obtain ⟨s, k, l, hs, ei, ej, e, hl, _, _⟩ := low_spec (i := i) h
  rw [e]
  have h1 := abs_le_mul (k := k) hs
  have h2 := abs_le_mul (k := l) hs
  rw [← ei] at h1
  rw [← ej] at h2
  exact ⟨Nat.lt_of_le_of_lt h1 hi, Nat.lt_of_le_of_lt h2 hj, hl⟩
theorem low_id {q : Q} (h : Low q) : lowQ q.1 q.2 = q := by
  obtain ⟨hg, hp⟩ := h
  have e1 : gI q.1 q.2 = 1 := by unfold gI; rw [hg]; rfl
  have e2 : sgI q.1 q.2 = 1 := by unfold sgI; rw [if_neg (by omega), e1]
  unfold lowQ
  rw [e2, Int.fdiv_one, Int.fdiv_one]
theorem mul_ab {a b : Int} {n m : Nat} (ha : a.natAbs < 2 ^ n) (hb : b.natAbs < 2 ^ m) : (a * b).natAbs < 2 ^ (n + m) := by
  rw [Int.natAbs_mul, Nat.pow_add]
  exact Nat.mul_lt_mul'' ha hb
theorem add_ab {a b : Int} {n : Nat} (ha : a.natAbs < 2 ^ n) (hb : b.natAbs < 2 ^ n) : (a + b).natAbs < 2 ^ (n + 1) := by
  have := Int.natAbs_add_le a b
  rw [Nat.pow_succ]
  omega
theorem sub_ab {a b : Int} {n : Nat} (ha : a.natAbs < 2 ^ n) (hb : b.natAbs < 2 ^ n) : (a - b).natAbs < 2 ^ (n + 1) := by
  have h : a - b = a + (-b) := by omega
  rw [h]
  exact add_ab ha (by rw [Int.natAbs_neg]; exact hb)
theorem up_ab {a : Int} {n m : Nat} (h : a.natAbs < 2 ^ n) (l : n ≤ m) : a.natAbs < 2 ^ m := Nat.lt_of_lt_of_le h (Nat.pow_le_pow_right (by decide) l)
theorem Sm.up {n m : Nat} {q : Q} (h : Sm n q) (l : n ≤ m) : Sm m q := ⟨up_ab h.t l, up_ab h.b l, h.p⟩
theorem Sm.pos {n : Nat} {q : Q} (h : Sm n q) : 0 < n := by
  rcases Nat.eq_zero_or_pos n with z | z
  · have := h.b
    have := h.p
    subst z
    simp at *
    omega
  · exact z
theorem sm_bot {n m : Nat} {a b : Q} (ha : Sm n a) (hb : Sm m b) : a.2 * b.2 ≠ 0 := by
  have := Int.mul_pos ha.p hb.p
  omega
theorem sm_plus {n m : Nat} {a b : Q} (ha : Sm n a) (hb : Sm m b) : Sm (n + m + 1) (plusQ a b) :=
  low_sm (sm_bot ha hb) (add_ab (mul_ab ha.t hb.b) (by rw [Nat.add_comm]; exact mul_ab hb.t ha.b)) (up_ab (mul_ab ha.b hb.b) (Nat.le_succ _))
theorem sm_minus {n m : Nat} {a b : Q} (ha : Sm n a) (hb : Sm m b) : Sm (n + m + 1) (minusQ a b) :=
  low_sm (sm_bot ha hb) (sub_ab (mul_ab ha.t hb.b) (by rw [Nat.add_comm]; exact mul_ab hb.t ha.b)) (up_ab (mul_ab ha.b hb.b) (Nat.le_succ _))
theorem sm_times {n m : Nat} {a b : Q} (ha : Sm n a) (hb : Sm m b) : Sm (n + m) (timesQ a b) :=
  low_sm (sm_bot ha hb) (mul_ab ha.t hb.t) (mul_ab ha.b hb.b)
theorem sm_neg {n : Nat} {a : Q} (ha : Sm n a) : Sm n (negQ a) := ⟨by show (-a.1).natAbs < _; rw [Int.natAbs_neg]; exact ha.t, ha.b, ha.p⟩
theorem okM {i j : Int} {n m : Nat} (ha : i.natAbs < 2 ^ n) (hb : j.natAbs < 2 ^ m) (h : n + m ≤ 900000) : IntMulOk i j :=
  CMulW.ok (wide_mul (up_ab ha (Nat.le_succ n)) (up_ab hb (Nat.le_succ m)) (Nat.succ_pos _) (Nat.succ_pos _) (by omega))
theorem okD {i j : Int} {n : Nat} (h : j ≠ 0) (hj : j.natAbs < 2 ^ n) (hn : n < 9000) (i0 : Int) : CDv i0 (sgI i j) := by
  refine ⟨sgI_ne h, ?_⟩
  rw [sgI_abs]
  have h1 : Nat.gcd i.natAbs j.natAbs ≤ j.natAbs := Nat.le_of_dvd (by omega) (Nat.gcd_dvd_right _ _)
  have h2 : Nat.gcd i.natAbs j.natAbs < 2 ^ (n + 1) := Nat.lt_of_le_of_lt h1 (Nat.lt_of_lt_of_le hj (Nat.pow_le_pow_right (by decide) (Nat.le_succ n)))
  exact Nat.lt_of_lt_of_le (PySem.Flt.log2_lt_of (Nat.succ_pos n) (show (Int.ofNat (Nat.gcd i.natAbs j.natAbs)).natAbs < _ from h2)) (by omega)
/-! what the defs ask and give -/
def RLow (K : PySem.W.Frag) : Cn := fun ts A => ∃ (i j : Int) (n : Nat), ts = [dat K (.int i), dat K (.int j)] ∧ j ≠ 0 ∧ j.natAbs < 2 ^ n ∧ n < 9000 ∧ A = (· = dat K (rD (lowQ i j)))
def R2Q (K : PySem.W.Frag) (f : Q → Q → Q) : Cn := fun ts A => ∃ (a b : Q) (n m : Nat), ts = [dat K (rD a), dat K (rD b)] ∧ Sm n a ∧ Sm m b ∧ n + m ≤ 8000 ∧ A = (· = dat K (rD (f a b)))
def RNeg (K : PySem.W.Frag) : Cn := fun ts A => ∃ a : Q, ts = [dat K (rD a)] ∧ A = (· = dat K (rD (negQ a)))
def RSign (K : PySem.W.Frag) : Cn := fun ts A => ∃ i : Int, ts = [dat K (.int i)] ∧ A = (· = dat K (.int (signI i)))
def RCmp (K : PySem.W.Frag) : Cn := fun ts A => ∃ (a b : Q) (n m : Nat), ts = [dat K (rD a), dat K (rD b)] ∧ Sm n a ∧ Sm m b ∧ n + m ≤ 8000 ∧ A = (· = dat K (.int (cmpQ a b)))
def RGcd (K : PySem.W.Frag) : Cn := fun ts A => ∃ i j : Int, ts = [dat K (.int i), dat K (.int j)] ∧ A = (· = dat K (.int (gI i j)))
/-- couples -/
structure CSm (n : Nat) (p : Cp) : Prop where
  x : Sm n p.1
  y : Sm n p.2
def addC (p q : Cp) : Cp := (plusQ p.1 q.1, plusQ p.2 q.2)
def lessC (p q : Cp) : Cp := (minusQ p.1 q.1, minusQ p.2 q.2)
def scC (p : Cp) (r : Q) : Cp := (timesQ p.1 r, timesQ p.2 r)
def dotC (p q : Cp) : Q := plusQ (timesQ p.1 q.1) (timesQ p.2 q.2)
def crossC (p q : Cp) : Q := minusQ (timesQ p.1 q.2) (timesQ p.2 q.1)
def quarC (p : Cp) : Cp := (negQ p.2, p.1)
def cmpC (p q : Cp) : Int := if cmpQ p.1 q.1 = 0 then cmpQ p.2 q.2 else cmpQ p.1 q.1
theorem csm_add {n m : Nat} {p q : Cp} (h : CSm n p) (g : CSm m q) : CSm (n + m + 1) (addC p q) := ⟨sm_plus h.x g.x, sm_plus h.y g.y⟩
theorem csm_less {n m : Nat} {p q : Cp} (h : CSm n p) (g : CSm m q) : CSm (n + m + 1) (lessC p q) := ⟨sm_minus h.x g.x, sm_minus h.y g.y⟩
theorem csm_sc {n m : Nat} {p : Cp} {r : Q} (h : CSm n p) (g : Sm m r) : CSm (n + m) (scC p r) := ⟨sm_times h.x g, sm_times h.y g⟩
theorem sm_dot {n m : Nat} {p q : Cp} (h : CSm n p) (g : CSm m q) : Sm (n + m + (n + m) + 1) (dotC p q) := sm_plus (sm_times h.x g.x) (sm_times h.y g.y)
theorem sm_cross {n m : Nat} {p q : Cp} (h : CSm n p) (g : CSm m q) : Sm (n + m + (n + m) + 1) (crossC p q) := sm_minus (sm_times h.x g.y) (sm_times h.y g.x)
theorem csm_quar {n : Nat} {p : Cp} (h : CSm n p) : CSm n (quarC p) := ⟨sm_neg h.y, h.x⟩
theorem CSm.up {n m : Nat} {p : Cp} (h : CSm n p) (l : n ≤ m) : CSm m p := ⟨h.x.up l, h.y.up l⟩
def R2C (K : PySem.W.Frag) (f : Cp → Cp → Cp) : Cn := fun ts A => ∃ (p q : Cp) (n m : Nat), ts = [dat K (cD p), dat K (cD q)] ∧ CSm n p ∧ CSm m q ∧ n + m ≤ 7000 ∧ A = (· = dat K (cD (f p q)))
def R2CQ (K : PySem.W.Frag) (f : Cp → Cp → Q) : Cn := fun ts A => ∃ (p q : Cp) (n m : Nat), ts = [dat K (cD p), dat K (cD q)] ∧ CSm n p ∧ CSm m q ∧ n + m ≤ 2000 ∧ A = (· = dat K (rD (f p q)))
def RSc (K : PySem.W.Frag) : Cn := fun ts A => ∃ (p : Cp) (r : Q) (n m : Nat), ts = [dat K (cD p), dat K (rD r)] ∧ CSm n p ∧ Sm m r ∧ n + m ≤ 8000 ∧ A = (· = dat K (cD (scC p r)))
def RQuar (K : PySem.W.Frag) : Cn := fun ts A => ∃ p : Cp, ts = [dat K (cD p)] ∧ A = (· = dat K (cD (quarC p)))
def R2CI (K : PySem.W.Frag) (f : Cp → Cp → Int) : Cn := fun ts A => ∃ (p q : Cp) (n m : Nat), ts = [dat K (cD p), dat K (cD q)] ∧ CSm n p ∧ CSm m q ∧ n + m ≤ 2000 ∧ A = (· = dat K (.int (f p q)))
end DL
set_option Elab.async false
set_option linter.all false
set_option maxRecDepth 100000
/-! What the defs over ratios and couples ask and give; a few rules more. -/
namespace DL
open PySem PySem.Spec PyProof.Rows L2
section
variable {X : Cx} {Δ : List Sl} {e a b b1 b2 : Expr} {es : List Expr} {pos : Pos} {P : Post} {W : WX}
/-- [elt for x in e], each item by f -/
theorem pd_lcD {x : Str} {px : Pos} {elt : Expr} {scope : Scope} (j : Nat) {d : PyData} {ds : List PyData} (f : PyData → PyData) (he : PD X Δ e (dat X.K d)) (hd : d = .tuple ds ∨ d = .list ds) (hz : ds.length ≤ 40000)
    (ht : ∀ z, z ∈ ds → ∀ (s : Shared) (H : Hp) (C : Addr) (cl : List (Str × Addr)) (fp : List Addr), PD (X.blk s H scope (compEnvC scope cl C X.env) fp) ((wipeΔ Δ [j]).set j (.th (dat X.K z))) elt (dat X.K (f z)))
    (hN : X.N.Nodup) (ok : BlkOk X.N X.env.scope scope [(x, j)])
    (hg : ∀ (s : Shared) (H : Hp) (C : Addr) (cl : List (Str × Addr)) (fp : List Addr), PG (X.blk s H scope (compEnvC scope cl C X.env) fp) (.Name x px) (gName j))
    (hc : X.calm = true := by rfl) (hs : ∀ x, foldedSetIterable e X.env x = pure x := by intro _; rfl) :
    PD X Δ (.ListComp elt [⟨.Name x px, e, [], 0⟩] scope pos) (dat X.K (.list (ds.map f))) :=
  (px_lcD j (fun i w => ∃ z, ds[i]? = some z ∧ w = f z) he hd hz (fun i z hi s H C cl fp => (ht z (List.mem_of_getElem? hi) s H C cl fp).imp fun t h => ⟨f z, h, z, hi, rfl⟩) hN ok hg hc hs).imp fun t ⟨es, h1, h2, h3⟩ => by
    rw [h1]
    congr 2
    refine List.ext_getElem? fun i => ?_
    rw [List.getElem?_map]
    cases q : es[i]? with
    | none =>
      have : ds.length ≤ i := by rw [← h2]; exact List.getElem?_eq_none_iff.mp q
      rw [List.getElem?_eq_none this]; rfl
    | some w =>
      obtain ⟨z, e1, e2⟩ := h3 i w q
      rw [e1, e2]; rfl
/-- isinstance(a, (N1, N2)) -/
theorem pd_isi2 {x1 x2 : Str} {n1 n2 : String} {p p1 p2 p3 : Pos} {kk : Nat} {d : PyData} {k1 k2 : Bool} (hm : X.mg "isinstance" = none) (ha : PD X Δ a (dat X.K d)) (m1 : X.mg x1 = none) (m2 : X.mg x2 = none) (hk1 : kitB (tyD d) n1 = some k1) (hk2 : kitB (tyD d) n2 = some k2)
    (hv1 : bootBuiltins x1 = some (.type n1) := by decide +kernel) (hv2 : bootBuiltins x2 = some (.type n2) := by decide +kernel) (hg : Gl X "isinstance" := by rfl) (g1 : Gl X x1 := by rfl) (g2 : Gl X x2 := by rfl) (hn1 : x1 ≠ "__name__" := by decide) (hn2 : x2 ≠ "__name__" := by decide)
    (hd1 : (x1 == ("__debug__" : Str)) = false := by decide) (hd2 : (x2 == ("__debug__" : Str)) = false := by decide)
    (hs1 : starEach [.Name x1 p1, .Name x2 p2] X.env = (false, eval (.Name x1 p1) X.env) :: starEach [.Name x2 p2] X.env := by rfl) (hs2 : starEach [.Name x2 p2] X.env = (false, eval (.Name x2 p2) X.env) :: starEach [] X.env := by rfl)
    (he1 : starEach [.Tuple [.Name x1 p1, .Name x2 p2] kk p3] X.env = (false, eval (.Tuple [.Name x1 p1, .Name x2 p2] kk p3) X.env) :: starEach [] X.env := by rfl)
    (he : starEach [a, .Tuple [.Name x1 p1, .Name x2 p2] kk p3] X.env = (false, eval a X.env) :: starEach [.Tuple [.Name x1 p1, .Name x2 p2] kk p3] X.env := by rfl) (hpl : (backTo pos (starEach [.Tuple [.Name x1 p1, .Name x2 p2] kk p3] X.env)).any (·.1) = false := by rfl) :
    PD X Δ (.Call (.Name "isinstance" p) [a, .Tuple [.Name x1 p1, .Name x2 p2] kk p3] [] pos) (dat X.K (.bool (k1 || k2))) := by
  obtain ⟨t, pa, fa⟩ := ha
  have tt : PA X [.Tuple [.Name x1 p1, .Name x2 p2] kk p3] _ := pa_cons (pe_tup (pa_cons (pe_bltn g1 m1 hv1 (show RelV (.ty n1) _ from rfl) hn1 hd1) (pa_cons (pe_bltn g2 m2 hv2 (show RelV (.ty n2) _ from rfl) hn2 hd2) pa_nil hs2) hs1)) pa_nil he1
  refine ⟨_, pe_callB call_isiT hg hm (by decide +kernel) (pa_cons pa tt he) (by decide) (by decide) he hpl, fun S0 M0 H0 σ H S hA Q q => ?_⟩
  refine fa S0 M0 H0 σ H S hA _ fun th v H1 hth e1 r => ?_
  subst hth
  refine ⟨by show 2 ≤ sizeLine; decide, fun tp htp => ?_⟩
  refine ⟨v, tp, [.ty n1, .ty n2], _, [.type n1, .type n2], k1 || k2, rfl, upd_same, .cons (.ty n1) (.cons (.ty n2) .nil), dp_ty (dp_up (Ex.trans hide_le (Ex.new htp)) r), ?_, q _ _ _ rfl (e1.trans (Ex.new htp)) (Dp.bl _)⟩
  refine kitAny_cons (kit_ty hk1) (fun z => ?_) (fun z => by rw [z]; rfl)
  rw [z]
  exact kitAny_cons (kit_ty hk2) (fun z2 => by rw [z2]; exact kitAny_nil) (fun z2 => by rw [z2]; rfl)
end
/-- a def with defaults -/
theorem fnD_mk {P : Program} {w : World} {K : PySem.W.Frag} {mg : Str → Option Value} {base : Heap} {x qual : Str} {params : Arguments} {bd : List Stmt} {scope : Scope} {dvs : List V} {kws : List (Str × V)} {f : Addr} {fd : FuncData} {N ps : List Str} {k : Nat} {R : Cn} (F : FunD K x qual params bd scope dvs kws f fd) (Sc : FnScope N ps scope) (hl : ∀ ts A, R ts A → ts.length = ps.length)
    (body : ∀ (cdv : Value) (A : Around) (outer : List Env) (s : Shared) (H : Hp) (E : XK), Room k (A.deeper (envOfC qual scope s.heap.objs.size f cdv)) → ∀ ts B, R ts B →
      SD (cxOf CX0 P w K mg base N qual scope f cdv A outer s H E).nox (fun _ _ _ _ => False) bd (retOf K B) (startΔ N ts)) : FnOk P w K mg base CX0 (k + 1) f fd ps (spT R) := by
  refine F.ok (CX := CX0) Sc (fun vs H Q E ⟨S, ths, A, _, r, hR, _⟩ => by rw [← r.len]; exact hl _ _ hR) fun cdv A outer s H vs Q E hr ⟨S, ths, B, dom, r, hR, k⟩ => ?_
  obtain ⟨t, p, f⟩ := body cdv A outer s H E hr ths B hR
  exact ⟨t, p.nox, f S [] H _ H S (at_start dom r) _ (ends_ret k) ⟨fun _ _ _ _ _ _ _ p => p.elim, fun _ => ⟨rfl, dom⟩⟩⟩
/-! is_whole, is_ratio .. -/
def optD : Option Int → PyData
  | none => .none
  | some i => .int i
def isWh : PyData → Option Int → Option Int → Bool
  | .int i, lo, hi => (match lo with | some l => decide (l ≤ i) | none => true) && (match hi with | some h => decide (i ≤ h) | none => true)
  | _, _, _ => false
def gOne : PyData → PyData → Bool
  | .int i, .int j => gI i j == 1
  | _, _ => false
def isRat : PyData → Bool
  | .tuple [a, b] => isWh a none none && (isWh b (some 1) none && gOne a b)
  | _ => false
def isSeq : PyData → Bool
  | .list _ => true
  | .tuple _ => true
  | _ => false
def seqD : PyData → List PyData
  | .list ds => ds
  | .tuple ds => ds
  | _ => []
def isRow (d : PyData) (m : Int) : Bool := isSeq d && (((seqD d).length : Int) == m && (seqD d).all isRat)
def RWhole (K : PySem.W.Frag) : Cn := fun ts A => ∃ (d : PyData) (lo hi : Option Int), ts = [dat K d, dat K (optD lo), dat K (optD hi)] ∧ A = (· = dat K (.bool (isWh d lo hi)))
def RPred (K : PySem.W.Frag) (f : PyData → Bool) : Cn := fun ts A => ∃ d : PyData, ts = [dat K d] ∧ (seqD d).length ≤ 40000 ∧ A = (· = dat K (.bool (f d)))
def RPred0 (K : PySem.W.Frag) (f : PyData → Bool) : Cn := fun ts A => ∃ d : PyData, ts = [dat K d] ∧ A = (· = dat K (.bool (f d)))
def RRow (K : PySem.W.Frag) : Cn := fun ts A => ∃ (d : PyData) (m : Int), ts = [dat K d, dat K (.int m)] ∧ (seqD d).length ≤ 40000 ∧ A = (· = dat K (.bool (isRow d m)))
def RPlace (K : PySem.W.Frag) (C : Addr) : CnX := fun ts o => ∃ d : PyData, ts = [dat K d] ∧ (seqD d).length ≤ 40000 ∧ ((isRow d 2 = true ∧ o = .val (· = dat K (.tuple (seqD d)))) ∨ (isRow d 2 = false ∧ o = .exc C []))
/-! sums -/
def sumQ (qs : List Q) : Q := qs.foldl plusQ (0, 1)
theorem sumQ_snoc (qs : List Q) (q : Q) : sumQ (qs ++ [q]) = plusQ (sumQ qs) q := by unfold sumQ; rw [List.foldl_append]; rfl
theorem sm_zero : Sm 1 ((0, 1) : Q) := ⟨by decide, by decide, by decide⟩
theorem sm_sum {n : Nat} : ∀ (k : Nat) (qs : List Q), qs.length = k → (∀ q ∈ qs, Sm n q) → Sm (1 + k * (n + 1)) (sumQ qs) := by
  intro k
  induction k with
  | zero =>
    intro qs h _
    have e : qs = [] := List.eq_nil_of_length_eq_zero h
    subst e
    exact sm_zero.up (by omega)
  | succ k ih =>
    intro qs h hq
    have hne : qs ≠ [] := fun z => by rw [z] at h; cases h
    have e : qs = qs.dropLast ++ [qs.getLast hne] := (List.dropLast_concat_getLast hne).symm
    rw [e, sumQ_snoc]
    have h1 : Sm (1 + k * (n + 1)) (sumQ qs.dropLast) := ih _ (by rw [List.length_dropLast, h]; rfl) fun q hm => hq q (List.dropLast_subset _ hm)
    refine (sm_plus h1 (hq _ (List.getLast_mem hne))).up ?_
    rw [Nat.succ_mul]
    omega
def RSum (K : PySem.W.Frag) : Cn := fun ts A => ∃ (d : PyData) (qs : List Q) (n : Nat), ts = [dat K d] ∧ (d = .tuple (qs.map rD) ∨ d = .list (qs.map rD)) ∧ (∀ q ∈ qs, Sm n q) ∧ qs.length ≤ 30 ∧ n ≤ 200 ∧ A = (· = dat K (rD (sumQ qs)))
def meanC (ps : List Cp) : Cp := scC (sumQ (ps.map (·.1)), sumQ (ps.map (·.2))) (1, (ps.length : Int))
def RMean (K : PySem.W.Frag) : Cn := fun ts A => ∃ (d : PyData) (ps : List Cp) (n : Nat), ts = [dat K d] ∧ (d = .tuple (ps.map cD) ∨ d = .list (ps.map cD)) ∧ (∀ p ∈ ps, CSm n p) ∧ ps.length ≤ 30 ∧ 0 < ps.length ∧ n ≤ 200 ∧ A = (· = dat K (cD (meanC ps)))
def itD (k : Nat) : PyData → PyData
  | .tuple ds => ds.getD k .none
  | _ => .none
theorem map_it0 (ps : List Cp) : (ps.map cD).map (itD 0) = (ps.map (·.1)).map rD := by rw [List.map_map, List.map_map]; rfl
theorem map_it1 (ps : List Cp) : (ps.map cD).map (itD 1) = (ps.map (·.2)).map rD := by rw [List.map_map, List.map_map]; rfl
def sumC (ps : List Cp) : Cp := ps.foldl addC ((0, 1), (0, 1))
theorem sumC_snoc (ps : List Cp) (p : Cp) : sumC (ps ++ [p]) = addC (sumC ps) p := by unfold sumC; rw [List.foldl_append]; rfl
theorem sumC_eq (ps : List Cp) : sumC ps = (sumQ (ps.map (·.1)), sumQ (ps.map (·.2))) := by
  have gen : ∀ (ps : List Cp) (a b : Q), ps.foldl addC (a, b) = ((ps.map (·.1)).foldl plusQ a, (ps.map (·.2)).foldl plusQ b) := by
    intro ps
    induction ps with
    | nil => intro a b; rfl
    | cons p ps ih => intro a b; exact ih _ _
  exact gen ps (0, 1) (0, 1)
theorem take_succ' {α : Type} {l : List α} {i : Nat} {x : α} (h : l[i]? = some x) : l.take (i + 1) = l.take i ++ [x] := by
  rw [List.take_add_one, h]; rfl
end DL
set_option Elab.async false
set_option linter.all false
set_option maxRecDepth 100000
/-! Lists that were filled and are read; draws. -/
namespace DL
open PySem PySem.Spec PyProof.Rows L2
/-! data without lists -/
mutual
def lf : PyData → Bool
  | .list _ => false
  | .dict _ => false
  | .tuple ds => lfs ds
  | .none => true
  | .bool _ => true
  | .int _ => true
  | .str _ => true
def lfs : List PyData → Bool
  | [] => true
  | d :: ds => lf d && lfs ds
end
/-- what has no lists doesn't lean on lists -/
def Lsts (S : List Addr) (H : Hp) : Prop := ∀ a ∈ S, ∃ xs, H a = some (.lst xs)
theorem sq_hide {K : PySem.W.Frag} {H : Hp} {S : List Addr} {a : Addr} {xs : List V} (hS : Lsts S H) (h : SqT K H a xs) : SqT K (hide S H) a xs := by
  have out : ∀ {o : HO}, H a = some o → (∀ xs, o ≠ .lst xs) → hide S H a = some o := fun {o} e ne => by
    rw [hide_out]
    · exact e
    · intro z
      obtain ⟨ys, q⟩ := hS a z
      rw [e] at q
      exact ne ys (Option.some.inj q)
  rcases h with (h | ⟨o, h⟩) | h
  · exact Or.inl (Or.inl (out h fun _ z => by cases z))
  · exact Or.inl (Or.inr ⟨o, out h fun _ z => by cases z⟩)
  · exact Or.inr h
mutual
theorem lf_hide {K : PySem.W.Frag} {H : Hp} {S : List Addr} (hS : Lsts S H) : ∀ {d : PyData} {v : V}, lf d = true → Dp K H v d → Dp K (hide S H) v d
  | .none, _, _, .non => .non
  | .bool _, _, _, .bl b => .bl b
  | .int _, _, _, .int i => .int i
  | .str _, _, _, .str x => .str x
  | .tuple ds, _, h, .tup q a => .tup (sq_hide hS q) (lfs_hide hS (by simpa [lf] using h) a)
  | .list _, _, h, _ => by simp [lf] at h
  | .dict _, _, h, _ => by simp [lf] at h
theorem lfs_hide {K : PySem.W.Frag} {H : Hp} {S : List Addr} (hS : Lsts S H) : ∀ {ds : List PyData} {vs : List V}, lfs ds = true → DpAll K H vs ds → DpAll K (hide S H) vs ds
  | [], _, _, .nil => .nil
  | d :: ds, _, h, .cons a t => by
    have h' : lf d = true ∧ lfs ds = true := by simpa [lfs] using h
    exact .cons (lf_hide hS h'.1 a) (lfs_hide hS h'.2 t)
end
/-- S without a -/
def wo (S : List Addr) (a : Addr) : List Addr := S.filter fun b => decide (b ≠ a)
theorem mem_wo {S : List Addr} {a b : Addr} : b ∈ wo S a ↔ b ∈ S ∧ b ≠ a := by unfold wo; rw [List.mem_filter]; simp
theorem hide_wo {S : List Addr} {a : Addr} {H : Hp} : Ex (hide S H) (hide (wo S a) H) := hide_sub fun b h => (mem_wo.mp h).1
/-- one slot's list seen as data -/
theorem sls_wo {K : PySem.W.Frag} {S : List Addr} {H : Hp} {a : Addr} {xs : List V} {ds : List PyData} (hH : H a = some (.lst xs)) (hx : DpAll K (hide S H) xs ds) : ∀ {Δ : List Sl} {σ : L2.St} {i : Nat}, SlsR S H Δ σ → (∀ (n : Nat) us b, Δ[n]? = some (.ml us) → σ[n]? = some (some (V.ref b)) → n ≠ i → b ≠ a) → σ[i]? = some (some (V.ref a)) →
    SlsR (wo S a) H (Δ.set i (.th (dat K (.list ds)))) σ := by
  have one : ∀ {s : Sl} {o : Option V}, SlR S H o s → (∀ us b, s = .ml us → o = some (V.ref b) → b ≠ a) → SlR (wo S a) H o s := fun {s o} hr hn => by
    cases s with
    | no => trivial
    | th t => obtain ⟨v, e1, r⟩ := hr; exact ⟨v, e1, t.up _ _ _ hide_wo r⟩
    | ml us => obtain ⟨b, ys, q1, q2, q3, q4⟩ := hr; exact ⟨b, ys, q1, mem_wo.mpr ⟨q2, hn us b rfl q1⟩, q3, q4.up hide_wo⟩
  have all : ∀ {Δ : List Sl} {σ : L2.St}, SlsR S H Δ σ → (∀ (n : Nat) us b, Δ[n]? = some (.ml us) → σ[n]? = some (some (V.ref b)) → b ≠ a) → SlsR (wo S a) H Δ σ := by
    intro Δ
    induction Δ with
    | nil => intro σ h _; cases σ with
      | nil => trivial
      | cons _ _ => exact h.elim
    | cons s ss ih =>
      intro σ h hn
      cases σ with
      | nil => exact h.elim
      | cons o os => exact ⟨one h.1 fun us b z1 z2 => hn 0 us b (by rw [z1]; rfl) (by rw [z2]; rfl), ih h.2 fun n us b z1 z2 => hn (n + 1) us b z1 z2⟩
  intro Δ
  induction Δ with
  | nil => intro σ i h _ e; cases σ with
    | nil => simp at e
    | cons _ _ => exact h.elim
  | cons s ss ih =>
    intro σ i h hn e
    cases σ with
    | nil => exact h.elim
    | cons o os =>
      cases i with
      | zero =>
        have e' : o = some (V.ref a) := Option.some.inj e
        subst e'
        refine ⟨⟨_, rfl, Dp.lst (xs := xs) (SqL.of ?_) (dpa_up hide_wo hx)⟩, all h.2 fun n us b z1 z2 => hn (n + 1) us b z1 z2 (by omega)⟩
        rw [hide_out fun z => (mem_wo.mp z).2 rfl]
        exact hH
      | succ i => exact ⟨one h.1 fun us b z1 z2 => hn 0 us b (by rw [z1]; rfl) (by rw [z2]; rfl) (by omega), ih h.2 (fun n us b z1 z2 z3 => hn (n + 1) us b z1 z2 (by omega)) e⟩
theorem set_th_ml {Δ : List Sl} {i : Nat} {t : Th} {k : Nat} {ws : List Th} (h : (Δ.set i (.th t))[k]? = some (.ml ws)) : i ≠ k ∧ Δ[k]? = some (.ml ws) := set_ml rfl h
theorem all_dat {K : PySem.W.Frag} {H : Hp} {ds : List PyData} {xs : List V} (h : All H (ds.map (dat K)) xs) : DpAll K H xs ds := all_dpa h
section
variable {X : Cx} {Δ : List Sl} {e a b : Expr} {es : List Expr} {A B C : Th → Prop} {pos : Pos} {P : Post} {W : WX} {sts : List Stmt}
/-- a list of this def is not changed any more -/
theorem sd_freeze (i : Nat) {ds : List PyData} (h : Δ[i]? = some (.ml (ds.map (dat X.K)))) (hp : P.top = true) (k : SD X W sts P (Δ.set i (.th (dat X.K (.list ds))))) : SD X W sts P Δ := by
  obtain ⟨t, p, f⟩ := k
  refine ⟨t, p, fun S0 M0 H0 σ H S hA D le xw => ?_⟩
  obtain ⟨hM, dom0⟩ := xw.2 hp
  subst hM
  obtain ⟨o, e1, a, xs, e2, hm, hH, hx⟩ := hA.env.get h
  subst e2
  have na : H0 a = none := by
    rcases hA.own i _ a h e1 with z | z
    · cases z
    · exact z
  have aS0 : a ∉ S0 := fun z => dom0 a z na
  refine f S0 [] H0 σ H (wo S a) ⟨fun b hb => mem_wo.mpr ⟨hA.sub b hb, fun z => aS0 (z ▸ hb)⟩, hA.msub, fun b hb => hA.new b (mem_wo.mp hb).1, hA.ex, fun b hb => hA.dom b (mem_wo.mp hb).1,
    sls_wo hH (all_dat hx) hA.env (fun n us b z1 z2 z3 z => z3 (hA.apart n i us _ a z1 h (by rw [← z]; exact z2) e1)) e1, fun m j us ws b h1 h2 h3 h4 => ?_, fun m us b h1 h3 => ?_⟩ D le xw
  · exact hA.apart m j us ws b (set_th_ml h1).2 (set_th_ml h2).2 h3 h4
  · exact hA.own m us b (set_th_ml h1).2 h3
/-- an expression that reads the list that is being filled, and gives data without lists -/
theorem px_withml (i : Nat) {ds : List PyData} {Ad : PyData → Prop} (h : Δ[i]? = some (.ml (ds.map (dat X.K)))) (hl : ∀ d, Ad d → lf d = true) (k : PX X (Δ.set i (.th (dat X.K (.list ds)))) e (fun t => ∃ d, t = dat X.K d ∧ Ad d)) : PX X Δ e (fun t => ∃ d, t = dat X.K d ∧ Ad d) := by
  obtain ⟨t, p, f⟩ := k
  refine ⟨t, p, fun S0 M0 H0 σ H S hA Q q => ?_⟩
  obtain ⟨o, e1, a, xs, e2, hm, hH, hx⟩ := hA.env.get h
  subst e2
  have A2 : At (wo S a) (wo S a) H (Δ.set i (.th (dat X.K (.list ds)))) σ H (wo S a) := by
    refine ⟨fun _ z => z, fun _ z => z, fun _ z => Or.inl z, hide_le, fun b hb => hA.dom b (mem_wo.mp hb).1, sls_wo hH (all_dat hx) hA.env (fun n us b z1 z2 z3 z => z3 (hA.apart n i us _ a z1 h (by rw [← z]; exact z2) e1)) e1, fun m j us ws b h1 h2 h3 h4 => ?_, fun m us b h1 h3 => ?_⟩
    · exact hA.apart m j us ws b (set_th_ml h1).2 (set_th_ml h2).2 h3 h4
    · obtain ⟨n1, g1⟩ := set_th_ml h1
      obtain ⟨o', e1', b', ys, e2', m', _⟩ := hA.env.get g1
      rw [h3] at e1'
      have e3 := Option.some.inj e1'
      rw [← e3] at e2'
      have e4 : b = b' := V.ref.inj (Option.some.inj e2')
      refine Or.inl (mem_wo.mpr ⟨by rw [e4]; exact m', fun z => n1 ?_⟩)
      exact (hA.apart m i us _ a g1 h (by rw [← z]; exact h3) e1).symm
  refine f _ _ _ σ H _ A2 Q fun th v H2 ⟨d, ht, hd⟩ ex r => q th v H2 ⟨d, ht, hd⟩ ex ?_
  subst ht
  have r1 : Dp X.K (hide (wo S a) H2) v d := r
  have r2 := lf_hide (S := [a]) (H := hide (wo S a) H2) (fun b hb => by
    have e : b = a := by simpa using hb
    subst e
    exact ⟨xs, by rw [hide_out fun z => (mem_wo.mp z).2 rfl]; exact ex _ _ hH⟩) (hl d hd) r1
  refine dp_up (fun b o hb => ?_) r2
  have n1 : b ∉ [a] := fun z => by rw [hide_in z] at hb; cases hb
  rw [hide_out n1] at hb
  have n2 : b ∉ wo S a := fun z => by rw [hide_in z] at hb; cases hb
  rw [hide_out n2] at hb
  have n3 : b ∉ S := fun z => n2 (mem_wo.mpr ⟨z, fun y => n1 (by simp [y])⟩)
  rw [hide_out n3]
  exact hb
/-- a draw -/
theorem px_draw {x y : Str} {k i : Nat} {p p2 : Pos} {Pm : Int → Prop} (G : Gd X.prog X.w X.K X.mg X.base x k [] (RDraw X.K)) (hr : Room k X.A) (hh : Δ[i]? = some (.th handT)) (hb : PX X Δ b (isI X.K Pm)) (hP : ∀ m, Pm m → 0 < m ∧ m < 2 ^ 64)
    (hN : X.N[i]? = some y := by rfl) (hv : Vis X.env.scope y := by first | exact Or.inl rfl | exact Or.inr (Or.inl rfl) | exact Or.inr (Or.inr rfl)) (hd : (y == ("__debug__" : Str)) = false := by decide)
    (hcd : (y == ("__classdict__" : Str)) = false := by decide) (hg : Gl X x := by rfl) (hdb : (x == ("__debug__" : Str)) = false := by decide) (he1 : starEach [b] X.env = (false, eval b X.env) :: starEach [] X.env := by rfl)
    (he : starEach [.Name y p2, b] X.env = (false, eval (.Name y p2) X.env) :: starEach [b] X.env := by rfl) (hpl : (backTo pos (starEach [b] X.env)).any (·.1) = false := by rfl) :
    PX X Δ (.Call (.Name x p) [.Name y p2, b] [] pos) (isI X.K (fun q => ∃ m, Pm m ∧ 0 ≤ q ∧ q < m)) :=
  px_call G hr (pl_consA (C := fun ts => ∃ m, ts = [handT, dat X.K (.int m)] ∧ Pm m) (px_var i hh hN hv hd hcd) (pl_consA (C := fun ts => ∃ m, ts = [dat X.K (.int m)] ∧ Pm m) hb pl_nil (fun t ts ⟨m, h1, h2⟩ h3 => ⟨m, by rw [h1, h3], h2⟩) he1) (fun t ts h1 ⟨m, h2, h3⟩ => ⟨m, by rw [h1, h2], h3⟩) he)
    (fun ts ⟨m, h1, h2⟩ => ⟨_, ⟨m, by rw [h1]; rfl, (hP m h2).1, (hP m h2).2, rfl⟩, fun t ⟨q, e, q0, q1⟩ => ⟨q, e, m, h2, q0, q1⟩⟩) hg hdb he hpl
/-- a ratio of numbers that are not known -/
theorem px_ratio {x : Str} {k n : Nat} {p : Pos} (G : Gd X.prog X.w X.K X.mg X.base x k [] (RLow X.K)) (hr : Room k X.A) (hn : n < 9000) (ha : PX X Δ a (isI X.K (fun i => i.natAbs < 2 ^ n))) (hb : PX X Δ b (isI X.K (fun j => 0 < j ∧ j.natAbs < 2 ^ n)))
    (hg : Gl X x := by rfl) (hdb : (x == ("__debug__" : Str)) = false := by decide) (he1 : starEach [b] X.env = (false, eval b X.env) :: starEach [] X.env := by rfl)
    (he : starEach [a, b] X.env = (false, eval a X.env) :: starEach [b] X.env := by rfl) (hpl : (backTo pos (starEach [b] X.env)).any (·.1) = false := by rfl) :
    PX X Δ (.Call (.Name x p) [a, b] [] pos) (fun t => ∃ q, t = dat X.K (rD q) ∧ Sm n q ∧ Low q) :=
  px_call G hr (pl_consA (C := fun ts => ∃ i j : Int, ts = [dat X.K (.int i), dat X.K (.int j)] ∧ i.natAbs < 2 ^ n ∧ 0 < j ∧ j.natAbs < 2 ^ n) ha (pl_consA (C := fun ts => ∃ j : Int, ts = [dat X.K (.int j)] ∧ 0 < j ∧ j.natAbs < 2 ^ n) hb pl_nil (fun t ts ⟨m, h1, h2⟩ h3 => ⟨m, by rw [h1, h3], h2⟩) he1) (fun t ts ⟨i, h1, h2⟩ ⟨j, h3, h4⟩ => ⟨i, j, by rw [h1, h3], h2, h4⟩) he)
    (fun ts ⟨i, j, h1, h2, h3, h4⟩ => ⟨_, ⟨i, j, n, by rw [h1]; rfl, by omega, h4, hn, rfl⟩, fun t ht => ⟨_, ht, low_sm (by omega) h2 h4, low_low (by omega)⟩⟩) hg hdb he hpl
/-- a place of something that is not known -/
theorem px_ixP {Pi : Int → Prop} (ha : PX X Δ a A) (hb : PX X Δ b (isI X.K Pi)) (h : ∀ t i, A t → Pi i → ∃ D d, t = dat X.K D ∧ ixD D i = some d ∧ C (dat X.K d)) (hs : PlainIx b := by exact fun _ _ => rfl) : PX X Δ (.Subscript a b pos) C :=
  px_two (r := fun x y H Q => rIxL X.K x y H Q ∨ rIxT X.K x y H Q) (fun _ _ pa pb => pe_ix (ix_list.or ix_tup) pa pb hs) ha hb fun S H x y v w _ hx ⟨k, hy, hk⟩ rx ry Q q => by
    subst hy
    have e2 := dp_int ry
    subst e2
    obtain ⟨D, d, ex, hix, hc⟩ := h x k hx hk
    subst ex
    cases D with
    | tuple ds =>
      obtain ⟨p, xs, rfl, hq, hd⟩ := dp_tup rx
      obtain ⟨u, e1, r⟩ := dpa_at hd (show atI ds k = some d from hix)
      exact Or.inr ⟨p, xs, k, u, rfl, rfl, ex_t hide_le hq, e1, q _ u H hc (Ex.refl H) r⟩
    | list ds =>
      obtain ⟨p, xs, rfl, hq, hd⟩ := dp_lst rx
      obtain ⟨u, e1, r⟩ := dpa_at hd (show atI ds k = some d from hix)
      exact Or.inl ⟨p, xs, k, u, rfl, rfl, ex_l hide_le hq, e1, q _ u H hc (Ex.refl H) r⟩
    | none => cases hix
    | bool _ => cases hix
    | int _ => cases hix
    | str _ => cases hix
    | dict _ => cases hix
theorem pd_pow {i j : Int} (ha : PD X Δ a (dat X.K (.int i))) (hb : PD X Δ b (dat X.K (.int j))) (h : CPow i j) : PD X Δ (.BinOp a .Pow b pos) (dat X.K (.int (i ^ j.toNat))) :=
  pd_of (px_opI op_pow (pi_of ha) (pi_of hb) fun _ _ h1 h2 => by rw [h1, h2]; exact ⟨h, rfl⟩)
/-- a tuple of two things that are not known -/
theorem px_tup2 {e1 e2 : Expr} {x1} {Ad Bd : PyData → Prop} (ha : PX X Δ e1 (fun t => ∃ d, t = dat X.K d ∧ Ad d)) (hb : PX X Δ e2 (fun t => ∃ d, t = dat X.K d ∧ Bd d)) (hs1 : starEach [e2] X.env = (false, eval e2 X.env) :: starEach [] X.env := by rfl) (hs : starEach [e1, e2] X.env = (false, eval e1 X.env) :: starEach [e2] X.env := by rfl) :
    PX X Δ (.Tuple [e1, e2] x1 pos) (fun t => ∃ d d', t = dat X.K (.tuple [d, d']) ∧ Ad d ∧ Bd d') := by
  obtain ⟨t, p, f⟩ := pl_consA (C := fun ts => ∃ d d', ts = [dat X.K d, dat X.K d'] ∧ Ad d ∧ Bd d') ha (pl_consA (C := fun ts => ∃ d, ts = [dat X.K d] ∧ Bd d) hb pl_nil (fun t ts ⟨d, h1, h2⟩ h3 => ⟨d, by rw [h1, h3], h2⟩) hs1) (fun t ts ⟨d, h1, h2⟩ ⟨d', h3, h4⟩ => ⟨d, d', by rw [h1, h3], h2, h4⟩) hs
  refine ⟨_, pe_tup p, fun S0 M0 H0 σ H S hA Q q => f S0 M0 H0 σ H S hA _ fun ths vs H2 ⟨d, d', ht, hd, hd'⟩ e2 r => ?_⟩
  subst ht
  have hx : DpAll X.K (hide S H2) vs [d, d'] := all_dpa (ds := [d, d']) r
  refine ⟨by rw [dpa_len hx]; exact sz_of (Nat.le_of_ble_eq_true rfl), fun p hp => q _ _ _ ⟨d, d', rfl, hd, hd'⟩ (e2.trans (Ex.new hp)) ?_⟩
  have np := ((hA.up e2).dom).new hp
  refine Dp.tup (SqT.of ?_) (dpa_up (hide_ex (Ex.new hp)) hx)
  rw [hide_out np]
  exact upd_same
end
end DL
set_option Elab.async false
set_option linter.all false
/-! Ratios as rational numbers. -/
namespace DL
def vR (q : Q) : Rat := Rat.divInt q.1 q.2
theorem vR_mk {q : Q} (h : Low q) : vR q = { num := q.1, den := q.2.natAbs, den_nz := by have := h.2; omega, reduced := h.1 } := by
  rw [Rat.mk_eq_divInt]
  have e : ((q.2.natAbs : Nat) : Int) = q.2 := by have := h.2; omega
  rw [e]
  rfl
theorem vR_inj {q r : Q} (h : Low q) (g : Low r) (e : vR q = vR r) : q = r := by
  rw [vR_mk h, vR_mk g] at e
  have e1 : q.1 = r.1 := congrArg Rat.num e
  have e2 : q.2.natAbs = r.2.natAbs := congrArg Rat.den e
  have := h.2
  have := g.2
  exact Prod.ext e1 (by omega)
theorem vR_low {i j : Int} (h : j ≠ 0) : vR (lowQ i j) = Rat.divInt i j := by
  obtain ⟨s, k, l, hs, ei, ej, e, hl, _, _⟩ := low_spec (i := i) h
  rw [e, ei, ej]
  show Rat.divInt k l = Rat.divInt (s * k) (s * l)
  rw [Rat.divInt_mul_left hs]
theorem vR_plus {a b : Q} (ha : 0 < a.2) (hb : 0 < b.2) : vR (plusQ a b) = vR a + vR b := by
  have h : a.2 * b.2 ≠ 0 := by have := Int.mul_pos ha hb; omega
  unfold plusQ
  rw [vR_low h]
  unfold vR
  rw [Rat.divInt_add_divInt _ _ (by omega) (by omega)]
theorem vR_times {a b : Q} (ha : 0 < a.2) (hb : 0 < b.2) : vR (timesQ a b) = vR a * vR b := by
  have h : a.2 * b.2 ≠ 0 := by have := Int.mul_pos ha hb; omega
  unfold timesQ
  rw [vR_low h]
  unfold vR
  rw [Rat.divInt_mul_divInt]
theorem vR_neg {a : Q} : vR (negQ a) = -vR a := by
  unfold negQ vR
  rw [Rat.neg_divInt]
theorem vR_minus {a b : Q} (ha : 0 < a.2) (hb : 0 < b.2) : vR (minusQ a b) = vR a - vR b := by
  have h : a.2 * b.2 ≠ 0 := by have := Int.mul_pos ha hb; omega
  have e : minusQ a b = plusQ a (negQ b) := by
    unfold minusQ plusQ negQ
    rw [Int.neg_mul]
    rfl
  rw [e, vR_plus ha (show 0 < (negQ b).2 from hb), vR_neg]
  grind
theorem low_plus {a b : Q} (ha : 0 < a.2) (hb : 0 < b.2) : Low (plusQ a b) := low_low (by have := Int.mul_pos ha hb; omega)
theorem low_minus {a b : Q} (ha : 0 < a.2) (hb : 0 < b.2) : Low (minusQ a b) := low_low (by have := Int.mul_pos ha hb; omega)
theorem low_times {a b : Q} (ha : 0 < a.2) (hb : 0 < b.2) : Low (timesQ a b) := low_low (by have := Int.mul_pos ha hb; omega)
theorem low_neg {a : Q} (h : Low a) : Low (negQ a) := ⟨by show Nat.gcd (-a.1).natAbs a.2.natAbs = 1; rw [Int.natAbs_neg]; exact h.1, h.2⟩
theorem low_zero : Low ((0, 1) : Q) := ⟨rfl, by decide⟩
theorem vR_zero : vR ((0, 1) : Q) = 0 := by unfold vR; simp
/-- couples in lowest terms -/
structure Cl (p : Cp) : Prop where
  x : Low p.1
  y : Low p.2
theorem low_dot {p q : Cp} (h : Cl p) (g : Cl q) : Low (dotC p q) ∧ vR (dotC p q) = vR p.1 * vR q.1 + vR p.2 * vR q.2 := by
  have a := low_times h.x.2 g.x.2
  have b := low_times h.y.2 g.y.2
  refine ⟨low_plus a.2 b.2, ?_⟩
  unfold dotC
  rw [vR_plus a.2 b.2, vR_times h.x.2 g.x.2, vR_times h.y.2 g.y.2]
theorem low_cross {p q : Cp} (h : Cl p) (g : Cl q) : Low (crossC p q) ∧ vR (crossC p q) = vR p.1 * vR q.2 - vR p.2 * vR q.1 := by
  have a := low_times h.x.2 g.y.2
  have b := low_times h.y.2 g.x.2
  refine ⟨low_minus a.2 b.2, ?_⟩
  unfold crossC
  rw [vR_minus a.2 b.2, vR_times h.x.2 g.y.2, vR_times h.y.2 g.x.2]
theorem cl_quar {p : Cp} (h : Cl p) : Cl (quarC p) := ⟨low_neg h.y, h.x⟩
theorem cl_sc {p : Cp} {r : Q} (h : Cl p) (g : Low r) : Cl (scC p r) := ⟨low_times h.x.2 g.2, low_times h.y.2 g.2⟩
theorem dot_quar {p q : Cp} (h : Cl p) (g : Cl q) : dotC (quarC p) q = crossC p q := by
  obtain ⟨l1, e1⟩ := low_dot (cl_quar h) g
  obtain ⟨l2, e2⟩ := low_cross h g
  refine vR_inj l1 l2 ?_
  rw [e1, e2]
  show vR (negQ p.2) * vR q.1 + vR p.1 * vR q.2 = _
  rw [vR_neg]
  grind
theorem dot_self {p : Cp} (h : Cl p) : dotC p (quarC p) = (0, 1) := by
  obtain ⟨l1, e1⟩ := low_dot h (cl_quar h)
  refine vR_inj l1 low_zero ?_
  rw [e1, vR_zero]
  show vR p.1 * vR (negQ p.2) + vR p.2 * vR p.1 = 0
  rw [vR_neg]
  grind
theorem cross_sc {p q : Cp} {r : Q} (h : Cl p) (g : Cl q) (hr : Low r) : crossC (scC p r) q = timesQ r (crossC p q) := by
  obtain ⟨l1, e1⟩ := low_cross (cl_sc h hr) g
  obtain ⟨l2, e2⟩ := low_cross h g
  refine vR_inj l1 (low_times hr.2 l2.2) ?_
  rw [e1, vR_times hr.2 l2.2, e2]
  show vR (timesQ p.1 r) * vR q.2 - vR (timesQ p.2 r) * vR q.1 = _
  rw [vR_times h.x.2 hr.2, vR_times h.y.2 hr.2]
  grind
end DL
namespace DL
open PySem PySem.Spec PyProof.Rows L2
/-- what the law's couples are -/
def GC (p : Cp) : Prop := CSm 34 p ∧ Cl p
theorem eqv_rD (q : Q) : PyData.eqv (rD q) (rD q) = true := by simp [rD, PyData.eqv, PyData.eqvAll]
theorem eqv_cD (p : Cp) : PyData.eqv (cD p) (cD p) = true := by simp [cD, rD, PyData.eqv, PyData.eqvAll]
theorem eqv_int (i : Int) : PyData.eqv (.int i) (.int i) = true := by simp [PyData.eqv]
theorem eqv_2 (q r : Q) : PyData.eqv (.tuple [rD q, rD r]) (.tuple [rD q, rD r]) = true := eqv_cD (q, r)
theorem isRat_rD {q : Q} (h : Low q) : isRat (rD q) = true := by
  have h1 : gI q.1 q.2 = 1 := by unfold gI; rw [h.1]; rfl
  show (true && ((decide (1 ≤ q.2) && true) && (gI q.1 q.2 == 1))) = true
  rw [h1, decide_eq_true (show (1 : Int) ≤ q.2 from h.2)]
  rfl
theorem pick_at {ps : List Cp} {i : Int} (h0 : 0 ≤ i) (h1 : i < ((ps.map cD).length : Int)) : ∃ p ∈ ps, ixD (.list (ps.map cD)) i = some (cD p) := by
  obtain ⟨j, rfl⟩ : ∃ j : Nat, i = (j : Int) := ⟨i.toNat, by omega⟩
  rw [List.length_map] at h1
  have hj : j < ps.length := by omega
  refine ⟨ps[j], List.getElem_mem hj, ?_⟩
  show atI (ps.map cD) (j : Int) = _
  exact atI_nat (by rw [List.getElem?_map, List.getElem?_eq_getElem hj]; rfl)
theorem lf_cD (p : Cp) : lf (cD p) = true := by simp [lf, lfs, cD, rD]
/-- a drawn couple -/
def RCouple (K : PySem.W.Frag) : Cn := fun ts A => ∃ ps : List Cp, ts = [handT, dat K (.list (ps.map cD))] ∧ (∀ p ∈ ps, GC p) ∧ ps.length ≤ 10 ∧ A = fun t => ∃ d, t = dat K d ∧ ∃ p, d = cD p ∧ GC p
def RPlaceOf (K : PySem.W.Frag) : Cn := fun ts A => ∃ d : PyData, ts = [dat K d] ∧ (seqD d).length ≤ 40000 ∧ A = (· = dat K (if isRow d 2 = true then .tuple (seqD d) else .list [.str "refused", .bool true]))
def RRef (K : PySem.W.Frag) : Cn := fun ts A => ∃ (p : Cp) (m : Int), ts = [dat K (cD p), dat K (.int m)] ∧ Cl p ∧ A = (· = dat K (.bool true))
def RLaw (K : PySem.W.Frag) : Cn := fun ts A => ∃ ns : List Int, ts = [dat K (.list (ns.map .int))] ∧ ns.length ≤ 63 ∧ A = (· = dat K (.bool true))
/-- the difference of a list of two and a couple -/
def cL (p : Cp) : PyData := .list [rD p.1, rD p.2]
def R2CL (K : PySem.W.Frag) (f : Cp → Cp → Cp) : Cn := fun ts A => ∃ (d : PyData) (p q : Cp) (n m : Nat), ts = [dat K d, dat K (cD q)] ∧ (d = cD p ∨ d = cL p) ∧ CSm n p ∧ CSm m q ∧ n + m ≤ 7000 ∧ A = (· = dat K (cD (f p q)))
end DL
set_option Elab.async false
set_option linter.all false
set_option maxRecDepth 100000
/-! Comprehensions given to a name. -/
namespace DL
open PySem PySem.Spec PyProof.Rows L2
section
variable {X : Cx} {Δ : List Sl} {e a b c : Expr} {es : List Expr} {A B C : Th → Prop} {pos : Pos} {P : Post} {W : WX}
/-- [elt for x in e], e data -/
theorem sd_lcD {x : Str} {px : Pos} {elt : Expr} {scope : Scope} (j : Nat) {d : PyData} {ds : List PyData} (Bw : Nat → PyData → Prop) (he : PD X Δ e (dat X.K d)) (hd : d = .tuple ds ∨ d = .list ds) (hz : ds.length ≤ 40000)
    (ht : ∀ (i : Nat) z, ds[i]? = some z → ∀ (s : Shared) (H : Hp) (C : Addr) (cl : List (Str × Addr)) (fp : List Addr), PX (X.blk s H scope (compEnvC scope cl C X.env) fp) ((wipeΔ Δ [j]).set j (.th (dat X.K z))) elt (fun t => ∃ w, t = dat X.K w ∧ Bw i w))
    (hN : X.N.Nodup) (ok : BlkOk X.N X.env.scope scope [(x, j)])
    (hg : ∀ (s : Shared) (H : Hp) (C : Addr) (cl : List (Str × Addr)) (fp : List Addr), PG (X.blk s H scope (compEnvC scope cl C X.env) fp) (.Name x px) (gName j))
    (i0 : Nat) {y : Str} {py spos : Pos} {rest : List Stmt} (k0 : ∀ es : List PyData, es.length = ds.length → (∀ i w, es[i]? = some w → Bw i w) → SD X W rest P (Δ.set i0 (.th (dat X.K (.list es)))))
    (hy : X.N[i0]? = some y := by rfl) (hyl : X.env.scope.names.lookup y = some .local := by rfl) (hsw : swapsWith (.ListComp elt [⟨.Name x px, e, [], 0⟩] scope pos) (some (.Name y py)) spos.line X.env = pure true := by exact sw_true rfl rfl rfl (by decide +kernel))
    (hc : X.calm = true := by rfl) (hs : ∀ x, foldedSetIterable e X.env x = pure x := by intro _; rfl) :
    SD X W (.Assign [.Name y py] (.ListComp elt [⟨.Name x px, e, [], 0⟩] scope pos) spos :: rest) P Δ := by
  refine sd_cons ?_
  obtain ⟨t, pe, f⟩ := he
  have q : ∀ (s : Shared) (H : Hp) (C : Addr) (cl : List (Str × Addr)) (fp : List Addr), PE (X.blk s H scope (compEnvC scope cl C X.env) fp) elt (teU X scope elt) := fun s H C cl fp => ⟨fun pins s' σ H' Q I h => by
    obtain ⟨t, pt, ht⟩ := h s H C cl fp
    exact pt.run pins s' σ H' Q I ht⟩
  have turnV : ∀ {S0 M0 S : List Addr} {H0 H1 H' : Hp} {σ : L2.St} {D : Addr} {xs : List V} {i : Nat} {v : V}, At S0 M0 H0 Δ σ H1 S → H1 D = none → DpAll X.K (hide S H1) xs ds → xs[i]? = some v → LcP X.K Bw S H1 D i H' →
      teU X scope elt ((L2.wipe σ [j]).set j (some v)) H' fun y H4 => ∃ acc, H4 D = some (.lst acc) ∧ acc.length < sizeLine ∧ LcP X.K Bw S H1 D (i + 1) (upd H4 D (.lst (acc ++ [y]))) := by
    intro S0 M0 S H0 H1 H' σ D xs i v hA hD hx hv p
    have hl := dpa_len hx
    have li : i < ds.length := by rw [← hl]; exact (List.getElem?_eq_some_iff.mp hv).1
    obtain ⟨v', e1, r1⟩ := dpa_get hx (List.getElem?_eq_getElem li)
    rw [hv] at e1
    have e2 := Option.some.inj e1
    exact lc_turn hA hD (by omega) (by rw [e2]; exact r1) p (ht i _ (List.getElem?_eq_getElem li))
  have start0 : ∀ {S : List Addr} {H1 : Hp} {D : Addr}, H1 D = none → LcP X.K Bw S H1 D 0 (upd H1 D (.lst [])) := fun {S H1 D} hD => ⟨Ex.new hD, [], [], upd_same, .nil, rfl, fun j w h => by simp at h⟩
  rcases hd with rfl | rfl
  · refine ⟨_, ps_setLc (own := [(x, j)]) (g := gName j) (tt := tYes) hc hN hy hyl hsw (pi_tup pe) ok hg (fun _ _ _ _ _ => pts_nil) q hs, fun S0 M0 H0 σ H S hA D0 le xw => ?_⟩
    refine f S0 M0 H0 σ H S hA _ fun th v H1 hth e1 r => ?_
    subst hth
    obtain ⟨p, xs, rfl, hq, hx⟩ := dp_tup r
    have hA1 := hA.up e1
    refine ⟨p, rfl, ⟨xs, ex_t hide_le hq⟩, fun D hD => lc_tup (K := X.K) (a := p) (xs := xs) (g := gName j) (tt := tYes) (te := teU X scope elt) (vs := [j]) (LcP X.K Bw S H1 D) (start0 hD) (fun i H' _ p => ex_t p.1 (ex_t hide_le hq)) (fun i v H' hv p => ⟨wipe_setv, turnV hA1 hD hx hv p⟩) fun H' p => ?_⟩
    rw [dpa_len hx] at p
    exact lc_fin (Q := fun v H2 => gName i0 v σ H2 D0.nx) hA1 hD p fun th v H2 ⟨es, c1, c2, c3⟩ e2 r2 => le.nx _ _ ⟨_, S, k0 es c2 c3, by subst c1; exact (hA1.up e2).set r2⟩
  · refine ⟨_, ps_setLc (own := [(x, j)]) (g := gName j) (tt := tYes) hc hN hy hyl hsw (pi_list pe) ok hg (fun _ _ _ _ _ => pts_nil) q hs, fun S0 M0 H0 σ H S hA D0 le xw => ?_⟩
    refine f S0 M0 H0 σ H S hA _ fun th v H1 hth e1 r => ?_
    subst hth
    obtain ⟨p, xs, rfl, hq, hx⟩ := dp_lst r
    have hA1 := hA.up e1
    refine ⟨p, rfl, ⟨xs, ex_l hide_le hq⟩, fun D hD => lc_list (K := X.K) (a := p) (xs := xs) (g := gName j) (tt := tYes) (te := teU X scope elt) (vs := [j]) (LcP X.K Bw S H1 D) (start0 hD) (fun i H' _ p => ex_l p.1 (ex_l hide_le hq)) (fun i v H' hv p => ⟨wipe_setv, turnV hA1 hD hx hv p⟩) fun H' p => ?_⟩
    rw [dpa_len hx] at p
    exact lc_fin (Q := fun v H2 => gName i0 v σ H2 D0.nx) hA1 hD p fun th v H2 ⟨es, c1, c2, c3⟩ e2 r2 => le.nx _ _ ⟨_, S, k0 es c2 c3, by subst c1; exact (hA1.up e2).set r2⟩
/-- [elt for x in range(n)] -/
theorem sd_lcR {x : Str} {px p1 p2 : Pos} {elt : Expr} {scope : Scope} (j : Nat) {Nn : Int → Prop} {L : Nat} (Bw : Nat → PyData → Prop) (hm : X.mg "range" = none) (he : PX X Δ e (isI X.K Nn)) (hn : ∀ n, Nn n → 0 ≤ n ∧ n ≤ L) (hL : L ≤ 40000)
    (ht : ∀ (i : Nat), i < L → ∀ (s : Shared) (H : Hp) (C : Addr) (cl : List (Str × Addr)) (fp : List Addr), PX (X.blk s H scope (compEnvC scope cl C X.env) fp) ((wipeΔ Δ [j]).set j (.th (dat X.K (.int (i : Int))))) elt (fun t => ∃ w, t = dat X.K w ∧ Bw i w))
    (hN : X.N.Nodup) (ok : BlkOk X.N X.env.scope scope [(x, j)])
    (hg : ∀ (s : Shared) (H : Hp) (C : Addr) (cl : List (Str × Addr)) (fp : List Addr), PG (X.blk s H scope (compEnvC scope cl C X.env) fp) (.Name x px) (gName j))
    (i0 : Nat) {y : Str} {py spos : Pos} {rest : List Stmt} (k0 : ∀ (es : List PyData) (n : Int), Nn n → (es.length : Int) = n → (∀ i w, es[i]? = some w → Bw i w) → SD X W rest P (Δ.set i0 (.th (dat X.K (.list es)))))
    (hy : X.N[i0]? = some y := by rfl) (hyl : X.env.scope.names.lookup y = some .local := by rfl) (hsw : swapsWith (.ListComp elt [⟨.Name x px, .Call (.Name "range" p1) [e] [] p2, [], 0⟩] scope pos) (some (.Name y py)) spos.line X.env = pure true := by exact sw_true rfl rfl rfl (by decide +kernel))
    (hc : X.calm = true := by rfl) (hgl : Gl X "range" := by rfl) (hse : starEach [e] X.env = (false, eval e X.env) :: starEach [] X.env := by rfl) (hs1 : starEach [e] X.env = [(false, eval e X.env)] := by rfl)
    (hs : ∀ x, foldedSetIterable (.Call (.Name "range" p1) [e] [] p2) X.env x = pure x := by intro _; rfl) :
    SD X W (.Assign [.Name y py] (.ListComp elt [⟨.Name x px, .Call (.Name "range" p1) [e] [] p2, [], 0⟩] scope pos) spos :: rest) P Δ := by
  refine sd_cons ?_
  obtain ⟨t, pa, f⟩ := pl_consA (C := fun ts => ∃ i, ts = [dat X.K (.int i)] ∧ Nn i) he pl_nil (fun t ts ⟨i, h1, h2⟩ h3 => ⟨i, by rw [h1, h3], h2⟩) hse
  have q : ∀ (s : Shared) (H : Hp) (C : Addr) (cl : List (Str × Addr)) (fp : List Addr), PE (X.blk s H scope (compEnvC scope cl C X.env) fp) elt (teU X scope elt) := fun s H C cl fp => ⟨fun pins s' σ H' Q I h => by
    obtain ⟨t, pt, ht⟩ := h s H C cl fp
    exact pt.run pins s' σ H' Q I ht⟩
  refine ⟨_, ps_setLc (own := [(x, j)]) (g := gName j) (tt := tYes) hc hN hy hyl hsw (pi_range1 hgl hm pa hs1) ok hg (fun _ _ _ _ _ => pts_nil) q hs, fun S0 M0 H0 σ H S hA D0 le xw => ?_⟩
  refine f S0 M0 H0 σ H S hA _ fun ths vs H1 hth e1 r => ?_
  obtain ⟨n, rfl, nn⟩ := hth
  obtain ⟨v, rfl, r0⟩ := all1 r
  have := dp_int r0
  subst this
  have hb := hn n nn
  have hA1 := hA.up e1
  refine ⟨n, rfl, by omega, by omega, fun D hD => lc_range (lo := 0) (n := n.toNat) (g := gName j) (tt := tYes) (te := teU X scope elt) (vs := [j]) (LcP X.K Bw S H1 D) ⟨Ex.new hD, [], [], upd_same, .nil, rfl, fun j w h => by simp at h⟩ (fun i H' hi p => ?_) fun H' p => ?_⟩
  · have e0 : (0 : Int) + (i : Int) = (i : Int) := Int.zero_add _
    rw [e0]
    exact ⟨wipe_setv, lc_turn hA1 hD (by omega) (Dp.int _) p (ht i (by omega))⟩
  · exact lc_fin (Q := fun v H2 => gName i0 v σ H2 D0.nx) hA1 hD p fun th v H2 ⟨es, c1, c2, c3⟩ e2 r2 => le.nx _ _ ⟨_, S, k0 es n nn (by omega) c3, by subst c1; exact (hA1.up e2).set r2⟩
end
theorem lay_cDs : ∀ ps : List Cp, PyData.canLayAll0 (ps.map cD) = true
  | [] => by simp [PyData.canLayAll0]
  | p :: ps => by simp [PyData.canLayAll0, PyData.canLay0, cD, rD, lay_cDs ps]
theorem depth_cDs : ∀ ps : List Cp, PyData.depthAll (ps.map cD) ≤ 3
  | [] => by simp [PyData.depthAll]
  | p :: ps => by
    have h := depth_cDs ps
    have h2 : (cD p).depth ≤ 3 := by simp [cD, rD, PyData.depth, PyData.depthAll]
    simp only [List.map_cons, PyData.depthAll]
    omega
theorem shaped_cDs (ps : List Cp) : SeqAt.shaped (.list (ps.map cD)) = true := by
  have h1 := depth_cDs ps
  have h2 : PyData.depth (.list (ps.map cD)) ≤ 64 := by
    simp only [PyData.depth]
    omega
  show (PyData.canLay0 (.list (ps.map cD)) && decide (PyData.depth (.list (ps.map cD)) ≤ 64)) = true
  rw [Bool.and_eq_true]
  exact ⟨by simp only [PyData.canLay0]; exact lay_cDs ps, decide_eq_true h2⟩
theorem eqv_cDs : ∀ ps : List Cp, PyData.eqvAll (ps.map cD) (ps.map cD) = true
  | [] => by simp [PyData.eqvAll]
  | p :: ps => by
    have h := eqv_cDs ps
    simp only [List.map_cons, PyData.eqvAll, eqv_cD, h, Bool.and_self]
theorem eqv_cL (ps : List Cp) : PyData.eqv (.list (ps.map cD)) (.list (ps.map cD)) = true := by
  simp only [PyData.eqv]
  exact eqv_cDs ps
/-- a row of couples -/
theorem cps_of : ∀ (es : List PyData), (∀ (i : Nat) w, es[i]? = some w → ∃ p, w = cD p ∧ GC p) → ∃ ps : List Cp, es = ps.map cD ∧ ∀ p ∈ ps, GC p
  | [], _ => ⟨[], rfl, fun p h => by cases h⟩
  | e :: es, h => by
    obtain ⟨p, e1, g⟩ := h 0 e rfl
    obtain ⟨ps, e2, gs⟩ := cps_of es fun i w hw => h (i + 1) w hw
    refine ⟨p :: ps, by rw [e1, e2]; rfl, fun q hq => ?_⟩
    rcases List.mem_cons.mp hq with z | z
    · rw [z]; exact g
    · exact gs q z
end DL
set_option Elab.async false
set_option linter.all false
set_option maxRecDepth 100000
/-! What the top says, ahead of the layer: the head stands first in a text. -/
namespace DL
open PySem PySem.Spec PyProof.Rows L2
/-- what the law's call is asked: a list of ints goes in, True comes out -/
def spLaw (K : PySem.W.Frag) : Sp := fun vs H Q _ => ∃ (a : Addr) (ns : List Int), vs = [.ref a] ∧ SqL K H a (ns.map V.int) ∧ ns.length ≤ 63 ∧ ∀ H', Q (.bl true) H'
/-- a def of the top -/
def Df (K : PySem.W.Frag) (x : Str) (st : Stmt) : Prop := ∃ f fd, PySem.W.nsIn K mainGlobals x = some (some (.ref f)) ∧ Fun K x x st f fd ∧ ∃ kV doc pm an cdv ct, fd = PySem.W.fnOf x x (defArgs st) (defBody st) (defScope st) .none kV doc pm an cdv ct
theorem df_mk {K : PySem.W.Frag} {x : Str} {st : Stmt} {f : Addr} {oc : Value} {od an : Option Addr} {osl : Array (Option Value)} {kV doc pm cdv ct : Value} (a : PySem.W.nsIn K mainGlobals x = some (some (.ref f))) (l : K.lookup f = some ⟨oc, od, .func (PySem.W.fnOf x x (defArgs st) (defBody st) (defScope st) .none kV doc pm an cdv ct), osl⟩)
    (c : PySem.W.codeIn K cdv x = true) (k : PySem.W.keepIn K (.ref f) = true) : Df K x st := ⟨f, _, a, fun_mk l c k, _, _, _, _, _, _, rfl⟩
theorem Df.gd {K : PySem.W.Frag} {x : Str} {st : Stmt} {h : Heap} {mg : Str → Option Value} (D : Df K x st) (X : K.In h) (G : h.Ns mainGlobals mg) : ∃ f fd, mg x = some (.ref f) ∧ Fun K x x st f fd := by
  obtain ⟨f, fd, a, F, _⟩ := D
  exact ⟨f, fd, PySem.W.mg_of X G a, F⟩
/-- a def of the top with defaults that are all None -/
def DfN (K : PySem.W.Frag) (x : Str) (st : Stmt) (dvs : List V) : Prop := ∃ f fd, PySem.W.nsIn K mainGlobals x = some (some (.ref f)) ∧ FunD K x x (defArgs st) (defBody st) (defScope st) dvs [] f fd
theorem dfn_mk2 {K : PySem.W.Frag} {x : Str} {st : Stmt} {f T : Addr} {oc : Value} {od an Tod : Option Addr} {osl Tsl : Array (Option Value)} {Tn : Nat} {kV doc pm cdv ct : Value} (a : PySem.W.nsIn K mainGlobals x = some (some (.ref f))) (l : K.lookup f = some ⟨oc, od, .func (PySem.W.fnOf x x (defArgs st) (defBody st) (defScope st) (.ref T) kV doc pm an cdv ct), osl⟩)
    (c : PySem.W.codeIn K cdv x = true) (k : PySem.W.keepIn K (.ref f) = true) (t : K.lookup T = some ⟨.type "tuple", Tod, .seq #[.none, .none] Tn, Tsl⟩) : DfN K x st [.non, .non] :=
  ⟨f, _, a, ⟨⟨_, _, _, _, _, _, _, _, _, _, rfl, l, c, Or.inr ⟨by simp, _, _, [.none, .none], _, rfl, t, rfl, .cons rfl (.cons rfl .nil)⟩, Or.inl rfl⟩, k⟩⟩
theorem DfN.gd {K : PySem.W.Frag} {x : Str} {st : Stmt} {dvs : List V} {h : Heap} {mg : Str → Option Value} (D : DfN K x st dvs) (X : K.In h) (G : h.Ns mainGlobals mg) : ∃ f fd, mg x = some (.ref f) ∧ FunD K x x (defArgs st) (defBody st) (defScope st) dvs [] f fd := by
  obtain ⟨f, fd, a, F⟩ := D
  exact ⟨f, fd, PySem.W.mg_of X G a, F⟩
theorem walk (k : Nat) {l : PySem.W.OpenLaw} {q : Program} {loose : List Str} {XP : (Str → Option Value) → Heap → Prop} {YP : World → Heap → Prop} {d : DefRec} {K : Params → PySem.W.Frag} (hn : l.most = some 63) (hdf : d.params.defaults = []) (hr : Room k callerA)
    (hY : ∀ (w : World) (h : Heap), YP w h → (K w.params).In h)
    (F : ∀ (w : World) (mg : Str → Option Value) (fa : Addr) (h : Heap), (K w.params).In h → h.Ns mainGlobals mg → mg d.name = some (.ref fa) →
      ∃ fd : FuncData, (∀ (s : Shared) (u : Value), BindsTo s fd ⟨[u], []⟩ [("_law_script", u)]) ∧ ∀ base : Heap, (K w.params).In base → base.Ns mainGlobals mg → FnOk l.prog w (K w.params) mg base CX0 k fa fd ["_law_script"] (spLaw (K w.params))) :
    PySem.W.WalkO q loose XP YP l.row.toRowW d [] (fun f vs => PySem.call f vs) :=
  L2.walk_of (n := 63) (k := k) (x := "_law_script") (CX := fun _ => CX0) (sp := fun w => spLaw (K w.params)) hn (by decide) hdf hr hY F (fun _ _ a ns hl _ hS => ⟨a, ns, rfl, hS, hl, fun _ => rfl⟩) fun _ _ _ _ _ z => z
/-- a def of the top, its default an int -/
theorem dfn_mkI {K : PySem.W.Frag} {x : Str} {st : Stmt} {f T : Addr} {oc : Value} {od an Tod : Option Addr} {osl Tsl : Array (Option Value)} {Tn : Nat} {kV doc pm cdv ct : Value} {i : Int} {tok : Tok} (a : PySem.W.nsIn K mainGlobals x = some (some (.ref f))) (l : K.lookup f = some ⟨oc, od, .func (PySem.W.fnOf x x (defArgs st) (defBody st) (defScope st) (.ref T) kV doc pm an cdv ct), osl⟩)
    (c : PySem.W.codeIn K cdv x = true) (k : PySem.W.keepIn K (.ref f) = true) (t : K.lookup T = some ⟨.type "tuple", Tod, .seq #[.int i tok] Tn, Tsl⟩) : DfN K x st [.int i] :=
  ⟨f, _, a, ⟨⟨_, _, _, _, _, _, _, _, _, _, rfl, l, c, Or.inr ⟨by simp, _, _, [.int i tok], _, rfl, t, rfl, .cons ⟨tok, rfl⟩ .nil⟩, Or.inl rfl⟩, k⟩⟩
abbrev VEs : List Value := [.type "ValueError", .type "Exception", .type "BaseException", .type "object"]
/-- an error class of the program, above it bm -/
structure ErS (K : PySem.W.Frag) (bm : List Value) (C : Addr) : Prop where
  xL : ∃ nm q N bs sn sub ab col dd k0 k1 k2 k3 k5, K.lookup C = some (excClassObj nm q C N bs bm true sn sub ab col dd k0 k1 k2 k3 k5 "ValueError.__new__")
  ga : PySem.W.findIn K (.ref C) "__getattribute__" = some (some (.builtin "BaseException.__getattribute__"))
  gg : PySem.W.findIn K (.ref C) "__getattr__" = some none
  ha : PySem.W.findIn K (.ref C) "__class__" = some (some (.builtin "object.__class__"))
  kC : PySem.W.keepIn K (.ref C) = true
/-- the class at S, directly below ValueError -/
def EKS (K : PySem.W.Frag) (x : Str) (S : Addr) : Prop := PySem.W.nsIn K mainGlobals x = some (some (.ref S)) ∧ ErS K VEs S ∧ PySem.W.excIn K S VEs "ValueError.__new__" = true
def EK0 (K : PySem.W.Frag) (x : Str) (S C : Addr) : Prop := PySem.W.nsIn K mainGlobals x = some (some (.ref C)) ∧ ErS K (.ref S :: VEs) C ∧ PySem.W.excIn K C VEs "ValueError.__new__" = true
def EK1 (K : PySem.W.Frag) (x q : Str) (st : Stmt) (gs : List Str) (S C : Addr) : Prop := ∃ (f : Addr) (fd : FuncData), PySem.W.nsIn K mainGlobals x = some (some (.ref C)) ∧ ErS K (.ref S :: VEs) C ∧ PySem.W.findIn K (.ref C) "__setattr__" = some (some (.builtin "object.__setattr__")) ∧ (∀ g ∈ gs, PySem.W.findIn K (.ref C) g = some none) ∧
  PySem.W.findIn K (.ref C) "__init__" = some (some (.ref f)) ∧ PySem.W.typeIn K (.ref f) = some (.type "function") ∧ Fun K "__init__" q st f fd
section
variable {K : PySem.W.Frag} {x qn : Str} {st : Stmt} {C S f : Addr} {nm q : Str} {N : Addr} {bs : List Value} {sn : List Str} {sub : List Value} {ab : Bool} {col : Option Bool} {dd : Option Addr} {m0 m1 m2 m3 m5 : Option Value} {od an : Option Addr} {osl : Array (Option Value)} {kV doc pm cdv ct : Value} {g g' : Str}
theorem eks_mk (aC : PySem.W.nsIn K mainGlobals x = some (some (.ref S)))
    (xL : K.lookup S = some (excClassObj nm q S N bs [.type "ValueError", .type "Exception", .type "BaseException", .type "object"] true sn sub ab col dd m0 m1 m2 m3 m5 "ValueError.__new__"))
    (ga : PySem.W.findIn K (.ref S) "__getattribute__" = some (some (.builtin "BaseException.__getattribute__"))) (gg : PySem.W.findIn K (.ref S) "__getattr__" = some none) (ha : PySem.W.findIn K (.ref S) "__class__" = some (some (.builtin "object.__class__")))
    (kC : PySem.W.keepIn K (.ref S) = true) (xc : PySem.W.excIn K S [.type "ValueError", .type "Exception", .type "BaseException", .type "object"] "ValueError.__new__" = true) : EKS K x S :=
  ⟨aC, ⟨⟨_, _, _, _, _, _, _, _, _, _, _, _, _, _, xL⟩, ga, gg, ha, kC⟩, xc⟩
theorem ek0_mk (aC : PySem.W.nsIn K mainGlobals x = some (some (.ref C)))
    (xL : K.lookup C = some (excClassObj nm q C N bs [.ref S, .type "ValueError", .type "Exception", .type "BaseException", .type "object"] true sn sub ab col dd m0 m1 m2 m3 m5 "ValueError.__new__"))
    (ga : PySem.W.findIn K (.ref C) "__getattribute__" = some (some (.builtin "BaseException.__getattribute__"))) (gg : PySem.W.findIn K (.ref C) "__getattr__" = some none) (ha : PySem.W.findIn K (.ref C) "__class__" = some (some (.builtin "object.__class__")))
    (kC : PySem.W.keepIn K (.ref C) = true) (xc : PySem.W.excIn K C [.type "ValueError", .type "Exception", .type "BaseException", .type "object"] "ValueError.__new__" = true) : EK0 K x S C :=
  ⟨aC, ⟨⟨_, _, _, _, _, _, _, _, _, _, _, _, _, _, xL⟩, ga, gg, ha, kC⟩, xc⟩
theorem ek1_mk (aC : PySem.W.nsIn K mainGlobals x = some (some (.ref C)))
    (xL : K.lookup C = some (excClassObj nm q C N bs [.ref S, .type "ValueError", .type "Exception", .type "BaseException", .type "object"] true sn sub ab col dd m0 m1 m2 m3 m5 "ValueError.__new__"))
    (ga : PySem.W.findIn K (.ref C) "__getattribute__" = some (some (.builtin "BaseException.__getattribute__"))) (gg : PySem.W.findIn K (.ref C) "__getattr__" = some none) (ha : PySem.W.findIn K (.ref C) "__class__" = some (some (.builtin "object.__class__")))
    (kC : PySem.W.keepIn K (.ref C) = true) (sa : PySem.W.findIn K (.ref C) "__setattr__" = some (some (.builtin "object.__setattr__"))) (nb : PySem.W.findIn K (.ref C) g = some none)
    (a1 : PySem.W.findIn K (.ref C) "__init__" = some (some (.ref f))) (l1 : K.lookup f = some ⟨.type "function", od, .func (PySem.W.fnOf "__init__" qn (defArgs st) (defBody st) (defScope st) .none kV doc pm an cdv ct), osl⟩) (c1 : PySem.W.codeIn K cdv qn = true) : EK1 K x qn st [g] S C :=
  ⟨f, _, aC, ⟨⟨_, _, _, _, _, _, _, _, _, _, _, _, _, _, xL⟩, ga, gg, ha, kC⟩, sa, fun z hz => by rw [List.mem_singleton.mp hz]; exact nb, a1, by show (K.lookup f).map _ = _; rw [l1] <;> rfl, fun_mk l1 c1 (by simp only [PySem.W.keepIn, l1])⟩
theorem ek2_mk (aC : PySem.W.nsIn K mainGlobals x = some (some (.ref C)))
    (xL : K.lookup C = some (excClassObj nm q C N bs [.ref S, .type "ValueError", .type "Exception", .type "BaseException", .type "object"] true sn sub ab col dd m0 m1 m2 m3 m5 "ValueError.__new__"))
    (ga : PySem.W.findIn K (.ref C) "__getattribute__" = some (some (.builtin "BaseException.__getattribute__"))) (gg : PySem.W.findIn K (.ref C) "__getattr__" = some none) (ha : PySem.W.findIn K (.ref C) "__class__" = some (some (.builtin "object.__class__")))
    (kC : PySem.W.keepIn K (.ref C) = true) (sa : PySem.W.findIn K (.ref C) "__setattr__" = some (some (.builtin "object.__setattr__"))) (nb : PySem.W.findIn K (.ref C) g = some none) (nb2 : PySem.W.findIn K (.ref C) g' = some none)
    (a1 : PySem.W.findIn K (.ref C) "__init__" = some (some (.ref f))) (l1 : K.lookup f = some ⟨.type "function", od, .func (PySem.W.fnOf "__init__" qn (defArgs st) (defBody st) (defScope st) .none kV doc pm an cdv ct), osl⟩) (c1 : PySem.W.codeIn K cdv qn = true) : EK1 K x qn st [g, g'] S C :=
  ⟨f, _, aC, ⟨⟨_, _, _, _, _, _, _, _, _, _, _, _, _, _, xL⟩, ga, gg, ha, kC⟩, sa, fun z hz => by
    rcases List.mem_cons.mp hz with e | e
    · rw [e]; exact nb
    · rw [List.mem_singleton.mp e]; exact nb2, a1, by show (K.lookup f).map _ = _; rw [l1] <;> rfl, fun_mk l1 c1 (by simp only [PySem.W.keepIn, l1])⟩
end
end DL
set_option Elab.async false
set_option linter.all false
set_option maxRecDepth 100000
namespace DL
open PySem PySem.Spec PyProof.Rows L2
theorem hide_nil {H : Hp} : hide [] H = H := funext fun a => hide_out (by simp)
theorem dpa_ints {K : PySem.W.Frag} {H : Hp} : ∀ {ns : List Int}, DpAll K H (ns.map V.int) (ns.map .int)
  | [] => .nil
  | n :: ns => .cons (.int n) dpa_ints
theorem law_end {P : Program} {w : World} {K : PySem.W.Frag} {mg : Str → Option Value} {base : Heap} {CX : CXT} {k : Nat} {f : Addr} {fd : FuncData} {ps : List Str} (F : FnOk P w K mg base CX k f fd ps (spT (RLaw K))) : FnOk P w K mg base CX k f fd ps (spLaw K) :=
  F.imp fun vs H Q E ⟨a, ns, e, hS, hl, q⟩ => by
    subst e
    refine ⟨[], [dat K (.list (ns.map .int))], _, (fun _ z => by cases z), ⟨Dp.lst (by rw [hide_nil]; exact hS) dpa_ints, trivial⟩, ⟨ns, rfl, hl, rfl⟩, fun t v H' et ex r => ?_⟩
    subst et
    have r : Dp K (hide [] H') v (.bool true) := r
    cases r
    exact q H'
/-- an error of the class at S is what «except S» names -/
theorem exm_own {K : PySem.W.Frag} {S : Addr} (h1 : PySem.W.subIn K (.ref S) (.type "BaseException") = some true) (h2 : PySem.W.isClsIn K S = true) (h3 : PySem.W.typeIn K (.ref S) = some (.type "type")) (h4 : PySem.W.subIn K (.ref S) (.ref S) = some true) :
    PySem.W.exmOne K (.ref S) (.ref S) = some true := by
  have e1 : (PySem.W.subIn K (.ref S) (.type "BaseException") == some true) = true := by rw [h1] <;> rfl
  have e2 : ((PySem.W.clsIn K S).isSome && PySem.W.typeIn K (.ref S) == some (.type "type")) = true := by
    have h2' : (PySem.W.clsIn K S).isSome = true := h2
    rw [h2', h3] <;> rfl
  show (if (PySem.W.subIn K (.ref S) (.type "BaseException") == some true) = true then (if ((PySem.W.clsIn K S).isSome && PySem.W.typeIn K (.ref S) == some (.type "type")) = true then PySem.W.subIn K (.ref S) (.ref S) else none) else none) = some true
  rw [if_pos e1, if_pos e2]
  exact h4
/-- an error of the class at C is one of the class at S -/
theorem kit_own {K : PySem.W.Frag} {C S : Addr} (h2 : PySem.W.isClsIn K S = true) (h3 : PySem.W.typeIn K (.ref S) = some (.type "type")) (h4 : PySem.W.subIn K (.ref C) (.ref S) = some true) : PySem.W.kitOne K (.ref C) (.ref S) = some true := by
  have e2 : ((PySem.W.clsIn K S).isSome && PySem.W.typeIn K (.ref S) == some (.type "type")) = true := by
    have h2' : (PySem.W.clsIn K S).isSome = true := h2
    rw [h2', h3] <;> rfl
  show (if (Value.ref C == Value.ref S) = true then some true else if ((PySem.W.clsIn K S).isSome && PySem.W.typeIn K (.ref S) == some (.type "type")) = true then PySem.W.subIn K (.ref C) (.ref S) else none) = some true
  rw [if_pos e2, h4]
  split <;> rfl
/-- an error of the class at C is not one of the class at S -/
theorem kit_not {K : PySem.W.Frag} {C S : Addr} (h1 : (Value.ref C == Value.ref S) = false) (h2 : PySem.W.isClsIn K S = true) (h3 : PySem.W.typeIn K (.ref S) = some (.type "type")) (h4 : PySem.W.subIn K (.ref C) (.ref S) = some false) : PySem.W.kitOne K (.ref C) (.ref S) = some false := by
  have e2 : ((PySem.W.clsIn K S).isSome && PySem.W.typeIn K (.ref S) == some (.type "type")) = true := by
    have h2' : (PySem.W.clsIn K S).isSome = true := h2
    rw [h2', h3] <;> rfl
  show (if (Value.ref C == Value.ref S) = true then some true else if ((PySem.W.clsIn K S).isSome && PySem.W.typeIn K (.ref S) == some (.type "type")) = true then PySem.W.subIn K (.ref C) (.ref S) else none) = some false
  rw [h1, if_pos e2, h4] <;> rfl
/-- a global couple of ints -/
theorem gl_couple {K : PySem.W.Frag} {mg : Str → Option Value} {x : Str} {Z : Addr} {od : Option Addr} {i j : Int} {t u : Tok} {n : Nat} {sl : Array (Option Value)} (m : mg x = some (.ref Z)) (l : K.lookup Z = some ⟨.type "tuple", od, .seq #[.int i t, .int j u] n, sl⟩) : GlD K mg x (.tuple [.int i, .int j]) :=
  ⟨.ref Z, .ref Z, m, rfl, fun H => .tup (xs := [.int i, .int j]) (Or.inr ⟨_, _, _, l, rfl, rfl, (by show 2 ≤ sizeLine; decide), .cons ⟨t, rfl⟩ (.cons ⟨u, rfl⟩ .nil)⟩) (.cons (.int i) (.cons (.int j) .nil))⟩
end DL
set_option Elab.async false
set_option linter.all false
set_option maxRecDepth 100000
/-! Exceptions that carry something; defs with defaults that may raise; calls with keywords; texts. -/
namespace DL
open PySem PySem.Spec PyProof.Rows L2
/-- the exception that a suite holds, and what it carries -/
def excT (a : Addr) (d : Option Addr) (fs : List (Str × Th)) : Th := ⟨fun H v => v = .ref a ∧ XF H d fs, fun _ _ _ e h => ⟨h.1, h.2.up e⟩⟩
section
variable {X : Cx} {Δ : List Sl} {e a b c : Expr} {es : List Expr} {A B C : Th → Prop} {pos : Pos} {P : Post} {rest body els : List Stmt} {st : Stmt} {W : WX}
/-- try: body except x as n: suite, the exception with what it carries -/
theorem sd_tryF (i : Nat) {x n : Str} {cv : Value} {b0 : Stmt} {suite : List Stmt} {np pos' : Pos} {Wout : WX} (XC : Addr → List (Str × Th) → List Sl → Prop) (hN : X.N.Nodup) (hi : X.N[i]? = some n) (hln : X.env.kindOf n = some .local) (hc : Names X x cv) (tk : Takes X Wout)
    (hb : ∀ (W : WX) (pn : List (Addr × Obj)) (xe : Value → Shared → Prop), Takes (X.tr pn xe) W → PassesOwn (model X.prog X.w) X.A X.env xe → SD (X.tr pn xe) W body { P with nx := fun Δ' => SD X Wout rest P Δ', xc := XC } Δ)
    (hcls : ∀ C fs Δ', XC C fs Δ' → PySem.W.exmOne X.K (.ref C) cv = some true)
    (hsu : ∀ C fs Δ', XC C fs Δ' → ∀ (a : Addr) (oe : Obj) (d : Option Addr) (pn : List (Addr × Obj)), Zc (.ref C) d oe → (∃ vs, oe.data = .fields vs) → (fs = [] → d = none) →
      SD (X.suite a ((a, oe) :: pn)) (fun _ _ _ _ => False) (b0 :: suite) { nx := fun Δ2 => SD X Wout rest P (Δ2.set i .no), rt := P.rt, bk := fun Δ2 => P.bk (Δ2.set i .no), ct := fun Δ2 => P.ct (Δ2.set i .no) } (Δ'.set i (.th (excT a d fs))))
    (hsl : ∀ C fs Δ', XC C fs Δ' → ∀ ts, Δ'[i]? ≠ some (.ml ts))
    (hs : X.stack = X.env :: X.outer := by rfl) (hf : X.env.frame = some X.env.locals := by rfl) :
    SD X Wout (.Try body [.ExceptHandler (some (.Name x np)) (some n) (b0 :: suite) pos'] [] [] pos :: rest) P Δ := by
  refine sd_cons ?_
  have pb : ∀ (W : WX) (pn : List (Addr × Obj)) (xe : Value → Shared → Prop), Takes (X.tr pn xe) W → PassesOwn (model X.prog X.w) X.A X.env xe → PSs (X.tr pn xe) body (fun D σ H => ∀ (pn : List (Addr × Obj)) (xe : Value → Shared → Prop), Takes (X.tr pn xe) W → PassesOwn (model X.prog X.w) X.A X.env xe → ∃ t, PSs (X.tr pn xe) body t ∧ t D σ H) :=
    fun W pn xe tk hp => ⟨fun pins s σ H D I h => by
      obtain ⟨t, p, ht⟩ := h pn xe tk hp
      exact p.run pins s σ H D I ht⟩
  have ps : ∀ (a : Addr) (oe : Obj) (cls : Value) (d : Option Addr) (pn : List (Addr × Obj)), Zc cls d oe → (∃ vs, oe.data = .fields vs) → PSs (X.suite a ((a, oe) :: pn)) (b0 :: suite) (fun D σ H => ∀ (oe : Obj) (pn : List (Addr × Obj)), Zc cls d oe → (∃ vs, oe.data = .fields vs) → ∃ t, PSs (X.suite a ((a, oe) :: pn)) (b0 :: suite) t ∧ t D σ H) :=
    fun a oe cls d pn hz hfl => ⟨fun pins s σ H D I h => by
      obtain ⟨t, p, ht⟩ := h oe pn hz hfl
      exact p.run pins s σ H D I ht⟩
  refine ⟨_, ps_try_as (ts := fun a cls d => fun D σ H => ∀ (oe : Obj) (pn : List (Addr × Obj)), Zc cls d oe → (∃ vs, oe.data = .fields vs) → ∃ t, PSs (X.suite a ((a, oe) :: pn)) (b0 :: suite) t ∧ t D σ H) hs hf hN hi hln hc tk pb ps, fun S0 M0 H0 σ H S hA D le xw => ?_⟩
  intro pn xe tk2 hp2
  obtain ⟨t, p, f⟩ := hb _ pn xe tk2 hp2
  refine ⟨t, p, f S0 M0 H0 σ H S hA D ⟨le.nx, le.rt, le.bk, le.ct⟩ ⟨fun σ1 H1 C fs d Δ1 S1 hxc hA1 r nd => ?_, xw.2⟩⟩
  refine ⟨true, hcls C fs Δ1 hxc, fun _ a na oe pn hz hfl => ?_, fun z => nomatch z⟩
  have hd0 : fs = [] → d = none := fun z => by
    rcases r with ⟨_, r⟩ | ⟨ne, _⟩
    · exact r
    · exact absurd z ne
  obtain ⟨u, pu, fu⟩ := hsu C fs Δ1 hxc a oe d pn hz hfl hd0
  refine ⟨u, pu, fu S0 M0 H0 _ H1 S1 (hA1.setS (s := .th (excT a d fs)) rfl ⟨.ref a, rfl, rfl, r⟩) _ ⟨fun σ2 H2 ⟨Δ2, S2, n2, hA2⟩ => le.nx _ _ ⟨_, S2, n2, hA2.setS (s := .no) rfl trivial⟩, le.rt, fun σ2 H2 ⟨Δ2, S2, n2, hA2⟩ => le.bk _ _ ⟨_, S2, n2, hA2.setS (s := .no) rfl trivial⟩, fun σ2 H2 ⟨Δ2, S2, n2, hA2⟩ => le.ct _ _ ⟨_, S2, n2, hA2.setS (s := .no) rfl trivial⟩⟩ ⟨fun _ _ _ _ _ _ _ p => p.elim, fun z => nomatch z⟩⟩
/-- e.f, e the exception that the suite holds -/
theorem pd_xf {q C : Addr} {oe : Obj} {d : Option Addr} {pn : List (Addr × Obj)} {fs : List (Str × Th)} {n : Str} {t : Th} (T : XfC X.K C) (hno : PySem.W.findIn X.K (.ref C) n = some none) (hz : Zc (.ref C) d oe) (hf : ∃ vs, oe.data = .fields vs)
    (he : PD (X.suite q ((q, oe) :: pn)) Δ e (excT q d fs)) (hl : fs.lookup n = some t) (hb : attributeBase e n X.env (eval e X.env) = eval e X.env := by rfl) : PD (X.suite q ((q, oe) :: pn)) Δ (.Attribute e n pos) t := by
  obtain ⟨te, pe, fe⟩ := he
  refine ⟨_, pe_xf T hno hz hf pe hb, fun S0 M0 H0 σ H S hA Q k => fe S0 M0 H0 σ H S hA _ fun th v H1 hth e1 r => ?_⟩
  subst hth
  obtain ⟨rfl, rx⟩ := r
  rcases rx with ⟨e0, _⟩ | ⟨_, dd, kvs, ed, ea, hv⟩
  · rw [e0] at hl
    cases hl
  · obtain ⟨v, h1, h2⟩ := hv n t hl
    exact ⟨rfl, rfl, dd, kvs, v, ed, hide_le _ _ ea, h1, k t v H1 rfl e1 h2⟩
/-! ### raise X(e), raise X(e, e') with an __init__ of its own -/
/-- __init__(self, g): self.g = g -/
def spIni1 (K : PySem.W.Frag) (g : Str) : Sp := fun vs H Q _ => ∃ (a C : Addr) (y : V), vs = [.ref a, y] ∧ OexC K C ∧ PySem.W.findIn K (.ref C) g = some none ∧ H a = some (exo a C none) ∧
  ∀ dx, H dx = none → dx ≠ a → Q .non (upd (upd H dx (exd dx [(g, y)])) a (exo a C (some dx)))
def spIni2 (K : PySem.W.Frag) (g g' : Str) : Sp := fun vs H Q _ => ∃ (a C : Addr) (y y' : V), vs = [.ref a, y, y'] ∧ OexC K C ∧ PySem.W.findIn K (.ref C) g = some none ∧ PySem.W.findIn K (.ref C) g' = some none ∧ H a = some (exo a C none) ∧
  ∀ dx, H dx = none → dx ≠ a → Q .non (upd (upd (upd H dx (exd dx [(g, y)])) a (exo a C (some dx))) dx (exd dx [(g', y'), (g, y)]))
structure ExF1 (P : Program) (w : World) (K : PySem.W.Frag) (mg : Str → Option Value) (base : Heap) (x : Str) (C : Addr) (g : Str) : Prop where
  gC : mg x = some (.ref C)
  T : OexC K C
  no : PySem.W.findIn K (.ref C) g = some none
  ini : ∃ fI fd ps, PySem.W.findIn K (.ref C) "__init__" = some (some (.ref fI)) ∧ PySem.W.typeIn K (.ref fI) = some (.type "function") ∧ Binds K fd ps [] ∧ FnOk P w K mg base CX0 1 fI fd ps (spIni1 K g)
structure ExF2 (P : Program) (w : World) (K : PySem.W.Frag) (mg : Str → Option Value) (base : Heap) (x : Str) (C : Addr) (g g' : Str) : Prop where
  gC : mg x = some (.ref C)
  T : OexC K C
  no : PySem.W.findIn K (.ref C) g = some none
  no' : PySem.W.findIn K (.ref C) g' = some none
  ini : ∃ fI fd ps, PySem.W.findIn K (.ref C) "__init__" = some (some (.ref fI)) ∧ PySem.W.typeIn K (.ref fI) = some (.type "function") ∧ Binds K fd ps [] ∧ FnOk P w K mg base CX0 1 fI fd ps (spIni2 K g g')
theorem lookup_th1 {f g : Str} {t : Th} : List.lookup f [(g, t)] = if f = g then some t else none := by
  by_cases h : f = g
  · rw [if_pos h, h]; simp [List.lookup]
  · have e : (f == g) = false := by simpa using h
    rw [if_neg h]; simp [List.lookup, e]
theorem lookup_th2 {f g g' : Str} {t t' : Th} : List.lookup f [(g', t'), (g, t)] = if f = g' then some t' else if f = g then some t else none := by
  by_cases h : f = g'
  · rw [if_pos h, h]; simp [List.lookup]
  · have e : (f == g') = false := by simpa using h
    rw [if_neg h, ← lookup_th1]; simp [List.lookup, e]
theorem raise_heap {H : Hp} {a dx : Addr} {o1 o2 o3 o4 : HO} (ha : H a = none) (hd : dx ≠ a) : upd (del (upd (upd (upd H a o1) dx o2) a o3) a) dx o4 = upd H dx o4 := by
  funext b
  by_cases h1 : b = dx
  · rw [h1, upd_same, upd_same]
  · rw [upd_ne h1, upd_ne h1]
    by_cases h2 : b = a
    · rw [h2, del_same, ha]
    · rw [del_ne h2, upd_ne h2, upd_ne h1, upd_ne h2]
theorem raise_heap2 {H : Hp} {a dx : Addr} {o1 o2 o3 o4 o5 : HO} (ha : H a = none) (hd : dx ≠ a) : upd (del (upd (upd (upd (upd H a o1) dx o2) a o3) dx o5) a) dx o4 = upd H dx o4 := by
  funext b
  by_cases h1 : b = dx
  · rw [h1, upd_same, upd_same]
  · rw [upd_ne h1, upd_ne h1]
    by_cases h2 : b = a
    · rw [h2, del_same, ha]
    · rw [del_ne h2, upd_ne h1, upd_ne h2, upd_ne h1, upd_ne h2]
theorem sd_raise1 {x g : Str} {Cc : Addr} {p p2 : Pos} {t : Th} (F : ExF1 X.prog X.w X.K X.mg X.base x Cc g) (hr : Room 2 X.A) (he : PD X Δ e t) (tk : Takes X W) (k : P.xc Cc [(g, t)] Δ) (hg : Gl X x := by rfl) (hc : X.calm = true := by rfl) (hdb : (x == ("__debug__" : Str)) = false := by decide)
    (hs : starEach [e] X.env = (false, eval e X.env) :: starEach [] X.env := by rfl) (hpl : (backTo p2 (starEach [] X.env)).any (·.1) = false := by rfl) :
    SD X W (.Raise (some (.Call (.Name x p) [e] [] p2)) none pos :: rest) P Δ := by
  obtain ⟨fI, fd, ps, h1, h2, hb, Fk⟩ := F.ini
  obtain ⟨ta, pa, fa⟩ := pl_cons he pl_nil hs
  refine sd_cons ⟨_, ps_raise hc tk (pmk_oex (dvs := []) F.T h1 h2 Fk hr hb .nil (fun _ _ _ _ _ _ _ z => z.elim) hg F.gC pa hdb hs hpl), fun S0 M0 H0 σ H S hA D le xw => ?_⟩
  refine fa S0 M0 H0 σ H S hA _ fun ths vs H1 hB e1 r => ?_
  subst hB
  obtain ⟨y, rfl, ry⟩ := all1 r
  refine ⟨by show 1 ≤ 1000; decide, fun a ha => ⟨a, Cc, y, rfl, F.T, F.no, upd_same, fun dx hdx hne => ⟨rfl, dx, [(g, y)], upd_same, ?_, ?_, ?_⟩⟩⟩
  · rw [upd_ne hne]; exact upd_same
  · rw [upd_ne hne] at hdx; exact hdx
  · rw [upd_ne hne] at hdx
    rw [raise_heap ha hne]
    have hA1 := hA.up (e1.trans (Ex.new (o := .xd [(g, y)]) hdx))
    have nS : dx ∉ S := (hA.up e1).dom.new hdx
    refine xw.1 σ _ Cc [(g, t)] (some dx) Δ S k hA1 (Or.inr ⟨by simp, dx, [(g, y)], rfl, by rw [hide_out nS]; exact upd_same, fun f t' hf => ?_⟩) (fun a z => by cases z; exact nS)
    rw [lookup_th1] at hf
    by_cases hfg : f = g
    · rw [if_pos hfg] at hf
      cases hf
      exact ⟨y, by rw [hfg]; simp [List.lookup], t.up _ _ _ (hide_ex (Ex.new hdx)) ry⟩
    · rw [if_neg hfg] at hf
      cases hf
end
end DL
set_option Elab.async false
set_option linter.all false
set_option maxRecDepth 100000
/-! Texts. -/
namespace DL
open PySem PySem.Spec PyProof.Rows L2
section
open Builtin Builtin.Str Builtin.Int
variable {prog : Program} {w : World} {A : Around} {E : Value → Shared → Prop} {s : Shared}
/-- sep.join(it), it a reversed(list) -/
theorem join_rev {x : Str} {t : Tok} {ys : List Str} {it l : Addr} {items : Array Value} {Q : Value → Shared → Prop} (hh : A.handled = none) (hit : s.heap.IsRevIter it l ((items.size : Int) - 1)) (hl : s.heap.IsList l items) (hne : l ≠ it) (hn : items.size ≤ sizeLine)
    (hP : ∀ acc : Array Value, ItemsOf (fun i v => items[items.size - 1 - i]? = some v) acc items.size → StrsAre acc.toList ys) (hok : (ys.map (·.length)).sum + ys.length * x.length ≤ 16777216)
    (hq : ∀ (h' : Heap) (tk : Nat) t', (∀ b o, b ≠ it → s.heap.get? b = some o → h'.get? b = some o) → Q (.str (Txt.join x ys) t') { s with heap := h', toks := tk }) :
    wpAny (model prog w) A (call (.builtin "str.join") [.str x t, .ref it]) Q E s := by
  refine wpAny_call (codeAny_call_builtin F.slot_str_join.plain F.entry_str_join (F.slot_str_join.check _ _ _ _ _ _ _ _ (typeIs_str _ _ _) (F.args_str_join_2 _ _) ?_))
  rw [join_tree_other]
  refine wpAny_bind (wpAny_typeOf hit.typeIs ?_)
  show wpAny _ A.in1 ((pyIter (.ref it)).tryCatch _ >>= fun it => collect it >>= fun items => joinTail x items) _ _ s
  refine wpAny_bind (wpAny_tryCatch (wpAny_pyIter_revIter hit ?_))
  have hh1 : A.in1.handled = none := hh
  refine wpAny_bind (RT.collect_rev (A := A.in1) hh1 hit hl hne hn fun h' tk acc hk hacc => ?_)
  obtain ⟨l, hl, ht⟩ := strsAre_values (hP acc hacc)
  subst ht
  rw [hl]
  have hok' := joinOk_of hok
  unfold JoinOk at hok'
  rw [Bool.not_eq_true'] at hok'
  have g : Gives (joinTail x (strValues l)) (joinMade x l) := by
    have g0 := gives_joinTail x l hok'
    cases l with
    | nil => exact g0
    | cons p r => cases r with
      | nil => exact g0
      | cons q r' => exact g0
  exact g prog w A (wants Q E) _ (post_join l ⟨joinFit_length hok', fun t' k => hq h' k t' hk⟩)
end
section
variable {X : Cx} {Δ : List Sl} {e a b c o : Expr} {es : List Expr} {A B C : Th → Prop} {pos : Pos}
theorem strs_of : ∀ {ys : List Str} {us : List Value}, Vals (ys.map V.str) us → StrsAre us ys
  | [], _, .nil => .nil
  | y :: ys, _, .cons ⟨t, h⟩ r => by subst h; exact .cons y t (strs_of r)
/-- sep.join(reversed(xs)), xs a list of texts -/
def tJoinRev (K : PySem.W.Frag) (to te : TE) : TE := fun σ H Q => to σ H fun x H1 => (∃ a, x = .str a) ∧ te σ H1 fun v H2 => ∃ (a : Str) (q : Addr) (ys : List Str),
  x = .str a ∧ v = .ref q ∧ SqL K H2 q (ys.map V.str) ∧ (ys.map (·.length)).sum + ys.length * a.length ≤ 16777216 ∧ Q (.str (Txt.join a ys.reverse)) H2
theorem pe_joinRev {to te : TE} {apos pos p2 : Pos} {pos2 : Pos} (hc : X.calm = true) (ho : PE X o to) (hg2 : Gl X "reversed") (hm2 : X.mg "reversed" = none) (he : PE X e te)
    (hs1 : starEach [.Call (.Name "reversed" p2) [e] [] pos2] X.env = [(false, eval (.Call (.Name "reversed" p2) [e] [] pos2) X.env)] := by rfl)
    (hs : starEach [e] X.env = (false, eval e X.env) :: starEach [] X.env := by rfl)
    (hbase : attributeBase o "join" X.env (eval o X.env) = eval o X.env := by rfl) (hline : (apos.endLine == pos.line) = true := by rfl) :
    PE X (.Call (.Attribute o "join" apos) [.Call (.Name "reversed" p2) [e] [] pos2] [] pos) (tJoinRev X.K to te) := by
  refine ⟨fun pins s σ H Q I h => ?_⟩
  refine PySem.Call_method1 hbase hs1 hline (thn (ho.run pins s σ H _ I h) fun v s1 ⟨x, H1, I1, r1, q1⟩ => ?_)
  obtain ⟨⟨a, rfl⟩, q1⟩ := q1
  obtain ⟨t, rfl⟩ := _root_.id r1
  refine ⟨"str", _, F.plainAttrs_str, F.slot_str_join, F.type_str_join, typeIs_str _ _ _, (fun _ e => nomatch e), Calls.callWith_builtin rfl (Calls.evalArgs_plain (Calls.spliced_cons ?_))⟩
  refine Call_ (ld_blt I1 hg2 hm2 PyProof.Rows.boot_reversed (PyProof.Rows.callWith_type1 (args_cons (thn (he.run pins s1 σ H1 _ I1 q1) fun u s2 ⟨v, H2, I2, r2, q2⟩ => args_nil ?_) hs) hs rfl))
  obtain ⟨a', q, ys, ea, ev, hq, hz, q3⟩ := q2
  cases ea
  subst ev
  obtain rfl : u = Value.ref q := r2
  obtain ⟨its, rv, p', hz2⟩ := I2.list hq
  refine call_reversed_list p'.isList ?_
  have I3 : Inv X pins σ H2 { s2 with heap := s2.heap.push (revObj q ((its.toArray.size : Int) - 1)) } := I2.kept (t' := s2.toks) fun b o e => Heap.get?_push_of_some _ e
  obtain ⟨f0, f1, f2, f3, f4, f5⟩ := I2.fpOk (H' := H2) (b := s2.heap.objs.size) (Nat.le_refl _) (I2.hok.fresh (Nat.le_refl _))
  have hl := p'.isList
  obtain ⟨ol, hol, _⟩ := id hl
  have hne : q ≠ s2.heap.objs.size := Nat.ne_of_lt (Heap.lt_size hol)
  have hn : its.toArray.size ≤ sizeLine := by rw [List.size_toArray, ← rv.length]; exact hz2
  refine Calls.spliced_nil ?_
  refine join_rev (s := { s2 with heap := s2.heap.push (revObj q ((its.toArray.size : Int) - 1)) }) (ys := ys.reverse) (I2.ok.hd hc) ⟨_, Heap.get?_push_size _ rfl, rfl, rfl⟩ (hl.push _) hne hn (fun acc hacc => ?_) ?_ fun h' tk t' hk => ?_
  · have r := RT.vals_rev rv hacc
    rw [← List.map_reverse] at r
    exact strs_of r
  · rw [List.map_reverse, List.sum_reverse, List.length_reverse]
    exact hz
  · exact ⟨.str _, H2, I3.turned (t' := tk) (fun b o hb e => hk b o hb e) f0 f1 f3 f4 f5, ⟨t', rfl⟩, q3⟩
theorem dpa_strs {K : PySem.W.Frag} {H : Hp} : ∀ {xs : List V} {ys : List Str}, DpAll K H xs (ys.map .str) → xs = ys.map V.str
  | [], [], .nil => rfl
  | _ :: _, _ :: _, .cons h t => by rw [dp_str h, dpa_strs t]; rfl
  | [], _ :: _, h => nomatch h
theorem pd_joinRev {ys : List Str} {x : Str} {apos pos p2 : Pos} {pos2 : Pos} (hm2 : X.mg "reversed" = none) (ho : PD X Δ o (dat X.K (.str x))) (he : PD X Δ e (dat X.K (.list (ys.map .str)))) (hz : (ys.map (·.length)).sum + ys.length * x.length ≤ 16777216) (hc : X.calm = true := by rfl) (hg2 : Gl X "reversed" := by rfl)
    (hs1 : starEach [.Call (.Name "reversed" p2) [e] [] pos2] X.env = [(false, eval (.Call (.Name "reversed" p2) [e] [] pos2) X.env)] := by rfl)
    (hs : starEach [e] X.env = (false, eval e X.env) :: starEach [] X.env := by rfl)
    (hbase : attributeBase o "join" X.env (eval o X.env) = eval o X.env := by rfl) (hline : (apos.endLine == pos.line) = true := by rfl) :
    PD X Δ (.Call (.Attribute o "join" apos) [.Call (.Name "reversed" p2) [e] [] pos2] [] pos) (dat X.K (.str (Txt.join x ys.reverse))) := by
  obtain ⟨to, po, fo⟩ := ho
  obtain ⟨te, pe, fe⟩ := he
  refine ⟨_, pe_joinRev hc po hg2 hm2 pe hs1 hs hbase hline, fun S0 M0 H0 σ H S hA Q k => fo S0 M0 H0 σ H S hA _ fun th v H1 hth e1 r => ?_⟩
  subst hth
  obtain rfl := dp_str r
  refine ⟨⟨_, rfl⟩, fe S0 M0 H0 σ H1 S (hA.up e1) _ fun th v H2 hth e2 r2 => ?_⟩
  subst hth
  obtain ⟨q, xs, rfl, hq, hd⟩ := dp_lst r2
  have ex := dpa_strs hd
  subst ex
  exact ⟨x, q, ys, rfl, rfl, ex_l hide_le hq, hz, k _ _ H2 rfl (e1.trans e2) (Dp.str _)⟩
/-- str(i) -/
theorem pd_strI {p : Pos} {i : Int} (hm : X.mg "str" = none) (ha : PD X Δ e (dat X.K (.int i))) (hz : i.natAbs.log2 < 1920) (hg : Gl X "str" := by rfl) (he : starEach [e] X.env = (false, eval e X.env) :: starEach [] X.env := by rfl) (hpl : (backTo pos (starEach [] X.env)).any (·.1) = false := by rfl) :
    PD X Δ (.Call (.Name "str" p) [e] [] pos) (dat X.K (.str (toString i))) :=
  px_bltT call_str_int hm (pl_cons ha pl_nil he) (fun S H ts vs _ hB r Q q => by
    subst hB
    obtain ⟨v, rfl, r0⟩ := all1 r
    obtain rfl := dp_int r0
    exact ⟨i, rfl, hz, q _ _ H rfl (Ex.refl H) (Dp.str _)⟩) (by decide +kernel) hg (by decide) (by decide) he hpl
/-- s + s' -/
theorem pd_adds {x y : Str} (ha : PD X Δ a (dat X.K (.str x))) (hb : PD X Δ b (dat X.K (.str y))) (hz : x.length + y.length ≤ 100000) : PD X Δ (.BinOp a .Add b pos) (dat X.K (.str (x ++ y))) :=
  px_two (fun _ _ pa pb => pe_op op_add_str pa pb) ha hb fun S H x' y' v w _ hx hy rx ry Q q => by
    subst hx; subst hy
    obtain rfl := dp_str rx
    obtain rfl := dp_str ry
    exact ⟨x, y, rfl, rfl, Nat.le_trans hz (by decide), q _ _ H rfl (Ex.refl H) (Dp.str _)⟩
/-- divmod(a, b) -/
theorem pd_divmod {p : Pos} {i j : Int} (hm : X.mg "divmod" = none) (ha : PD X Δ a (dat X.K (.int i))) (hb : PD X Δ b (dat X.K (.int j))) (h : CDivP i j) (hg : Gl X "divmod" := by rfl)
    (hs1 : starEach [a, b] X.env = (false, eval a X.env) :: starEach [b] X.env := by rfl) (hs2 : starEach [b] X.env = (false, eval b X.env) :: starEach [] X.env := by rfl) (hpl : (backTo pos (starEach [b] X.env)).any (·.1) = false := by rfl) :
    PD X Δ (.Call (.Name "divmod" p) [a, b] [] pos) (dat X.K (.tuple [.int (i / j), .int (i % j)])) :=
  px_blt call_divmodW hm (pl_cons ha (pl_cons hb pl_nil hs2) hs1) (fun S H ts vs dom hB r Q q => by
    subst hB
    obtain ⟨v, w, rfl, r0, r1⟩ := all2 r
    obtain rfl := dp_int r0
    obtain rfl := dp_int r1
    refine ⟨i, j, rfl, h, fun p hp => q _ _ _ rfl (Ex.new hp) ?_⟩
    exact Dp.tup (Or.inl (Or.inl (by rw [hide_out (dom.new hp)]; exact upd_same))) (.cons (.int _) (.cons (.int _) .nil))) (by decide +kernel) hg (by decide) (by decide) hs1 hpl
/-- s.zfill(n) -/
theorem pd_zfill {x : Str} {n : Int} {apos : Pos} (ho : PD X Δ o (dat X.K (.str x))) (he : PD X Δ e (dat X.K (.int n))) (hn : PadOk n = true)
    (hbase : attributeBase o "zfill" X.env (eval o X.env) = eval o X.env := by rfl)
    (hfew : ((backTo pos (starEach [e] X.env)).all (fun x => !x.1) && (backToKw pos (keywordEach [] X.env)).all (fun x => x.1.isSome)
      && decide ([e].length + ([] : List Keyword).length + (if ([] : List Keyword).isEmpty then 0 else 1) < 30)) = true := by rfl)
    (hline : (apos.endLine == pos.line) = true := by rfl) (hs : starEach [e] X.env = (false, eval e X.env) :: starEach [] X.env := by rfl) (hplain : (backTo pos (starEach [] X.env)).any (·.1) = false := by rfl) :
    PD X Δ (.Call (.Attribute o "zfill" apos) [e] [] pos) (dat X.K (.str (Txt.zfill x n))) := by
  obtain ⟨to, po, fo⟩ := ho
  obtain ⟨te, pe, fe⟩ := pl_cons he pl_nil hs
  refine ⟨_, pe_bm PySem.F.plainAttrs_str PySem.F.slot_str_zfill PySem.F.type_str_zfill mt_zfill po pe hbase hfew hline hs hplain, fun S0 M0 H0 σ H S hA Q k => fo S0 M0 H0 σ H S hA _ fun th v H1 hth e1 r => ?_⟩
  subst hth
  obtain rfl := dp_str r
  refine ⟨rfl, fe S0 M0 H0 σ H1 S (hA.up e1) _ fun ths vs H2 hB e2 r2 => ?_⟩
  subst hB
  obtain ⟨w, rfl, r3⟩ := all1 r2
  obtain rfl := dp_int r3
  exact ⟨x, n, rfl, rfl, hn, k _ _ H2 rfl (e1.trans e2) (Dp.str _)⟩
theorem ct_notInD {d : PyData} {ds : List PyData} (hu : X.A.units + 65 < cLine) (h1 : SeqAt.shaped d = true) (h2 : SeqAt.shaped (.list ds) = true) : CmpT X .NotIn (dat X.K d) (dat X.K (.list ds)) (!ds.any fun z => PyData.eqv z d) :=
  ⟨_, op_notInD hu, fun S H v w _ rx ry Q q => ⟨d, ds, dp_up hide_le rx, dp_up hide_le ry, h1, h2, q H (Ex.refl H)⟩⟩
theorem ct_inD {d : PyData} {ds : List PyData} (hu : X.A.units + 65 < cLine) (h1 : SeqAt.shaped d = true) (h2 : SeqAt.shaped (.list ds) = true) : CmpT X .In (dat X.K d) (dat X.K (.list ds)) (ds.any fun z => PyData.eqv z d) :=
  ⟨_, op_inD hu, fun S H v w _ rx ry Q q => ⟨d, ds, dp_up hide_le rx, dp_up hide_le ry, h1, h2, q H (Ex.refl H)⟩⟩
end
end DL
set_option Elab.async false
set_option linter.all false
set_option maxRecDepth 100000
/-! Defs with defaults that may raise; calls with one keyword. -/
namespace DL
open PySem PySem.Spec PyProof.Rows L2
structure GdY (P : Program) (w : World) (K : PySem.W.Frag) (mg : Str → Option Value) (base : Heap) (x : Str) (k : Nat) (dts : List Th) (R : CnX) : Prop where
  ex : ∃ f fd ps ds dvs, mg x = some (.ref f) ∧ PySem.W.keepIn K (.ref f) = true ∧ Binds K fd ps ds ∧ Vals dvs ds ∧ (∀ H, All H dts dvs) ∧ FnOk P w K mg base (L2.CX P w) k f fd ps (spX R)
theorem GdX.y {P : Program} {w : World} {K : PySem.W.Frag} {mg : Str → Option Value} {base : Heap} {x : Str} {k : Nat} {R : CnX} (G : GdX P w K mg base x k R) : GdY P w K mg base x k [] R := by
  obtain ⟨f, fd, ps, hm, hk, hb, F⟩ := G.ex
  exact ⟨f, fd, ps, [], [], hm, hk, hb, .nil, fun _ => trivial, F⟩
section
variable {X : Cx} {Δ : List Sl} {e a b c : Expr} {es : List Expr} {A B C : Th → Prop} {pos : Pos} {P : Post} {rest body els : List Stmt} {st : Stmt} {W : WX}
theorem px_callY {x : Str} {k : Nat} {dts : List Th} {R : CnX} {p : Pos} {B : List Th → Prop} (G : GdY X.prog X.w X.K X.mg X.base x k dts R) (hr : Room k X.A) (ha : PL X Δ (e :: es) B) (h : ∀ ts, B ts → ∃ A, R (ts ++ dts) (.val A) ∧ ∀ t, A t → C t)
    (hg : Gl X x := by rfl) (hdb : (x == ("__debug__" : Str)) = false := by decide) (he : starEach (e :: es) X.env = (false, eval e X.env) :: starEach es X.env := by rfl) (hpl : (backTo pos (starEach es X.env)).any (·.1) = false := by rfl) :
    PX X Δ (.Call (.Name x p) (e :: es) [] pos) C := by
  obtain ⟨f, fd, ps, ds, dvs, hm, hk, hb, hd, hdt, F⟩ := G.ex
  obtain ⟨t, pa, fa⟩ := ha
  refine ⟨_, pe_call (E := E0) F hr hg hm hk hb hd passL pa hdb he hpl, fun S0 M0 H0 σ H S hA Q q => ?_⟩
  refine fa S0 M0 H0 σ H S hA _ fun ths vs H1 hB e1 r => ?_
  obtain ⟨A, hR, hC⟩ := h ths hB
  exact ⟨S, ths ++ dts, .val A, (hA.up e1).dom, r.app (hdt _), hR, fun th v H2 hA2 e2 r2 => q th v H2 (hC th hA2) (e1.trans e2) r2⟩
theorem pd_callY {x : Str} {k : Nat} {dts : List Th} {R : CnX} {p : Pos} {ts : List Th} {t : Th} (G : GdY X.prog X.w X.K X.mg X.base x k dts R) (hr : Room k X.A) (ha : PLD X Δ (e :: es) ts) (h : R (ts ++ dts) (.val (· = t)))
    (hg : Gl X x := by rfl) (hdb : (x == ("__debug__" : Str)) = false := by decide) (he : starEach (e :: es) X.env = (false, eval e X.env) :: starEach es X.env := by rfl) (hpl : (backTo pos (starEach es X.env)).any (·.1) = false := by rfl) :
    PD X Δ (.Call (.Name x p) (e :: es) [] pos) t := px_callY G hr ha (fun us hu => ⟨_, by rw [hu]; exact h, fun _ z => z⟩) hg hdb he hpl
end
section
variable {P : Program} {w : World} {K : PySem.W.Frag} {mg : Str → Option Value} {base : Heap}
/-- a def with defaults that may raise -/
theorem fnDX_mk {x qual : Str} {params : Arguments} {bd : List Stmt} {scope : Scope} {dvs : List V} {kws : List (Str × V)} {f : Addr} {fd : FuncData} {N ps : List Str} {k : Nat} {R : CnX} (F : FunD K x qual params bd scope dvs kws f fd) (Sc : FnScope N ps scope) (hl : ∀ ts o, R ts o → ts.length = ps.length)
    (body : ∀ (cdv : Value) (A : Around) (outer : List Env) (s : Shared) (H : Hp) (E : XK), Room k (A.deeper (envOfC qual scope s.heap.objs.size f cdv)) → ∀ ts o, R ts o →
      SD (cxOf (L2.CX P w) P w K mg base N qual scope f cdv A outer s H E) (fun cls d _ H => E cls d H) bd (postX K o) (startΔ N ts)) : FnOk P w K mg base (L2.CX P w) (k + 1) f fd ps (spX R) := by
  refine F.ok Sc (fun vs H Q E ⟨S, ths, o, _, r, hR, _⟩ => by rw [← r.len]; exact hl _ _ hR) fun cdv A outer s H vs Q E hr ⟨S, ths, o, dom, r, hR, k⟩ => ?_
  obtain ⟨t, p, f⟩ := body cdv A outer s H E hr ths o hR
  have ex0 : ∀ {H'}, Ex (hide [] H) H' → Ex H H' := fun {H'} e a o h => e a o (by rw [hide_out (by simp)]; exact h)
  refine ⟨t, p, f S [] H _ H S (at_start dom r) _ ?_ ?_⟩
  · cases o with
    | val A => exact ends_ret k
    | exc C fs => exact ⟨fun _ _ ⟨_, _, p, _⟩ => p.elim, fun _ _ ⟨_, p, _⟩ => p.elim, fun _ _ ⟨_, _, p, _⟩ => p.elim, fun _ _ ⟨_, _, p, _⟩ => p.elim⟩
  · cases o with
    | val A => exact ⟨fun _ _ _ _ _ _ _ p => p.elim, fun _ => ⟨rfl, dom⟩⟩
    | exc C fs =>
      refine ⟨?_, fun _ => ⟨rfl, dom⟩⟩
      rintro σ1 H1 C' fs' d Δ1 S1 ⟨rfl, rfl⟩ hA r nd
      exact k d H1 (ex0 hA.ex) (r.up (hide_sub hA.sub)) fun a h z => nd a h (hA.sub a z)
/-- f(e, .., k = v): n values, one keyword behind them -/
theorem kb1 {x qual : Str} {params : Arguments} {body : List Stmt} {scope : Scope} {dvs : List V} {kws : List (Str × V)} {f : Addr} {fd : FuncData} {ps : List Str} (F : FunD K x qual params body scope dvs kws f fd) (n : Nat) (ks : List Str) (g : {α : Type} → List α → List α → List α → List α) (hd : dvs ≠ [])
    (hrel : ∀ {vs ds zs : List V} {us its ws : List Value}, Vals vs us → Vals ds its → Vals zs ws → Vals (g vs ds zs) (g us its ws))
    (h : ∀ (T : Addr) (kV doc pm : Value) (an : Option Addr) (cdv ct : Value) (us its ws : List Value), us.length = n → its.length = dvs.length → ws.length = ks.length →
      ∃ k, bindArgs (PySem.W.fnOf x qual params body scope (.ref T) kV doc pm an cdv ct) ⟨us, ks.zip ws⟩ = seqItems? (.ref T) >>= k ∧ k (some its.toArray) = pure (ps.zip (g us its ws))) :
    ∃ its : List Value, KBn K fd ps n ks (fun us ws => g us its ws) (fun vs zs => g vs dvs zs) := by
  obtain ⟨oc, od, dV, kV, doc, pm, an, cdv, ct, osl, rfl, lk, hcd, hD, hK⟩ := F.ex
  rcases hD with ⟨e, _⟩ | ⟨_, T, o, its, m, rfl, lT, oT, rT⟩
  · exact absurd e hd
  · refine ⟨its, ⟨fun s us ws X l1 l2 => ?_, fun r1 r2 => hrel r1 rT r2⟩⟩
    obtain ⟨k, e1, e2⟩ := h T kV doc pm an cdv ct us its ws l1 rT.length.symm l2
    refine BindsTo.of_looks fun M => ?_
    rw [e1]
    exact looks_items X lT oT (.of_pure e2)
structure GdK (P : Program) (w : World) (K : PySem.W.Frag) (mg : Str → Option Value) (base : Heap) (x : Str) (k n : Nat) (ks : List Str) (gT : List Th → List Th → List Th) (R : Cn) : Prop where
  ex : ∃ f fd ps g gV, mg x = some (.ref f) ∧ PySem.W.keepIn K (.ref f) = true ∧ KBn K fd ps n ks g gV ∧ (∀ H ts zs vs ws, All H ts vs → All H zs ws → vs.length = n → ws.length = ks.length → All H (gT ts zs) (gV vs ws)) ∧ FnOk P w K mg base CX0 k f fd ps (spT R)
end
section
variable {X : Cx} {Δ : List Sl} {e a b c : Expr} {es : List Expr} {A B C : Th → Prop} {pos : Pos}
theorem pd_callK1 {x nm : Str} {k n : Nat} {gT : List Th → List Th → List Th} {R : Cn} {p kpos : Pos} {ts : List Th} {u t : Th} (G : GdK X.prog X.w X.K X.mg X.base x k n [nm] gT R) (hr : Room k X.A) (ha : PLD X Δ (e :: es) ts) (hn : ts.length = n) (hz : PD X Δ c u) (h : R (gT ts [u]) (· = t))
    (hg : Gl X x := by rfl) (hall : (backToKw pos (keywordEach [⟨some nm, c, kpos⟩] X.env)).all (·.1.isSome) = true := by rfl) (hks : (backToKw pos (keywordEach [⟨some nm, c, kpos⟩] X.env)).filterMap (·.1) = [nm] := by rfl)
    (hdb : (x == ("__debug__" : Str)) = false := by decide) (he : starEach (e :: es) X.env = (false, eval e X.env) :: starEach es X.env := by rfl)
    (hpl : ((backTo pos (starEach (e :: es) X.env)).any (·.1) || (backToKw pos (keywordEach [⟨some nm, c, kpos⟩] X.env)).any (·.1.isNone)) = false := by rfl) :
    PD X Δ (.Call (.Name x p) (e :: es) [⟨some nm, c, kpos⟩] pos) t := by
  obtain ⟨f, fd, ps, g, gV, hm, hk, hb, hgt, F⟩ := G.ex
  obtain ⟨tt, pa, fa⟩ := ha
  obtain ⟨tc, pc, fc⟩ := hz
  refine ⟨_, pe_callN (E := E0) F hr hg hm hk hb pass0 pa (pk_cons pc pk_nil) hall hks hdb he hpl, fun S0 M0 H0 σ H S hA Q q => ?_⟩
  refine fa S0 M0 H0 σ H S hA _ fun ths vs H1 hB e1 r => ?_
  subst hB
  refine fc S0 M0 H0 σ H1 S (hA.up e1) _ fun th v H2 hB e2 r2 => ?_
  subst hB
  have lv : vs.length = n := r.len ▸ hn
  refine ⟨lv, rfl, S, _, _, (hA.up (e1.trans e2)).dom, hgt _ _ _ _ _ (r.up (hide_ex e2)) (show All (hide S H2) [th] [v] from ⟨r2, trivial⟩) lv rfl, h, fun th v H3 hA2 e3 r3 => q th v H3 hA2 (e1.trans (e2.trans e3)) r3⟩
end
end DL
set_option Elab.async false
set_option linter.all false
set_option maxRecDepth 100000
/-! Decimal texts; a loop over a range that is drawn; one ratio over another. -/
namespace DL
open PySem PySem.Spec PyProof.Rows L2
open TL (numL numL_lt numL_step numL_len numL_digits)
open SX (S)
/-! ### the digits of a number, 64 at a time -/
def dg : Nat → Nat → List Nat
  | 0, _ => []
  | k + 1, r => dg k (r / 10) ++ [48 + r % 10]
theorem dg_len (k : Nat) : ∀ r, (dg k r).length = k := by
  induction k with
  | zero => intro r; rfl
  | succ k ih => intro r; show (dg k (r / 10) ++ [48 + r % 10]).length = k + 1; rw [List.length_append, ih]; rfl
theorem numL_split (k : Nat) : ∀ m, 10 ^ k ≤ m → numL m = numL (m / 10 ^ k) ++ dg k m := by
  induction k with
  | zero => intro m _; simp [dg]
  | succ k ih =>
    intro m h
    have h10 : 10 ^ k ≤ m / 10 := by rw [Nat.le_div_iff_mul_le (by decide), ← Nat.pow_succ]; exact h
    have hm : 10 ≤ m := Nat.le_trans (by rw [Nat.pow_succ]; exact Nat.le_mul_of_pos_left 10 (Nat.pow_pos (by decide))) h
    rw [numL_step hm, ih (m / 10) h10, Nat.div_div_eq_div_mul, Nat.mul_comm 10, ← Nat.pow_succ, List.append_assoc]
    rfl
theorem dg_mod (k : Nat) : ∀ m, dg k (m % 10 ^ k) = dg k m := by
  induction k with
  | zero => intro m; rfl
  | succ k ih =>
    intro m
    have e1 : m % 10 ^ (k + 1) / 10 = (m / 10) % 10 ^ k := by rw [Nat.pow_succ, Nat.mul_comm, Nat.mod_mul_right_div_self]
    have e2 : m % 10 ^ (k + 1) % 10 = m % 10 := by rw [Nat.pow_succ, Nat.mul_comm, Nat.mod_mul_right_mod]
    show dg k (m % 10 ^ (k + 1) / 10) ++ [48 + m % 10 ^ (k + 1) % 10] = dg k (m / 10) ++ [48 + m % 10]
    rw [e1, e2, ih]
theorem dg_zero (k : Nat) : dg k 0 = List.replicate k 48 := by
  induction k with
  | zero => rfl
  | succ k ih => show dg k (0 / 10) ++ [48 + 0 % 10] = _; rw [Nat.zero_div, ih, List.replicate_succ']
theorem dg_pad (k : Nat) : ∀ r, r < 10 ^ (k + 1) → (numL r).length ≤ k + 1 ∧ dg (k + 1) r = List.replicate (k + 1 - (numL r).length) 48 ++ numL r := by
  induction k with
  | zero =>
    intro r h
    have h : r < 10 := h
    rw [numL_lt h]
    refine ⟨Nat.le_refl _, ?_⟩
    show [] ++ [48 + r % 10] = _
    rw [Nat.mod_eq_of_lt h]
    rfl
  | succ k ih =>
    intro r h
    by_cases h1 : r < 10
    · rw [numL_lt h1]
      refine ⟨by show 1 ≤ k + 2; omega, ?_⟩
      show dg (k + 1) (r / 10) ++ [48 + r % 10] = _
      rw [Nat.div_eq_of_lt h1, Nat.mod_eq_of_lt h1, dg_zero]
      rfl
    · obtain ⟨l1, l2⟩ := ih (r / 10) (by rw [Nat.div_lt_iff_lt_mul (by decide), ← Nat.pow_succ]; exact h)
      rw [numL_step (by omega)]
      refine ⟨by rw [List.length_append]; show _ + 1 ≤ _; omega, ?_⟩
      show dg (k + 1) (r / 10) ++ [48 + r % 10] = _
      rw [l2, List.length_append, List.append_assoc]
      congr 2
      show k + 1 - (numL (r / 10)).length = k + 1 + 1 - ((numL (r / 10)).length + 1)
      omega
theorem zfill_dg {k r : Nat} (h : r < 10 ^ (k + 1)) : Txt.zfill (Str.ofString (toString ((r : Nat) : Int))) ((k + 1 : Nat) : Int) = S (dg (k + 1) r) := by
  obtain ⟨l1, l2⟩ := dg_pad k r h
  rw [SX.num_S]
  unfold Txt.zfill
  rw [SX.S_len]
  by_cases hl : ((k + 1 : Nat) : Int) ≤ ((numL r).length : Int)
  · rw [if_pos hl, l2, show k + 1 - (numL r).length = 0 by omega]
    rfl
  · rw [if_neg hl, l2]
    have hd := numL_digits r
    have hne := TL.numL_ne r
    have hz : PySem.zfilled (S (numL r)) (k + 1 - (numL r).length) = Builtin.Str.padded (S (numL r)) (k + 1 - (numL r).length) 0 48 := by
      unfold PySem.zfilled
      generalize hc : numL r = L at *
      cases L with
      | nil => exact absurd rfl hne
      | cons c L =>
        have h0 : (S (c :: L)).cps[0]? = some c := by simp
        have hc1 := hd c (List.mem_cons_self ..)
        rw [h0]
        split
        · rename_i e; cases e; omega
        · rename_i e; cases e; omega
        · rfl
    rw [show ((k + 1 : Nat) : Int).toNat = k + 1 from rfl, hz]
    refine TL.ext_tl ?_
    show (Array.replicate (k + 1 - (numL r).length) 48 ++ (numL r).toArray ++ Array.replicate 0 48).toList = _
    simp
theorem joinL_nil : ∀ ps : List (List Nat), TL.joinL [] ps = ps.flatten
  | [] => rfl
  | [p] => by simp [TL.joinL]
  | p :: q :: r => by
    have ih := joinL_nil (q :: r)
    simp only [TL.joinL, List.flatten_cons] at ih ⊢
    rw [ih]
    simp
/-- ''.join of the parts -/
theorem join_parts (ps : List (List Nat)) : Txt.join (S []) (ps.map S) = S ps.flatten := by rw [SX.join_S, joinL_nil]
/-- the text of a whole number below 0 -/
theorem text_neg {i : Int} (h : i < 0) : Str.ofString (toString i) = S [45] ++ Str.ofString (toString (((i.natAbs : Nat)) : Int)) := by
  rw [toString_neg h, show (0 - i : Int) = ((i.natAbs : Nat) : Int) by omega]
  refine TL.ext_tl ?_
  rw [TL.tl_append]
  show (Str.ofString ("-" ++ toString ((i.natAbs : Nat) : Int))).cps.toList = [45] ++ (Str.ofString (toString ((i.natAbs : Nat) : Int))).cps.toList
  rw [Str.ofString_eq_toList, Str.ofString_eq_toList, String.toList_append, List.map_append]
  rfl
section
variable {X : Cx} {Δ : List Sl} {e a b c : Expr} {es : List Expr} {A B C : Th → Prop} {pos : Pos} {P : Post} {rest body els : List Stmt} {st : Stmt} {W : WX}
/-- for x in range(n), n drawn -/
theorem sd_forRX {x : Str} {px p pos2 : Pos} (j : Nat) {Nn : Int → Prop} (I : Int → Nat → List Sl → Prop) (hm : X.mg "range" = none) (he : PX X Δ e (isI X.K Nn)) (hn : ∀ n, Nn n → n < 2 ^ 62 ∧ -(2 ^ 62) ≤ n) (h0 : ∀ n, Nn n → I n 0 Δ)
    (step : ∀ (n : Int) (i : Nat) Δ', Nn n → (i : Int) < n → I n i Δ' → SD X W body { P with nx := I n (i + 1), ct := I n (i + 1), bk := fun Δ2 => SD X W rest P Δ2 } (Δ'.set j (.th (dat X.K (.int (i : Int))))))
    (hd : ∀ n Δ', Nn n → I n n.toNat Δ' → SD X W rest P Δ') (hN : X.N.Nodup) (hc : X.calm = true := by rfl) (hg : Gl X "range" := by rfl) (hi : X.N[j]? = some x := by rfl) (hx : Loc X.env.scope x := by first | exact Or.inl rfl | exact Or.inr rfl)
    (hf : X.fn x = true ∨ X.env.scope.names.lookup x = some .local := by first | exact .inl rfl | exact .inr rfl)
    (hse : starEach [e] X.env = (false, eval e X.env) :: starEach [] X.env := by rfl) (hs1 : starEach [e] X.env = [(false, eval e X.env)] := by rfl)
    (hp : PassesOwn (model X.prog X.w) X.A X.env X.xe := by exact PassesOwn.never) : SD X W (.For (.Name x px) (.Call (.Name "range" p) [e] [] pos2) body [] pos :: rest) P Δ := by
  refine sd_cons ?_
  obtain ⟨t, pa, fa⟩ := pl_consA (C := fun ts => ∃ i, ts = [dat X.K (.int i)] ∧ Nn i) he pl_nil (fun t ts ⟨i, h1, h2⟩ h3 => ⟨i, by rw [h1, h3], h2⟩) hse
  have qb : PSs X body (fun D σ H => ∃ t, PSs X body t ∧ t D σ H) := ⟨fun pins s σ H D J ⟨t, p, h⟩ => p.run pins s σ H D J h⟩
  refine ⟨_, ps_for hp hc (pi_range1 hg hm pa hs1) (pg_name hN hi hx hf) qb, fun S0 M0 H0 σ H S hA D le xw => ?_⟩
  refine fa S0 M0 H0 σ H S hA _ fun ths vs H1 ht e1 r => ?_
  obtain ⟨n, rfl, hnn⟩ := ht
  obtain ⟨v, rfl, r0⟩ := all1 r
  have := dp_int r0
  subst this
  obtain ⟨hn1, hn0⟩ := hn n hnn
  refine ⟨n, rfl, hn0, hn1, for_range (lo := 0) (n := n.toNat) (g := gName j) (tb := fun D σ H => ∃ t, PSs X body t ∧ t D σ H) (fun i σ' H' => ∃ Δ' S', I n i Δ' ∧ At S0 M0 H0 Δ' σ' H' S') ⟨Δ, S, h0 n hnn, hA.up e1⟩ (fun i σ' H' hi' ⟨Δ', S', i', hA'⟩ => ?_) (fun σ' H' ⟨Δ', S', i', hA'⟩ => le.nx _ _ ⟨Δ', S', hd n Δ' hnn i', hA'⟩)⟩
  obtain ⟨u, pu, fu⟩ := step n i Δ' hnn (by omega) i'
  have e0 : (0 : Int) + (i : Int) = (i : Int) := Int.zero_add _
  refine ⟨u, pu, ?_⟩
  rw [e0]
  exact fu S0 M0 H0 _ H' S' (hA'.set (t := dat X.K (.int (i : Int))) (Dp.int _)) _ ⟨fun _ _ z => z, le.rt, le.nx, fun _ _ z => z⟩ (xw_is xw (fun _ _ _ z => z) fun z => z)
end
end DL
set_option Elab.async false
set_option linter.all false
set_option maxRecDepth 100000
/-! What the defs over ratios promise. -/
namespace DL
open PySem PySem.Spec PyProof.Rows L2
open TL (numL)
open SX (S)
def RSumW (K : PySem.W.Frag) : Cn := fun ts A => ∃ (d : PyData) (qs : List Q) (n : Nat), ts = [dat K d] ∧ (d = .tuple (qs.map rD) ∨ d = .list (qs.map rD)) ∧ (∀ q ∈ qs, Sm n q) ∧ qs.length * (n + 1) + n ≤ 7900 ∧ A = (· = dat K (rD (sumQ qs)))
def refD (x : Str) : PyData := .list [.str "refused", .str x]
/-- make_ratio -/
def isIn : PyData → Bool
  | .int _ => true
  | _ => false
def intD : PyData → Int
  | .int i => i
  | _ => 0
theorem isWh_in (d : PyData) : isWh d none none = isIn d := by cases d <;> rfl
def RMake (K : PySem.W.Frag) (C : Addr) : CnX := fun ts o => ∃ d e : PyData, ts = [dat K d, dat K e] ∧ ((isIn d = false ∧ o = .exc C [("what", dat K (.str "top"))]) ∨ (isIn d = true ∧ (isIn e = false ∨ intD e = 0) ∧ o = .exc C [("what", dat K (.str "bottom"))]) ∨
  ∃ (i j : Int) (n : Nat), d = .int i ∧ e = .int j ∧ j ≠ 0 ∧ j.natAbs < 2 ^ n ∧ n < 9000 ∧ o = .val (· = dat K (rD (lowQ i j))))
def madeD (d e : PyData) : PyData := if isIn d = false then refD "top" else if isIn e = false ∨ intD e = 0 then refD "bottom" else rD (lowQ (intD d) (intD e))
def RMadeOf (K : PySem.W.Frag) : Cn := fun ts A => ∃ (d e : PyData) (n : Nat), ts = [dat K d, dat K e] ∧ (intD e).natAbs < 2 ^ n ∧ n < 9000 ∧ A = (· = dat K (madeD d e))
def overQ (a b : Q) : Q := lowQ (a.1 * b.2) (a.2 * b.1)
def ROver (K : PySem.W.Frag) (C : Addr) : CnX := fun ts o => ∃ (a b : Q) (n m : Nat), ts = [dat K (rD a), dat K (rD b)] ∧ Sm n a ∧ Sm m b ∧ n + m ≤ 8000 ∧ ((b.1 = 0 ∧ o = .exc C [("what", dat K (.str "zero"))]) ∨ (b.1 ≠ 0 ∧ o = .val (· = dat K (rD (overQ a b)))))
def RDivd (K : PySem.W.Frag) : Cn := fun ts A => ∃ (a b : Q) (n m : Nat), ts = [dat K (rD a), dat K (rD b)] ∧ Sm n a ∧ Sm m b ∧ n + m ≤ 8000 ∧ A = (· = dat K (if b.1 = 0 then refD "zero" else rD (overQ a b)))
def RLOver (K : PySem.W.Frag) : Cn := fun ts A => ∃ (a b : Q) (n m : Nat), ts = [dat K (rD a), dat K (rD b)] ∧ Sm n a ∧ Sm m b ∧ n + m ≤ 8000 ∧ b.1 ≠ 0 ∧ A = (· = dat K (rD (overQ a b)))
def RSignOf (K : PySem.W.Frag) : Cn := fun ts A => ∃ a : Q, ts = [dat K (rD a)] ∧ A = (· = dat K (.int (signI a.1)))
theorem over_bot {n m : Nat} {a b : Q} (ha : Sm n a) (hb : Sm m b) (h : b.1 ≠ 0) : a.2 * b.1 ≠ 0 := Int.mul_ne_zero (by have := ha.p; omega) h
/-- the least and the greatest of a row -/
def lesser (a b : Q) : Q := if cmpQ b a < 0 then b else a
def greater (a b : Q) : Q := if 0 < cmpQ b a then b else a
def leastQ (a : Q) (qs : List Q) : Q := qs.foldl lesser a
def greatQ (a : Q) (qs : List Q) : Q := qs.foldl greater a
def RBest (K : PySem.W.Frag) (f : Q → List Q → Q) : Cn := fun ts A => ∃ (d : PyData) (q : Q) (qs : List Q) (n : Nat), ts = [dat K d] ∧ (d = .tuple ((q :: qs).map rD) ∨ d = .list ((q :: qs).map rD)) ∧ (∀ z ∈ q :: qs, Sm n z) ∧ n ≤ 4000 ∧ A = (· = dat K (rD (f q (q :: qs))))
theorem ix0_T {d : PyData} {ds : List PyData} : ixD (.tuple (d :: ds)) 0 = some d := atI_nat (xs := d :: ds) (j := 0) rfl
theorem ix0_L {d : PyData} {ds : List PyData} : ixD (.list (d :: ds)) 0 = some d := atI_nat (xs := d :: ds) (j := 0) rfl
/-- texts -/
def txtI (i : Int) : Str := Str.ofString (toString i)
def RText (K : PySem.W.Frag) : Cn := fun ts A => ∃ n : Nat, ts = [dat K (.int n)] ∧ n < 10 ^ 560 ∧ A = (· = dat K (.str (txtI n)))
def ratTxt (q : Q) : Str := if q.2 = 1 then txtI q.1 else txtI q.1 ++ S [47] ++ txtI q.2
def RRatTxt (K : PySem.W.Frag) : Cn := fun ts A => ∃ q : Q, ts = [dat K (rD q)] ∧ q.1.natAbs < 10 ^ 560 ∧ 0 < q.2 ∧ q.2 < 10 ^ 560 ∧ A = (· = dat K (.str (ratTxt q)))
def RNumber (K : PySem.W.Frag) : Cn := fun ts A => ts = [handT] ∧ A = isI K (fun i => i.natAbs < 10 ^ 135)
def RRight (K : PySem.W.Frag) : Cn := fun ts A => ∃ q : Q, ts = [dat K (rD q), dat K (rD q)] ∧ A = (· = dat K (.bool true))
def RKinds (K : PySem.W.Frag) : Cn := fun ts A => ∃ (q : Q) (m : Int), ts = [dat K (rD q), dat K (.int m)] ∧ Low q ∧ q.1.natAbs < 2 ^ 4000 ∧ q.2.natAbs < 2 ^ 4000 ∧ A = (· = dat K (.bool true))
end DL
set_option Elab.async false
set_option linter.all false
set_option maxRecDepth 100000
/-! Lists that a comprehension makes and that grow later. -/
namespace DL
open PySem PySem.Spec PyProof.Rows L2
/-- a new list stands in the i-th slot -/
theorem At.newMl {S0 M0 S : List Addr} {H0 H H' : Hp} {Δ : List Sl} {σ : L2.St} (hA : At S0 M0 H0 Δ σ H S) {l : Addr} (hl : H l = none) (ex1 : Ex H H') {xs : List V} {ts : List Th} (h1 : H' l = some (.lst xs)) (hr : All (hide (l :: S) H') ts xs) (i : Nat) :
    At S0 M0 H0 (Δ.set i (.ml ts)) (σ.set i (some (V.ref l))) H' (l :: S) := by
  have nS : l ∉ S := hA.dom.new hl
  have nl : l ∉ M0 → H0 l = none := ex_none hA.ex hl
  have own0 : l ∈ M0 ∨ H0 l = none := by
    by_cases q : l ∈ M0
    · exact Or.inl q
    · exact Or.inr (nl q)
  have hid : Ex (hide S H) (hide (l :: S) H') := fun a o h => by
    by_cases q : a ∈ S
    · rw [hide_in q] at h; cases h
    · rw [hide_out q] at h
      have ne : a ≠ l := ne_of_none h hl
      rw [hide_out (by simp [ne, q])]
      exact ex1 a o h
  have env1 : SlsR (l :: S) H' Δ σ := by
    have step : ∀ {Δ : List Sl} {σ : L2.St}, SlsR S H Δ σ → SlsR (l :: S) H' Δ σ := fun {Δ σ} h => by
      induction Δ generalizing σ with
      | nil =>
        cases σ with
        | nil => trivial
        | cons _ _ => exact h.elim
      | cons s ss ih =>
        cases σ with
        | nil => exact h.elim
        | cons o os =>
          refine ⟨?_, ih h.2⟩
          have h1 := h.1
          cases s with
          | no => trivial
          | th t => obtain ⟨v, e1, r⟩ := h1; exact ⟨v, e1, t.up _ _ _ hid r⟩
          | ml ts => obtain ⟨a, xs, e1, m, q, r⟩ := h1; exact ⟨a, xs, e1, List.mem_cons_of_mem _ m, ex1 a _ q, r.up hid⟩
    exact step hA.env
  have other : ∀ {m : Nat} {ts : List Th} {a : Addr}, Δ[m]? = some (.ml ts) → σ[m]? = some (some (V.ref a)) → a ≠ l := fun {m ts a} h1 h2 z => by
    obtain ⟨o, e1, a', xs, e2, mm, q, _⟩ := hA.env.get h1
    rw [h2] at e1
    have e3 := Option.some.inj e1
    rw [← e3] at e2
    have e4 : a = a' := V.ref.inj (Option.some.inj e2)
    exact nS (by rw [← z, e4]; exact mm)
  have at_ : ∀ {m : Nat} {us : List Th}, (Δ.set i (.ml ts))[m]? = some (.ml us) → m = i ∨ (m ≠ i ∧ Δ[m]? = some (.ml us)) := fun {m us} h => by
    by_cases q : m = i
    · exact Or.inl q
    · rw [List.getElem?_set_ne (Ne.symm q)] at h
      exact Or.inr ⟨q, h⟩
  have si : ∀ {a : Addr}, (σ.set i (some (V.ref l)))[i]? = some (some (V.ref a)) → a = l := fun {a} h => by
    rw [List.getElem?_set_self'] at h
    cases z : σ[i]? with
    | none => rw [z] at h; simp at h
    | some w =>
      rw [z] at h
      have h' : V.ref l = V.ref a := by simpa using h
      exact (V.ref.inj h').symm
  refine ⟨fun a h => List.mem_cons_of_mem _ (hA.sub a h), hA.msub, fun a h => ?_, hA.ex.trans ex1, fun a h => ?_, SlsR.set (s := .ml ts) ⟨l, xs, rfl, List.mem_cons_self, h1, hr⟩ env1, fun m j ts us a h1 h2 h3 h4 => ?_, fun m ts a h1 h3 => ?_⟩
  · rcases List.mem_cons.mp h with z | z
    · subst z
      rcases own0 with z | z
      · exact Or.inl (hA.msub _ z)
      · exact Or.inr z
    · exact hA.new a z
  · rcases List.mem_cons.mp h with z | z
    · subst z
      rw [h1]
      exact fun z => nomatch z
    · exact (hA.dom.up ex1) a z
  · rcases at_ h1 with z1 | ⟨z1, g1⟩ <;> rcases at_ h2 with z2 | ⟨z2, g2⟩
    · rw [z1, z2]
    · subst z1
      have e1 := si h3
      rw [List.getElem?_set_ne (Ne.symm z2)] at h4
      exact absurd e1 (other g2 h4)
    · subst z2
      have e1 := si h4
      rw [List.getElem?_set_ne (Ne.symm z1)] at h3
      exact absurd e1 (other g1 h3)
    · rw [List.getElem?_set_ne (Ne.symm z1)] at h3
      rw [List.getElem?_set_ne (Ne.symm z2)] at h4
      exact hA.apart m j ts us a g1 g2 h3 h4
  · rcases at_ h1 with z1 | ⟨z1, g1⟩
    · subst z1
      rw [si h3]
      exact own0
    · rw [List.getElem?_set_ne (Ne.symm z1)] at h3
      exact hA.own m ts a g1 h3
section
variable {X : Cx} {Δ : List Sl} {e a b c : Expr} {es : List Expr} {A B C : Th → Prop} {pos : Pos} {P : Post} {rest body els : List Stmt} {st : Stmt} {W : WX}
/-- y = [elt for x in range(n)], y grows later -/
theorem sd_lcRM {x : Str} {px p1 p2 : Pos} {elt : Expr} {scope : Scope} (j : Nat) {Nn : Int → Prop} {L : Nat} (Bw : Nat → PyData → Prop) (hm : X.mg "range" = none) (he : PX X Δ e (isI X.K Nn)) (hn : ∀ n, Nn n → 0 ≤ n ∧ n ≤ L) (hL : L ≤ 40000)
    (ht : ∀ (i : Nat), i < L → ∀ (s : Shared) (H : Hp) (C : Addr) (cl : List (Str × Addr)) (fp : List Addr), PX (X.blk s H scope (compEnvC scope cl C X.env) fp) ((wipeΔ Δ [j]).set j (.th (dat X.K (.int (i : Int))))) elt (fun t => ∃ w, t = dat X.K w ∧ Bw i w))
    (hN : X.N.Nodup) (ok : BlkOk X.N X.env.scope scope [(x, j)])
    (hg : ∀ (s : Shared) (H : Hp) (C : Addr) (cl : List (Str × Addr)) (fp : List Addr), PG (X.blk s H scope (compEnvC scope cl C X.env) fp) (.Name x px) (gName j))
    (i0 : Nat) {y : Str} {py spos : Pos} {rest : List Stmt} (k0 : ∀ (es : List PyData) (n : Int), Nn n → (es.length : Int) = n → (∀ i w, es[i]? = some w → Bw i w) → SD X W rest P (Δ.set i0 (.ml (es.map (dat X.K)))))
    (hy : X.N[i0]? = some y := by rfl) (hyl : X.env.scope.names.lookup y = some .local := by rfl) (hsw : swapsWith (.ListComp elt [⟨.Name x px, .Call (.Name "range" p1) [e] [] p2, [], 0⟩] scope pos) (some (.Name y py)) spos.line X.env = pure true := by exact sw_true rfl rfl rfl (by decide +kernel))
    (hc : X.calm = true := by rfl) (hgl : Gl X "range" := by rfl) (hse : starEach [e] X.env = (false, eval e X.env) :: starEach [] X.env := by rfl) (hs1 : starEach [e] X.env = [(false, eval e X.env)] := by rfl)
    (hs : ∀ x, foldedSetIterable (.Call (.Name "range" p1) [e] [] p2) X.env x = pure x := by intro _; rfl) :
    SD X W (.Assign [.Name y py] (.ListComp elt [⟨.Name x px, .Call (.Name "range" p1) [e] [] p2, [], 0⟩] scope pos) spos :: rest) P Δ := by
  refine sd_cons ?_
  obtain ⟨t, pa, f⟩ := pl_consA (C := fun ts => ∃ i, ts = [dat X.K (.int i)] ∧ Nn i) he pl_nil (fun t ts ⟨i, h1, h2⟩ h3 => ⟨i, by rw [h1, h3], h2⟩) hse
  have q : ∀ (s : Shared) (H : Hp) (C : Addr) (cl : List (Str × Addr)) (fp : List Addr), PE (X.blk s H scope (compEnvC scope cl C X.env) fp) elt (teU X scope elt) := fun s H C cl fp => ⟨fun pins s' σ H' Q I h => by
    obtain ⟨t, pt, ht⟩ := h s H C cl fp
    exact pt.run pins s' σ H' Q I ht⟩
  refine ⟨_, ps_setLc (own := [(x, j)]) (g := gName j) (tt := tYes) hc hN hy hyl hsw (pi_range1 hgl hm pa hs1) ok hg (fun _ _ _ _ _ => pts_nil) q hs, fun S0 M0 H0 σ H S hA D0 le xw => ?_⟩
  refine f S0 M0 H0 σ H S hA _ fun ths vs H1 hth e1 r => ?_
  obtain ⟨n, rfl, nn⟩ := hth
  obtain ⟨v, rfl, r0⟩ := all1 r
  have := dp_int r0
  subst this
  have hb := hn n nn
  have hA1 := hA.up e1
  refine ⟨n, rfl, by omega, by omega, fun D hD => lc_range (lo := 0) (n := n.toNat) (g := gName j) (tt := tYes) (te := teU X scope elt) (vs := [j]) (LcP X.K Bw S H1 D) ⟨Ex.new hD, [], [], upd_same, .nil, rfl, fun j w h => by simp at h⟩ (fun i H' hi p => ?_) fun H' p => ?_⟩
  · have e0 : (0 : Int) + (i : Int) = (i : Int) := Int.zero_add _
    rw [e0]
    exact ⟨wipe_setv, lc_turn hA1 hD (by omega) (Dp.int _) p (ht i (by omega))⟩
  · obtain ⟨e2, acc, es, h1, h2, h3, h4⟩ := p
    exact le.nx _ _ ⟨_, D :: S, k0 es n nn (by omega) h4, hA1.newMl hD e2 h1 (dpa_all h2) i0⟩
/-- list(x), x a list that grows -/
theorem pd_listM (i : Nat) {x : Str} {p p' : Pos} {ds : List PyData} (h : Δ[i]? = some (.ml (ds.map (dat X.K)))) (hm : X.mg "list" = none) (hN : X.N[i]? = some x := by rfl) (hv : Vis X.env.scope x := by first | exact Or.inl rfl | exact Or.inr (Or.inl rfl) | exact Or.inr (Or.inr rfl)) (hd : (x == ("__debug__" : Str)) = false := by decide)
    (hcd : (x == ("__classdict__" : Str)) = false := by decide) (hg : Gl X "list" := by rfl) (na : starEach [.Name x p'] X.env = (false, eval (.Name x p') X.env) :: starEach [] X.env := by rfl) (hpl : (backTo pos (starEach [] X.env)).any (·.1) = false := by rfl) :
    PD X Δ (.Call (.Name "list" p) [.Name x p'] [] pos) (dat X.K (.list ds)) := by
  refine ⟨_, pe_callTy call_list_of hg hm (by decide +kernel) (pa_cons (pe_var hN hv hd hcd) pa_nil na), fun S0 M0 H0 σ H S hA Q q => ?_⟩
  obtain ⟨o, e1, a, xs, e2, hmem, hH, hx⟩ := hA.env.get h
  subst e2
  refine ⟨.ref a, e1, a, xs, rfl, Or.inl (SqL.of hH), fun l hl => q _ _ _ rfl (Ex.new hl) (Dp.lst (SqL.of (by rw [hide_out (hA.dom.new hl)]; exact upd_same)) (dpa_up (hide_ex (Ex.new hl)) (all_dpa hx)))⟩
/-- list + list -/
def rCatL (K : PySem.W.Frag) : R2 := fun x y H Q => ∃ l b xs zs, x = .ref l ∧ y = .ref b ∧ SqL K H l xs ∧ SqL K H b zs ∧ xs.length + zs.length ≤ sizeLine ∧ ∀ p, H p = none → Q (.ref p) (upd H p (.lst (xs ++ zs)))
theorem op_catL : OpR X (binaryOp .Add) (rCatL X.K) := by
  intro pins s σ H x y v u Q I rx ry h
  obtain ⟨l, b, xs, zs, rfl, rfl, hH, hB, hz, q⟩ := h
  cases rx
  cases ry
  obtain ⟨vs, r, p1, _⟩ := I.list hH
  obtain ⟨ws, r2, p2, _⟩ := I.list hB
  have e1 := r.length
  have e2 := r2.length
  obtain ⟨⟨cls, dd, data, sl⟩, ho, hc, n, hd⟩ := p1.isList
  obtain ⟨⟨cls2, dd2, data2, sl2⟩, ho2, hc2, n2, hd2⟩ := p2.isList
  simp only at hc hd hc2 hd2
  subst hc hd hc2 hd2
  refine concat_meets ⟨_, ho, rfl⟩ ⟨_, ho2, rfl⟩ noFill_list_add seq_list_add PySem.F.slot_list_add PySem.F.entry_list_add (PySem.F.args_list_add_2 _ _) (list_addW l b vs.toArray ws.toArray n n2 dd dd2 sl sl2 (by simp only [List.size_toArray]; omega)) ⟨ho, ho2, ?_⟩
  have ea : vs.toArray ++ ws.toArray = (vs ++ ws).toArray := by simp
  rw [ea]
  exact ⟨.ref _, _, I.lnew (t' := s.toks) (r.append r2) (by rw [List.length_append]; omega), rfl, q _ I.fresh⟩
theorem pd_catL {ds es : List PyData} (ha : PD X Δ a (dat X.K (.list ds))) (hb : PD X Δ b (dat X.K (.list es))) (hz : ds.length + es.length ≤ 100000) : PD X Δ (.BinOp a .Add b pos) (dat X.K (.list (ds ++ es))) :=
  px_two (fun _ _ pa pb => pe_op op_catL pa pb) ha hb fun S H x' y' v w dom hx hy rx ry Q q => by
    subst hx; subst hy
    obtain ⟨l, xs, rfl, hq, hd⟩ := dp_lst rx
    obtain ⟨b, zs, rfl, hq2, hd2⟩ := dp_lst ry
    refine ⟨l, b, xs, zs, rfl, rfl, ex_l hide_le hq, ex_l hide_le hq2, by rw [dpa_len hd, dpa_len hd2]; exact Nat.le_trans hz (by decide), fun p hp => q _ _ _ rfl (Ex.new hp) (Dp.lst (SqL.of ?_) (dpa_up (hide_ex (Ex.new hp)) (dpa_app hd hd2)))⟩
    rw [hide_out (dom.new hp)]
    exact upd_same
end
end DL
set_option Elab.async false
set_option linter.all false
set_option maxRecDepth 100000
/-! Ratios in order; rows of ratios as data. -/
namespace DL
open PySem PySem.Spec PyProof.Rows L2
theorem shaped_S {l : List Nat} (h : ∀ c ∈ l, c < 128) : SeqAt.shaped (.str (SX.S l)) = true := by
  simp only [SeqAt.shaped, PyData.canLay0, PyData.depth, PyData.strOk, Bool.and_eq_true]
  refine ⟨?_, rfl⟩
  simp only [SX.S, List.all_toArray, List.all_eq_true, decide_eq_true_eq]
  exact fun c hc => Nat.lt_trans (h c hc) (by decide)
theorem txt_ok (i : Int) : ∃ l, txtI i = SX.S l ∧ ∀ c ∈ l, c < 128 := by
  have pos : ∀ n : Nat, txtI (n : Int) = SX.S (TL.numL n) ∧ ∀ c ∈ TL.numL n, c < 128 := fun n => ⟨SX.num_S n, fun c hc => by have := TL.numL_digits n c hc; omega⟩
  by_cases h : i < 0
  · have e : txtI i = SX.S [45] ++ txtI ((i.natAbs : Nat) : Int) := text_neg h
    rw [e, (pos _).1, SX.S_cat]
    refine ⟨_, rfl, fun c hc => ?_⟩
    rcases List.mem_append.mp hc with z | z
    · rw [List.mem_singleton.mp z]; decide
    · exact (pos _).2 c z
  · have e : i = ((i.natAbs : Nat) : Int) := by omega
    rw [e]
    exact ⟨_, (pos _).1, (pos _).2⟩
theorem shaped_txt (i : Int) : SeqAt.shaped (.str (txtI i)) = true := by
  obtain ⟨l, e, h⟩ := txt_ok i
  rw [e]
  exact shaped_S h
theorem shaped_rat (q : Q) : SeqAt.shaped (.str (ratTxt q)) = true := by
  unfold ratTxt
  obtain ⟨l, e, h⟩ := txt_ok q.1
  obtain ⟨l2, e2, h2⟩ := txt_ok q.2
  split
  · rw [e]; exact shaped_S h
  · rw [e, e2, SX.S_cat, SX.S_cat]
    refine shaped_S fun c hc => ?_
    rcases List.mem_append.mp hc with z | z
    · rcases List.mem_append.mp z with z | z
      · exact h c z
      · rw [List.mem_singleton.mp z]; decide
    · exact h2 c z
theorem shaped_rD (q : Q) : SeqAt.shaped (rD q) = true := by simp [SeqAt.shaped, rD, PyData.canLay0, PyData.canLayAll0, PyData.depth, PyData.depthAll]
theorem u65 {k : Nat} {A : Around} (h : Room k A) : A.units + 65 < cLine := by have := h.un; omega
theorem lf_rD (q : Q) : lf (rD q) = true := by simp [lf, lfs, rD]
theorem low_one' (m : Int) : Low ((m, 1) : Q) := ⟨Nat.gcd_one_right _, show (0 : Int) < 1 by decide⟩
theorem lowQ_one (m : Int) : lowQ m 1 = (m, 1) := low_id (low_one' m)
def GQ (q : Q) : Prop := Sm 900 q ∧ Low q
theorem rats_of {Pq : Q → Prop} : ∀ es : List PyData, (∀ (i : Nat) w, es[i]? = some w → ∃ q, w = rD q ∧ Pq q) → ∃ rs : List Q, es = rs.map rD ∧ ∀ q ∈ rs, Pq q
  | [], _ => ⟨[], rfl, fun _ h => by cases h⟩
  | e :: es, h => by
    obtain ⟨q, rfl, hq⟩ := h 0 e rfl
    obtain ⟨rs, rfl, hr⟩ := rats_of es fun i w hw => h (i + 1) w (by simpa using hw)
    refine ⟨q :: rs, rfl, fun z hz => ?_⟩
    rcases List.mem_cons.mp hz with e | e
    · rw [e]; exact hq
    · exact hr z e
theorem ints_of {Pi : Int → Prop} : ∀ es : List PyData, (∀ (i : Nat) w, es[i]? = some w → ∃ m : Int, w = .int m ∧ Pi m) → ∃ l : List Int, es = l.map .int ∧ ∀ m ∈ l, Pi m
  | [], _ => ⟨[], rfl, fun _ h => by cases h⟩
  | e :: es, h => by
    obtain ⟨q, rfl, hq⟩ := h 0 e rfl
    obtain ⟨rs, rfl, hr⟩ := ints_of es fun i w hw => h (i + 1) w (by simpa using hw)
    refine ⟨q :: rs, rfl, fun z hz => ?_⟩
    rcases List.mem_cons.mp hz with e | e
    · rw [e]; exact hq
    · exact hr z e
theorem six {l : List Int} (h : l.length = 6) : ∃ a b c d e f, l = [a, b, c, d, e, f] := by
  match l, h with
  | [a, b, c, d, e, f], _ => exact ⟨a, b, c, d, e, f, rfl⟩
theorem pick_Q {qs : List Q} {i : Int} (h0 : 0 ≤ i) (h1 : i < ((qs.map rD).length : Int)) : ∃ q ∈ qs, ixD (.list (qs.map rD)) i = some (rD q) := by
  obtain ⟨j, rfl⟩ : ∃ j : Nat, i = (j : Int) := ⟨i.toNat, by omega⟩
  rw [List.length_map] at h1
  have hj : j < qs.length := by omega
  exact ⟨qs[j], List.getElem_mem hj, atI_nat (by rw [List.getElem?_map, List.getElem?_eq_getElem hj]; rfl)⟩
theorem lay_qs : ∀ ps : List Q, PyData.canLayAll0 (ps.map rD) = true
  | [] => by simp [PyData.canLayAll0]
  | p :: ps => by simp [PyData.canLayAll0, PyData.canLay0, rD, lay_qs ps]
theorem depth_qs : ∀ ps : List Q, PyData.depthAll (ps.map rD) ≤ 3
  | [] => by simp [PyData.depthAll]
  | p :: ps => by
    have h := depth_qs ps
    have h2 : (rD p).depth ≤ 3 := by simp [rD, PyData.depth, PyData.depthAll]
    simp only [List.map_cons, PyData.depthAll]
    omega
theorem shaped_qs (ps : List Q) : SeqAt.shaped (.list (ps.map rD)) = true := by
  have h1 := depth_qs ps
  have h2 : PyData.depth (.list (ps.map rD)) ≤ 64 := by
    simp only [PyData.depth]
    omega
  show (PyData.canLay0 (.list (ps.map rD)) && decide (PyData.depth (.list (ps.map rD)) ≤ 64)) = true
  rw [Bool.and_eq_true]
  exact ⟨by simp only [PyData.canLay0]; exact lay_qs ps, decide_eq_true h2⟩
theorem eqv_qs : ∀ ps : List Q, PyData.eqvAll (ps.map rD) (ps.map rD) = true
  | [] => by simp [PyData.eqvAll]
  | p :: ps => by simp [PyData.eqvAll, eqv_rD, eqv_qs ps]
theorem eqv_qL (ps : List Q) : PyData.eqv (.list (ps.map rD)) (.list (ps.map rD)) = true := by
  simp only [PyData.eqv]
  exact eqv_qs ps
theorem any_rD {ps : List Q} {q : Q} (h : q ∈ ps) : ((ps.map rD).any fun z => PyData.eqv z (rD q)) = true := by
  rw [List.any_eq_true]
  exact ⟨rD q, List.mem_map_of_mem h, eqv_rD q⟩
/-! order -/
def leQ (a b : Q) : Prop := a.1 * b.2 ≤ b.1 * a.2
theorem leQ_refl (a : Q) : leQ a a := Int.le_refl _
theorem leQ_trans {a b c : Q} (hb : 0 < b.2) (ha : 0 < a.2) (hc : 0 < c.2) (h : leQ a b) (g : leQ b c) : leQ a c := by
  unfold leQ at *
  have h1 : a.1 * b.2 * c.2 ≤ b.1 * a.2 * c.2 := Int.mul_le_mul_of_nonneg_right h (by omega)
  have h2 : b.1 * c.2 * a.2 ≤ c.1 * b.2 * a.2 := Int.mul_le_mul_of_nonneg_right g (by omega)
  have e1 : a.1 * b.2 * c.2 = (a.1 * c.2) * b.2 := by grind
  have e2 : c.1 * b.2 * a.2 = (c.1 * a.2) * b.2 := by grind
  have e3 : b.1 * a.2 * c.2 = b.1 * c.2 * a.2 := by grind
  exact Int.le_of_mul_le_mul_right (by rw [← e1, ← e2]; omega) hb
theorem cmp_lt {a b : Q} : cmpQ a b < 0 ↔ ¬ leQ b a := by
  unfold cmpQ signI leQ
  constructor
  · intro h
    split at h
    · omega
    · split at h <;> omega
  · intro h
    rw [if_neg (by omega), if_neg (by omega)]
    decide
theorem cmp_gt {a b : Q} : 0 < cmpQ a b ↔ ¬ leQ a b := by
  unfold cmpQ signI leQ
  constructor
  · intro h
    split at h
    · omega
    · split at h <;> omega
  · intro h
    rw [if_neg (by omega), if_pos (by omega)]
    decide
theorem leQ_total (a b : Q) : leQ a b ∨ leQ b a := by unfold leQ; omega
theorem least_ok : ∀ (l : List Q) (a : Q), (∀ z ∈ a :: l, 0 < z.2) → l.foldl lesser a ∈ a :: l ∧ ∀ z ∈ a :: l, leQ (l.foldl lesser a) z
  | [], a, _ => ⟨List.mem_cons_self .., fun z hz => by rw [List.mem_singleton.mp hz]; exact leQ_refl a⟩
  | x :: l, a, h => by
    have hm : lesser a x = a ∨ lesser a x = x := by unfold lesser; split; exact Or.inr rfl; exact Or.inl rfl
    have hp : ∀ z ∈ lesser a x :: l, 0 < z.2 := fun z hz => by
      rcases List.mem_cons.mp hz with e | e
      · rw [e]
        rcases hm with e | e <;> rw [e]
        · exact h a (List.mem_cons_self ..)
        · exact h x (List.mem_cons_of_mem _ (List.mem_cons_self ..))
      · exact h z (List.mem_cons_of_mem _ (List.mem_cons_of_mem _ e))
    obtain ⟨i1, i2⟩ := least_ok l (lesser a x) hp
    have la : leQ (lesser a x) a := by
      unfold lesser
      split
      · rename_i q
        rcases leQ_total x a with g | g
        · exact g
        · exact absurd g (cmp_lt.mp q)
      · exact leQ_refl a
    have lx : leQ (lesser a x) x := by
      unfold lesser
      split
      · exact leQ_refl x
      · rename_i q
        rcases leQ_total a x with g | g
        · exact g
        · exact Classical.byContradiction fun g2 => q (cmp_lt.mpr fun g3 => g2 g3)
    have hr : 0 < (l.foldl lesser (lesser a x)).2 := hp _ i1
    refine ⟨?_, fun z hz => ?_⟩
    · show l.foldl lesser (lesser a x) ∈ _
      rcases List.mem_cons.mp i1 with e | e
      · rw [e]
        rcases hm with e | e <;> rw [e]
        · exact List.mem_cons_self ..
        · exact List.mem_cons_of_mem _ (List.mem_cons_self ..)
      · exact List.mem_cons_of_mem _ (List.mem_cons_of_mem _ e)
    · show leQ (l.foldl lesser (lesser a x)) z
      have i0 := i2 _ (List.mem_cons_self ..)
      have hl := hp _ (List.mem_cons_self ..)
      rcases List.mem_cons.mp hz with e | e
      · rw [e]; exact leQ_trans hl hr (h a (List.mem_cons_self ..)) i0 la
      · rcases List.mem_cons.mp e with e | e
        · rw [e]; exact leQ_trans hl hr (h x (List.mem_cons_of_mem _ (List.mem_cons_self ..))) i0 lx
        · exact i2 z (List.mem_cons_of_mem _ e)
theorem great_ok : ∀ (l : List Q) (a : Q), (∀ z ∈ a :: l, 0 < z.2) → l.foldl greater a ∈ a :: l ∧ ∀ z ∈ a :: l, leQ z (l.foldl greater a)
  | [], a, _ => ⟨List.mem_cons_self .., fun z hz => by rw [List.mem_singleton.mp hz]; exact leQ_refl a⟩
  | x :: l, a, h => by
    have hm : greater a x = a ∨ greater a x = x := by unfold greater; split; exact Or.inr rfl; exact Or.inl rfl
    have hp : ∀ z ∈ greater a x :: l, 0 < z.2 := fun z hz => by
      rcases List.mem_cons.mp hz with e | e
      · rw [e]
        rcases hm with e | e <;> rw [e]
        · exact h a (List.mem_cons_self ..)
        · exact h x (List.mem_cons_of_mem _ (List.mem_cons_self ..))
      · exact h z (List.mem_cons_of_mem _ (List.mem_cons_of_mem _ e))
    obtain ⟨i1, i2⟩ := great_ok l (greater a x) hp
    have la : leQ a (greater a x) := by
      unfold greater
      split
      · rename_i q
        rcases leQ_total a x with g | g
        · exact g
        · exact absurd g (cmp_gt.mp q)
      · exact leQ_refl a
    have lx : leQ x (greater a x) := by
      unfold greater
      split
      · exact leQ_refl x
      · rename_i q
        exact Classical.byContradiction fun g2 => q (cmp_gt.mpr g2)
    have hr : 0 < (l.foldl greater (greater a x)).2 := hp _ i1
    refine ⟨?_, fun z hz => ?_⟩
    · show l.foldl greater (greater a x) ∈ _
      rcases List.mem_cons.mp i1 with e | e
      · rw [e]
        rcases hm with e | e <;> rw [e]
        · exact List.mem_cons_self ..
        · exact List.mem_cons_of_mem _ (List.mem_cons_self ..)
      · exact List.mem_cons_of_mem _ (List.mem_cons_of_mem _ e)
    · show leQ z (l.foldl greater (greater a x))
      have i0 := i2 _ (List.mem_cons_self ..)
      have hl := hp _ (List.mem_cons_self ..)
      rcases List.mem_cons.mp hz with e | e
      · rw [e]; exact leQ_trans hl (h a (List.mem_cons_self ..)) hr la i0
      · rcases List.mem_cons.mp e with e | e
        · rw [e]; exact leQ_trans hl (h x (List.mem_cons_of_mem _ (List.mem_cons_self ..))) hr lx i0
        · exact i2 z (List.mem_cons_of_mem _ e)
theorem mem_dup {a : Q} {l : List Q} {z : Q} (h : z ∈ a :: a :: l) : z ∈ a :: l := by
  rcases List.mem_cons.mp h with e | e
  · rw [e]; exact List.mem_cons_self ..
  · exact e
theorem cmp_anti (a b : Q) : cmpQ b a = -cmpQ a b := by
  unfold cmpQ signI
  by_cases h : a.1 * b.2 - b.1 * a.2 = 0
  · rw [if_pos h, if_pos (by omega)]; rfl
  · rw [if_neg h, if_neg (by omega)]
    by_cases h2 : 0 < a.1 * b.2 - b.1 * a.2
    · rw [if_pos h2, if_neg (by omega)]
    · rw [if_neg h2, if_pos (by omega)]; rfl
theorem cmp_self (a : Q) : cmpQ a a = 0 := by unfold cmpQ signI; rw [if_pos (by omega)]
theorem cmp_zero (a : Q) : cmpQ a (0, 1) = signI a.1 := by unfold cmpQ; congr 1; show a.1 * 1 - 0 * a.2 = a.1; omega
end DL
set_option Elab.async false
set_option linter.all false
set_option maxRecDepth 100000
/-! Rows of things; several targets; what raises inside other expressions. -/
namespace DL
open PySem PySem.Spec PyProof.Rows L2
theorem Th.eq {t u : Th} (h : ∀ H v, t.R H v ↔ u.R H v) : t = u := by
  obtain ⟨R, up⟩ := t
  obtain ⟨R', up'⟩ := u
  have e : R = R' := funext fun H => funext fun v => propext (h H v)
  subst e
  rfl
def tupT (K : PySem.W.Frag) (ts : List Th) : Th := ⟨fun H v => ∃ a xs, v = .ref a ∧ SqT K H a xs ∧ All H ts xs, fun _ _ _ e ⟨a, xs, h1, h2, h3⟩ => ⟨a, xs, h1, ex_t e h2, h3.up e⟩⟩
def lstT (K : PySem.W.Frag) (ts : List Th) : Th := ⟨fun H v => ∃ a xs, v = .ref a ∧ SqL K H a xs ∧ All H ts xs, fun _ _ _ e ⟨a, xs, h1, h2, h3⟩ => ⟨a, xs, h1, ex_l e h2, h3.up e⟩⟩
theorem dat_tup {K : PySem.W.Frag} {ds : List PyData} : dat K (.tuple ds) = tupT K (ds.map (dat K)) := Th.eq fun H v =>
  ⟨fun h => let ⟨a, xs, h1, h2, h3⟩ := dp_tup h; ⟨a, xs, h1, h2, dpa_all h3⟩, fun ⟨a, xs, h1, h2, h3⟩ => by subst h1; exact Dp.tup h2 (all_dpa h3)⟩
theorem dat_lst {K : PySem.W.Frag} {ds : List PyData} : dat K (.list ds) = lstT K (ds.map (dat K)) := Th.eq fun H v =>
  ⟨fun h => let ⟨a, xs, h1, h2, h3⟩ := dp_lst h; ⟨a, xs, h1, h2, dpa_all h3⟩, fun ⟨a, xs, h1, h2, h3⟩ => by subst h1; exact Dp.lst h2 (all_dpa h3)⟩
/-! several names as a target -/
def gNames : List Nat → TGs
  | [] => gNil
  | i :: is => gCons (gName i) (gNames is)
def setN (Δ : List Sl) : List Nat → List Th → List Sl
  | i :: is, t :: ts => setN (Δ.set i (.th t)) is ts
  | _, _ => Δ
theorem At.setN0 {S0 M0 S : List Addr} {H0 H : Hp} : ∀ {is : List Nat} {ts : List Th} {vs : List V} {Δ : List Sl} {σ : L2.St}, At S0 M0 H0 Δ σ H S → All (hide S H) ts vs → ts.length = is.length → ∀ {N : L2.St → Hp → Prop}, (∀ σ', At S0 M0 H0 (setN Δ is ts) σ' H S → N σ' H) → gNames is vs σ H N
  | [], [], [], _, σ, hA, _, _, N, k => ⟨rfl, k σ hA⟩
  | i :: is, t :: ts, v :: vs, _, σ, hA, hr, hl, N, k => ⟨v, vs, rfl, At.setN0 (is := is) (hA.set (i := i) (t := t) hr.1) hr.2 (by simpa using hl) k⟩
  | [], _ :: _, _, _, _, _, _, hl, _, _ => by simp at hl
  | _ :: _, [], _, _, _, _, _, hl, _, _ => by simp at hl
  | [], [], _ :: _, _, _, _, h, _, _, _ => h.elim
  | _ :: _, _ :: _, [], _, _, _, h, _, _, _ => h.elim
section
variable {X : Cx} {Δ : List Sl} {e a b c o : Expr} {es : List Expr} {A B C : Th → Prop} {pos : Pos} {P : Post} {rest body els : List Stmt} {st : Stmt} {W : WX}
/-- x, y, .. = e, e a tuple -/
theorem sd_asgN (is : List Nat) {tg : List Expr} {kk : Nat} {pt : Pos} {ts : List Th} (he : PD X Δ e (tupT X.K ts)) (hl : ts.length = is.length) (hpg : PGs X tg (gNames is)) (k : SD X W rest P (setN Δ is ts)) (hc : X.calm = true := by rfl)
    (hn : (assignEach tg X.env).length = is.length := by rfl) (hst : (assignEach tg X.env).findIdx? (·.1) = none := by rfl)
    (hs : swapsWithSole [.Tuple tg kk pt] e pos.line X.env = pure false := by rfl) (hw : swappedStores [.Tuple tg kk pt] e X.env = pure none := by rfl) :
    SD X W (.Assign [.Tuple tg kk pt] e pos :: rest) P Δ := by
  obtain ⟨t, pe, f⟩ := he
  refine sd_cons ⟨_, ps_asg pe (pg_tup hc hpg hn hst) hs hw, fun S0 M0 H0 σ H S hA D le xw => f S0 M0 H0 σ H S hA _ fun th v H2 ha e2 r => ?_⟩
  subst ha
  obtain ⟨p, xs, rfl, hq, hd⟩ := r
  exact ⟨p, xs, rfl, ex_t hide_le hq, by rw [← hd.len, hl], (hA.up e2).setN0 hd hl fun σ' h => le.nx _ _ ⟨_, S, k, h⟩⟩
/-- for x in e, e a row of things -/
theorem sd_forT {x : Str} {px : Pos} (j : Nat) {t : Th} {ts : List Th} (I : Nat → List Sl → Prop) (he : PD X Δ e t) (hd0 : t = tupT X.K ts ∨ t = lstT X.K ts) (h0 : I 0 Δ)
    (step : ∀ (i : Nat) z Δ', ts[i]? = some z → I i Δ' → SD X W body { P with nx := I (i + 1), ct := I (i + 1), bk := fun Δ2 => SD X W rest P Δ2, top := false } (Δ'.set j (.th z)))
    (hd : ∀ Δ', I ts.length Δ' → SD X W rest P Δ') (hN : X.N.Nodup) (hc : X.calm = true := by rfl) (hi : X.N[j]? = some x := by rfl) (hx : Loc X.env.scope x := by first | exact Or.inl rfl | exact Or.inr rfl)
    (hf : X.fn x = true ∨ X.env.scope.names.lookup x = some .local := by first | exact .inl rfl | exact .inr rfl)
    (hp : PassesOwn (model X.prog X.w) X.A X.env X.xe := by exact PassesOwn.never) (hfs : ∀ x, foldedSetIterable e X.env x = pure x := by intro _; rfl) : SD X W (.For (.Name x px) e body [] pos :: rest) P Δ := by
  refine sd_cons ?_
  obtain ⟨t, pe, f⟩ := he
  have qb : PSs X body (fun D σ H => ∃ t, PSs X body t ∧ t D σ H) := ⟨fun pins s σ H D J ⟨t, p, h⟩ => p.run pins s σ H D J h⟩
  have turn : ∀ {S0 M0 S : List Addr} {H0 H H' : Hp} {σ σ' : L2.St} {D : Ends} {xs : List V} {i : Nat} {v : V} {Δ' : List Sl} {S' : List Addr}, At S0 M0 H0 Δ σ H S → Le (ends S0 M0 H0 { P with nx := fun Δ' => SD X W rest P Δ' }) D → XW S0 M0 H0 P W → All (hide S H) ts xs → xs[i]? = some v →
      I i Δ' → At S (mls Δ σ) H Δ' σ' H' S' → (fun D σ H => ∃ t, PSs X body t ∧ t D σ H) { D with nx := fun σ2 H2 => ∃ Δ2 S2, I (i + 1) Δ2 ∧ At S (mls Δ σ) H Δ2 σ2 H2 S2, ct := fun σ2 H2 => ∃ Δ2 S2, I (i + 1) Δ2 ∧ At S (mls Δ σ) H Δ2 σ2 H2 S2, bk := D.nx } (σ'.set j (some v)) H' := by
    intro S0 M0 S H0 H H' σ σ' D xs i v Δ' S' hA le xw hx' hv i' hA'
    obtain ⟨z, hz, r⟩ := hx'.get hv
    obtain ⟨u, pu, fu⟩ := step i z Δ' hz i'
    have le' := ends_lift hA hA.mown le
    exact ⟨u, pu, fu S (mls Δ σ) H _ H' S' (hA'.set (t := z) (z.up _ _ _ hA'.hid r)) _ ⟨fun _ _ q => q, le'.rt, le'.nx, fun _ _ q => q⟩ (xw_lift hA hA.mown xw (fun _ _ _ z => z) rfl)⟩
  have fin : ∀ {S0 M0 S : List Addr} {H0 H H' : Hp} {σ σ' : L2.St} {D : Ends}, At S0 M0 H0 Δ σ H S → Le (ends S0 M0 H0 { P with nx := fun Δ' => SD X W rest P Δ' }) D → (∃ Δ' S', I ts.length Δ' ∧ At S (mls Δ σ) H Δ' σ' H' S') → D.nx σ' H' :=
    fun hA le ⟨Δ', S', i', hA'⟩ => le.nx _ _ ⟨Δ', S', hd Δ' i', hA.lift hA.mown hA'⟩
  rcases hd0 with rfl | rfl
  · refine ⟨_, ps_for hp hc (pi_tup pe) (pg_name hN hi hx hf) qb hfs, fun S0 M0 H0 σ H S hA D le xw => ?_⟩
    refine f S0 M0 H0 σ H S hA _ fun th v H1 ht e1 r => ?_
    subst ht
    obtain ⟨p, xs, rfl, hq, hxs⟩ := r
    have hA1 := hA.up e1
    refine ⟨p, rfl, ⟨xs, ex_t hide_le hq⟩, for_tup (K := X.K) (a := p) (xs := xs) (g := gName j) (tb := fun D σ H => ∃ t, PSs X body t ∧ t D σ H) (fun i σ' H' => ∃ Δ' S', I i Δ' ∧ At S (mls Δ σ) H1 Δ' σ' H' S') ⟨Δ, S, h0, hA1.here⟩ (fun i σ' H' _ ⟨Δ', S', _, hA'⟩ => ex_t hide_le (ex_t hA'.hid hq)) (fun i v σ' H' hv ⟨Δ', S', i', hA'⟩ => turn hA1 le xw hxs hv i' hA') (fun σ' H' w => fin hA1 le (by rw [hxs.len]; exact w))⟩
  · refine ⟨_, ps_for hp hc (pi_list pe) (pg_name hN hi hx hf) qb hfs, fun S0 M0 H0 σ H S hA D le xw => ?_⟩
    refine f S0 M0 H0 σ H S hA _ fun th v H1 ht e1 r => ?_
    subst ht
    obtain ⟨p, xs, rfl, hq, hxs⟩ := r
    have hA1 := hA.up e1
    refine ⟨p, rfl, ⟨xs, ex_l hide_le hq⟩, for_list (K := X.K) (a := p) (xs := xs) (g := gName j) (tb := fun D σ H => ∃ t, PSs X body t ∧ t D σ H) (fun i σ' H' => ∃ Δ' S', I i Δ' ∧ At S (mls Δ σ) H1 Δ' σ' H' S') ⟨Δ, S, h0, hA1.here⟩ (fun i σ' H' _ ⟨Δ', S', _, hA'⟩ => ex_l hide_le (ex_l hA'.hid hq)) (fun i v σ' H' hv ⟨Δ', S', i', hA'⟩ => turn hA1 le xw hxs hv i' hA') (fun σ' H' w => fin hA1 le (by rw [hxs.len]; exact w))⟩
/-- for x, y, .. in e, e a row of tuples of things -/
theorem sd_forN (is : List Nat) {tg : List Expr} {kk : Nat} {pt : Pos} {t : Th} {tss : List (List Th)} (I : Nat → List Sl → Prop) (he : PD X Δ e t) (hd0 : t = tupT X.K (tss.map (tupT X.K)) ∨ t = lstT X.K (tss.map (tupT X.K))) (hl : ∀ ts ∈ tss, ts.length = is.length) (h0 : I 0 Δ)
    (step : ∀ (i : Nat) ts Δ', tss[i]? = some ts → I i Δ' → SD X W body { P with nx := I (i + 1), ct := I (i + 1), bk := fun Δ2 => SD X W rest P Δ2, top := false } (setN Δ' is ts))
    (hd : ∀ Δ', I tss.length Δ' → SD X W rest P Δ') (hpg : PGs X tg (gNames is)) (hc : X.calm = true := by rfl)
    (hn : (assignEach tg X.env).length = is.length := by rfl) (hst : (assignEach tg X.env).findIdx? (·.1) = none := by rfl)
    (hp : PassesOwn (model X.prog X.w) X.A X.env X.xe := by exact PassesOwn.never) (hfs : ∀ x, foldedSetIterable e X.env x = pure x := by intro _; rfl) : SD X W (.For (.Tuple tg kk pt) e body [] pos :: rest) P Δ := by
  refine sd_cons ?_
  obtain ⟨t, pe, f⟩ := he
  have qb : PSs X body (fun D σ H => ∃ t, PSs X body t ∧ t D σ H) := ⟨fun pins s σ H D J ⟨t, p, h⟩ => p.run pins s σ H D J h⟩
  have turn : ∀ {S0 M0 S : List Addr} {H0 H H' : Hp} {σ σ' : L2.St} {D : Ends} {xs : List V} {i : Nat} {v : V} {Δ' : List Sl} {S' : List Addr}, At S0 M0 H0 Δ σ H S → Le (ends S0 M0 H0 { P with nx := fun Δ' => SD X W rest P Δ' }) D → XW S0 M0 H0 P W → All (hide S H) (tss.map (tupT X.K)) xs → xs[i]? = some v →
      I i Δ' → At S (mls Δ σ) H Δ' σ' H' S' → gTup X.K is.length (gNames is) v σ' H' (fun σ'' H'' => (fun D σ H => ∃ t, PSs X body t ∧ t D σ H) { D with nx := fun σ2 H2 => ∃ Δ2 S2, I (i + 1) Δ2 ∧ At S (mls Δ σ) H Δ2 σ2 H2 S2, ct := fun σ2 H2 => ∃ Δ2 S2, I (i + 1) Δ2 ∧ At S (mls Δ σ) H Δ2 σ2 H2 S2, bk := D.nx } σ'' H'') := by
    intro S0 M0 S H0 H H' σ σ' D xs i v Δ' S' hA le xw hx' hv i' hA'
    obtain ⟨z, hz, r⟩ := hx'.get hv
    rw [List.getElem?_map] at hz
    obtain ⟨ts, hts, rfl⟩ := Option.map_eq_some_iff.mp hz
    obtain ⟨u, pu, fu⟩ := step i ts Δ' hts i'
    have le' := ends_lift hA hA.mown le
    obtain ⟨p, ys, rfl, hq, hys⟩ := (tupT X.K ts).up _ _ _ hA'.hid r
    have hlen := hl ts (List.mem_of_getElem? hts)
    exact ⟨p, ys, rfl, ex_t hide_le hq, by rw [← hys.len, hlen], hA'.setN0 hys hlen fun σ'' hA'' => ⟨u, pu, fu S (mls Δ σ) H _ H' S' hA'' _ ⟨fun _ _ q => q, le'.rt, le'.nx, fun _ _ q => q⟩ (xw_lift hA hA.mown xw (fun _ _ _ z => z) rfl)⟩⟩
  have fin : ∀ {S0 M0 S : List Addr} {H0 H H' : Hp} {σ σ' : L2.St} {D : Ends}, At S0 M0 H0 Δ σ H S → Le (ends S0 M0 H0 { P with nx := fun Δ' => SD X W rest P Δ' }) D → (∃ Δ' S', I tss.length Δ' ∧ At S (mls Δ σ) H Δ' σ' H' S') → D.nx σ' H' :=
    fun hA le ⟨Δ', S', i', hA'⟩ => le.nx _ _ ⟨Δ', S', hd Δ' i', hA.lift hA.mown hA'⟩
  rcases hd0 with rfl | rfl
  · refine ⟨_, ps_for hp hc (pi_tup pe) (pg_tup hc hpg hn hst) qb hfs, fun S0 M0 H0 σ H S hA D le xw => ?_⟩
    refine f S0 M0 H0 σ H S hA _ fun th v H1 ht e1 r => ?_
    subst ht
    obtain ⟨p, xs, rfl, hq, hxs⟩ := r
    have hA1 := hA.up e1
    refine ⟨p, rfl, ⟨xs, ex_t hide_le hq⟩, for_tup (K := X.K) (a := p) (xs := xs) (g := gTup X.K is.length (gNames is)) (tb := fun D σ H => ∃ t, PSs X body t ∧ t D σ H) (fun i σ' H' => ∃ Δ' S', I i Δ' ∧ At S (mls Δ σ) H1 Δ' σ' H' S') ⟨Δ, S, h0, hA1.here⟩ (fun i σ' H' _ ⟨Δ', S', _, hA'⟩ => ex_t hide_le (ex_t hA'.hid hq)) (fun i v σ' H' hv ⟨Δ', S', i', hA'⟩ => turn hA1 le xw hxs hv i' hA') (fun σ' H' w => fin hA1 le (by have := hxs.len; rw [List.length_map] at this; rw [this]; exact w))⟩
  · refine ⟨_, ps_for hp hc (pi_list pe) (pg_tup hc hpg hn hst) qb hfs, fun S0 M0 H0 σ H S hA D le xw => ?_⟩
    refine f S0 M0 H0 σ H S hA _ fun th v H1 ht e1 r => ?_
    subst ht
    obtain ⟨p, xs, rfl, hq, hxs⟩ := r
    have hA1 := hA.up e1
    refine ⟨p, rfl, ⟨xs, ex_l hide_le hq⟩, for_list (K := X.K) (a := p) (xs := xs) (g := gTup X.K is.length (gNames is)) (tb := fun D σ H => ∃ t, PSs X body t ∧ t D σ H) (fun i σ' H' => ∃ Δ' S', I i Δ' ∧ At S (mls Δ σ) H1 Δ' σ' H' S') ⟨Δ, S, h0, hA1.here⟩ (fun i σ' H' _ ⟨Δ', S', _, hA'⟩ => ex_l hide_le (ex_l hA'.hid hq)) (fun i v σ' H' hv ⟨Δ', S', i', hA'⟩ => turn hA1 le xw hxs hv i' hA') (fun σ' H' w => fin hA1 le (by have := hxs.len; rw [List.length_map] at this; rw [this]; exact w))⟩
end
end DL
set_option Elab.async false
set_option linter.all false
set_option maxRecDepth 100000
/-! Walks over rows, enumerate, zip, ranges, by any target: loops and comprehensions. -/
namespace DL
open PySem PySem.Spec PyProof.Rows L2
/-- what is walked over: the things it gives, turn by turn -/
def PIt (X : Cx) (Δ : List Sl) (tg it : Expr) (ts : List Th) : Prop :=
  ∃ ti : TI, PI X tg it ti ∧ ∀ S0 M0 H0 σ H S, At S0 M0 H0 Δ σ H S → ∀ R : It → Hp → Prop,
    (∀ (J : It) (H1 : Hp) (G : Hp → Prop) (Y : Nat → Hp → V → Hp → Prop), Ex H H1 → Walk J ts.length G Y → (∀ Hb Hc, Ex Hb Hc → G Hb → G Hc) → G (hide S H1) →
      (∀ i Hc v Hd (S' : List Addr), Y i Hc v Hd → Dom S' Hc → Ex (hide S H1) (hide S' Hc) → Ex Hc Hd ∧ ∃ t, ts[i]? = some t ∧ t.R (hide S' Hd) v) → R J H1) → ti σ H R
/-- a target: what the slots are behind it -/
def PTg (X : Cx) (tg : Expr) (is : List Nat) (Z : Th → (List Sl → List Sl) → Prop) : Prop :=
  ∃ g : TG, PG X tg g ∧ ∀ t u, Z t u → ∀ S0 M0 H0 Δ σ H S v, At S0 M0 H0 Δ σ H S → t.R (hide S H) v → ∀ N : L2.St → Hp → Prop, (∀ σ', At S0 M0 H0 (u Δ) σ' H S → L2.wipe σ' is = L2.wipe σ is → N σ' H) → g v σ H N
theorem wipe_comm {σ : L2.St} {i : Nat} {o : Option V} : ∀ is : List Nat, (i ∈ is → L2.wipe (σ.set i o) is = L2.wipe σ is) ∧ (i ∉ is → L2.wipe (σ.set i o) is = (L2.wipe σ is).set i o)
  | [] => ⟨(fun h => by cases h), fun _ => rfl⟩
  | j :: is => by
    obtain ⟨h1, h2⟩ := wipe_comm (σ := σ) (i := i) (o := o) is
    refine ⟨fun h => ?_, fun h => ?_⟩
    · show (L2.wipe (σ.set i o) is).set j none = (L2.wipe σ is).set j none
      by_cases m : i ∈ is
      · rw [h1 m]
      · rw [h2 m]
        have e : i = j := by
          rcases List.mem_cons.mp h with z | z
          · exact z
          · exact absurd z m
        rw [e, List.set_set]
    · show (L2.wipe (σ.set i o) is).set j none = ((L2.wipe σ is).set j none).set i o
      have m : i ∉ is := fun z => h (List.mem_cons_of_mem _ z)
      have ne : i ≠ j := fun z => h (by rw [z]; exact List.mem_cons_self ..)
      rw [h2 m, List.set_comm _ _ ne]
theorem wipe_set {σ : L2.St} {i : Nat} {o : Option V} {is : List Nat} (h : i ∈ is) : L2.wipe (σ.set i o) is = L2.wipe σ is := (wipe_comm is).1 h
theorem At.setAllW {S0 M0 S : List Addr} {H0 H : Hp} {js : List Nat} : ∀ {is : List Nat} {ts : List Th} {vs : List V} {Δ : List Sl} {σ : L2.St}, At S0 M0 H0 Δ σ H S → All (hide S H) ts vs → ts.length = is.length → (∀ i ∈ is, i ∈ js) → ∀ {N : L2.St → Hp → Prop}, (∀ σ', At S0 M0 H0 (setN Δ is ts) σ' H S → L2.wipe σ' js = L2.wipe σ js → N σ' H) → gNames is vs σ H N
  | [], [], [], _, σ, hA, _, _, _, N, k => ⟨rfl, k σ hA rfl⟩
  | i :: is, t :: ts, v :: vs, _, σ, hA, hr, hl, hs, N, k => ⟨v, vs, rfl, At.setAllW (is := is) (js := js) (hA.set (i := i) (t := t) hr.1) hr.2 (by simpa using hl) (fun j hj => hs j (List.mem_cons_of_mem _ hj)) fun σ' h1 h2 => k σ' h1 (h2.trans (wipe_set (hs i (List.mem_cons_self ..))))⟩
  | [], _ :: _, _, _, _, _, _, hl, _, _, _ => by simp at hl
  | _ :: _, [], _, _, _, _, _, hl, _, _, _ => by simp at hl
  | [], [], _ :: _, _, _, _, h, _, _, _, _ => h.elim
  | _ :: _, _ :: _, [], _, _, _, h, _, _, _, _ => h.elim
section
variable {X : Cx} {Δ : List Sl} {e a b c o : Expr} {es : List Expr} {A B C : Th → Prop} {pos : Pos} {P : Post} {rest body els : List Stmt} {st : Stmt} {W : WX}
theorem ptg_name (i : Nat) {x : Str} {p : Pos} (hN : X.N.Nodup) (hi : X.N[i]? = some x := by rfl) (hx : Loc X.env.scope x := by first | exact Or.inl rfl | exact Or.inr rfl)
    (hf : X.fn x = true ∨ X.env.scope.names.lookup x = some .local := by first | exact .inl rfl | exact .inr rfl) : PTg X (.Name x p) [i] (fun t u => u = fun Δ => Δ.set i (.th t)) :=
  ⟨_, pg_name hN hi hx hf, fun t u hu S0 M0 H0 Δ σ H S v hA r N k => by subst hu; exact k _ (hA.set r) (wipe_set (List.mem_cons_self ..))⟩
theorem ptg_names (is : List Nat) {tg : List Expr} {kk : Nat} {p : Pos} (hpg : PGs X tg (gNames is)) (hc : X.calm = true := by rfl) (hn : (assignEach tg X.env).length = is.length := by rfl) (hst : (assignEach tg X.env).findIdx? (·.1) = none := by rfl) :
    PTg X (.Tuple tg kk p) is (fun t u => ∃ ts, t = tupT X.K ts ∧ ts.length = is.length ∧ u = fun Δ => setN Δ is ts) :=
  ⟨_, pg_tup hc hpg hn hst, fun t u ⟨ts, ht, hl, hu⟩ S0 M0 H0 Δ σ H S v hA r N k => by
    subst ht; subst hu
    obtain ⟨q, xs, rfl, hq, hd⟩ := r
    exact ⟨q, xs, rfl, ex_t hide_le hq, by rw [← hd.len, hl], hA.setAllW hd hl (fun i h => h) k⟩⟩
/-! the walks -/
theorem hide_own {S : List Addr} {H : Hp} {K : PySem.W.Frag} {a : Addr} {xs : List V} (h : SqL K (hide S H) a xs) : SqL K H a xs := ex_l hide_le h
theorem pit_list {tg : Expr} {ts : List Th} (he : PD X Δ e (lstT X.K ts)) : PIt X Δ tg e ts := by
  obtain ⟨t, pe, f⟩ := he
  refine ⟨_, pi_list pe, fun S0 M0 H0 σ H S hA R k => f S0 M0 H0 σ H S hA _ fun th v H1 ha e1 r => ?_⟩
  subst ha
  obtain ⟨p, xs, rfl, hq, hd⟩ := r
  refine ⟨p, rfl, ⟨xs, ex_l hide_le hq⟩, k _ H1 _ _ e1 (by rw [hd.len]; exact walk_list (K := X.K) (a := p) (xs := xs)) (fun Hb Hc e h => ex_l e h) hq fun i Hc v Hd S' y dom e2 => ?_⟩
  obtain ⟨rfl, hv⟩ := y
  obtain ⟨t, ht, r⟩ := hd.get hv
  exact ⟨Ex.refl _, t, ht, t.up _ _ _ e2 r⟩
theorem pit_tup {tg : Expr} {ts : List Th} (he : PD X Δ e (tupT X.K ts)) : PIt X Δ tg e ts := by
  obtain ⟨t, pe, f⟩ := he
  refine ⟨_, pi_tup pe, fun S0 M0 H0 σ H S hA R k => f S0 M0 H0 σ H S hA _ fun th v H1 ha e1 r => ?_⟩
  subst ha
  obtain ⟨p, xs, rfl, hq, hd⟩ := r
  refine ⟨p, rfl, ⟨xs, ex_t hide_le hq⟩, k _ H1 _ _ e1 (by rw [hd.len]; exact walk_tup (K := X.K) (a := p) (xs := xs)) (fun Hb Hc e h => ex_t e h) hq fun i Hc v Hd S' y dom e2 => ?_⟩
  obtain ⟨rfl, hv⟩ := y
  obtain ⟨t, ht, r⟩ := hd.get hv
  exact ⟨Ex.refl _, t, ht, t.up _ _ _ e2 r⟩
/-- a new pair -/
theorem pair_new {K : PySem.W.Frag} {S' : List Addr} {Hc : Hp} {T : Addr} {x y : V} {t u : Th} (hT : Hc T = none) (dom : Dom S' Hc) (r1 : t.R (hide S' Hc) x) (r2 : u.R (hide S' Hc) y) : Ex Hc (upd Hc T (.tup [x, y])) ∧ (tupT K [t, u]).R (hide S' (upd Hc T (.tup [x, y]))) (.ref T) :=
  ⟨Ex.new hT, T, [x, y], rfl, SqT.of (by rw [hide_out (dom.new hT)]; exact upd_same), t.up _ _ _ (hide_ex (Ex.new hT)) r1, u.up _ _ _ (hide_ex (Ex.new hT)) r2, trivial⟩
def enumT (K : PySem.W.Frag) (ts : List Th) : List Th := (ts.zipIdx).map fun p => tupT K [dat K (.int (p.2 : Nat)), p.1]
theorem pit_enum {tg : List Expr} {kk : Nat} {tp p : Pos} {ts : List Th} (hm : X.mg "enumerate" = none) (he : PD X Δ e (lstT X.K ts)) (hg : Gl X "enumerate" := by rfl) (hs : starEach [e] X.env = [(false, eval e X.env)] := by rfl) (hse : starEach [e] X.env = (false, eval e X.env) :: starEach [] X.env := by rfl) :
    PIt X Δ (.Tuple tg kk tp) (.Call (.Name "enumerate" p) [e] [] pos) (enumT X.K ts) := by
  obtain ⟨t, pa, f⟩ := pl_cons he pl_nil hse
  refine ⟨_, pi_enum hg hm pa hs, fun S0 M0 H0 σ H S hA R k => f S0 M0 H0 σ H S hA _ fun ths vs H1 ha e1 r => ?_⟩
  subst ha
  obtain ⟨v, rfl, p, xs, rfl, hq, hd⟩ := all1 r
  have hl : (enumT X.K ts).length = xs.length := by unfold enumT; rw [List.length_map, List.length_zipIdx, hd.len]
  refine ⟨p, xs, rfl, ex_l hide_le hq, k _ H1 _ _ e1 (by rw [hl]; exact walk_enum (K := X.K) (a := p) (xs := xs)) (fun Hb Hc e h => ex_l e h) hq fun i Hc v Hd S' y dom e2 => ?_⟩
  obtain ⟨T, x, z, rfl, hT, rfl, h1, h2⟩ := y
  obtain ⟨t, ht, r2⟩ := hd.get h2
  obtain ⟨q1, q2⟩ := pair_new (K := X.K) (x := x) (y := z) (t := dat X.K (.int (i : Nat))) (u := t) hT dom (by rw [← Option.some.inj h1]; exact Dp.int _) (t.up _ _ _ e2 r2)
  exact ⟨q1, _, by unfold enumT; rw [List.getElem?_map, List.getElem?_zipIdx, ht]; simp, q2⟩
def zipT (K : PySem.W.Frag) (ts us : List Th) : List Th := (ts.zip us).map fun p => tupT K [p.1, p.2]
theorem pit_zip {tg : List Expr} {kk : Nat} {tp p : Pos} {ts us : List Th} (hm : X.mg "zip" = none) (hb : (PD X Δ a (lstT X.K ts) ∧ PD X Δ b (lstT X.K us)) ∨ (PD X Δ a (tupT X.K ts) ∧ PD X Δ b (tupT X.K us))) (hlen : ts.length = us.length) (hg : Gl X "zip" := by rfl)
    (hs : starEach [a, b] X.env = (false, eval a X.env) :: starEach [b] X.env := by rfl) (hpl : (backTo pos (starEach [b] X.env)).any (·.1) = false := by rfl) (hs2 : starEach [b] X.env = (false, eval b X.env) :: starEach [] X.env := by rfl) :
    PIt X Δ (.Tuple tg kk tp) (.Call (.Name "zip" p) [a, b] [] pos) (zipT X.K ts us) := by
  have hz : ∀ {xs ys : List V} {H : Hp}, All H ts xs → All H us ys → (zipT X.K ts us).length = xs.length ∧ ys.length = xs.length := fun h1 h2 => by
    have := h1.len; have := h2.len
    unfold zipT; rw [List.length_map, List.length_zip]; omega
  have el : ∀ {xs ys : List V} {S S' : List Addr} {H1 Hc Hd : Hp} {i : Nat} {v : V}, All (hide S H1) ts xs → All (hide S H1) us ys → YPair (fun i => xs[i]?) (fun i => ys[i]?) i Hc v Hd → Dom S' Hc → Ex (hide S H1) (hide S' Hc) → Ex Hc Hd ∧ ∃ t, (zipT X.K ts us)[i]? = some t ∧ t.R (hide S' Hd) v := by
    intro xs ys S S' H1 Hc Hd i v d1 d2 y dom e2
    obtain ⟨T, x, z, rfl, hT, rfl, h1, h2⟩ := y
    obtain ⟨t, ht, r1⟩ := d1.get h1
    obtain ⟨u, hu, r2⟩ := d2.get h2
    obtain ⟨q1, q2⟩ := pair_new (K := X.K) (t := t) (u := u) hT dom (t.up _ _ _ e2 r1) (u.up _ _ _ e2 r2)
    exact ⟨q1, _, by unfold zipT; rw [List.getElem?_map, List.getElem?_zip_eq_some (z := (t, u)) |>.mpr ⟨ht, hu⟩]; rfl, q2⟩
  rcases hb with ⟨ha, hb⟩ | ⟨ha, hb⟩
  · obtain ⟨t, pa, f⟩ := pl_cons ha (pl_cons hb pl_nil hs2) hs
    refine ⟨_, RZ.pi_zipA hg hm pa hs hpl, fun S0 M0 H0 σ H S hA R k => f S0 M0 H0 σ H S hA _ fun ths vs H1 ha e1 r => ?_⟩
    subst ha
    obtain ⟨v, w, rfl, ⟨p, xs, rfl, hq, hd⟩, ⟨q, ys, rfl, hq2, hd2⟩⟩ := all2 r
    obtain ⟨l1, l2⟩ := hz hd hd2
    refine ⟨p, q, xs, ys, rfl, Or.inl ⟨ex_l hide_le hq, ex_l hide_le hq2, k _ H1 _ _ e1 (walk_zip (K := X.K) (a := p) (b := q) (xs := xs) (ys := ys) (by omega)) (fun Hb Hc e h => ⟨ex_l e h.1, ex_l e h.2⟩) ⟨hq, hq2⟩ fun i Hc v Hd S' y dom e2 => el hd hd2 y dom e2⟩⟩
  · obtain ⟨t, pa, f⟩ := pl_cons ha (pl_cons hb pl_nil hs2) hs
    refine ⟨_, RZ.pi_zipA hg hm pa hs hpl, fun S0 M0 H0 σ H S hA R k => f S0 M0 H0 σ H S hA _ fun ths vs H1 ha e1 r => ?_⟩
    subst ha
    obtain ⟨v, w, rfl, ⟨p, xs, rfl, hq, hd⟩, ⟨q, ys, rfl, hq2, hd2⟩⟩ := all2 r
    obtain ⟨l1, l2⟩ := hz hd hd2
    have wk : Walk (RZ.ItzT X.K p q) (zipT X.K ts us).length (fun H => SqT X.K H p xs ∧ SqT X.K H q ys) (YPair (fun i => xs[i]?) (fun i => ys[i]?)) := by
      rw [l1]
      refine ⟨fun i _ hi q => ?_, fun _ q => ⟨xs, ys, q.1, q.2, by omega⟩, fun i H v H' _ q y => ?_⟩
      · have h2 : i < ys.length := by omega
        exact ⟨xs, ys, xs[i], ys[i], q.1, q.2, by simp [hi], by simp [h2]⟩
      · obtain ⟨T, x, z, h1, h2, h3, h4, h5⟩ := y
        exact ⟨T, x, z, h1, h2, h3, h4 xs q.1, h5 ys q.2⟩
    refine ⟨p, q, xs, ys, rfl, Or.inr ⟨ex_t hide_le hq, ex_t hide_le hq2, k _ H1 _ _ e1 wk (fun Hb Hc e h => ⟨ex_t e h.1, ex_t e h.2⟩) ⟨hq, hq2⟩ fun i Hc v Hd S' y dom e2 => el hd hd2 y dom e2⟩⟩
/-- for target in what is walked over -/
theorem sd_forI {tg it : Expr} {is : List Nat} {Z : Th → (List Sl → List Sl) → Prop} {ts : List Th} (I : Nat → List Sl → Prop) (hi : PIt X Δ tg it ts) (ht : PTg X tg is Z) (h0 : I 0 Δ)
    (step : ∀ (i : Nat) z Δ', ts[i]? = some z → I i Δ' → ∃ u, Z z u ∧ SD X W body { P with nx := I (i + 1), ct := I (i + 1), bk := fun Δ2 => SD X W rest P Δ2, top := false } (u Δ'))
    (hd : ∀ Δ', I ts.length Δ' → SD X W rest P Δ') (hc : X.calm = true := by rfl) (hp : PassesOwn (model X.prog X.w) X.A X.env X.xe := by exact PassesOwn.never) (hfs : ∀ x, foldedSetIterable it X.env x = pure x := by intro _; rfl) : SD X W (.For tg it body [] pos :: rest) P Δ := by
  refine sd_cons ?_
  obtain ⟨ti, pi, f⟩ := hi
  obtain ⟨g, pg, fg⟩ := ht
  have qb : PSs X body (fun D σ H => ∃ t, PSs X body t ∧ t D σ H) := ⟨fun pins s σ H D J ⟨t, p, h⟩ => p.run pins s σ H D J h⟩
  refine ⟨_, ps_for hp hc pi pg qb hfs, fun S0 M0 H0 σ H S hA D le xw => ?_⟩
  refine f S0 M0 H0 σ H S hA _ fun J H1 G Y e1 wk gm g0 hy => ?_
  have hA1 := hA.up e1
  refine for_it wk (g := g) (tb := fun D σ H => ∃ t, PSs X body t ∧ t D σ H) (fun i σ' H' => ∃ Δ' S', I i Δ' ∧ At S (mls Δ σ) H1 Δ' σ' H' S') ⟨Δ, S, h0, hA1.here⟩ (fun i σ' H' _ ⟨Δ', S', _, hA'⟩ => gm _ _ hide_le (gm _ _ hA'.hid g0)) (fun i x σ' H' H'' hlt ⟨Δ', S', i', hA'⟩ y => ?_) (fun σ' H' ⟨Δ', S', i', hA'⟩ => le.nx _ _ ⟨Δ', S', hd Δ' i', hA1.lift hA1.mown hA'⟩)
  obtain ⟨e2, t, ht, r⟩ := hy i H' x H'' S' y hA'.dom hA'.hid
  obtain ⟨u, hu, pu, ppu, fu⟩ := step i t Δ' ht i'
  have le' := ends_lift hA1 hA1.mown le
  exact fg t u hu S (mls Δ σ) H1 Δ' σ' H'' S' x (hA'.up e2) r _ fun σ'' hA'' _ => ⟨pu, ppu, fu S (mls Δ σ) H1 _ H'' S' hA'' _ ⟨fun _ _ q => q, le'.rt, le'.nx, fun _ _ q => q⟩ (xw_lift hA1 hA1.mown xw (fun _ _ _ z => z) rfl)⟩
end
end DL
set_option Elab.async false
set_option linter.all false
set_option maxRecDepth 100000
/-! Comprehensions over any walk, by any target. -/
namespace DL
open PySem PySem.Spec PyProof.Rows L2
section
variable {X : Cx} {Δ : List Sl} {e a b c o : Expr} {es : List Expr} {A B C : Th → Prop} {pos : Pos} {P : Post} {rest body els : List Stmt} {st : Stmt} {W : WX}
/-- one more element -/
theorem lc_more {K : PySem.W.Frag} {Bw : Nat → PyData → Prop} {S : List Addr} {H1 H' H4 : Hp} {D : Addr} {i : Nat} {w : PyData} {y : V} (hD : H1 D = none) (hi : i < 50000) (p : LcP K Bw S H1 D i H') (e4 : Ex H' H4) (r : Dp K (hide (D :: S) H4) y w) (bw : Bw i w) :
    ∃ acc, H4 D = some (.lst acc) ∧ acc.length < sizeLine ∧ LcP K Bw S H1 D (i + 1) (upd H4 D (.lst (acc ++ [y]))) := by
  obtain ⟨e1, acc, es, h1, h2, h3, h4⟩ := p
  have hlen := dpa_len h2
  refine ⟨acc, e4 D _ h1, Nat.lt_of_lt_of_le (by omega) (by decide : 100000 ≤ sizeLine), fun a o h => ?_, acc ++ [y], es ++ [w], upd_same, ?_, by rw [List.length_append, h3, List.length_singleton], fun k w' hk => ?_⟩
  · rw [upd_ne (ne_of_none h hD)]
    exact e4 a o (e1 a o h)
  · rw [hide_upd (List.mem_cons_self)]
    exact dpa_app (dpa_up (hide_ex e4) h2) (.cons r .nil)
  · rw [List.getElem?_append] at hk
    split at hk
    · exact h4 k w' hk
    · have hk0 : k - es.length = 0 := by
        by_cases q : k - es.length = 0
        · exact q
        · rw [List.getElem?_eq_none (by simp; omega)] at hk
          cases hk
      rw [hk0] at hk
      have e5 : w = w' := Option.some.inj hk
      have e6 : k = i := by omega
      rw [← e5, e6]
      exact bw
/-- what a comprehension's own block does with its names -/
def PTb (X : Cx) (scope : Scope) (tg : Expr) (is : List Nat) (Z : Th → (List Sl → List Sl) → Prop) : Prop :=
  ∃ g : TG, (∀ (s : Shared) (H : Hp) (C : Addr) (cl : List (Str × Addr)) (fp : List Addr), PG (X.blk s H scope (compEnvC scope cl C X.env) fp) tg g) ∧
    ∀ t u, Z t u → ∀ S0 M0 H0 Δ σ H S v, At S0 M0 H0 Δ σ H S → t.R (hide S H) v → ∀ N : L2.St → Hp → Prop, (∀ σ', At S0 M0 H0 (u Δ) σ' H S → L2.wipe σ' is = L2.wipe σ is → N σ' H) → g v σ H N
theorem ptb_name (j : Nat) {scope : Scope} {tg : Expr} (hg : ∀ (s : Shared) (H : Hp) (C : Addr) (cl : List (Str × Addr)) (fp : List Addr), PG (X.blk s H scope (compEnvC scope cl C X.env) fp) tg (gName j)) : PTb X scope tg [j] (fun t u => u = fun Δ => Δ.set j (.th t)) :=
  ⟨_, hg, fun t u hu S0 M0 H0 Δ σ H S v hA r N k => by subst hu; exact k _ (hA.set r) (wipe_set (List.mem_cons_self ..))⟩
theorem ptb_names (is : List Nat) {scope : Scope} {tg : List Expr} {kk : Nat} {p : Pos} (hg : ∀ (s : Shared) (H : Hp) (C : Addr) (cl : List (Str × Addr)) (fp : List Addr), PG (X.blk s H scope (compEnvC scope cl C X.env) fp) (.Tuple tg kk p) (gTup X.K is.length (gNames is))) :
    PTb X scope (.Tuple tg kk p) is (fun t u => ∃ ts, t = tupT X.K ts ∧ ts.length = is.length ∧ u = fun Δ => setN Δ is ts) :=
  ⟨_, hg, fun t u ⟨ts, ht, hl, hu⟩ S0 M0 H0 Δ σ H S v hA r N k => by
    subst ht; subst hu
    obtain ⟨q, xs, rfl, hq, hd⟩ := r
    exact ⟨q, xs, rfl, ex_t hide_le hq, by rw [← hd.len, hl], hA.setAllW hd hl (fun i h => h) k⟩⟩
theorem wipe_wipe {σ : L2.St} : ∀ is : List Nat, L2.wipe (L2.wipe σ is) is = L2.wipe σ is := by
  have key : ∀ (js is : List Nat), (∀ j ∈ js, j ∈ is) → L2.wipe (L2.wipe σ js) is = L2.wipe σ is := by
    intro js
    induction js with
    | nil => intro is _; rfl
    | cons j js ih =>
      intro is h
      show L2.wipe ((L2.wipe σ js).set j none) is = _
      rw [wipe_set (h j (List.mem_cons_self ..))]
      exact ih is fun k hk => h k (List.mem_cons_of_mem _ hk)
  exact fun is => key is is fun _ h => h
/-- [elt for tg in it] -/
theorem px_lcI {tg it elt : Expr} {scope : Scope} {own : List (Str × Nat)} {ts : List Th} {Z : Th → (List Sl → List Sl) → Prop} (Bw : Nat → PyData → Prop) (hi : PIt X Δ tg it ts) (hz : ts.length ≤ 40000) (hg : PTb X scope tg (own.map (·.2)) Z)
    (ht : ∀ (i : Nat) z, ts[i]? = some z → ∃ u, Z z u ∧ ∀ (s : Shared) (H : Hp) (C : Addr) (cl : List (Str × Addr)) (fp : List Addr), PX (X.blk s H scope (compEnvC scope cl C X.env) fp) (u (wipeΔ Δ (own.map (·.2)))) elt (fun t => ∃ w, t = dat X.K w ∧ Bw i w))
    (hN : X.N.Nodup) (ok : BlkOk X.N X.env.scope scope own) (hc : X.calm = true := by rfl) (hs : ∀ x, foldedSetIterable it X.env x = pure x := by intro _; rfl) :
    PX X Δ (.ListComp elt [⟨tg, it, [], 0⟩] scope pos) (fun t => ∃ es, t = dat X.K (.list es) ∧ es.length = ts.length ∧ ∀ i w, es[i]? = some w → Bw i w) := by
  obtain ⟨ti, pi, f⟩ := hi
  obtain ⟨g, pg, fg⟩ := hg
  have q : ∀ (s : Shared) (H : Hp) (C : Addr) (cl : List (Str × Addr)) (fp : List Addr), PE (X.blk s H scope (compEnvC scope cl C X.env) fp) elt (teU X scope elt) := fun s H C cl fp => ⟨fun pins s' σ H' Q I h => by
    obtain ⟨t, pt, ht⟩ := h s H C cl fp
    exact pt.run pins s' σ H' Q I ht⟩
  refine ⟨_, pe_lc (own := own) (g := g) (tt := tYes) hc hN pi ok pg (fun _ _ _ _ _ => pts_nil) q hs, fun S0 M0 H0 σ H S hA Q k => ?_⟩
  refine f S0 M0 H0 σ H S hA _ fun J H1 G Y e1 wk gm g0 hy => ?_
  have hA1 := hA.up e1
  intro D hD
  refine lc_it wk (g := g) (tt := tYes) (te := teU X scope elt) (vs := own.map (·.2)) (LcP X.K Bw S H1 D) ⟨Ex.new hD, [], [], upd_same, .nil, rfl, fun j w h => by simp at h⟩ (fun i H' _ p => ?_) (fun i x H' H'' hlt p y => ?_) fun H' p => ?_
  · refine gm _ _ ?_ g0
    exact fun a o h => p.1 a o (by
      have n0 : a ∉ S := fun z => by rw [hide_in z] at h; cases h
      rw [hide_out n0] at h
      exact h)
  · have hD' : H' D ≠ none := by
      obtain ⟨_, acc, es, h1, _⟩ := p
      rw [h1]; exact fun z => nomatch z
    have hA2 := hA1.newD hD p.1 hD'
    have hid : Ex (hide S H1) (hide (D :: S) H') := fun a o h => by
      have n0 : a ∉ S := fun z => by rw [hide_in z] at h; cases h
      have h' : H1 a = some o := by rw [hide_out n0] at h; exact h
      have ne : a ≠ D := ne_of_none h' hD
      rw [hide_out (by simp [ne, n0])]
      exact p.1 a o h'
    obtain ⟨e2, t, ht', r⟩ := hy i H' x H'' (D :: S) y hA2.dom hid
    obtain ⟨u, hu, hel⟩ := ht i t ht'
    have p2 : LcP X.K Bw S H1 D i H'' := by
      obtain ⟨q1, acc, es, h1, h2, h3, h4⟩ := p
      exact ⟨q1.trans e2, acc, es, e2 _ _ h1, dpa_up (hide_ex e2) h2, h3, h4⟩
    refine fg t u hu S (mls Δ σ) H1 (wipeΔ Δ (own.map (·.2))) (L2.wipe σ (own.map (·.2))) H'' (D :: S) x ((hA2.up e2).wipe _) r _ fun σ' hA' hw => ?_
    refine ⟨by rw [hw, wipe_wipe], ?_⟩
    unfold tYes
    simp only [if_true]
    intro s H0' C cl fp
    obtain ⟨t', pt, ft⟩ := hel s H0' C cl fp
    refine ⟨t', pt, ft S (mls Δ σ) H1 σ' H'' (D :: S) hA' _ fun th y H4 ⟨w, hw', bw⟩ e4 r' => ?_⟩
    subst hw'
    exact lc_more hD (by omega) p2 e4 r' bw
  · exact lc_fin hA1 hD p fun th v H2 c e2 r2 => k th v H2 c (e1.trans e2) r2
end
end DL
set_option Elab.async false
set_option linter.all false
set_option maxRecDepth 100000
/-! Lists of this def that shrink; slices; sorted couples of ints. -/
namespace DL
open PySem PySem.Spec PyProof.Rows L2
theorem SlsR.len {S : List Addr} {H : Hp} : ∀ {Δ : List Sl} {σ : L2.St}, SlsR S H Δ σ → Δ.length = σ.length
  | [], [], _ => rfl
  | _ :: _, _ :: _, h => by rw [List.length_cons, List.length_cons, SlsR.len h.2]
  | [], _ :: _, h => h.elim
  | _ :: _, [], h => h.elim
theorem sls_of {S : List Addr} {H : Hp} : ∀ {Δ : List Sl} {σ : L2.St}, Δ.length = σ.length → (∀ (i : Nat) s o, Δ[i]? = some s → σ[i]? = some o → SlR S H o s) → SlsR S H Δ σ
  | [], [], _, _ => trivial
  | s :: ss, o :: os, hl, h => ⟨h 0 s o rfl rfl, sls_of (by simpa using hl) fun i s' o' h1 h2 => h (i + 1) s' o' h1 h2⟩
  | [], _ :: _, hl, _ => by simp at hl
  | _ :: _, [], hl, _ => by simp at hl
/-- the list in slot i is another now -/
theorem At.chg {S0 M0 S : List Addr} {H0 H : Hp} {Δ : List Sl} {σ : L2.St} (hA : At S0 M0 H0 Δ σ H S) {i : Nat} {ts us : List Th} {a : Addr} {zs : List V} (h : Δ[i]? = some (.ml ts)) (e1 : σ[i]? = some (some (V.ref a))) (hm : a ∈ S) (hr : All (hide S H) us zs) :
    At S0 M0 H0 (Δ.set i (.ml us)) σ (upd H a (.lst zs)) S := by
  have hid : hide S (upd H a (.lst zs)) = hide S H := hide_upd hm
  have own_a := hA.own i ts a h e1
  have old : ∀ {m : Nat} {ws : List Th}, (Δ.set i (.ml us))[m]? = some (.ml ws) → ∃ ws', Δ[m]? = some (.ml ws') := fun {m ws} z => by
    by_cases q : i = m
    · subst q; exact ⟨ts, h⟩
    · rw [List.getElem?_set_ne q] at z; exact ⟨ws, z⟩
  refine ⟨hA.sub, hA.msub, hA.new, fun b o hb => ?_, fun b hb => ?_, sls_of (by rw [List.length_set]; exact hA.env.len) fun m s o h1 h2 => ?_, fun m j ws ys b h1 h2 h3 h4 => ?_, fun m ws b h1 h3 => ?_⟩
  · have nb : b ∉ M0 := fun z => by rw [hide_in z] at hb; cases hb
    have ne : b ≠ a := fun z => by
      rw [z] at hb nb
      rcases own_a with q | q
      · exact nb q
      · rw [hide_out nb, q] at hb; cases hb
    rw [upd_ne ne]
    exact hA.ex b o hb
  · by_cases q : b = a
    · rw [q, upd_same]; exact fun z => nomatch z
    · rw [upd_ne q]; exact hA.dom b hb
  · by_cases q : i = m
    · subst q
      have li : i < Δ.length := (List.getElem?_eq_some_iff.mp h).1
      rw [List.getElem?_set_self li] at h1
      cases h1
      rw [e1] at h2
      cases h2
      exact ⟨a, zs, rfl, hm, upd_same, by rw [hid]; exact hr⟩
    · rw [List.getElem?_set_ne q] at h1
      obtain ⟨o', g1, g2⟩ := hA.env.get h1
      rw [h2] at g1
      cases g1
      cases s with
      | no => trivial
      | th t => obtain ⟨v, q1, q2⟩ := g2; exact ⟨v, q1, by rw [hid]; exact q2⟩
      | ml ws =>
        obtain ⟨b, ys, q1, q2, q3, q4⟩ := g2
        subst q1
        have nb : b ≠ a := fun z => q (hA.apart i m ts ws b h h1 (by rw [z]; exact e1) h2)
        exact ⟨b, ys, rfl, q2, by rw [upd_ne nb]; exact q3, by rw [hid]; exact q4⟩
  · obtain ⟨_, g1⟩ := old h1
    obtain ⟨_, g2⟩ := old h2
    exact hA.apart m j _ _ b g1 g2 h3 h4
  · obtain ⟨_, g1⟩ := old h1
    exact hA.own m _ b g1 h3
theorem sls_no {S : List Addr} {H : Hp} : ∀ {Δ : List Sl} {σ : L2.St} {i : Nat}, SlsR S H Δ σ → SlsR S H (Δ.set i .no) σ
  | [], [], i, _ => trivial
  | _ :: _, _ :: _, 0, h => ⟨trivial, h.2⟩
  | _ :: ss, _ :: os, i + 1, h => ⟨h.1, sls_no (Δ := ss) (σ := os) (i := i) h.2⟩
  | [], _ :: _, _, h => h.elim
  | _ :: _, [], _, h => h.elim
/-- what slot i holds is told no more -/
theorem At.forget {S0 M0 S : List Addr} {H0 H : Hp} {Δ : List Sl} {σ : L2.St} (hA : At S0 M0 H0 Δ σ H S) (i : Nat) : At S0 M0 H0 (Δ.set i .no) σ H S := by
  have old : ∀ {m : Nat} {ws : List Th}, (Δ.set i Sl.no)[m]? = some (.ml ws) → Δ[m]? = some (.ml ws) := fun {m ws} z => (set_ml rfl z).2
  exact ⟨hA.sub, hA.msub, hA.new, hA.ex, hA.dom, sls_no hA.env, fun m j ws ys b h1 h2 h3 h4 => hA.apart m j ws ys b (old h1) (old h2) h3 h4, fun m ws b h1 h3 => hA.own m ws b (old h1) h3⟩
section
variable {X : Cx} {Δ : List Sl} {e a b c : Expr} {es : List Expr} {A B C : Th → Prop} {pos : Pos} {P : Post} {rest body els sts : List Stmt} {st : Stmt} {W : WX}
theorem sd_forget (i : Nat) (k : SD X W sts P (Δ.set i .no)) : SD X W sts P Δ := by
  obtain ⟨t, p, f⟩ := k
  exact ⟨t, p, fun S0 M0 H0 σ H S hA D le xw => f S0 M0 H0 σ H S (hA.forget i) D le xw⟩
/-- x.pop(), x a list of this def -/
theorem sd_pop (i : Nat) {x : Str} {p1 p2 p3 : Pos} {ts : List Th} (h : Δ[i]? = some (.ml ts)) (hne : ts ≠ []) (k : SD X W rest P (Δ.set i (.ml ts.dropLast)))
    (hpe : PE X (.Call (.Attribute (.Name x p1) "pop" p2) [] [] p3) (tBM0 X.K "list" rPop (tVar i))) (hs : swapsWith (.Call (.Attribute (.Name x p1) "pop" p2) [] [] p3) none pos.line X.env = pure false := by rfl) :
    SD X W (.Expr (.Call (.Attribute (.Name x p1) "pop" p2) [] [] p3) pos :: rest) P Δ := by
  refine sd_cons ⟨_, ps_expr hpe hs, fun S0 M0 H0 σ H S hA D le xw => ?_⟩
  obtain ⟨o, e1, a, xs, e2, hm, hH, hx⟩ := hA.env.get h
  subst e2
  refine ⟨.ref a, e1, Or.inl ⟨rfl, xs, Or.inl (Or.inl hH)⟩, ?_⟩
  have hlen := hx.len
  have hpos : 0 < xs.length := by
    cases ts with
    | nil => exact absurd rfl hne
    | cons t ts => rw [← hlen, List.length_cons]; omega
  have hdl : ∀ {ts : List Th} {xs : List V}, All (hide S H) ts xs → All (hide S H) ts.dropLast xs.dropLast := fun {ts xs} => by
    induction ts generalizing xs with
    | nil => intro h; cases xs with
      | nil => exact trivial
      | cons _ _ => exact h.elim
    | cons t ts ih =>
      intro h
      cases xs with
      | nil => exact h.elim
      | cons x xs =>
        cases ts with
        | nil => cases xs with
          | nil => exact trivial
          | cons _ _ => exact h.2.elim
        | cons t2 ts => cases xs with
          | nil => exact h.2.elim
          | cons x2 xs => exact ⟨h.1, ih h.2⟩
  exact ⟨a, xs, xs[xs.length - 1], rfl, rfl, hH, List.getElem?_eq_getElem (by omega), le.nx _ _ ⟨_, S, k, hA.chg h e1 hm (hdl hx)⟩⟩
/-! slices -/
def cutD (ds : List PyData) (lo hi : Option Int) : List PyData := (ds.drop (HT.sIx ds.length 0 lo)).take (HT.sIx ds.length ds.length hi - HT.sIx ds.length 0 lo)
theorem dpa_drop {K : PySem.W.Frag} {H : Hp} : ∀ {vs : List V} {ds : List PyData} (n : Nat), DpAll K H vs ds → DpAll K H (vs.drop n) (ds.drop n)
  | _, _, 0, h => h
  | _, _, n + 1, .nil => .nil
  | _ :: _, _ :: _, n + 1, .cons _ t => dpa_drop n t
theorem dpa_take {K : PySem.W.Frag} {H : Hp} : ∀ {vs : List V} {ds : List PyData} (n : Nat), DpAll K H vs ds → DpAll K H (vs.take n) (ds.take n)
  | _, _, 0, _ => by rw [List.take_zero, List.take_zero]; exact .nil
  | _, _, n + 1, .nil => .nil
  | _ :: _, _ :: _, n + 1, .cons h t => .cons h (dpa_take n t)
theorem dpa_cut {K : PySem.W.Frag} {H : Hp} {vs : List V} {ds : List PyData} (h : DpAll K H vs ds) (lo hi : Option Int) : DpAll K H (cutV vs lo hi) (cutD ds lo hi) := by
  unfold cutV cutD
  rw [dpa_len h]
  exact dpa_take _ (dpa_drop _ h)
/-- a bound of a slice -/
def PBd (X : Cx) (Δ : List Sl) (o : Option Expr) (k : Option Int) : Prop := ∃ t : TO, PO X o t ∧ ∀ S0 M0 H0 σ H S, At S0 M0 H0 Δ σ H S → ∀ Q, (∀ H2, Ex H H2 → Q k H2) → t σ H Q
theorem pb_none : PBd X Δ none none := ⟨_, po_none, fun _ _ _ _ H _ _ Q q => q H (Ex.refl H)⟩
theorem pb_some {k : Int} (h : PD X Δ e (dat X.K (.int k))) : PBd X Δ (some e) (some k) := by
  obtain ⟨t, p, f⟩ := h
  exact ⟨_, po_some p, fun S0 M0 H0 σ H S hA Q q => f S0 M0 H0 σ H S hA _ fun th v H1 hth e1 r => by
    subst hth
    have e2 := dp_int r
    subst e2
    exact ⟨k, rfl, q H1 e1⟩⟩
/-- e[lo:hi], e a list of data -/
theorem pd_slice {ds : List PyData} {lo hi : Option Expr} {l u : Option Int} {p2 : Pos} (he : PD X Δ e (dat X.K (.list ds))) (hl : PBd X Δ lo l) (hu : PBd X Δ hi u) : PD X Δ (.Subscript e (.Slice lo hi none p2) pos) (dat X.K (.list (cutD ds l u))) := by
  obtain ⟨te, pe, fe⟩ := he
  obtain ⟨tl, pl, fl⟩ := hl
  obtain ⟨tu, pu, fu⟩ := hu
  refine ⟨_, pe_slice sl_list pe pl pu, fun S0 M0 H0 σ H S hA Q q => ?_⟩
  refine fe S0 M0 H0 σ H S hA _ fun th v H1 hth e1 r => fl S0 M0 H0 σ H1 S (hA.up e1) _ fun H2 e2 => fu S0 M0 H0 σ H2 S ((hA.up e1).up e2) _ fun H3 e3 => ?_
  subst hth
  obtain ⟨a, xs, rfl, hq, hd⟩ := dp_lst r
  refine ⟨a, xs, rfl, ex_l (hide_le.trans (e2.trans e3)) hq, fun p hp => q _ _ _ rfl ((e1.trans (e2.trans e3)).trans (Ex.new hp)) (Dp.lst (SqL.of ?_) (dpa_up (hide_ex ((e2.trans e3).trans (Ex.new hp))) (dpa_cut hd l u)))⟩
  rw [hide_out (((hA.up e1).up (e2.trans e3)).dom.new hp)]
  exact upd_same
/-- x[lo:hi], x a list of this def -/
theorem pd_sliceM (i : Nat) {x : Str} {p p2 : Pos} {ds : List PyData} {lo hi : Option Expr} {l u : Option Int} (h : Δ[i]? = some (.ml (ds.map (dat X.K)))) (hpv : PE X (.Name x p) (tVar i)) (hl : PBd X Δ lo l) (hu : PBd X Δ hi u) : PD X Δ (.Subscript (.Name x p) (.Slice lo hi none p2) pos) (dat X.K (.list (cutD ds l u))) := by
  obtain ⟨tl, pl, fl⟩ := hl
  obtain ⟨tu, pu, fu⟩ := hu
  refine ⟨_, pe_slice sl_list hpv pl pu, fun S0 M0 H0 σ H S hA Q q => ?_⟩
  obtain ⟨o, e1, a, xs, e2, hm, hH, hx⟩ := hA.env.get h
  subst e2
  refine ⟨.ref a, e1, fl S0 M0 H0 σ H S hA _ fun H2 e2 => fu S0 M0 H0 σ H2 S (hA.up e2) _ fun H3 e3 => ?_⟩
  have e23 := e2.trans e3
  refine ⟨a, xs, rfl, SqL.of (e23 a _ hH), fun p hp => q _ _ _ rfl (e23.trans (Ex.new hp)) (Dp.lst (SqL.of ?_) (dpa_up (hide_ex (e23.trans (Ex.new hp))) (dpa_cut (all_dpa hx) l u)))⟩
  rw [hide_out ((hA.up e23).dom.new hp)]
  exact upd_same
theorem dpa_rev {K : PySem.W.Frag} {H : Hp} : ∀ {vs : List V} {ds : List PyData}, DpAll K H vs ds → DpAll K H vs.reverse ds.reverse
  | _, _, .nil => .nil
  | _ :: _, _ :: _, .cons h t => by
    rw [List.reverse_cons, List.reverse_cons]
    exact dpa_app (dpa_rev t) (.cons h .nil)
/-- e[::-1] -/
theorem pd_rev {ds : List PyData} {k : Nat} {p1 p2 p3 : Pos} (he : PD X Δ e (dat X.K (.list ds))) : PD X Δ (.Subscript e (.Slice none none (some (.UnaryOp .USub (.Constant (.int 1) k p1) p2)) p3) pos) (dat X.K (.list ds.reverse)) := by
  obtain ⟨te, pe, fe⟩ := he
  refine ⟨_, pe_revL pe, fun S0 M0 H0 σ H S hA Q q => fe S0 M0 H0 σ H S hA _ fun th v H1 hth e1 r => ?_⟩
  subst hth
  obtain ⟨a, xs, rfl, hq, hd⟩ := dp_lst r
  refine ⟨a, xs, rfl, ex_l hide_le hq, fun p hp => q _ _ _ rfl (e1.trans (Ex.new hp)) (Dp.lst (SqL.of ?_) (dpa_up (hide_ex (Ex.new hp)) (dpa_rev hd)))⟩
  rw [hide_out ((hA.up e1).dom.new hp)]
  exact upd_same
/-! sorted couples of ints -/
def rSortC (K : PySem.W.Frag) : List V → Hp → VK → Prop := fun vs H Q => ∃ (a : Addr) (xs : List V) (ps : List DL.Q) (H' : Hp), vs = [V.ref a] ∧ Ex H' H ∧ SqL K H' a xs ∧ DpAll K H' xs (ps.map rD) ∧
  ∀ (ys : List V) (qs : List DL.Q) (p : Addr), DpAll K H' ys (qs.map rD) → qs.Perm ps → qs.Pairwise (fun x y => SrtO.lexB y x = false) → H p = none → Q (.ref p) (upd H p (.lst ys))
theorem dpa_pick {K : PySem.W.Frag} {H : Hp} : ∀ {xs : List V} {ps : List DL.Q}, DpAll K H xs (ps.map rD) → ∀ x ∈ xs, ∃ p ∈ ps, Dp K H x (rD p)
  | _, [], .nil, x, h => by cases h
  | _, p :: ps, .cons h t, x, hx => by
    rcases List.mem_cons.mp hx with e | e
    · subst e; exact ⟨p, List.mem_cons_self, h⟩
    · obtain ⟨q, h1, h2⟩ := dpa_pick t x e
      exact ⟨q, List.mem_cons_of_mem _ h1, h2⟩
open Classical in
noncomputable def keyV (K : PySem.W.Frag) (H : Hp) (x : V) : Int × Int := if h : ∃ p : DL.Q, Dp K H x (rD p) then h.choose else (0, 0)
theorem key_of {X : Cx} {pins : List (Addr × Obj)} {σ : L2.St} {H H' : Hp} {s : Shared} (I : Inv X pins σ H s) (ex : Ex H' H) {x : V} {p : DL.Q} (hp : Dp X.K H' x (rD p)) : keyV X.K H' x = p := by
  unfold keyV
  have hex : ∃ p : DL.Q, Dp X.K H' x (rD p) := ⟨p, hp⟩
  rw [dif_pos hex]
  have h2 := hex.choose_spec
  generalize hex.choose = p' at h2
  obtain ⟨t, zs, rfl, s1, d1⟩ := dp_tup hp
  obtain ⟨t2, zs2, e, s2, d2⟩ := dp_tup h2
  cases e
  have ez := I.tuple_inj (ex_t ex s1) (ex_t ex s2)
  subst ez
  cases d1 with
  | cons a1 r1 =>
    cases r1 with
    | cons b1 n1 =>
      cases d2 with
      | cons a2 r2 =>
        cases r2 with
        | cons b2 n2 =>
          have x1 := dp_int a1
          have x2 := dp_int a2
          have y1 := dp_int b1
          have y2 := dp_int b2
          rw [x1] at x2
          rw [y1] at y2
          exact Prod.ext (V.int.inj x2).symm (V.int.inj y2).symm
theorem pair_of {X : Cx} {pins : List (Addr × Obj)} {σ : L2.St} {H H' : Hp} {s : Shared} (I : Inv X pins σ H s) (ex : Ex H' H) {t : Addr} {p : DL.Q} (hp : Dp X.K H' (.ref t) (rD p)) : Srt.IsPair s.heap (.ref t) p.1 p.2 := by
  obtain ⟨t', zs, e, s1, d1⟩ := dp_tup hp
  cases e
  cases d1 with
  | cons a1 r1 =>
    cases r1 with
    | cons b1 n1 =>
      cases n1
      have x1 := dp_int a1
      have y1 := dp_int b1
      subst x1 y1
      obtain ⟨its2, r2, ⟨o, ho, hc, n, hd⟩, _⟩ := I.tuple (ex_t ex s1)
      obtain ⟨u1, u2, rfl, ri, rj⟩ := vals2 r2
      obtain ⟨t1, rfl⟩ := ri
      obtain ⟨t2, rfl⟩ := rj
      exact ⟨t, o, t1, t2, n, rfl, ho, hc, hd⟩
theorem keys_of {X : Cx} {pins : List (Addr × Obj)} {σ : L2.St} {H H' : Hp} {s : Shared} (I : Inv X pins σ H s) (ex : Ex H' H) : ∀ {xs : List V} {ps : List DL.Q}, DpAll X.K H' xs (ps.map rD) → xs.map (keyV X.K H') = ps
  | _, [], .nil => rfl
  | _, p :: ps, .cons a t => by rw [List.map_cons, key_of I ex a, keys_of I ex t]
theorem dpa_keys {K : PySem.W.Frag} {H : Hp} : ∀ {ys : List V}, (∀ y ∈ ys, Dp K H y (rD (keyV K H y))) → DpAll K H ys ((ys.map (keyV K H)).map rD)
  | [], _ => .nil
  | y :: ys, h => .cons (h y List.mem_cons_self) (dpa_keys fun z hz => h z (List.mem_cons_of_mem _ hz))
theorem call_sortC {X : Cx} : CallR X (.builtin "sorted") (rSortC X.K) := by
  intro pins s σ H vs us Q I r h
  obtain ⟨a, xs, ps, H', rfl, ex, hs, hx, q⟩ := h
  obtain ⟨its, rv, hl, hz⟩ := I.list (ex_l ex hs)
  obtain ⟨u, rfl, ru⟩ := vals1 r
  obtain rfl : u = Value.ref a := ru
  have back : ∀ x ∈ xs, Dp X.K H' x (rD (keyV X.K H' x)) := fun x hx2 => by
    obtain ⟨p, _, hp⟩ := dpa_pick hx x hx2
    rw [key_of I ex hp]; exact hp
  obtain ⟨e1, e2⟩ := refs_back rv fun x m => by
    obtain ⟨p, _, hp⟩ := dpa_pick hx x m
    obtain ⟨t, zs, e, _, _⟩ := dp_tup hp
    exact ⟨t, e⟩
  have hps := keys_of I ex hx
  generalize hk : keyV X.K H' = kf at *
  refine SrtO.sorted_pairsO (k := fun u => kf (backV u)) hl.isList (by rw [← rv.length]; exact hz) (fun v hv => ?_) fun h' d out h1 h2 kp hd hn => ?_
  · obtain ⟨t, rfl⟩ := e2 v hv
    have hm : V.ref t ∈ xs := by rw [e1]; exact List.mem_map.mpr ⟨_, hv, rfl⟩
    exact pair_of I ex (back _ hm)
  · have h3 : ∀ u ∈ out, ∃ a, u = Value.ref a := fun u hu => e2 u (h2.perm.mem_iff.mp hu)
    obtain ⟨n, hn⟩ := hn
    have hperm : (out.map backV).Perm xs := by
      rw [e1]
      exact h2.perm.map backV
    have hys : DpAll X.K H' (out.map backV) (((out.map backV).map kf).map rD) := by
      rw [← hk]
      rw [← hk] at back
      exact dpa_keys fun y hy => back y (hperm.mem_iff.mp hy)
    have hp2 : ((out.map backV).map kf).Perm ps := by
      rw [← hps]
      exact hperm.map _
    have hs2 : ((out.map backV).map kf).Pairwise (fun x y => SrtO.lexB y x = false) := by
      rw [List.map_map]
      exact SrtO.srtd_map (lt := SrtO.lexB) (f := kf ∘ backV) h1
    have hz2 : (out.map backV).length ≤ sizeLine := by
      rw [hperm.length_eq]
      exact hz
    exact ⟨.ref d, upd H d (.lst (out.map backV)), I.laid (t' := s.toks) kp hd ⟨hz2, out, n, vals_back h3, hn⟩, rfl, q _ _ d hys hp2 hs2 (I.hok.fresh hd)⟩
/-- sorted(e), e a list of couples of ints -/
theorem px_sorted {p : Pos} {ps : List DL.Q} (hm : X.mg "sorted" = none) (ha : PD X Δ e (dat X.K (.list (ps.map rD)))) (hg : Gl X "sorted" := by rfl) (he : starEach [e] X.env = (false, eval e X.env) :: starEach [] X.env := by rfl) (hpl : (backTo pos (starEach [] X.env)).any (·.1) = false := by rfl) :
    PX X Δ (.Call (.Name "sorted" p) [e] [] pos) (fun t => ∃ qs : List DL.Q, t = dat X.K (.list (qs.map rD)) ∧ qs.Perm ps ∧ qs.Pairwise (fun x y => SrtO.lexB y x = false)) := by
  obtain ⟨t, pa, fa⟩ := pl_cons ha pl_nil he
  refine ⟨_, pe_callB call_sortC hg hm (by decide +kernel) pa (by decide) (by decide) he hpl, fun S0 M0 H0 σ H S hA Q q => ?_⟩
  refine fa S0 M0 H0 σ H S hA _ fun ths vs H1 hB e1 r => ?_
  subst hB
  obtain ⟨v, rfl, r0⟩ := all1 r
  obtain ⟨a, xs, rfl, hq, hd⟩ := dp_lst r0
  refine ⟨a, xs, ps, hide S H1, rfl, hide_le, hq, hd, fun ys qs p hys hp hs hp0 => q _ _ _ ⟨qs, rfl, hp, hs⟩ (e1.trans (Ex.new hp0)) (Dp.lst (SqL.of ?_) (dpa_up (hide_ex (Ex.new hp0)) hys))⟩
  rw [hide_out ((hA.up e1).dom.new hp0)]
  exact upd_same
end
end DL
set_option Elab.async false
set_option linter.all false
/-! Rows of points that turn left everywhere; the two chains of a sorted row. -/
namespace HU
abbrev P := Int × Int
/-- twice the area: above 0 where a, b, c turn left -/
def cr (a b c : P) : Int := (b.1 - a.1) * (c.2 - a.2) - (b.2 - a.2) * (c.1 - a.1)
theorem cr_rot (a b c : P) : cr b c a = cr a b c := by unfold cr; grind
theorem cr_same1 (a c : P) : cr a a c = 0 := by unfold cr; grind
theorem cr_same2 (a b : P) : cr a b b = 0 := by unfold cr; grind
theorem cr_same3 (a b : P) : cr a b a = 0 := by unfold cr; grind
theorem id1 (a b c d : P) : cr a b d * (c.1 - b.1) = cr a b c * (d.1 - b.1) + cr b c d * (b.1 - a.1) := by unfold cr; grind
theorem id2 (a b c d : P) : cr a c d * (c.1 - b.1) = cr b c d * (c.1 - a.1) + cr a b c * (d.1 - c.1) := by unfold cr; grind
theorem id3 (e a b z : P) : cr a b z * (a.1 - e.1) = cr e a b * (a.1 - z.1) + cr e a z * (b.1 - a.1) := by unfold cr; grind
/-- about t: the vectors to a, p, q -/
theorem id4 (a t p q : P) : cr t p q * (t.1 - a.1) = cr a t p * (t.1 - q.1) + cr a t q * (p.1 - t.1) := by unfold cr; grind
theorem id5 (t c p q : P) : cr t p q * (c.1 - t.1) = cr t c q * (p.1 - t.1) - cr t c p * (q.1 - t.1) := by unfold cr; grind
/-- the products of four directions about a -/
theorem plu (a u v w x : P) : cr a u w * cr a v x = cr a u v * cr a w x + cr a u x * cr a v w := by unfold cr; grind
theorem pos_of {x y : Int} (h : 0 < x * y) (hy : 0 < y) : 0 < x := by
  rcases Int.lt_or_le 0 x with h1 | h1
  · exact h1
  · have := Int.mul_nonneg (show 0 ≤ -x by omega) (show 0 ≤ y by omega)
    rw [Int.neg_mul] at this
    omega
theorem nn_of {x y : Int} (h : 0 ≤ x * y) (hy : 0 < y) : 0 ≤ x := by
  rcases Int.lt_or_le x 0 with h1 | h1
  · have := Int.mul_pos (show 0 < -x by omega) hy
    rw [Int.neg_mul] at this
    omega
  · exact h1
theorem mul_pos' {x y : Int} (h : 0 < x) (g : 0 < y) : 0 < x * y := Int.mul_pos h g
theorem mul_nn {x y : Int} (h : 0 ≤ x) (g : 0 ≤ y) : 0 ≤ x * y := Int.mul_nonneg h g
/-- left, left again: left over both -/
theorem left1 {a b c d : P} (h1 : a.1 < b.1) (h2 : b.1 < c.1) (h3 : b.1 < d.1) (g : 0 < cr a b c) (k : 0 ≤ cr b c d) : 0 < cr a b d := by
  refine pos_of (y := c.1 - b.1) ?_ (by omega)
  rw [id1]
  have := mul_pos' g (show 0 < d.1 - b.1 by omega)
  have := mul_nn k (show 0 ≤ b.1 - a.1 by omega)
  omega
theorem left2 {a b c d : P} (h1 : a.1 < b.1) (h2 : b.1 < c.1) (h3 : c.1 < d.1) (g : 0 ≤ cr a b c) (k : 0 < cr b c d) : 0 < cr a c d := by
  refine pos_of (y := c.1 - b.1) ?_ (by omega)
  rw [id2]
  have := mul_pos' k (show 0 < c.1 - a.1 by omega)
  have := mul_nn g (show 0 ≤ d.1 - c.1 by omega)
  omega
/-! ### a chain: the last point first -/
/-- every three of them turn left -/
def Tri : List P → Prop
  | [] => True
  | c :: st => st.Pairwise (fun b a => 0 < cr a b c) ∧ Tri st
/-- the neighbours -/
def Adj : List P → List (P × P)
  | b :: a :: r => (a, b) :: Adj (a :: r)
  | _ => []
def popTo (p : P) : List P → List P
  | b :: a :: r => if cr a b p ≤ 0 then popTo p (a :: r) else b :: a :: r
  | st => st
def chain (l : List P) : List P := l.foldl (fun st p => p :: popTo p st) []
/-- the chain st of the points done -/
structure Ch (done st : List P) : Prop where
  dec : st.Pairwise (fun b a => a.1 < b.1)
  tri : Tri st
  sup : ∀ e ∈ Adj st, ∀ q ∈ done, 0 ≤ cr e.1 e.2 q
  sub : ∀ q ∈ st, q ∈ done
  inj : ∀ q ∈ done, ∀ r ∈ done, q.1 = r.1 → q = r
theorem adj_mem : ∀ {st : List P} {e : P × P}, e ∈ Adj st → e.1 ∈ st ∧ e.2 ∈ st
  | [], _, h => by cases h
  | [_], _, h => by cases h
  | b :: a :: r, e, h => by
    rcases List.mem_cons.mp h with h | h
    · subst h; exact ⟨List.mem_cons_of_mem _ (List.mem_cons_self ..), List.mem_cons_self ..⟩
    · have := adj_mem (st := a :: r) h
      exact ⟨List.mem_cons_of_mem _ this.1, List.mem_cons_of_mem _ this.2⟩
theorem Ch.tail {done : List P} {b : P} {st : List P} (h : Ch done (b :: st)) : Ch done st :=
  ⟨(List.pairwise_cons.mp h.dec).2, h.tri.2, fun e he => h.sup e (by
    cases st with
    | nil => cases he
    | cons a r => exact List.mem_cons_of_mem _ he), fun q hq => h.sub q (List.mem_cons_of_mem _ hq), h.inj⟩
/-- what stands below the new point turns left to it -/
theorem tri_new {done : List P} {p b a : P} {r : List P} (h : Ch done (b :: a :: r)) (hp : b.1 < p.1) (g : 0 < cr a b p) : (b :: a :: r).Pairwise (fun y x => 0 < cr x y p) := by
  have hd := List.pairwise_cons.mp h.dec
  have hab : a.1 < b.1 := hd.1 a (List.mem_cons_self ..)
  have hd2 := List.pairwise_cons.mp hd.2
  have ht := h.tri.1
  have ht2 := List.pairwise_cons.mp ht
  -- with a on top of r: all turn left to p
  have key : ∀ x ∈ r, 0 < cr x a p ∧ 0 < cr x b p := fun x hx => by
    have hxa := hd2.1 x hx
    have t := ht2.1 x hx
    exact ⟨left1 hxa hab (by omega) t (by omega), left2 hxa hab hp (by omega) g⟩
  have low : ∀ (c : P) (s : List P), Tri (c :: s) → (c :: s).Pairwise (fun b a => a.1 < b.1) → c.1 < p.1 → (∀ x ∈ s, 0 < cr x c p) → s.Pairwise (fun y x => 0 < cr x y p) := by
    intro c s
    induction s generalizing c with
    | nil => intro _ _ _ _; exact .nil
    | cons y s ih =>
      intro t d hc hk
      have d1 := List.pairwise_cons.mp d
      have d2 := List.pairwise_cons.mp d1.2
      have t1 := List.pairwise_cons.mp t.1
      have hyc := d1.1 y (List.mem_cons_self ..)
      have kk : ∀ x ∈ s, 0 < cr x y p := fun x hx => left1 (d2.1 x hx) hyc (by omega) (t1.1 x hx) (by have := hk y (List.mem_cons_self ..); omega)
      exact List.pairwise_cons.mpr ⟨kk, ih y t.2 d1.2 (by omega) kk⟩
  refine List.pairwise_cons.mpr ⟨fun x hx => ?_, List.pairwise_cons.mpr ⟨fun x hx => (key x hx).1, ?_⟩⟩
  · rcases List.mem_cons.mp hx with e | e
    · rw [e]; exact g
    · exact (key x e).2
  · exact low a r h.tri.2 hd.2 (by omega) fun x hx => (key x hx).1
/-- popping: what is left, and how the new point sees the points done -/
theorem pop_ok {done : List P} {p : P} : ∀ {st : List P}, Ch done st → st ≠ [] → (∀ q ∈ done, q.1 < p.1) →
    -- what has been popped so far lies on the left of the side to p
    (∀ t r, st = t :: r → ∀ q ∈ done, t.1 ≤ q.1 → 0 ≤ cr t p q) → (∀ q ∈ done, ∃ x, st.getLast? = some x ∧ x.1 ≤ q.1) →
    Ch done (popTo p st) ∧ ∃ t r, popTo p st = t :: r ∧ (t :: r).Pairwise (fun y x => 0 < cr x y p) ∧ (∀ q ∈ done, 0 ≤ cr t p q) ∧ (popTo p st).getLast? = st.getLast?
  | [], _, ne, _, _, _ => absurd rfl ne
  | [t], h, _, hp, hq, hb => by
    refine ⟨h, t, [], rfl, .cons (fun _ z => by cases z) .nil, fun q hqd => ?_, rfl⟩
    obtain ⟨x, hx, hle⟩ := hb q hqd
    have e : t = x := Option.some.inj hx
    exact hq t [] rfl q hqd (by rw [e]; exact hle)
  | b :: a :: r, h, _, hp, hq, hb => by
    have hd := List.pairwise_cons.mp h.dec
    have hab : a.1 < b.1 := hd.1 a (List.mem_cons_self ..)
    have ma : a ∈ done := h.sub a (List.mem_cons_of_mem _ (List.mem_cons_self ..))
    have mb : b ∈ done := h.sub b (List.mem_cons_self ..)
    have hap := hp a ma
    have hbp := hp b mb
    have sab : ∀ q ∈ done, 0 ≤ cr a b q := h.sup (a, b) (List.mem_cons_self ..)
    by_cases hc : cr a b p ≤ 0
    · have e : popTo p (b :: a :: r) = popTo p (a :: r) := if_pos hc
      rw [e]
      have res := pop_ok (st := a :: r) h.tail (by simp) hp (fun t r' et q hqd hle => by
        injection et with e1 e2
        subst e1
        refine nn_of (y := b.1 - a.1) ?_ (by omega)
        rw [id5]
        have := mul_nn (sab q hqd) (show 0 ≤ p.1 - a.1 by omega)
        have := mul_nn (show 0 ≤ -cr a b p by omega) (show 0 ≤ q.1 - a.1 by omega)
        rw [Int.neg_mul] at this
        omega) (fun q hqd => by
          obtain ⟨x, hx, hle⟩ := hb q hqd
          exact ⟨x, by rw [← hx]; simp [List.getLast?_cons_cons], hle⟩)
      obtain ⟨c1, t, r', c2, c3, c4, c5⟩ := res
      exact ⟨c1, t, r', c2, c3, c4, by rw [c5]; simp [List.getLast?_cons_cons]⟩
    · have e : popTo p (b :: a :: r) = b :: a :: r := if_neg hc
      rw [e]
      refine ⟨h, b, a :: r, rfl, tri_new h hbp (by omega), fun q hqd => ?_, rfl⟩
      by_cases hle : b.1 ≤ q.1
      · exact hq b _ rfl q hqd hle
      · refine nn_of (y := b.1 - a.1) ?_ (by omega)
        rw [id4]
        have := mul_nn (show 0 ≤ cr a b p by omega) (show 0 ≤ b.1 - q.1 by omega)
        have := mul_nn (sab q hqd) (show 0 ≤ p.1 - b.1 by omega)
        omega
theorem adj_cons {p t : P} {r : List P} : Adj (p :: t :: r) = (t, p) :: Adj (t :: r) := rfl
/-- one point more -/
theorem ch_step {done st : List P} {p : P} (h : Ch done st) (hp : ∀ q ∈ done, q.1 < p.1) (hne : st ≠ []) (ht : ∀ q ∈ done, ∃ x r, st = x :: r ∧ q.1 ≤ x.1) (hb : ∀ q ∈ done, ∃ x, st.getLast? = some x ∧ x.1 ≤ q.1) :
    Ch (done ++ [p]) (p :: popTo p st) ∧ (p :: popTo p st).getLast? = st.getLast? := by
  obtain ⟨c1, t, r, c2, c3, c4, c5⟩ := pop_ok (p := p) h hne hp (fun t r et q hqd hle => by
    obtain ⟨x, r', ex, hx⟩ := ht q hqd
    rw [et] at ex
    injection ex with e1 _
    subst e1
    have mt : t ∈ done := h.sub t (by rw [et]; exact List.mem_cons_self ..)
    have e := h.inj q hqd t mt (by omega)
    rw [e, cr_same3]
    exact Int.le_refl _) hb
  rw [c2] at c1 c5 ⊢
  refine ⟨⟨List.pairwise_cons.mpr ⟨fun x hx => hp x (c1.sub x hx), c1.dec⟩, ⟨c3, c1.tri⟩, fun e he q hq => ?_, fun q hq => ?_, fun q hq s hs e => ?_⟩, ?_⟩
  · rw [adj_cons] at he
    rcases List.mem_append.mp hq with hq | hq
    · rcases List.mem_cons.mp he with z | z
      · subst z; exact c4 q hq
      · exact c1.sup e z q hq
    · rw [List.mem_singleton.mp hq]
      rcases List.mem_cons.mp he with z | z
      · subst z; rw [cr_same2]; exact Int.le_refl _
      · -- an old side: the new point is on its left
        have key : ∀ {s : List P}, s.Pairwise (fun y x => 0 < cr x y p) → e ∈ Adj s → 0 < cr e.1 e.2 p := by
          intro s
          induction s with
          | nil => intro _ z; cases z
          | cons b s ih =>
            intro hs z
            cases s with
            | nil => cases z
            | cons a s =>
              rcases List.mem_cons.mp z with z | z
              · subst z; exact (List.pairwise_cons.mp hs).1 a (List.mem_cons_self ..)
              · exact ih (List.pairwise_cons.mp hs).2 z
        have := key c3 z
        omega
  · rcases List.mem_cons.mp hq with z | z
    · rw [z]; exact List.mem_append_right _ (List.mem_cons_self ..)
    · exact List.mem_append_left _ (c1.sub q z)
  · rcases List.mem_append.mp hq with z | z <;> rcases List.mem_append.mp hs with y | y
    · exact h.inj q z s y e
    · rw [List.mem_singleton.mp y] at e ⊢
      have := hp q z
      omega
    · rw [List.mem_singleton.mp z] at e ⊢
      have := hp s y
      omega
    · rw [List.mem_singleton.mp z, List.mem_singleton.mp y]
  · rw [← c5]; simp [List.getLast?_cons_cons]
/-- the chain of a row whose first numbers go up -/
theorem chain_snoc (l : List P) (p : P) : chain (l ++ [p]) = p :: popTo p (chain l) := by unfold chain; rw [List.foldl_append]; rfl
theorem chain_ok : ∀ (k : Nat) (l : List P), l.length = k → l.Pairwise (fun a b => a.1 < b.1) → Ch l (chain l) ∧ (chain l).head? = l.getLast? ∧ (chain l).getLast? = l.head?
  | 0, l, hk, _ => by
    have e : l = [] := List.length_eq_zero_iff.mp hk
    subst e
    exact ⟨⟨.nil, trivial, (fun e he => by cases he), (fun q hq => by cases hq), (fun q hq => by cases hq)⟩, rfl, rfl⟩
  | k + 1, l, hk, hl => by
    obtain ⟨l', p, rfl⟩ : ∃ l' p, l = l' ++ [p] := by
      have hne : l ≠ [] := fun z => by rw [z] at hk; cases hk
      exact ⟨l.dropLast, l.getLast hne, (List.dropLast_concat_getLast hne).symm⟩
    have hk' : l'.length = k := by rw [List.length_append] at hk; simpa using hk
    obtain ⟨hl1, _, hl3⟩ := List.pairwise_append.mp hl
    obtain ⟨c, e1, e2⟩ := chain_ok k l' hk' hl1
    have hp : ∀ q ∈ l', q.1 < p.1 := fun q hq => hl3 q hq p (List.mem_cons_self ..)
    rw [chain_snoc]
    by_cases hn : l' = []
    · subst hn
      refine ⟨⟨.cons (fun _ z => by cases z) .nil, ⟨.nil, trivial⟩, fun e he => (by cases he), fun q hq => hq, fun q hq s hs _ => ?_⟩, rfl, rfl⟩
      rw [List.mem_singleton.mp hq, List.mem_singleton.mp hs]
    · have hne : chain l' ≠ [] := fun z => by
        rw [z] at e1
        exact hn (List.getLast?_eq_none_iff.mp e1.symm)
      have ht : ∀ q ∈ l', ∃ x r, chain l' = x :: r ∧ q.1 ≤ x.1 := fun q hq => by
        cases hc : chain l' with
        | nil => exact absurd hc hne
        | cons x r =>
          refine ⟨x, r, rfl, ?_⟩
          rw [hc] at e1
          have e3 : some x = l'.getLast? := e1
          obtain ⟨l2, hl2⟩ := List.getLast?_eq_some_iff.mp e3.symm
          rw [hl2] at hq hl1
          rcases List.mem_append.mp hq with z | z
          · exact Int.le_of_lt ((List.pairwise_append.mp hl1).2.2 q z x (List.mem_cons_self ..))
          · rw [List.mem_singleton.mp z]; exact Int.le_refl _
      have hb : ∀ q ∈ l', ∃ x, (chain l').getLast? = some x ∧ x.1 ≤ q.1 := fun q hq => by
        cases hl' : l' with
        | nil => exact absurd hl' hn
        | cons x r =>
          rw [hl'] at e2 hq hl1
          refine ⟨x, by rw [hl'] at *; exact e2, ?_⟩
          rcases List.mem_cons.mp hq with z | z
          · rw [z]; exact Int.le_refl _
          · exact Int.le_of_lt ((List.pairwise_cons.mp hl1).1 q z)
      obtain ⟨c1, c2⟩ := ch_step c hp hne ht hb
      refine ⟨c1, by simp, by rw [c2, e2]; cases l' with
        | nil => exact absurd rfl hn
        | cons _ _ => rfl⟩
end HU
set_option Elab.async false
set_option linter.all false
/-! Both chains together: every three points of the row turn left. -/
namespace HU
def ng (p : P) : P := (-p.1, -p.2)
theorem ng_ng (p : P) : ng (ng p) = p := by unfold ng; simp
theorem cr_ng (a b c : P) : cr (ng a) (ng b) (ng c) = cr a b c := by unfold cr ng; grind
theorem map_ng (l : List P) : (l.map ng).map ng = l := by rw [List.map_map, show ng ∘ ng = id from funext ng_ng, List.map_id]
theorem mem_ng {l : List P} {q : P} (h : ng q ∈ l.map ng) : q ∈ l := by
  obtain ⟨r, hr, e⟩ := List.mem_map.mp h
  have e2 := congrArg ng e
  rw [ng_ng, ng_ng] at e2
  rw [← e2]; exact hr
theorem adj_ng : ∀ {st : List P} {e : P × P}, e ∈ Adj st → (ng e.1, ng e.2) ∈ Adj (st.map ng)
  | [], _, h => by cases h
  | [_], _, h => by cases h
  | b :: a :: r, e, h => by
    rcases List.mem_cons.mp h with h | h
    · subst h; exact List.mem_cons_self ..
    · exact List.mem_cons_of_mem _ (adj_ng (st := a :: r) h)
theorem pop_ng (p : P) : ∀ st : List P, popTo (ng p) (st.map ng) = (popTo p st).map ng
  | [] => rfl
  | [_] => rfl
  | b :: a :: r => by
    show (if cr (ng a) (ng b) (ng p) ≤ 0 then popTo (ng p) ((a :: r).map ng) else (b :: a :: r).map ng) = _
    rw [cr_ng, pop_ng p (a :: r)]
    show _ = (if cr a b p ≤ 0 then popTo p (a :: r) else b :: a :: r).map ng
    split <;> rfl
theorem chain_ng (l : List P) : chain (l.map ng) = (chain l).map ng := by
  have key : ∀ (l st : List P), (l.map ng).foldl (fun st p => p :: popTo p st) (st.map ng) = (l.foldl (fun st p => p :: popTo p st) st).map ng := by
    intro l
    induction l with
    | nil => intro st; rfl
    | cons p l ih =>
      intro st
      rw [List.map_cons, List.foldl_cons, List.foldl_cons, pop_ng]
      exact ih (p :: popTo p st)
  exact key l []
/-! neighbours -/
theorem tri_adj {st : List P} {c : P} : ∀ {s : List P}, s.Pairwise (fun b a => 0 < cr a b c) → ∀ e ∈ Adj s, 0 < cr e.1 e.2 c
  | [], _, _, h => by cases h
  | [_], _, _, h => by cases h
  | b :: a :: r, hs, e, h => by
    have h1 := List.pairwise_cons.mp hs
    rcases List.mem_cons.mp h with h | h
    · subst h; exact h1.1 a (List.mem_cons_self ..)
    · exact tri_adj (st := st) h1.2 e h
theorem tri_strict : ∀ {st : List P}, Tri st → ∀ e ∈ Adj st, ∀ q ∈ st, q ≠ e.1 → q ≠ e.2 → 0 < cr e.1 e.2 q
  | [], _, _, h, _, _, _, _ => by cases h
  | [_], _, _, h, _, _, _, _ => by cases h
  | c :: a :: r, ht, e, h, q, hq, h1, h2 => by
    rcases List.mem_cons.mp h with h0 | h0
    · subst h0
      have hp := List.pairwise_cons.mp ht.1
      rcases List.mem_cons.mp hq with z | z
      · exact absurd z h2
      · rcases List.mem_cons.mp z with z | z
        · exact absurd z h1
        · have := hp.1 q z
          rw [← cr_rot] at this
          exact this
    · rcases List.mem_cons.mp hq with z | z
      · subst z; exact tri_adj (st := []) ht.1 e h0
      · exact tri_strict ht.2 e h0 q z h1 h2
theorem next_of : ∀ {st : List P}, Tri st → ∀ e ∈ Adj st, some e.2 ≠ st.head? → ∃ c, (e.2, c) ∈ Adj st ∧ 0 < cr e.1 e.2 c
  | [], _, _, h, _ => by cases h
  | [_], _, _, h, _ => by cases h
  | c :: a :: r, ht, e, h, hn => by
    rcases List.mem_cons.mp h with h | h
    · subst h; exact absurd rfl hn
    · by_cases z : some e.2 = (a :: r).head?
      · have e2 : e.2 = a := Option.some.inj z
        refine ⟨c, by rw [e2]; exact List.mem_cons_self .., tri_adj (st := []) ht.1 e h⟩
      · obtain ⟨x, h1, h2⟩ := next_of ht.2 e h z
        exact ⟨x, List.mem_cons_of_mem _ h1, h2⟩
theorem prev_of : ∀ {st : List P}, Tri st → ∀ e ∈ Adj st, some e.1 ≠ st.getLast? → ∃ c, (c, e.1) ∈ Adj st ∧ 0 < cr c e.1 e.2
  | [], _, _, h, _ => by cases h
  | [_], _, _, h, _ => by cases h
  | [b, a], _, e, h, hn => by
    rcases List.mem_cons.mp h with h | h
    · subst h; exact absurd rfl hn
    · cases h
  | b :: a :: c :: r, ht, e, h, hn => by
    rcases List.mem_cons.mp h with h | h
    · subst h
      exact ⟨c, List.mem_cons_of_mem _ (List.mem_cons_self ..), (List.pairwise_cons.mp ht.1).1 c (List.mem_cons_self ..)⟩
    · obtain ⟨x, h1, h2⟩ := prev_of ht.2 e h (by simpa [List.getLast?_cons_cons] using hn)
      exact ⟨x, List.mem_cons_of_mem _ h1, h2⟩
theorem mid_of : ∀ {st : List P}, Tri st → ∀ z ∈ st, some z ≠ st.head? → some z ≠ st.getLast? → ∃ p r, (p, z) ∈ Adj st ∧ (z, r) ∈ Adj st ∧ 0 < cr p z r
  | [], _, _, h, _, _ => by cases h
  | [b], _, z, h, hn, _ => absurd (by rw [List.mem_singleton.mp h]; rfl) hn
  | b :: a :: r, ht, z, h, hn, hl => by
    rcases List.mem_cons.mp h with h | h
    · subst h; exact absurd rfl hn
    · by_cases e : some z = (a :: r).head?
      · have e2 : z = a := Option.some.inj e
        subst e2
        cases r with
        | nil => exact absurd rfl hl
        | cons c r => exact ⟨c, b, List.mem_cons_of_mem _ (List.mem_cons_self ..), List.mem_cons_self .., (List.pairwise_cons.mp ht.1).1 c (List.mem_cons_self ..)⟩
      · obtain ⟨p, r', h1, h2, h3⟩ := mid_of ht.2 z h e (by simpa [List.getLast?_cons_cons] using hl)
        exact ⟨p, r', List.mem_cons_of_mem _ h1, List.mem_cons_of_mem _ h2, h3⟩
theorem adj_lt : ∀ {st : List P}, st.Pairwise (fun b a => a.1 < b.1) → ∀ e ∈ Adj st, e.1.1 < e.2.1
  | [], _, _, h => by cases h
  | [_], _, _, h => by cases h
  | b :: a :: r, hs, e, h => by
    have h1 := List.pairwise_cons.mp hs
    rcases List.mem_cons.mp h with h | h
    · subst h; exact h1.1 a (List.mem_cons_self ..)
    · exact adj_lt h1.2 e h
theorem head_max {st : List P} (hd : st.Pairwise (fun b a => a.1 < b.1)) {x q : P} (hx : st.head? = some x) (hq : q ∈ st) : q.1 ≤ x.1 := by
  cases st with
  | nil => cases hq
  | cons b r =>
    have e : b = x := Option.some.inj hx
    subst e
    rcases List.mem_cons.mp hq with z | z
    · rw [z]; exact Int.le_refl _
    · exact Int.le_of_lt ((List.pairwise_cons.mp hd).1 q z)
theorem last_min : ∀ {st : List P}, st.Pairwise (fun b a => a.1 < b.1) → ∀ {x q : P}, st.getLast? = some x → q ∈ st → x.1 ≤ q.1
  | [], _, _, _, _, h => by cases h
  | [b], _, x, q, hx, hq => by
    have e : b = x := Option.some.inj hx
    rw [List.mem_singleton.mp hq, e]; exact Int.le_refl _
  | b :: a :: r, hd, x, q, hx, hq => by
    have h1 := List.pairwise_cons.mp hd
    have hx' : (a :: r).getLast? = some x := by simpa [List.getLast?_cons_cons] using hx
    rcases List.mem_cons.mp hq with z | z
    · have m := last_min h1.2 hx' (List.mem_cons_self ..)
      have := h1.1 a (List.mem_cons_self ..)
      rw [z]; omega
    · exact last_min h1.2 hx' z
/-- the two chains of one row of points -/
structure Two (l L U : List P) : Prop where
  lo : Ch l L
  up : Ch (l.map ng) (U.map ng)
  e1 : L.head? = U.getLast?
  e2 : L.getLast? = U.head?
  all : ∀ q ∈ l, ∃ x y, L.head? = some x ∧ L.getLast? = some y ∧ q.1 ≤ x.1 ∧ y.1 ≤ q.1
theorem Two.swap {l L U : List P} (h : Two l L U) : Two (l.map ng) (U.map ng) (L.map ng) where
  lo := h.up
  up := by rw [map_ng, map_ng]; exact h.lo
  e1 := by rw [List.head?_map, List.getLast?_map, h.e2]
  e2 := by rw [List.head?_map, List.getLast?_map, h.e1]
  all := fun q hq => by
    obtain ⟨r, hr, e⟩ := List.mem_map.mp hq
    subst e
    obtain ⟨x, y, h1, h2, h3, h4⟩ := h.all r hr
    refine ⟨ng y, ng x, by rw [List.head?_map, ← h.e2, h2]; rfl, by rw [List.getLast?_map, ← h.e1, h1]; rfl, ?_, ?_⟩
    · show -r.1 ≤ -y.1; omega
    · show -x.1 ≤ -r.1; omega
/-- a side of the lower chain has the upper chain's inner points on its left -/
theorem Two.strict {l L U : List P} (h : Two l L U) {e : P × P} (he : e ∈ Adj L) {z : P} (hz : z ∈ U) (h1 : some z ≠ U.head?) (h2 : some z ≠ U.getLast?) (n1 : z ≠ e.1) (n2 : z ≠ e.2) : 0 < cr e.1 e.2 z := by
  obtain ⟨a, b⟩ := e
  have hzl : z ∈ l := mem_ng (h.up.sub (ng z) (List.mem_map_of_mem hz))
  have hab : a.1 < b.1 := adj_lt h.lo.dec _ he
  have ma := h.lo.sub a (adj_mem he).1
  have mb := h.lo.sub b (adj_mem he).2
  obtain ⟨x, y, hx, hy, zx, yz⟩ := h.all z hzl
  by_cases c1 : b.1 < z.1
  · obtain ⟨c, hc, g⟩ := next_of h.lo.tri _ he (fun q => by
      rw [hx] at q
      have e : b = x := Option.some.inj q
      subst e; omega)
    exact left1 hab (adj_lt h.lo.dec _ hc) c1 g (h.lo.sup _ hc z hzl)
  · by_cases c2 : z.1 < a.1
    · obtain ⟨c, hc, g⟩ := prev_of h.lo.tri _ he (fun q => by
        rw [hy] at q
        have e : a = y := Option.some.inj q
        subst e; omega)
      have hca := adj_lt h.lo.dec _ hc
      refine pos_of (y := a.1 - c.1) ?_ (by have : c.1 < a.1 := hca; omega)
      rw [id3 c a b z]
      have g' : 0 < cr c a b := g
      have s1 : 0 ≤ cr c a z := h.lo.sup _ hc z hzl
      have := mul_pos' g' (show 0 < a.1 - z.1 by omega)
      have := mul_nn s1 (show 0 ≤ b.1 - a.1 by omega)
      omega
    · -- between them: then it can't stand on the side, for the upper chain turns there
      have na : a.1 ≠ z.1 := fun q => n1 (h.lo.inj z hzl a ma q.symm)
      have nb : b.1 ≠ z.1 := fun q => n2 (h.lo.inj z hzl b mb q.symm)
      have s0 := h.lo.sup _ he z hzl
      rcases Int.lt_or_le 0 (cr a b z) with g | g
      · exact g
      · have g0 : cr a b z = 0 := by have : 0 ≤ cr a b z := s0; omega
        have tU : Tri U := by
          have key : ∀ {s : List P}, Tri (s.map ng) → Tri s := by
            intro s
            induction s with
            | nil => intro _; trivial
            | cons c s ih =>
              intro t
              refine ⟨?_, ih t.2⟩
              have t1 := t.1
              rw [List.pairwise_map] at t1
              exact t1.imp fun {x y} q => by rw [cr_ng] at q; exact q
          exact key h.up.tri
        obtain ⟨p, r, hp, hr, gp⟩ := mid_of tU z hz h1 h2
        have hpm := mem_ng (h.up.sub (ng p) (List.mem_map_of_mem (adj_mem hp).1))
        have hrm := mem_ng (h.up.sub (ng r) (List.mem_map_of_mem (adj_mem hr).2))
        have up1 : ∀ {e : P × P}, e ∈ Adj U → ∀ q ∈ l, 0 ≤ cr e.1 e.2 q := fun {e} he q hq => by
          have := h.up.sup _ (adj_ng he) (ng q) (List.mem_map_of_mem hq)
          rw [cr_ng] at this
          exact this
        have pa : 0 ≤ cr p z a := up1 hp a ma
        have rb : 0 ≤ cr z r b := up1 hr b mb
        have lp : 0 ≤ cr a b p := h.lo.sup _ he p hpm
        have lr : 0 ≤ cr a b r := h.lo.sup _ he r hrm
        -- the side to b and that to a go opposite ways from z
        have B1 : 0 < b.1 - z.1 := by omega
        have A1 : 0 < z.1 - a.1 := by omega
        -- cross (p - z) (b - z) and cross (r - z) (b - z) are 0
        have k1 : cr p z a * (b.1 - z.1) = cr z p b * (z.1 - a.1) + cr a b z * (p.1 - z.1) := by unfold cr; grind
        have k2 : cr a b p * (b.1 - z.1) = - (cr z p b * (b.1 - a.1)) - cr a b z * (p.1 - z.1) + cr a b z * (b.1 - z.1) := by unfold cr; grind
        rw [g0] at k1 k2
        have k3 : cr a b r * (b.1 - z.1) = - (cr z r b * (b.1 - a.1)) - cr a b z * (r.1 - z.1) + cr a b z * (b.1 - z.1) := by unfold cr; grind
        rw [g0] at k3
        have zp : 0 ≤ cr z p b := nn_of (y := z.1 - a.1) (by
          have := mul_nn pa (show 0 ≤ b.1 - z.1 by omega)
          rw [k1] at this
          omega) A1
        have zp2 : cr z p b = 0 := by
          rcases Int.lt_or_le 0 (cr z p b) with q | q
          · have m1 := mul_pos' q (show 0 < b.1 - a.1 by omega)
            have m2 := mul_nn lp (show 0 ≤ b.1 - z.1 by omega)
            rw [k2] at m2
            omega
          · omega
        have zr2 : cr z r b = 0 := by
          rcases Int.lt_or_le 0 (cr z r b) with q | q
          · have m1 := mul_pos' q (show 0 < b.1 - a.1 by omega)
            have m2 := mul_nn lr (show 0 ≤ b.1 - z.1 by omega)
            rw [k3] at m2
            omega
          · omega
        have k4 : cr p z r * (b.1 - z.1) = cr z r b * (p.1 - z.1) - cr z p b * (r.1 - z.1) := by unfold cr; grind
        rw [zp2, zr2] at k4
        have := mul_pos' gp B1
        rw [k4] at this
        omega
end HU
set_option Elab.async false
set_option linter.all false
/-! The hull: every three points of it, in order, turn left. -/
namespace HU
/-- every three in order turn left -/
def Cv : List P → Prop
  | [] => True
  | a :: r => r.Pairwise (fun b c => 0 < cr a b c) ∧ Cv r
theorem cv_sub : ∀ {l m : List P}, Cv l → m.Sublist l → Cv m
  | _, [], _, _ => trivial
  | [], _ :: _, _, h => by cases h
  | a :: r, b :: m, hc, h => by
    cases h with
    | cons _ h => exact cv_sub hc.2 h
    | cons_cons _ h => exact ⟨hc.1.sublist h, cv_sub hc.2 h⟩
theorem cv_snoc {a : P} : ∀ {l : List P}, Cv (l ++ [a]) ↔ Cv l ∧ l.Pairwise (fun b c => 0 < cr b c a)
  | [] => ⟨fun _ => ⟨trivial, .nil⟩, fun _ => ⟨.nil, trivial⟩⟩
  | b :: r => by
    show (r ++ [a]).Pairwise (fun x y => 0 < cr b x y) ∧ Cv (r ++ [a]) ↔ (r.Pairwise (fun x y => 0 < cr b x y) ∧ Cv r) ∧ (b :: r).Pairwise (fun x y => 0 < cr x y a)
    rw [cv_snoc, List.pairwise_append]
    constructor
    · rintro ⟨⟨h1, _, h3⟩, h4, h5⟩
      exact ⟨⟨h1, h4⟩, List.pairwise_cons.mpr ⟨fun c hc => h3 c hc a (List.mem_cons_self ..), h5⟩⟩
    · rintro ⟨⟨h1, h4⟩, h35⟩
      obtain ⟨h3, h5⟩ := List.pairwise_cons.mp h35
      exact ⟨⟨h1, List.pairwise_cons.mpr ⟨fun _ z => (by cases z), .nil⟩, fun c hc d hd => by rw [List.mem_singleton.mp hd]; exact h3 c hc⟩, h4, h5⟩
theorem cv_rot {a : P} {r : List P} (h : Cv (a :: r)) : Cv (r ++ [a]) := cv_snoc.mpr ⟨h.2, h.1.imp fun {b c} q => by rw [cr_rot]; exact q⟩
theorem cv_cyc : ∀ (m l : List P), Cv (m ++ l) → Cv (l ++ m)
  | [], l, h => by rw [List.append_nil]; exact h
  | a :: m, l, h => by
    have h1 : Cv ((m ++ l) ++ [a]) := cv_rot h
    rw [List.append_assoc] at h1
    have := cv_cyc m (l ++ [a]) h1
    rw [List.append_assoc] at this
    exact this
theorem tri_cv : ∀ {st : List P}, Tri st → Cv st.reverse
  | [], _ => trivial
  | c :: s, h => by
    rw [List.reverse_cons]
    exact cv_snoc.mpr ⟨tri_cv h.2, List.pairwise_reverse.mpr h.1⟩
/-! from the sides to all threes -/
/-- about c: u stands first, the others turn away from it one after another -/
theorem fan {c u : P} : ∀ {v : P} {t : List P}, (v = u ∨ cr c u v < 0) → (∀ x ∈ t, cr c u x < 0) → (∀ e ∈ Adj (v :: t), cr c e.2 e.1 < 0) → ∀ x ∈ t, cr c v x < 0
  | _, [], _, _, _, x, hx => by cases hx
  | v, w :: t, hv, hu, ha, x, hx => by
    have hvw : cr c v w < 0 := ha (w, v) (List.mem_cons_self ..)
    rcases hv with e | hv
    · rw [e]; exact hu x hx
    · rcases List.mem_cons.mp hx with e | e
      · rw [e]; exact hvw
      · have hw := fan (v := w) (Or.inr (hu w (List.mem_cons_self ..))) (fun y hy => hu y (List.mem_cons_of_mem _ hy)) (fun e he => ha e (List.mem_cons_of_mem _ he)) x e
        have hux := hu x hx
        have huw := hu w (List.mem_cons_self ..)
        have k := plu c u v w x
        have m1 := mul_pos' (show 0 < -cr c u v by omega) (show 0 < -cr c w x by omega)
        have m2 := mul_pos' (show 0 < -cr c u x by omega) (show 0 < -cr c v w by omega)
        rw [Int.neg_mul_neg] at m1 m2
        rcases Int.lt_or_le (cr c v x) 0 with g | g
        · exact g
        · have := mul_nn (show 0 ≤ -cr c u w by omega) g
          rw [Int.neg_mul] at this
          omega
theorem fan_all {c u : P} : ∀ {t : List P}, (∀ x ∈ t, x = u ∨ cr c u x < 0) → (∀ e ∈ Adj t, cr c e.2 e.1 < 0) → (∀ (v : P) (s : List P), t = v :: s → ∀ x ∈ s, cr c u x < 0) → t.Pairwise (fun b a => 0 < cr a b c)
  | [], _, _, _ => .nil
  | v :: s, h1, h2, h3 => by
    have hs := h3 v s rfl
    refine List.pairwise_cons.mpr ⟨fun x hx => ?_, fan_all (fun x hx => Or.inr (hs x hx)) (fun e he => h2 e (by
      cases s with
      | nil => cases he
      | cons _ _ => exact List.mem_cons_of_mem _ he)) (fun v' s' e x hx => hs x (by rw [e]; exact List.mem_cons_of_mem _ hx))⟩
    have := fan (h1 v (List.mem_cons_self ..)) hs h2 x hx
    have e : cr x v c = - cr c v x := by unfold cr; grind
    omega
theorem tri_of : ∀ {st : List P}, st.Nodup → (∀ e ∈ Adj st, ∀ q ∈ st, q ≠ e.1 → q ≠ e.2 → 0 < cr e.1 e.2 q) → Tri st
  | [], _, _ => trivial
  | [c], _, _ => ⟨.nil, trivial⟩
  | c :: u :: s, hn, h => by
    have hn1 := List.nodup_cons.mp hn
    have hn2 := List.nodup_cons.mp hn1.2
    have up : ∀ e ∈ Adj (u :: s), e ∈ Adj (c :: u :: s) := fun e he => List.mem_cons_of_mem _ he
    have ref : ∀ x ∈ s, cr c u x < 0 := fun x hx => by
      have := h (u, c) (List.mem_cons_self ..) x (List.mem_cons_of_mem _ (List.mem_cons_of_mem _ hx)) (fun z => hn2.1 (by have z' : x = u := z; rw [← z']; exact hx)) (fun z => hn1.1 (by have z' : x = c := z; rw [← z']; exact List.mem_cons_of_mem _ hx))
      have e : cr u c x = - cr c u x := by unfold cr; grind
      have this' : 0 < cr u c x := this
      omega
    refine ⟨fan_all (u := u) (fun x hx => ?_) (fun e he => ?_) (fun v s' e x hx => ?_), tri_of hn1.2 fun e he q hq => h e (up e he) q (List.mem_cons_of_mem _ hq)⟩
    · rcases List.mem_cons.mp hx with e | e
      · exact Or.inl e
      · exact Or.inr (ref x e)
    · have hm := adj_mem he
      have := h e (up e he) c (List.mem_cons_self ..) (fun z => hn1.1 (z ▸ hm.1)) (fun z => hn1.1 (z ▸ hm.2))
      have e2 : cr c e.2 e.1 = - cr e.1 e.2 c := by unfold cr; grind
      omega
    · injection e with e1 e2
      rw [e2] at ref
      exact ref x hx
/-! both chains in one row -/
theorem adj_app {s t : List P} : ∀ {e : P × P}, e ∈ Adj (s ++ t) → e ∈ Adj s ∨ e ∈ Adj t ∨ ∃ x y, s.getLast? = some x ∧ t.head? = some y ∧ e = (y, x) := by
  induction s with
  | nil => intro e h; exact Or.inr (Or.inl h)
  | cons a s ih =>
    intro e h
    cases s with
    | nil =>
      cases t with
      | nil => cases h
      | cons b t =>
        rcases List.mem_cons.mp h with h | h
        · exact Or.inr (Or.inr ⟨a, b, rfl, rfl, h⟩)
        · exact Or.inr (Or.inl h)
    | cons b s =>
      rcases List.mem_cons.mp h with h | h
      · exact Or.inl (by rw [h]; exact List.mem_cons_self ..)
      · rcases ih h with h | h | ⟨x, y, h1, h2, h3⟩
        · exact Or.inl (List.mem_cons_of_mem _ h)
        · exact Or.inr (Or.inl h)
        · exact Or.inr (Or.inr ⟨x, y, by simpa [List.getLast?_cons_cons] using h1, h2, h3⟩)
theorem nodup_of_dec {st : List P} (h : st.Pairwise (fun b a => a.1 < b.1)) : st.Nodup := h.imp fun {b a} q z => by rw [z] at q; omega
theorem tri_ng {s : List P} (t : Tri (s.map ng)) : Tri s := by
  induction s with
  | nil => trivial
  | cons c s ih =>
    refine ⟨?_, ih t.2⟩
    have t1 := t.1
    rw [List.pairwise_map] at t1
    exact t1.imp fun {x y} q => by rw [cr_ng] at q; exact q
theorem Two.row {l L U : List P} (h : Two l L U) : Cv ((U.tail ++ L.tail).reverse) := by
  have tU := tri_ng h.up.tri
  have dU : U.Pairwise (fun b a => b.1 < a.1) := by
    have := h.up.dec
    rw [List.pairwise_map] at this
    exact this.imp fun {x y} q => by have : -y.1 < -x.1 := q; omega
  have nU : U.Nodup := dU.imp fun {b a} q z => by rw [z] at q; omega
  have nL := nodup_of_dec h.lo.dec
  have upl : ∀ q ∈ U, q ∈ l := fun q hq => mem_ng (h.up.sub (ng q) (List.mem_map_of_mem hq))
  cases hL : L with
  | nil =>
    have e : U = [] := by
      have := h.e1
      rw [hL] at this
      exact List.getLast?_eq_none_iff.mp this.symm
    rw [e]; exact trivial
  | cons la Lt =>
    cases hU : U with
    | nil =>
      have := h.e1
      rw [hL, hU] at this
      cases this
    | cons fi Ut =>
      have f1 : L.getLast? = some fi := by rw [h.e2, hU]; rfl
      have f2 : U.getLast? = some la := by rw [← h.e1, hL]; rfl
      show Cv ((Ut ++ Lt).reverse)
      have nU' := List.nodup_cons.mp (hU ▸ nU)
      have nL' := List.nodup_cons.mp (hL ▸ nL)
      -- an inner point of both chains can't be
      have dis : ∀ z, z ∈ Ut → z ∈ Lt → False := fun z hu hl => by
        have zU : z ∈ U := by rw [hU]; exact List.mem_cons_of_mem _ hu
        have zL : z ∈ L := by rw [hL]; exact List.mem_cons_of_mem _ hl
        have z1 : some z ≠ U.head? := fun q => nU'.1 (by rw [hU] at q; rw [← Option.some.inj q]; exact hu)
        have z2 : some z ≠ L.head? := fun q => nL'.1 (by rw [hL] at q; rw [← Option.some.inj q]; exact hl)
        have z3 : some z ≠ U.getLast? := by rw [← h.e1]; exact z2
        have z4 : some z ≠ L.getLast? := by rw [h.e2]; exact z1
        obtain ⟨p, r, hp, hr, g⟩ := mid_of tU z zU z1 z3
        obtain ⟨a, b, ha, hb, g2⟩ := mid_of h.lo.tri z zL z2 z4
        have X1 := adj_lt h.lo.dec _ ha
        have X2 := adj_lt h.lo.dec _ hb
        have Y1 := adj_lt h.up.dec _ (adj_ng hp)
        have Y2 := adj_lt h.up.dec _ (adj_ng hr)
        have X1' : a.1 < z.1 := X1
        have X2' : z.1 < b.1 := X2
        have Y1' : z.1 < p.1 := by have : -p.1 < -z.1 := Y1; omega
        have Y2' : r.1 < z.1 := by have : -z.1 < -r.1 := Y2; omega
        have s1 : 0 ≤ cr a z r := h.lo.sup _ ha r (upl r (adj_mem hr).2)
        have s2 : 0 ≤ cr z b p := h.lo.sup _ hb p (upl p (adj_mem hp).1)
        -- p turns left over a, z; then r over it
        have q1 : 0 < cr a z p := left1 X1' X2' Y1' g2 s2
        have k : cr p z r * (z.1 - a.1) = -(cr a z p * (z.1 - r.1)) - cr a z r * (p.1 - z.1) := by unfold cr; grind
        have m1 := mul_pos' g (show 0 < z.1 - a.1 by omega)
        have m2 := mul_pos' q1 (show 0 < z.1 - r.1 by omega)
        have m3 := mul_nn s1 (show 0 ≤ p.1 - z.1 by omega)
        rw [k] at m1
        omega
      refine tri_cv (tri_of (List.nodup_append.mpr ⟨nU'.2, nL'.2, fun x hx y hy e => dis x hx (e ▸ hy)⟩) fun e he q hq n1 n2 => ?_)
      -- a side is one of a chain
      have side : e ∈ Adj U ∨ e ∈ Adj L := by
        rcases adj_app he with z | z | ⟨x, y, z1, z2, z3⟩
        · left
          rw [hU]
          cases Ut with
          | nil => cases z
          | cons _ _ => exact List.mem_cons_of_mem _ z
        · right
          rw [hL]
          cases Lt with
          | nil => cases z
          | cons _ _ => exact List.mem_cons_of_mem _ z
        · right
          rw [hL]
          have ex : x = la := by
            rw [hU] at f2
            cases Ut with
            | nil => cases z1
            | cons _ _ =>
              rw [List.getLast?_cons_cons] at f2
              rw [f2] at z1
              exact (Option.some.inj z1).symm
          cases Lt with
          | nil => cases z2
          | cons b t =>
            have ey : b = y := Option.some.inj z2
            rw [z3, ex, ← ey]
            exact List.mem_cons_self ..
      have inU : ∀ x, x ∈ Ut → x ∈ U := fun x hx => by rw [hU]; exact List.mem_cons_of_mem _ hx
      have inL : ∀ x, x ∈ Lt → x ∈ L := fun x hx => by rw [hL]; exact List.mem_cons_of_mem _ hx
      have laL : la ∈ L := by rw [hL]; exact List.mem_cons_self ..
      have fiL : fi ∈ L := List.mem_of_getLast? f1
      have laU : la ∈ U := List.mem_of_getLast? f2
      have fiU : fi ∈ U := by rw [hU]; exact List.mem_cons_self ..
      have hLa : L.head? = some la := by rw [hL]; rfl
      have hFi : U.head? = some fi := by rw [hU]; rfl
      rcases side with s | s
      · -- a side of the upper chain
        by_cases mU : q ∈ U
        · exact tri_strict tU e s q mU n1 n2
        · have mL : q ∈ L := by
            rcases List.mem_append.mp hq with z | z
            · exact absurd (inU q z) mU
            · exact inL q z
          have := h.swap.strict (adj_ng s) (z := ng q) (List.mem_map_of_mem mL) (by
            rw [List.head?_map, hLa]
            intro z
            have z1 : ng q = ng la := Option.some.inj z
            have z2 := congrArg ng z1
            rw [ng_ng, ng_ng] at z2
            exact mU (z2 ▸ laU)) (by
            rw [List.getLast?_map, f1]
            intro z
            have z1 : ng q = ng fi := Option.some.inj z
            have z2 := congrArg ng z1
            rw [ng_ng, ng_ng] at z2
            exact mU (z2 ▸ fiU)) (fun z => n1 (by have := congrArg ng z; rw [ng_ng, ng_ng] at this; exact this)) (fun z => n2 (by have := congrArg ng z; rw [ng_ng, ng_ng] at this; exact this))
          rw [cr_ng] at this
          exact this
      · by_cases mL : q ∈ L
        · exact tri_strict h.lo.tri e s q mL n1 n2
        · have mU : q ∈ U := by
            rcases List.mem_append.mp hq with z | z
            · exact inU q z
            · exact absurd (inL q z) mL
          exact h.strict s mU (by rw [hFi]; exact fun z => mL (Option.some.inj z ▸ fiL)) (by rw [f2]; exact fun z => mL (Option.some.inj z ▸ laL)) n1 n2
/-- the hull of a row whose first numbers go up -/
theorem two_of {l : List P} (h : l.Pairwise (fun a b => a.1 < b.1)) : Two l (chain l) (chain l.reverse) := by
  obtain ⟨c, a1, a2⟩ := chain_ok l.length l rfl h
  have h' : (l.reverse.map ng).Pairwise (fun a b => a.1 < b.1) := by
    rw [List.pairwise_map, List.pairwise_reverse]
    exact h.imp fun {x y} q => by show -y.1 < -x.1; omega
  obtain ⟨c', b1, b2⟩ := chain_ok _ _ rfl h'
  rw [chain_ng] at c' b1 b2
  have hh : (chain l.reverse).head? = l.head? := by
    rw [List.head?_map, List.getLast?_map, List.getLast?_reverse] at b1
    cases e1 : (chain l.reverse).head? <;> cases e2 : l.head? <;> rw [e1, e2] at b1
    · cases b1
    · cases b1
    · have := congrArg ng (Option.some.inj b1)
      rw [ng_ng, ng_ng] at this
      rw [this]
  have hl : (chain l.reverse).getLast? = l.getLast? := by
    rw [List.head?_map, List.getLast?_map, List.head?_reverse] at b2
    cases e1 : (chain l.reverse).getLast? <;> cases e2 : l.getLast? <;> rw [e1, e2] at b2
    · cases b2
    · cases b2
    · have := congrArg ng (Option.some.inj b2)
      rw [ng_ng, ng_ng] at this
      rw [this]
  refine ⟨c, ⟨c'.dec, c'.tri, fun e he q hq => c'.sup e he q (by rw [List.map_reverse]; exact List.mem_reverse.mpr hq), fun q hq => by have := c'.sub q hq; rw [List.map_reverse] at this; exact List.mem_reverse.mp this, fun q hq r hr => c'.inj q (by rw [List.map_reverse]; exact List.mem_reverse.mpr hq) r (by rw [List.map_reverse]; exact List.mem_reverse.mpr hr)⟩, by rw [a1, hl], by rw [a2, hh], fun q hq => ?_⟩
  cases e1 : l.getLast? with
  | none => rw [List.getLast?_eq_none_iff.mp e1] at hq; cases hq
  | some x =>
    cases e2 : l.head? with
    | none => rw [List.head?_eq_none_iff.mp e2] at hq; cases hq
    | some y =>
      refine ⟨x, y, by rw [a1, e1], by rw [a2, e2], ?_, ?_⟩
      · obtain ⟨l2, hl2⟩ := List.getLast?_eq_some_iff.mp e1
        rw [hl2] at hq h
        rcases List.mem_append.mp hq with z | z
        · exact Int.le_of_lt ((List.pairwise_append.mp h).2.2 q z x (List.mem_cons_self ..))
        · rw [List.mem_singleton.mp z]; exact Int.le_refl _
      · cases l with
        | nil => cases hq
        | cons b r =>
          have eb : b = y := Option.some.inj e2
          subst eb
          rcases List.mem_cons.mp hq with z | z
          · rw [z]; exact Int.le_refl _
          · exact Int.le_of_lt ((List.pairwise_cons.mp h).1 q z)
/-! points of a grid, sorted by their first and then their second numbers -/
def sh (M : Int) (p : P) : P := (M * p.1 + p.2, p.2)
theorem cr_sh (M : Int) (a b c : P) : cr (sh M a) (sh M b) (sh M c) = M * cr a b c := by unfold cr sh; grind
theorem pop_sh {M : Int} (hM : 0 < M) (p : P) : ∀ st : List P, popTo (sh M p) (st.map (sh M)) = (popTo p st).map (sh M)
  | [] => rfl
  | [_] => rfl
  | b :: a :: r => by
    show (if cr (sh M a) (sh M b) (sh M p) ≤ 0 then popTo (sh M p) ((a :: r).map (sh M)) else (b :: a :: r).map (sh M)) = (if cr a b p ≤ 0 then popTo p (a :: r) else b :: a :: r).map (sh M)
    rw [cr_sh, pop_sh hM p (a :: r)]
    by_cases h : cr a b p ≤ 0
    · rw [if_pos h, if_pos]
      have := mul_nn (show 0 ≤ M by omega) (show 0 ≤ -cr a b p by omega)
      rw [Int.mul_neg] at this
      omega
    · rw [if_neg h, if_neg]
      have := mul_pos' hM (show 0 < cr a b p by omega)
      omega
theorem chain_sh {M : Int} (hM : 0 < M) (l : List P) : chain (l.map (sh M)) = (chain l).map (sh M) := by
  have key : ∀ (l st : List P), (l.map (sh M)).foldl (fun st p => p :: popTo p st) (st.map (sh M)) = (l.foldl (fun st p => p :: popTo p st) st).map (sh M) := by
    intro l
    induction l with
    | nil => intro st; rfl
    | cons p l ih =>
      intro st
      rw [List.map_cons, List.foldl_cons, List.foldl_cons, pop_sh hM]
      exact ih (p :: popTo p st)
  exact key l []
theorem cv_sh {M : Int} (hM : 0 < M) : ∀ {l : List P}, Cv (l.map (sh M)) → Cv l
  | [], _ => trivial
  | a :: r, h => by
    refine ⟨?_, cv_sh hM h.2⟩
    have h1 := h.1
    rw [List.pairwise_map] at h1
    refine h1.imp fun {x y} q => ?_
    rw [cr_sh, Int.mul_comm] at q
    exact pos_of q hM
/-- the hull of a row of points -/
def hull (l : List P) : List P := (chain l).tail.reverse ++ (chain l.reverse).tail.reverse
theorem hull_cv {M : Int} (hM : 0 < M) {l : List P} (h : l.Pairwise (fun a b => M * a.1 + a.2 < M * b.1 + b.2)) : Cv (hull l) := by
  have h' : (l.map (sh M)).Pairwise (fun a b => a.1 < b.1) := List.pairwise_map.mpr h
  have t := (two_of h').row
  rw [← List.map_reverse, chain_sh hM, chain_sh hM, ← List.map_tail, ← List.map_tail, ← List.map_append, ← List.map_reverse] at t
  have t2 := cv_sh hM t
  rw [List.reverse_append] at t2
  exact t2
theorem pop_sub (p : P) : ∀ st : List P, ∀ x ∈ popTo p st, x ∈ st
  | [], _, h => h
  | [_], _, h => h
  | b :: a :: r, x, h => by
    have e : popTo p (b :: a :: r) = if cr a b p ≤ 0 then popTo p (a :: r) else b :: a :: r := rfl
    rw [e] at h
    split at h
    · exact List.mem_cons_of_mem _ (pop_sub p (a :: r) x h)
    · exact h
theorem chain_sub (l : List P) : ∀ x ∈ chain l, x ∈ l := by
  have key : ∀ (l st : List P), ∀ x ∈ l.foldl (fun st p => p :: popTo p st) st, x ∈ st ∨ x ∈ l := by
    intro l
    induction l with
    | nil => intro st x h; exact Or.inl h
    | cons p l ih =>
      intro st x h
      rcases ih _ x h with z | z
      · rcases List.mem_cons.mp z with z | z
        · exact Or.inr (by rw [z]; exact List.mem_cons_self ..)
        · exact Or.inl (pop_sub p st x z)
      · exact Or.inr (List.mem_cons_of_mem _ z)
  intro x h
  rcases key l [] x h with z | z
  · cases z
  · exact z
theorem hull_sub (l : List P) : ∀ x ∈ hull l, x ∈ l := fun x h => by
  rcases List.mem_append.mp h with z | z
  · exact chain_sub l x (List.mem_of_mem_tail (List.mem_reverse.mp z))
  · exact List.mem_reverse.mp (chain_sub l.reverse x (List.mem_of_mem_tail (List.mem_reverse.mp z)))
end HU
set_option Elab.async false
set_option linter.all false
/-! Rows of rational points that turn left everywhere. -/
namespace HU
abbrev PR := Rat × Rat
def cq (a b c : PR) : Rat := (b.1 - a.1) * (c.2 - a.2) - (b.2 - a.2) * (c.1 - a.1)
theorem cq_rot (a b c : PR) : cq b c a = cq a b c := by unfold cq; grind
def Cq : List PR → Prop
  | [] => True
  | a :: r => r.Pairwise (fun b c => 0 < cq a b c) ∧ Cq r
theorem cq_idx : ∀ {l : List PR}, Cq l → ∀ (i j k : Nat) (hi : i < j) (hj : j < k) (hk : k < l.length), 0 < cq l[i] l[j] l[k]
  | [], _, _, _, k, _, _, hk => by cases hk
  | a :: r, h, 0, j, k, hi, hj, hk => by
    obtain ⟨j, rfl⟩ : ∃ j', j = j' + 1 := ⟨j - 1, by omega⟩
    obtain ⟨k, rfl⟩ : ∃ k', k = k' + 1 := ⟨k - 1, by omega⟩
    have hk' : k < r.length := by simpa using hk
    exact List.pairwise_iff_getElem.mp h.1 j k (by omega) hk' (by omega)
  | a :: r, h, i + 1, j, k, hi, hj, hk => by
    obtain ⟨j, rfl⟩ : ∃ j', j = j' + 1 := ⟨j - 1, by omega⟩
    obtain ⟨k, rfl⟩ : ∃ k', k = k' + 1 := ⟨k - 1, by omega⟩
    have hk' : k < r.length := by simpa using hk
    exact cq_idx h.2 i j k (by omega) (by omega) hk'
/-- points shifted and divided -/
theorem cq_of_cv {bx b'  : Rat} {d : Rat} (hd : 0 < d) : ∀ {l : List P}, Cv l → Cq (l.map fun p => (((p.1 : Rat) + bx) / d, ((p.2 : Rat) + b') / d))
  | [], _ => trivial
  | a :: r, h => by
    refine ⟨?_, cq_of_cv hd h.2⟩
    rw [List.pairwise_map]
    refine h.1.imp fun {x y} q => ?_
    have e : cq (((a.1 : Rat) + bx) / d, ((a.2 : Rat) + b') / d) (((x.1 : Rat) + bx) / d, ((x.2 : Rat) + b') / d) (((y.1 : Rat) + bx) / d, ((y.2 : Rat) + b') / d) = ((cr a x y : Int) : Rat) / (d * d) := by
      have hd0 : d ≠ 0 := fun z => by rw [z] at hd; exact absurd hd (by decide)
      unfold cq cr
      push_cast
      grind
    rw [e]
    have q' : (0 : Rat) < ((cr a x y : Int) : Rat) := by exact_mod_cast q
    rw [Rat.div_def]
    exact Rat.mul_pos q' (Rat.inv_pos.mpr (Rat.mul_pos hd hd))
/-! round the row -/
def nx (n k : Nat) : Nat := (k + 1) % n
def pv (n k : Nat) : Nat := (k + n - 1) % n
section
variable {n : Nat} {f : Nat → PR}
def Cf (n : Nat) (f : Nat → PR) : Prop := ∀ i j k, i < j → j < k → k < n → 0 < cq (f i) (f j) (f k)
theorem nx_of {k : Nat} (hk : k < n) : nx n k = if k + 1 < n then k + 1 else 0 := by
  unfold nx
  by_cases h : k + 1 < n
  · rw [if_pos h, Nat.mod_eq_of_lt h]
  · rw [if_neg h, show k + 1 = n by omega, Nat.mod_self]
theorem pv_of {k : Nat} (hk : k < n) : pv n k = if k = 0 then n - 1 else k - 1 := by
  unfold pv
  by_cases h : k = 0
  · rw [if_pos h, h, Nat.zero_add, Nat.mod_eq_of_lt (by omega)]
  · rw [if_neg h, show k + n - 1 = (k - 1) + n by omega, Nat.add_mod_right, Nat.mod_eq_of_lt (by omega)]
theorem nx_lt (hn : 0 < n) (k : Nat) : nx n k < n := Nat.mod_lt _ hn
theorem pv_lt (hn : 0 < n) (k : Nat) : pv n k < n := Nat.mod_lt _ hn
theorem nx_pv {k : Nat} (hk : k < n) : nx n (pv n k) = k := by
  rw [pv_of hk]
  split
  · rw [nx_of (by omega), if_neg (by omega)]; omega
  · rw [nx_of (by omega), if_pos (by omega)]; omega
/-- a side has all other corners on its left -/
theorem side_left (h : Cf n f) {k i : Nat} (hk : k < n) (hi : i < n) (h1 : i ≠ k) (h2 : i ≠ nx n k) : 0 < cq (f k) (f (nx n k)) (f i) := by
  rw [nx_of hk] at h2 ⊢
  by_cases c : k + 1 < n
  · rw [if_pos c] at h2 ⊢
    rcases Nat.lt_or_ge i k with g | g
    · have := h i k (k + 1) g (by omega) c
      rw [cq_rot]
      exact this
    · exact h k (k + 1) i (by omega) (by omega) hi
  · rw [if_neg c] at h2 ⊢
    have := h 0 i k (by omega) (by omega) hk
    rw [← cq_rot, ← cq_rot]
    rw [show cq (f i) (f k) (f 0) = cq (f 0) (f i) (f k) from by unfold cq; grind]
    exact this
/-- the turn at a corner -/
theorem turn_left (hn : 3 ≤ n) (h : Cf n f) {k : Nat} (hk : k < n) : 0 < cq (f (pv n k)) (f k) (f (nx n k)) := by
  have := side_left h (pv_lt (by omega) k) (nx_lt (by omega) k) (k := pv n k) (i := nx n k) (by rw [nx_of hk, pv_of hk]; split <;> split <;> omega) (by rw [nx_pv hk, nx_of hk]; split <;> omega)
  rw [nx_pv hk] at this
  exact this
/-- a rise at k: the side from k goes up, the side to k doesn't -/
def Rise (n : Nat) (f : Nat → PR) (k : Nat) : Prop := (f k).2 < (f (nx n k)).2 ∧ ¬ (f (pv n k)).2 < (f k).2
theorem mulp {x y : Rat} (a : 0 < x) (b : 0 < y) : 0 < x * y := Rat.mul_pos a b
theorem muln {x y : Rat} (a : 0 ≤ x) (b : 0 ≤ y) : 0 ≤ x * y := Rat.mul_nonneg a b
theorem rise_one (hn : 3 ≤ n) (h : Cf n f) {a b : Nat} (ha : a < n) (hb : b < n) (ra : Rise n f a) (rb : Rise n f b) (hab : a ≠ b) (hle : (f a).2 ≤ (f b).2) : False := by
  have n1 : a ≠ nx n b := fun z => by
    have := rb.1
    rw [← z] at this
    grind
  have n2 : a ≠ pv n b := fun z => by
    have h1 := rb.2
    rw [← z] at h1
    have h2 := ra.1
    rw [z, nx_pv hb, ← z] at h2
    grind
  have k1 := side_left h (k := pv n b) (i := a) (pv_lt (by omega) b) ha n2 (by rw [nx_pv hb]; exact hab)
  rw [nx_pv hb] at k1
  have k2 := side_left h (k := b) (i := a) hb ha hab n1
  have k3 := turn_left hn h hb
  have u := rb.2
  have v := rb.1
  generalize f (pv n b) = x at *
  generalize f (nx n b) = y at *
  generalize f b = z at *
  generalize f a = w at *
  have e : cq x z y * (w.2 - z.2) = cq z y w * (x.2 - z.2) + cq x z w * (y.2 - z.2) := by unfold cq; grind
  have m1 := muln (show 0 ≤ cq z y w by grind) (show 0 ≤ x.2 - z.2 by grind)
  have m2 := mulp k1 (show 0 < y.2 - z.2 by grind)
  have m3 := muln (show 0 ≤ cq x z y by grind) (show 0 ≤ z.2 - w.2 by grind)
  grind
theorem rise_same (hn : 3 ≤ n) (h : Cf n f) {a b : Nat} (ha : a < n) (hb : b < n) (ra : Rise n f a) (rb : Rise n f b) : a = b := by
  rcases Nat.decEq a b with q | q
  · rcases (show (f a).2 ≤ (f b).2 ∨ (f b).2 ≤ (f a).2 by grind) with g | g
    · exact (rise_one hn h ha hb ra rb q g).elim
    · exact (rise_one hn h hb ha rb ra (Ne.symm q) g).elim
  · exact q
theorem rise_some (hn : 3 ≤ n) (h : Cf n f) : ∃ k, k < n ∧ Rise n f k := by
  refine Classical.byContradiction fun no => ?_
  have st : ∀ k, k < n → (f k).2 < (f (nx n k)).2 → (f (pv n k)).2 < (f k).2 := fun k hk u => Classical.byContradiction fun g => no ⟨k, hk, u, g⟩
  by_cases all : ∃ k, k < n ∧ (f k).2 < (f (nx n k)).2
  · obtain ⟨k, hk, u⟩ := all
    -- then all go up, down to 0 and from n - 1 on
    have down : ∀ j, j ≤ k → (f (k - j)).2 < (f (nx n (k - j))).2 := by
      intro j
      induction j with
      | zero => intro _; exact u
      | succ j ih =>
        intro hj
        have := st (k - j) (by omega) (ih (by omega))
        rw [pv_of (by omega), if_neg (by omega)] at this
        rw [nx_of (by omega), if_pos (by omega), show k - (j + 1) + 1 = k - j by omega, show k - (j + 1) = k - j - 1 by omega]
        exact this
    have z0 := down k (Nat.le_refl _)
    rw [Nat.sub_self] at z0
    have zl := st 0 (by omega) z0
    rw [pv_of (by omega), if_pos rfl] at zl
    have down2 : ∀ j, j ≤ n - 1 → (f (n - 1 - j)).2 < (f (nx n (n - 1 - j))).2 := by
      intro j
      induction j with
      | zero => intro _; rw [Nat.sub_zero, nx_of (by omega), if_neg (by omega)]; exact zl
      | succ j ih =>
        intro hj
        have := st (n - 1 - j) (by omega) (ih (by omega))
        rw [pv_of (by omega), if_neg (by omega)] at this
        rw [nx_of (by omega), if_pos (by omega), show n - 1 - (j + 1) + 1 = n - 1 - j by omega, show n - 1 - (j + 1) = n - 1 - j - 1 by omega]
        exact this
    have asc : ∀ j, j < n → (f 0).2 ≤ (f j).2 := by
      intro j
      induction j with
      | zero => intro _; grind
      | succ j ih =>
        intro hj
        have h1 := ih (by omega)
        have h2 := down2 (n - 1 - j) (by omega)
        rw [show n - 1 - (n - 1 - j) = j by omega, nx_of (by omega), if_pos hj] at h2
        grind
    have := asc (n - 1) (by omega)
    grind
  · have flat : ∀ k, k < n → (f (nx n k)).2 ≤ (f k).2 := fun k hk => by
      have : ¬ (f k).2 < (f (nx n k)).2 := fun g => all ⟨k, hk, g⟩
      grind
    have h01 := flat 0 (by omega)
    have h12 := flat 1 (by omega)
    rw [nx_of (by omega), if_pos (by omega)] at h01 h12
    have desc : ∀ j, 2 + j < n → (f (2 + j)).2 ≤ (f 2).2 := by
      intro j
      induction j with
      | zero => intro _; grind
      | succ j ih =>
        intro hj
        have h1 := ih (by omega)
        have h2 := flat (2 + j) (by omega)
        rw [nx_of (by omega), if_pos (by omega)] at h2
        have e : 2 + (j + 1) = 2 + j + 1 := by omega
        rw [e]
        grind
    have hl := desc (n - 3) (by omega)
    rw [show 2 + (n - 3) = n - 1 by omega] at hl
    have hw := flat (n - 1) (by omega)
    rw [nx_of (by omega), if_neg (by omega)] at hw
    have t := h 0 1 2 (by omega) (by omega) (by omega)
    have e1 : (f 1).2 = (f 0).2 := by grind
    have e2 : (f 2).2 = (f 0).2 := by grind
    unfold cq at t
    rw [e1, e2] at t
    grind
theorem one_of {α : Type} {p : α → Bool} : ∀ {l : List α}, l.Nodup → (∃ x ∈ l, p x = true) → (∀ x ∈ l, ∀ y ∈ l, p x = true → p y = true → x = y) → (l.filter p).length = 1
  | [], _, ⟨x, hx, _⟩, _ => by cases hx
  | a :: l, hn, ⟨x, hx, px⟩, hu => by
    have hn' := List.nodup_cons.mp hn
    by_cases pa : p a = true
    · rw [List.filter_cons_of_pos pa, List.length_cons]
      have : l.filter p = [] := List.filter_eq_nil_iff.mpr fun y hy py => hn'.1 (by rw [hu a (List.mem_cons_self ..) y (List.mem_cons_of_mem _ hy) pa py]; exact hy)
      rw [this]; rfl
    · rw [List.filter_cons_of_neg pa]
      refine one_of hn'.2 ⟨x, ?_, px⟩ fun y hy z hz => hu y (List.mem_cons_of_mem _ hy) z (List.mem_cons_of_mem _ hz)
      rcases List.mem_cons.mp hx with e | e
      · rw [e] at px; exact absurd px pa
      · exact e
/-- once round -/
theorem rounds_one (hn : 3 ≤ n) (h : Cf n f) : ((List.range n).filter fun k => decide ((f k).2 < (f (nx n k)).2) && !decide ((f (pv n k)).2 < (f k).2)).length = 1 := by
  have hp : ∀ k, ((decide ((f k).2 < (f (nx n k)).2) && !decide ((f (pv n k)).2 < (f k).2)) = true) ↔ Rise n f k := fun k => by
    unfold Rise
    rw [Bool.and_eq_true, decide_eq_true_eq, Bool.not_eq_true', decide_eq_false_iff_not]
  refine one_of List.nodup_range ?_ fun x hx y hy px py => ?_
  · obtain ⟨k, hk, r⟩ := rise_some hn h
    exact ⟨k, List.mem_range.mpr hk, (hp k).mpr r⟩
  · exact rise_same hn h (List.mem_range.mp hx) (List.mem_range.mp hy) ((hp x).mp px) ((hp y).mp py)
end
end HU
set_option Elab.async false
set_option linter.all false
set_option maxRecDepth 100000
/-! What the hull's loops keep. -/
namespace DL
open PySem PySem.Spec PyProof.Rows L2
section
variable {X : Cx} {Δ : List Sl} {e a b c : Expr} {es : List Expr} {A B C : Th → Prop} {pos : Pos} {P : Post} {rest body els sts : List Stmt} {st : Stmt} {W : WX}
theorem sd_break (h : P.bk Δ) : SD X W (.Break pos :: rest) P Δ := sd_cons ⟨_, ps_break, fun S0 M0 H0 σ H S hA D le xw => le.bk _ _ ⟨Δ, S, h, hA⟩⟩
theorem At.withml {K : PySem.W.Frag} {S0 M0 S : List Addr} {H0 H : Hp} {Δ : List Sl} {σ : L2.St} (hA : At S0 M0 H0 Δ σ H S) {i : Nat} {ds : List PyData} (h : Δ[i]? = some (.ml (ds.map (dat K)))) : ∃ a xs, H a = some (.lst xs) ∧ a ∈ S ∧ At (wo S a) (wo S a) H (Δ.set i (.th (dat K (.list ds)))) σ H (wo S a) := by
  obtain ⟨o, e1, a, xs, e2, hm, hH, hx⟩ := hA.env.get h
  subst e2
  refine ⟨a, xs, hH, hm, fun _ z => z, fun _ z => z, fun _ z => Or.inl z, hide_le, fun b hb => hA.dom b (mem_wo.mp hb).1, sls_wo hH (all_dat hx) hA.env (fun n us b z1 z2 z3 z => z3 (hA.apart n i us _ a z1 h (by rw [← z]; exact z2) e1)) e1, fun m j us ws b h1 h2 h3 h4 => ?_, fun m us b h1 h3 => ?_⟩
  · exact hA.apart m j us ws b (set_th_ml h1).2 (set_th_ml h2).2 h3 h4
  · obtain ⟨n1, g1⟩ := set_th_ml h1
    obtain ⟨o', e1', b', ys, e2', m', _⟩ := hA.env.get g1
    rw [h3] at e1'
    have e3 := Option.some.inj e1'
    rw [← e3] at e2'
    have e4 : b = b' := V.ref.inj (Option.some.inj e2')
    refine Or.inl (mem_wo.mpr ⟨by rw [e4]; exact m', fun z => n1 ?_⟩)
    exact (hA.apart m i us _ a g1 h (by rw [← z]; exact h3) e1).symm
/-- a test that reads the list that is being filled -/
theorem pb_withml (i : Nat) {ds : List PyData} {k : Bool} (h : Δ[i]? = some (.ml (ds.map (dat X.K)))) (g : PB X (Δ.set i (.th (dat X.K (.list ds)))) e k) : PB X Δ e k := by
  obtain ⟨t, p, f⟩ := g
  refine ⟨t, p, fun S0 M0 H0 σ H S hA Q q => ?_⟩
  obtain ⟨a, xs, _, _, A2⟩ := hA.withml h
  exact f _ _ _ σ H _ A2 Q q
theorem pd_withml (i : Nat) {ds : List PyData} {d : PyData} (h : Δ[i]? = some (.ml (ds.map (dat X.K)))) (hl : lf d = true) (k : PD X (Δ.set i (.th (dat X.K (.list ds)))) e (dat X.K d)) : PD X Δ e (dat X.K d) :=
  (px_withml (Ad := (· = d)) i h (fun d' e => by rw [e]; exact hl) (k.imp fun t e => ⟨d, e, rfl⟩)).imp fun t ⟨d', h1, h2⟩ => by rw [h1, h2]
/-- a list whose items are not known -/
theorem px_lstX {Bt : List Th → Prop} {Cd : List PyData → Prop} (h : PL X Δ es Bt) (hB : ∀ ts, Bt ts → ∃ ds : List PyData, ts = ds.map (dat X.K) ∧ ds.length ≤ 1000 ∧ Cd ds) : PX X Δ (.List es pos) (fun t => ∃ ds, t = dat X.K (.list ds) ∧ Cd ds) := by
  obtain ⟨t, p, f⟩ := h
  refine ⟨_, pe_lst p, fun S0 M0 H0 σ H S hA Q q => f S0 M0 H0 σ H S hA _ fun ths vs H2 ht e2 r => ?_⟩
  obtain ⟨ds, rfl, hl, hc⟩ := hB ths ht
  have hd := all_dpa r
  refine ⟨sz_of (by rw [dpa_len hd]; omega), fun p hp => q _ _ _ ⟨ds, rfl, hc⟩ (e2.trans (Ex.new hp)) ?_⟩
  have np := ((hA.up e2).dom).new hp
  refine Dp.lst (SqL.of ?_) (dpa_up (hide_ex (Ex.new hp)) hd)
  rw [hide_out np]
  exact upd_same
/-- for x in e, e a list that is not known -/
theorem sd_forDX {x : Str} {px : Pos} (j : Nat) {Ad : List PyData → Prop} (I : List PyData → Nat → List Sl → Prop) (he : PX X Δ e (fun t => ∃ ds, t = dat X.K (.list ds) ∧ Ad ds)) (h0 : ∀ ds, Ad ds → I ds 0 Δ)
    (step : ∀ ds (i : Nat) z Δ', Ad ds → ds[i]? = some z → I ds i Δ' → SD X W body { P with nx := I ds (i + 1), ct := I ds (i + 1), bk := fun Δ2 => SD X W rest P Δ2, top := false } (Δ'.set j (.th (dat X.K z))))
    (hd : ∀ ds Δ', Ad ds → I ds ds.length Δ' → SD X W rest P Δ') (hN : X.N.Nodup) (hc : X.calm = true := by rfl) (hi : X.N[j]? = some x := by rfl) (hx : Loc X.env.scope x := by first | exact Or.inl rfl | exact Or.inr rfl)
    (hf : X.fn x = true ∨ X.env.scope.names.lookup x = some .local := by first | exact .inl rfl | exact .inr rfl)
    (hp : PassesOwn (model X.prog X.w) X.A X.env X.xe := by exact PassesOwn.never) (hfs : ∀ x, foldedSetIterable e X.env x = pure x := by intro _; rfl) : SD X W (.For (.Name x px) e body [] pos :: rest) P Δ := by
  refine sd_cons ?_
  obtain ⟨t, pe, f⟩ := he
  have qb : PSs X body (fun D σ H => ∃ t, PSs X body t ∧ t D σ H) := ⟨fun pins s σ H D J ⟨t, p, h⟩ => p.run pins s σ H D J h⟩
  have turn : ∀ {ds : List PyData} {S0 M0 S : List Addr} {H0 H H' : Hp} {σ σ' : L2.St} {D : Ends} {xs : List V} {i : Nat} {v : V} {Δ' : List Sl} {S' : List Addr}, Ad ds → At S0 M0 H0 Δ σ H S → Le (ends S0 M0 H0 { P with nx := fun Δ' => SD X W rest P Δ' }) D → XW S0 M0 H0 P W → DpAll X.K (hide S H) xs ds → xs[i]? = some v →
      I ds i Δ' → At S (mls Δ σ) H Δ' σ' H' S' → (fun D σ H => ∃ t, PSs X body t ∧ t D σ H) { D with nx := fun σ2 H2 => ∃ Δ2 S2, I ds (i + 1) Δ2 ∧ At S (mls Δ σ) H Δ2 σ2 H2 S2, ct := fun σ2 H2 => ∃ Δ2 S2, I ds (i + 1) Δ2 ∧ At S (mls Δ σ) H Δ2 σ2 H2 S2, bk := D.nx } (σ'.set j (some v)) H' := by
    intro ds S0 M0 S H0 H H' σ σ' D xs i v Δ' S' had hA le xw hx' hv i' hA'
    obtain ⟨z, hz, r⟩ : ∃ z, ds[i]? = some z ∧ Dp X.K (hide S H) v z := by
      have hl := dpa_len hx'
      have li : i < ds.length := by rw [← hl]; exact (List.getElem?_eq_some_iff.mp hv).1
      obtain ⟨v', e1, r1⟩ := dpa_get hx' (List.getElem?_eq_getElem li)
      rw [hv] at e1
      have e2 := Option.some.inj e1
      exact ⟨ds[i], List.getElem?_eq_getElem li, by rw [e2]; exact r1⟩
    obtain ⟨u, pu, fu⟩ := step ds i z Δ' had hz i'
    have le' := ends_lift hA hA.mown le
    exact ⟨u, pu, fu S (mls Δ σ) H _ H' S' (hA'.set (t := dat X.K z) (dp_up hA'.hid r)) _ ⟨fun _ _ q => q, le'.rt, le'.nx, fun _ _ q => q⟩ (xw_lift hA hA.mown xw (fun _ _ _ z => z) rfl)⟩
  refine ⟨_, ps_for hp hc (pi_list pe) (pg_name hN hi hx hf) qb hfs, fun S0 M0 H0 σ H S hA D le xw => ?_⟩
  refine f S0 M0 H0 σ H S hA _ fun th v H1 ht e1 r => ?_
  obtain ⟨ds, rfl, had⟩ := ht
  obtain ⟨p, xs, rfl, hq, hxs⟩ := dp_lst r
  have hA1 := hA.up e1
  refine ⟨p, rfl, ⟨xs, ex_l hide_le hq⟩, for_list (K := X.K) (a := p) (xs := xs) (g := gName j) (tb := fun D σ H => ∃ t, PSs X body t ∧ t D σ H) (fun i σ' H' => ∃ Δ' S', I ds i Δ' ∧ At S (mls Δ σ) H1 Δ' σ' H' S') ⟨Δ, S, h0 ds had, hA1.here⟩ (fun i σ' H' _ ⟨Δ', S', _, hA'⟩ => ex_l hide_le (ex_l hA'.hid hq)) (fun i v σ' H' hv ⟨Δ', S', i', hA'⟩ => turn had hA1 le xw hxs hv i' hA') (fun σ' H' ⟨Δ', S', i', hA'⟩ => le.nx _ _ ⟨Δ', S', hd ds Δ' had (by rw [← dpa_len hxs]; exact i'), hA1.lift hA1.mown hA'⟩)⟩
end
open HU (cr popTo chain hull Cv)
/-- before: by the first number, then by the second -/
def lx (a b : HU.P) : Prop := a.1 < b.1 ∨ a.1 = b.1 ∧ a.2 < b.2
theorem lex_no {a b : HU.P} (h : SrtO.lexB b a = false) : lx a b ∨ a = b := by
  have := SrtO.lexB_no.mp h
  unfold lx
  by_cases q : a = b
  · exact Or.inr q
  · have : ¬ (a.1 = b.1 ∧ a.2 = b.2) := fun z => q (Prod.ext z.1 z.2)
    exact Or.inl (by omega)
theorem lx_key {a b : HU.P} (h : lx a b) (ha : 0 ≤ a.2 ∧ a.2 < 100) (hb : 0 ≤ b.2 ∧ b.2 < 100) : 100 * a.1 + a.2 < 100 * b.1 + b.2 := by
  unfold lx at h
  omega
theorem eqv_pair (a b : Q) : PyData.eqv (rD a) (rD b) = decide (a = b) := by
  obtain ⟨a1, a2⟩ := a
  obtain ⟨b1, b2⟩ := b
  simp [rD, PyData.eqv, PyData.eqvAll, Prod.ext_iff]
  rfl
theorem any_pair (ps : List Q) (q : Q) : ((ps.map rD).any fun z => PyData.eqv z (rD q)) = decide (q ∈ ps) := by
  induction ps with
  | nil => rfl
  | cons p ps ih =>
    rw [List.map_cons, List.any_cons, ih, eqv_pair]
    by_cases h1 : q = p
    · simp [h1]
    · have h1' : ¬ p = q := fun z => h1 z.symm
      simp [h1, h1']
/-- the points met so far, each once -/
structure Al (qs al : List HU.P) (i : Nat) : Prop where
  lt : al.Pairwise lx
  mem : ∀ x, x ∈ al ↔ x ∈ qs.take i
  len : al.length ≤ i
theorem al_zero {qs : List HU.P} : Al qs [] 0 := ⟨.nil, fun x => by simp, Nat.le_refl _⟩
theorem al_skip {qs al : List HU.P} {i : Nat} {q : HU.P} (h : Al qs al i) (hq : qs[i]? = some q) (hm : q ∈ al) : Al qs al (i + 1) :=
  ⟨h.lt, fun x => by
    rw [take_succ' hq, List.mem_append, List.mem_singleton]
    constructor
    · intro z; exact Or.inl ((h.mem x).mp z)
    · rintro (z | z)
      · exact (h.mem x).mpr z
      · rw [z]; exact hm, by have := h.len; omega⟩
theorem al_add {qs al : List HU.P} {i : Nat} {q : HU.P} (h : Al qs al i) (hs : qs.Pairwise (fun x y => SrtO.lexB y x = false)) (hq : qs[i]? = some q) (hm : q ∉ al) : Al qs (al ++ [q]) (i + 1) := by
  refine ⟨List.pairwise_append.mpr ⟨h.lt, List.pairwise_singleton _ _, fun x hx y hy => ?_⟩, fun x => ?_, by rw [List.length_append]; have := h.len; simp; omega⟩
  · rw [List.mem_singleton] at hy
    subst hy
    have hx2 := (h.mem x).mp hx
    obtain ⟨j, hj, ej⟩ := List.mem_iff_getElem.mp hx2
    rw [List.length_take] at hj
    rw [List.getElem_take] at ej
    obtain ⟨hi, ei⟩ := List.getElem?_eq_some_iff.mp hq
    have := List.pairwise_iff_getElem.mp hs j i (by omega) hi (by omega)
    rw [ej, ei] at this
    rcases lex_no this with z | z
    · exact z
    · exact absurd (z ▸ hx) hm
  · rw [take_succ' hq, List.mem_append, List.mem_append, h.mem]
theorem chain_take {l : List HU.P} {j : Nat} {p : HU.P} (h : l[j]? = some p) : chain (l.take (j + 1)) = p :: popTo p (chain (l.take j)) := by rw [take_succ' h, HU.chain_snoc]
theorem pop_len (p : HU.P) : ∀ st : List HU.P, (popTo p st).length ≤ st.length
  | [] => Nat.le_refl _
  | [_] => Nat.le_refl _
  | b :: a :: r => by
    have e : popTo p (b :: a :: r) = if cr a b p ≤ 0 then popTo p (a :: r) else b :: a :: r := rfl
    rw [e]
    split
    · have := pop_len p (a :: r)
      simp at this ⊢
      omega
    · exact Nat.le_refl _
theorem chain_len : ∀ (n : Nat) (l : List HU.P), l.length = n → (chain l).length ≤ n := by
  intro n
  induction n with
  | zero => intro l h; have := List.length_eq_zero_iff.mp h; subst this; exact Nat.le_refl _
  | succ n ih =>
    intro l h
    obtain ⟨m, z, rfl⟩ : ∃ m z, l = m ++ [z] := by
      cases l with
      | nil => simp at h
      | cons x xs => exact ⟨_, _, (List.dropLast_concat_getLast (List.cons_ne_nil x xs)).symm⟩
    rw [HU.chain_snoc]
    have h1 := ih m (by simpa using h)
    have h2 := pop_len z (chain m)
    simp
    omega
theorem cr_steps (a b p : HU.P) : (b.1 - a.1) * (p.2 - b.2) - (b.2 - a.2) * (p.1 - b.1) = cr a b p := by unfold HU.cr; grind
theorem last1 {st : List HU.P} {b a : HU.P} {r : List HU.P} (h : st = b :: a :: r) : atI (st.reverse.map rD) (-1) = some (rD b) ∧ atI (st.reverse.map rD) (-2) = some (rD a) := by
  subst h
  have hl : (((b :: a :: r).reverse).map rD).length = r.length + 2 := by simp
  unfold atI
  have e1 : ixN (((b :: a :: r).reverse).map rD).length (-1) = some (r.length + 1) := by
    rw [hl]
    unfold ixN
    simp
    omega
  have e2 : ixN (((b :: a :: r).reverse).map rD).length (-2) = some r.length := by
    rw [hl]
    unfold ixN
    simp
    omega
  rw [e1, e2]
  constructor
  · show (((b :: a :: r).reverse).map rD)[r.length + 1]? = some (rD b)
    simp [List.getElem?_append]
  · show (((b :: a :: r).reverse).map rD)[r.length]? = some (rD a)
    simp [List.getElem?_append]
theorem cut_last (l : List PyData) : cutD l none (some (-1)) = l.dropLast := by
  unfold cutD HT.sIx
  simp only [List.drop_zero, Nat.sub_zero]
  rw [if_pos (by decide), List.dropLast_eq_take]
  congr 1
  omega
/-- the hull of points in a frame -/
theorem hull_al {qs al : List HU.P} {i : Nat} (h : Al qs al i) (hb : ∀ p ∈ qs, 0 ≤ p.2 ∧ p.2 < 100) : Cv (hull al) := by
  refine HU.hull_cv (M := 100) (by decide) (h.lt.imp_of_mem fun {a b} ha hb2 q => lx_key q (hb _ ?_) (hb _ ?_))
  · exact List.mem_of_mem_take ((h.mem _).mp ha)
  · exact List.mem_of_mem_take ((h.mem _).mp hb2)
end DL
set_option Elab.async false
set_option linter.all false
set_option maxRecDepth 100000
/-! enumerate over a tuple. -/
namespace DL
open PySem PySem.Spec PyProof.Rows L2
set_option maxHeartbeats 1000000 in
theorem meets_enum1 {v : Value} {o : Obj} {H : Heap → Prop} (B : Begins v o H) :
    Meets (Builtin.«enumerate.__new__» ⟨[.type "enumerate", v], []⟩) (fun _ R s => H s.heap ∧
      R (.ok (.ret (.ref (s.heap.push o).objs.size))) { s with heap := (s.heap.push o).push { cls := .type "enumerate", data := .fields #[.none, .bool false, .ref s.heap.objs.size, rawInt 0, .none, .none] } }) :=
  .of_wp fun prog w A R s h => by
    obtain ⟨hp, g, d, tk, os⟩ := s; obtain ⟨h1, h⟩ := h
    have hsub := sub_enumerate
    have q1 : ∀ {A' : Around} {E : Value → Shared → Prop} {Q : Value → Shared → Prop}, Q (.ref hp.objs.size) ⟨hp.push o, g, d, tk, os⟩ → wpAny (model prog w) A' (pyIter v) Q E ⟨hp, g, d, tk, os⟩ :=
      fun q => B.iter prog w _ _ ⟨hp, g, d, tk, os⟩ _ h1 q
    wp_walk using q1
    refine wpAny_stack_any fun st => wpAny_pure ?_
    split
    · rename_i c _ _ _ _ _
      cases (c == Value.type "enumerate")
      · wp_walk using q1
        exact ⟨_, rfl, h⟩
      · wp_walk using q1
        exact ⟨_, rfl, h⟩
    · wp_walk using q1
      exact ⟨_, rfl, h⟩
section
variable {prog : Program} {w : World} {A : Around} {E : Value → Shared → Prop} {s : Shared}
theorem call_enum1 {v : Value} {o : Obj} {H : Heap → Prop} {Q : Value → Shared → Prop} (B : Begins v o H) (h1 : H s.heap)
    (h : ∀ h', IsEnum h' (s.heap.objs.size + 1) s.heap.objs.size 0 .none → h'.get? s.heap.objs.size = some o → h'.objs.size = s.heap.objs.size + 2 →
      (∀ b o, s.heap.get? b = some o → h'.get? b = some o) → Q (.ref (s.heap.objs.size + 1)) { s with heap := h' }) :
    wpAny (model prog w) A (call (.type "enumerate") [v]) Q E s := by
  refine callType_new F.called_enumerate (by decide) (F.typeCall_enumerate_1 _) (F.newCall_enumerate_1 _) (fun obj => F.args_object_init_2 obj _) F.entry_enumerate_new
    (meets_enum1 B) ⟨h1, ?_⟩
  have hz : (s.heap.push o).objs.size = s.heap.objs.size + 1 := Heap.size_push ..
  show _ ∧ _
  rw [hz]
  have he : IsEnum ((s.heap.push o).push { cls := .type "enumerate", data := .fields #[.none, .bool false, .ref s.heap.objs.size, rawInt 0, .none, .none] }) (s.heap.objs.size + 1) s.heap.objs.size 0 .none := by
    have := Heap.get?_push_size (s.heap.push o) (o := { cls := .type "enumerate", data := .fields #[.none, .bool false, .ref s.heap.objs.size, rawInt 0, .none, .none] }) rfl
    rw [hz] at this; exact this
  exact ⟨⟨_, he, rfl⟩, h _ he (Heap.get?_push_of_some _ (Heap.get?_push_size _ B.free)) (by rw [Heap.size_push, hz]) fun b o x => Heap.get?_push_of_some _ (Heap.get?_push_of_some _ x)⟩
end
theorem enumT_end {prog : Program} {w : World} {A : Around} {E : Value → Shared → Prop} {s : Shared} {e it t : Addr} {n : Nat} {items : Array Value} {i : Int} {old : Value} {Q : Option Value → Shared → Prop}
    (hh : A.in1.handled = none) (he : IsEnum s.heap e it i old) (hit : s.heap.IsTupleIter it t n) (ht : s.heap.IsTuple t items) (hx : items[n]? = none)
    (hQ : ∀ h', Heap.ExtBut it s.heap h' → Q none { s with heap := h' }) : wpAny (model prog w) A (pyNext (.ref e)) Q E s := by
  have hT : s.TypeIs (.ref e) "enumerate" := ⟨_, he, rfl⟩
  unfold pyNext
  refine wpAny_bind (wpAny_attempt (wpAny_callSpecial?_slot (name := Str.ofString "__next__") hT F.slot_enumerate_next
    (wpAny_call_entry F.slot_enumerate_next hT F.entry_enumerate_next ?_ (F.args_enumerate_next_1 _))))
  show wpAny _ _ (field (.ref e) 2 >>= _) _ _ _
  refine wpAny_bind (wpAny_field he rfl (x := .ref it) rfl ?_)
  refine wpAny_bind (wpAny_nextOf_tuple_end hh hit ht hx fun h' x he' hx' => ?_)
  obtain ⟨o, ho, hc⟩ := hx'
  refine wpAny_bind (wpAny_isInstance (T := "StopIteration") (b := true) ⟨o, ho, hc⟩ isSubtype_stop ?_)
  exact wpAny_pure (hQ _ he')
/-- the tuple at a as it stands at each turn, each item in a new pair -/
def IteT (K : PySem.W.Frag) (a : Addr) : It :=
  ⟨fun i H => ∃ (xs : List V) (x : V), SqT K H a xs ∧ xs[i]? = some x, fun i H v H' => ∃ T x, v = .ref T ∧ H T = none ∧ H' = upd H T (.tup [.int (i : Nat), x]) ∧ ∀ xs, SqT K H a xs → xs[i]? = some x, fun i H => ∃ xs : List V, SqT K H a xs ∧ xs.length ≤ i⟩
theorem turn_enumT {P : Program} {w : World} {K : PySem.W.Frag} {elts : List Expr} {kk : Nat} {tpos : Pos} (a e it : Addr) :
    Turn P w K (.Tuple elts kk tpos) (IteT K a) [e, it] e (fun i h => (∃ old, IsEnum h e it ((i : Nat) : Int) old) ∧ h.IsTupleIter it a i ∧ e ≠ it) where
  mem := by simp
  obj := fun i h st b hb => by
    obtain ⟨⟨old, he⟩, ⟨o, ho, hc, hd⟩, _⟩ := st
    have e' : b = e ∨ b = it := by simpa using hb
    rcases e' with z | z
    · rw [z]; exact ⟨_, he, fun v q => nomatch q⟩
    · rw [z]; exact ⟨o, ho, fun v q => by rw [hd] at q; cases q⟩
  keep := fun i h h' st k => let ⟨⟨old, he⟩, hi, hne⟩ := st; ⟨⟨old, k e (by simp) _ he⟩, hi.at fun o q => k it (by simp) o q, hne⟩
  item := by
    intro X hP hw hK hc i pins s σ H E I hf st hg
    subst hP hw hK
    obtain ⟨⟨old, he⟩, hit, hne⟩ := st
    obtain ⟨xs, x, hq, hx⟩ := hg
    obtain ⟨its, rv, p, hz⟩ := I.tuple hq
    obtain ⟨u, hu, ru⟩ := rv.get hx
    have hel : e < s.heap.objs.size := Heap.lt_size he
    have hil : it < s.heap.objs.size := by obtain ⟨_, q, _⟩ := hit; exact Heap.lt_size q
    have hait : a ≠ it := fun z => by
      obtain ⟨o1, g1, c1, _⟩ := hit
      obtain ⟨o2, g2, c2, _⟩ := p
      rw [z, g1] at g2
      cases g2
      rw [c1] at c2
      exact absurd (Value.type.inj c2) (by decide)
    have hea : e ≠ a := fun z => by
      obtain ⟨o2, g2, c2, _⟩ := p
      have he' := he
      unfold IsEnum at he'
      rw [z, g2] at he'
      cases he'
      exact absurd (Value.type.inj c2) (by decide)
    have hil2 : i < its.toArray.size := by
      have := (List.getElem?_eq_some_iff.mp hu).1
      simpa using this
    refine wpAny_pyNext_enum_itemD (Draws.tuple (A := X.A.in1) (I.ok.hd hc) it a hait its.toArray) he ⟨hit, p⟩ hil2 hne (fun hm => by
      rcases List.mem_cons.mp hm with z | z
      · exact hne z
      · exact hea (List.mem_singleton.mp z)) fun x2 h' tk hx2 ho hst' hT hsz hk => ?_
    obtain ⟨hit', _⟩ := hst'
    have eu : x2 = u := by
      have h2 : its[i]? = some x2 := by simpa using hx2
      rw [hu] at h2
      exact (Option.some.inj h2).symm
    subst eu
    refine ⟨_, rfl, wpAny_letOwnedTupleGo_enum (s := { s with heap := h', toks := tk + 1 }) ho fun h'' he' sb => ?_⟩
    have hT2 : h''.get? s.heap.objs.size = some { cls := .type "tuple", data := .seq #[.int i tk, x2] } := (sb.2 _ (Nat.ne_of_gt hel)).trans hT
    have new : ObjOk X.prog X.w (upd H s.heap.objs.size (.tup [.int (i : Nat), x])) h'' s.heap.objs.size (.tup [.int (i : Nat), x]) :=
      ⟨by show 2 ≤ sizeLine; decide, [.int i tk, x2], .cons ⟨_, rfl⟩ (.cons ru .nil), ⟨_, hT2, rfl, _, rfl⟩⟩
    have I1 : Inv X pins σ (upd H s.heap.objs.size (.tup [.int (i : Nat), x])) { s with heap := h'', toks := tk + 1 } :=
      I.turnedNew (ch := [e, it]) (fun b ob hb q => (sb.2 b (fun z => hb (by simp [z]))).trans (hk b ob (fun z => hb (by simp [z])) (fun z => hb (by simp [z])) q)) hf (Nat.le_refl _) new
    refine ⟨.ref s.heap.objs.size, _, I1, rfl, ⟨_, x, rfl, I.hok.fresh (Nat.le_refl _), rfl, fun ys hy => by rw [I.tuple_inj hy hq]; exact hx⟩, ⟨⟨x2, ?_⟩, hit'.at fun o q => (sb.2 it (Ne.symm hne)).trans q, hne⟩, fun b hb => ?_⟩
    · have e1 : ((i + 1 : Nat) : Int) = (i : Int) + 1 := by omega
      rw [e1]; exact he'
    · have hb' : b < s.heap.objs.size := by
        have e' : b = e ∨ b = it := by simpa using hb
        rcases e' with z | z
        · rw [z]; exact hel
        · rw [z]; exact hil
      rw [upd_ne (Nat.ne_of_lt hb')]
      exact (hf b hb).1
  done := by
    intro X hP hw hK hc i pins s σ H E I hf st hg
    subst hP hw hK
    obtain ⟨⟨old, he⟩, hit, hne⟩ := st
    obtain ⟨xs, hq, hx⟩ := hg
    obtain ⟨its, rv, p, hz⟩ := I.tuple hq
    obtain ⟨f0, f1, f2, f3, f4, f5⟩ := hf it (by simp)
    have hl := rv.length
    exact enumT_end (I.ok.hd hc) he hit p (by simp; omega) fun h' eb => ⟨rfl, I.turned (t' := s.toks) (fun b o hb q => eb b o hb q) f0 f1 f3 f4 f5⟩
  self := fun A i s Q E st h => let ⟨⟨_, he⟩, _⟩ := st; wpAny_pyIter_enum he h
def iEnumT (K : PySem.W.Frag) (ta : TA) : TI := fun σ H R => ta σ H fun vs H1 => ∃ a xs, vs = [.ref a] ∧ SqT K H1 a xs ∧ R (IteT K a) H1
theorem pi_enumT {X : Cx} {e : Expr} {ta : TA} {p pos tpos : Pos} {elts : List Expr} {kk : Nat} (hg : Gl X "enumerate") (hm : X.mg "enumerate" = none) (ha : PA X [e] ta) (hs : starEach [e] X.env = [(false, eval e X.env)] := by rfl) :
    PI X (.Tuple elts kk tpos) (.Call (.Name "enumerate" p) [e] [] pos) (iEnumT X.K ta) := by
  refine ⟨fun pins s σ H R I h => ?_⟩
  refine Call_ (ld_blt I hg hm boot_enumerate (PyProof.Rows.callWith_type1 (thn (ha.run pos pins s σ H _ I h) fun us s1 ⟨vs, H1, I1, r1, q1⟩ => ?_) hs rfl))
  obtain ⟨a, xs, ex, hq, q⟩ := q1
  subst ex
  cases r1 with
  | cons r rr =>
    cases rr
    cases r
    obtain ⟨its, rv, p', hz⟩ := I1.tuple hq
    refine call_enum1 (begins_tuple a its.toArray) p' fun h' he hit hsz hk => wpAny_pyIter_enum he ?_
    have I2 : Inv X pins σ H1 { s1 with heap := h' } := I1.kept (t' := s1.toks) hk
    refine ⟨s1.heap.objs.size + 1, [s1.heap.objs.size + 1, s1.heap.objs.size], _, _, H1, rfl, I2, turn_enumT a (s1.heap.objs.size + 1) s1.heap.objs.size, ⟨⟨.none, he⟩, ⟨_, hit, rfl, rfl⟩, Nat.succ_ne_self _⟩, fun b hb => ?_, q⟩
    have e' : b = s1.heap.objs.size + 1 ∨ b = s1.heap.objs.size := by simpa using hb
    have hle : s1.heap.objs.size ≤ b := by
      rcases e' with z | z
      · rw [z]; exact Nat.le_add_right _ _
      · rw [z]; exact Nat.le_refl _
    exact I1.fpOk hle (I1.hok.fresh hle)
theorem walk_enumT {K : PySem.W.Frag} {a : Addr} {xs : List V} : Walk (IteT K a) xs.length (fun H => SqT K H a xs) (YPair (fun i => some (.int (i : Nat))) (fun i => xs[i]?)) := by
  refine ⟨fun i _ hi q => ⟨xs, xs[i], q, by simp [hi]⟩, fun _ q => ⟨xs, q, Nat.le_refl _⟩, fun i H v H' _ q y => ?_⟩
  obtain ⟨T, x, h1, h2, h3, h4⟩ := y
  exact ⟨T, .int (i : Nat), x, h1, h2, h3, rfl, h4 xs q⟩
section
variable {X : Cx} {Δ : List Sl} {e a b c o : Expr} {es : List Expr} {A B C : Th → Prop} {pos : Pos} {P : Post} {rest body els : List Stmt} {st : Stmt} {W : WX}
theorem pit_enumT {tg : List Expr} {kk : Nat} {tp p : Pos} {ts : List Th} (hm : X.mg "enumerate" = none) (he : PD X Δ e (tupT X.K ts)) (hg : Gl X "enumerate" := by rfl) (hs : starEach [e] X.env = [(false, eval e X.env)] := by rfl) (hse : starEach [e] X.env = (false, eval e X.env) :: starEach [] X.env := by rfl) :
    PIt X Δ (.Tuple tg kk tp) (.Call (.Name "enumerate" p) [e] [] pos) (enumT X.K ts) := by
  obtain ⟨t, pa, f⟩ := pl_cons he pl_nil hse
  refine ⟨_, pi_enumT hg hm pa hs, fun S0 M0 H0 σ H S hA R k => f S0 M0 H0 σ H S hA _ fun ths vs H1 ha e1 r => ?_⟩
  subst ha
  obtain ⟨v, rfl, p, xs, rfl, hq, hd⟩ := all1 r
  have hl : (enumT X.K ts).length = xs.length := by unfold enumT; rw [List.length_map, List.length_zipIdx, hd.len]
  refine ⟨p, xs, rfl, ex_t hide_le hq, k _ H1 _ _ e1 (by rw [hl]; exact walk_enumT (K := X.K) (a := p) (xs := xs)) (fun Hb Hc e h => ex_t e h) hq fun i Hc v Hd S' y dom e2 => ?_⟩
  obtain ⟨T, x, z, rfl, hT, rfl, h1, h2⟩ := y
  obtain ⟨t, ht, r2⟩ := hd.get h2
  obtain ⟨q1, q2⟩ := pair_new (K := X.K) (x := x) (y := z) (t := dat X.K (.int (i : Nat))) (u := t) hT dom (by rw [← Option.some.inj h1]; exact Dp.int _) (t.up _ _ _ e2 r2)
  exact ⟨q1, _, by unfold enumT; rw [List.getElem?_map, List.getElem?_zipIdx, ht]; simp, q2⟩
end
end DL
set_option Elab.async false
set_option linter.all false
set_option maxRecDepth 100000
/-! Objects that are made once and then only read: their fields, methods, properties. -/
namespace DL
open PySem PySem.Spec PyProof.Rows L2
/-- an object of the class at C with just these fields -/
def objT (C : Addr) (fs : List (Str × Th)) : Th := ⟨fun H v => ∃ a dx kvs, v = .ref a ∧ H a = some (.ins C dx kvs) ∧ (∀ f, fs.lookup f = none → kvs.lookup f = none) ∧ ∀ f t, fs.lookup f = some t → ∃ w, kvs.lookup f = some w ∧ t.R H w,
  fun H H' v e ⟨a, dx, kvs, h1, h2, h3, h4⟩ => ⟨a, dx, kvs, h1, e a _ h2, h3, fun f t hf => let ⟨w, q1, q2⟩ := h4 f t hf; ⟨w, q1, t.up _ _ _ e q2⟩⟩⟩
/-- the method m of the class at C keeps R -/
structure Mth (P : Program) (w : World) (K : PySem.W.Frag) (mg : Str → Option Value) (base : Heap) (C : Addr) (m : Str) (k : Nat) (R : Cn) : Prop where
  ex : ∃ f fd ps, Meth K C m f ∧ Binds K fd ps [] ∧ FnOk P w K mg base CX0 k f fd ps (spT R)
structure MthX (P : Program) (w : World) (K : PySem.W.Frag) (mg : Str → Option Value) (base : Heap) (C : Addr) (m : Str) (k : Nat) (R : CnX) : Prop where
  ex : ∃ f fd ps, Meth K C m f ∧ Binds K fd ps [] ∧ FnOk P w K mg base (L2.CX P w) k f fd ps (spX R)
structure Prp (P : Program) (w : World) (K : PySem.W.Frag) (mg : Str → Option Value) (base : Heap) (C : Addr) (m : Str) (k : Nat) (R : Cn) : Prop where
  ex : ∃ p f fd ps, PropOf K C m p f ∧ Binds K fd ps [] ∧ FnOk P w K mg base CX0 k f fd ps (spT R)
def tMethX (C : Addr) (m : Str) (sp : Sp) (E : L2.St → XK) (ta : TE) (t : TA) : TE := fun σ H Q => ta σ H fun x H1 => ∃ a dx fs, x = .ref a ∧ H1 a = some (.ins C dx fs) ∧ fs.lookup m = none ∧ t σ H1 fun vs H2 => sp (x :: vs) H2 Q (E σ)
section
variable {X : Cx} {CX : CXT} {C f : Addr} {m : Str} {fd : FuncData} {ps : List Str} {sp : Sp} {E : L2.St → XK} {ta : TE} {t : TA} {o e : Expr} {es : List Expr} {apos pos : Pos} {k : Nat}
theorem pe_methX {pl : Sem Bool} (he : PE X o ta) (c : Cls X.K C) (hm : Meth X.K C m f) (F : FnOk X.prog X.w X.K X.mg X.base CX k f fd ps sp) (hr : Room k X.A) (hb : Binds X.K fd ps []) (hx : ∀ σ, PassesAt CX X σ (E σ)) (ha : PA X (e :: es) t)
    (hst : starEach (e :: es) X.env = (false, eval e X.env) :: starEach es X.env := by rfl) (hpl : (backTo pos (starEach es X.env)).any (·.1) = false := by rfl)
    (ht : eval (.Call (.Attribute o m apos) (e :: es) [] pos) X.env = (do
      let ov ← eval o X.env
      standAt apos.atName
      let (f, first) ← holding [ov] (getMethod ov m pl)
      callWith pos f first (backTo pos (starEach (e :: es) X.env)) (backToKw pos (keywordEach [] X.env))) := by rfl) :
    PE X (.Call (.Attribute o m apos) (e :: es) [] pos) (tMethX C m sp E ta t) := by
  refine ⟨fun pins s σ H Q I h => ?_⟩
  refine PySem.W.methodCall_KW (pl := pl) (thn (he.run pins s σ H _ I h) fun u s1 ⟨x, H1, I1, rx, a, dx, fs, ex, ea, l, q⟩ => ?_) ht
  subst ex
  obtain rfl : u = Value.ref a := rx
  refine getmeth_ok I1 ea c hm l ?_
  refine PySem.W.callWith_K (first := [.ref a]) (h₀ := X.base) I.ok.mod.kin hm.kp (thn (ha.run pos pins s1 σ H1 _ I1 q) fun us s2 ⟨vs, H2, I2, r, q2⟩ => ⟨I2.kIn, ?_⟩) hst hpl
  exact run_fnS (us := .ref a :: us) (vs := .ref a :: vs) F hr hb (hx σ) I2 (.cons rfl r) q2
end
section
variable {X : Cx} {Δ : List Sl} {e a b c o : Expr} {es : List Expr} {A B : Th → Prop} {pos apos : Pos} {P : Post} {rest body els : List Stmt} {st : Stmt} {W : WX} {C : Addr} {fs : List (Str × Th)} {k : Nat}
/-- o.f -/
theorem pd_fld {f : Str} {t : Th} (c : Cls X.K C) (hn : NoAttr X.K C f) (ho : PD X Δ o (objT C fs)) (hl : fs.lookup f = some t) (hb : attributeBase o f X.env (eval o X.env) = eval o X.env := by rfl) : PD X Δ (.Attribute o f pos) t := by
  obtain ⟨te, pe, fe⟩ := ho
  refine ⟨_, pe_fld pe hb, fun S0 M0 H0 σ H S hA Q q => fe S0 M0 H0 σ H S hA _ fun th v H1 hth e1 r => ?_⟩
  subst hth
  obtain ⟨a, dx, kvs, rfl, h2, h3, h4⟩ := r
  obtain ⟨w, q1, q2⟩ := h4 f t hl
  exact ⟨a, C, dx, kvs, w, rfl, hide_le _ _ h2, c, hn, q1, q _ w H1 rfl e1 q2⟩
/-- o.m(e, ..) -/
theorem px_meth {m : Str} {R : Cn} {Bt : List Th → Prop} {Ct : Th → Prop} (M : Mth X.prog X.w X.K X.mg X.base C m k R) (c : Cls X.K C) (hr : Room k X.A) (ho : PD X Δ o (objT C fs)) (hm : fs.lookup m = none) (ha : PL X Δ (e :: es) Bt) (h : ∀ ts, Bt ts → ∃ A, R (objT C fs :: ts) A ∧ ∀ t, A t → Ct t)
    (hst : starEach (e :: es) X.env = (false, eval e X.env) :: starEach es X.env := by rfl) (hpl : (backTo pos (starEach es X.env)).any (·.1) = false := by rfl) {pl : Sem Bool}
    (ht : eval (.Call (.Attribute o m apos) (e :: es) [] pos) X.env = (do
      let ov ← eval o X.env
      standAt apos.atName
      let (f, first) ← holding [ov] (getMethod ov m pl)
      callWith pos f first (backTo pos (starEach (e :: es) X.env)) (backToKw pos (keywordEach [] X.env))) := by rfl) : PX X Δ (.Call (.Attribute o m apos) (e :: es) [] pos) Ct := by
  obtain ⟨f, fd, ps, hM, hb, F⟩ := M.ex
  obtain ⟨te, pe, fe⟩ := ho
  obtain ⟨ta, pa, fa⟩ := ha
  refine ⟨_, pe_meth (E := E0) (dvs := []) pe c hM F hr hb .nil pass0 pa hst hpl ht, fun S0 M0 H0 σ H S hA Q q => fe S0 M0 H0 σ H S hA _ fun th v H1 hth e1 r => ?_⟩
  subst hth
  obtain ⟨a, dx, kvs, rfl, h2, h3, h4⟩ := id r
  refine ⟨a, dx, kvs, rfl, hide_le _ _ h2, h3 m hm, fa S0 M0 H0 σ H1 S (hA.up e1) _ fun ths vs H2 hB e2 r2 => ?_⟩
  obtain ⟨A, hR, hC⟩ := h ths hB
  show spT R (.ref a :: (vs ++ [])) H2 Q E0
  rw [List.append_nil]
  exact ⟨S, objT C fs :: ths, A, ((hA.up e1).up e2).dom, ⟨(objT C fs).up _ _ _ (hide_ex e2) r, r2⟩, hR, fun t v H3 ht e3 r3 => q t v H3 (hC t ht) ((e1.trans e2).trans e3) r3⟩
theorem pd_meth {m : Str} {R : Cn} {ts : List Th} {t : Th} (M : Mth X.prog X.w X.K X.mg X.base C m k R) (c : Cls X.K C) (hr : Room k X.A) (ho : PD X Δ o (objT C fs)) (hm : fs.lookup m = none) (ha : PLD X Δ (e :: es) ts) (h : R (objT C fs :: ts) (· = t))
    (hst : starEach (e :: es) X.env = (false, eval e X.env) :: starEach es X.env := by rfl) (hpl : (backTo pos (starEach es X.env)).any (·.1) = false := by rfl) {pl : Sem Bool}
    (ht : eval (.Call (.Attribute o m apos) (e :: es) [] pos) X.env = (do
      let ov ← eval o X.env
      standAt apos.atName
      let (f, first) ← holding [ov] (getMethod ov m pl)
      callWith pos f first (backTo pos (starEach (e :: es) X.env)) (backToKw pos (keywordEach [] X.env))) := by rfl) : PD X Δ (.Call (.Attribute o m apos) (e :: es) [] pos) t :=
  px_meth M c hr ho hm ha (fun us hu => ⟨_, by rw [hu]; exact h, fun _ z => z⟩) hst hpl ht
/-- o.m(e, ..), which may raise but does not -/
theorem px_methV {m : Str} {R : CnX} {Bt : List Th → Prop} {Ct : Th → Prop} (M : MthX X.prog X.w X.K X.mg X.base C m k R) (c : Cls X.K C) (hr : Room k X.A) (ho : PD X Δ o (objT C fs)) (hm : fs.lookup m = none) (ha : PL X Δ (e :: es) Bt) (h : ∀ ts, Bt ts → ∃ A, R (objT C fs :: ts) (.val A) ∧ ∀ t, A t → Ct t)
    (hst : starEach (e :: es) X.env = (false, eval e X.env) :: starEach es X.env := by rfl) (hpl : (backTo pos (starEach es X.env)).any (·.1) = false := by rfl) {pl : Sem Bool}
    (ht : eval (.Call (.Attribute o m apos) (e :: es) [] pos) X.env = (do
      let ov ← eval o X.env
      standAt apos.atName
      let (f, first) ← holding [ov] (getMethod ov m pl)
      callWith pos f first (backTo pos (starEach (e :: es) X.env)) (backToKw pos (keywordEach [] X.env))) := by rfl) : PX X Δ (.Call (.Attribute o m apos) (e :: es) [] pos) Ct := by
  obtain ⟨f, fd, ps, hM, hb, F⟩ := M.ex
  obtain ⟨te, pe, fe⟩ := ho
  obtain ⟨ta, pa, fa⟩ := ha
  refine ⟨_, pe_meth (E := E0) (dvs := []) pe c hM F hr hb .nil passL pa hst hpl ht, fun S0 M0 H0 σ H S hA Q q => fe S0 M0 H0 σ H S hA _ fun th v H1 hth e1 r => ?_⟩
  subst hth
  obtain ⟨a, dx, kvs, rfl, h2, h3, h4⟩ := id r
  refine ⟨a, dx, kvs, rfl, hide_le _ _ h2, h3 m hm, fa S0 M0 H0 σ H1 S (hA.up e1) _ fun ths vs H2 hB e2 r2 => ?_⟩
  obtain ⟨A, hR, hC⟩ := h ths hB
  show spX R (.ref a :: (vs ++ [])) H2 Q E0
  rw [List.append_nil]
  exact ⟨S, objT C fs :: ths, .val A, ((hA.up e1).up e2).dom, ⟨(objT C fs).up _ _ _ (hide_ex e2) r, r2⟩, hR, fun t v H3 ht e3 r3 => q t v H3 (hC t ht) ((e1.trans e2).trans e3) r3⟩
/-- o.m(e, ..), which raises -/
theorem pr_meth {m : Str} {R : CnX} {Bt : List Th → Prop} {Cc : Addr} {xs : List (Str × Th)} (tk : Takes X W) (M : MthX X.prog X.w X.K X.mg X.base C m k R) (c : Cls X.K C) (hr : Room k X.A) (ho : PD X Δ o (objT C fs)) (hm : fs.lookup m = none) (ha : PL X Δ (e :: es) Bt) (h : ∀ ts, Bt ts → R (objT C fs :: ts) (.exc Cc xs))
    (hst : starEach (e :: es) X.env = (false, eval e X.env) :: starEach es X.env := by rfl) (hpl : (backTo pos (starEach es X.env)).any (·.1) = false := by rfl) {pl : Sem Bool}
    (ht : eval (.Call (.Attribute o m apos) (e :: es) [] pos) X.env = (do
      let ov ← eval o X.env
      standAt apos.atName
      let (f, first) ← holding [ov] (getMethod ov m pl)
      callWith pos f first (backTo pos (starEach (e :: es) X.env)) (backToKw pos (keywordEach [] X.env))) := by rfl) : PR X W Δ (.Call (.Attribute o m apos) (e :: es) [] pos) Cc xs := by
  obtain ⟨f, fd, ps, hM, hb, F⟩ := M.ex
  obtain ⟨te, pe, fe⟩ := ho
  obtain ⟨ta, pa, fa⟩ := ha
  refine ⟨_, pe_methX pe c hM F hr hb (fun σ => passAt tk σ) pa hst hpl ht, fun S0 M0 H0 σ H S hA w Q => fe S0 M0 H0 σ H S hA _ fun th v H1 hth e1 r => ?_⟩
  subst hth
  obtain ⟨a, dx, kvs, rfl, h2, h3, h4⟩ := id r
  refine ⟨a, dx, kvs, rfl, hide_le _ _ h2, h3 m hm, fa S0 M0 H0 σ H1 S (hA.up e1) _ fun ths vs H2 hB e2 r2 => ?_⟩
  exact ⟨S, objT C fs :: ths, .exc Cc xs, ((hA.up e1).up e2).dom, ⟨(objT C fs).up _ _ _ (hide_ex e2) r, r2⟩, h ths hB, fun d H' e3 r3 nd => w H' d ((e1.trans e2).trans e3) r3 nd⟩
/-- o.m, a property -/
theorem pd_prop {m : Str} {R : Cn} {t : Th} (M : Prp X.prog X.w X.K X.mg X.base C m k R) (c : Cls X.K C) (hr : Room (k + 1) X.A) (ho : PD X Δ o (objT C fs)) (h : R [objT C fs] (· = t)) (hab : attributeBase o m X.env (eval o X.env) = eval o X.env := by rfl) : PD X Δ (.Attribute o m pos) t := by
  obtain ⟨p, f, fd, ps, hM, hb, F⟩ := M.ex
  obtain ⟨te, pe, fe⟩ := ho
  refine ⟨_, pe_prop (E := E0) (dvs := []) pe c hM F hr hb .nil pass0 hab, fun S0 M0 H0 σ H S hA Q q => fe S0 M0 H0 σ H S hA _ fun th v H1 hth e1 r => ?_⟩
  subst hth
  obtain ⟨a, dx, kvs, rfl, h2, h3, h4⟩ := id r
  refine ⟨a, dx, kvs, rfl, hide_le _ _ h2, ?_⟩
  exact ⟨S, [objT C fs], _, (hA.up e1).dom, ⟨r, trivial⟩, h, fun t v H3 ht e3 r3 => q t v H3 ht (e1.trans e3) r3⟩
end
end DL
set_option Elab.async false
set_option linter.all false
set_option maxRecDepth 100000
/-! Objects made: an __init__ of two fields. -/
namespace DL
open PySem PySem.Spec PyProof.Rows L2
/-- how C(..) ends: the fields, or an exception -/
inductive OutN where
  | val (fs : List (Str × Th))
  | exc (C : Addr) (xs : List (Str × Th))
def FldsR (H : Hp) (fs : List (Str × Th)) (kvs : List (Str × V)) : Prop := (∀ f, fs.lookup f = none → kvs.lookup f = none) ∧ ∀ f t, fs.lookup f = some t → ∃ w, kvs.lookup f = some w ∧ t.R H w
def spNew (C : Addr) (R : List Th → OutN → Prop) : Sp := fun vs H Q E => ∃ S ths o x dx us, vs = .ref x :: us ∧ x ∉ S ∧ dx ∉ S ∧ dx ≠ x ∧ H x = some (.ins C dx []) ∧ H dx ≠ none ∧ Dom S H ∧ All (hide (x :: dx :: S) H) ths us ∧ R ths o ∧ match o with
  | .val fs => ∀ kvs H', Ex (hide [x] H) H' → H' x = some (.ins C dx kvs) → FldsR (hide (x :: S) H') fs kvs → Q .non H'
  | .exc Cc xs => ∀ d H', Ex (hide [x] H) H' → XF (hide (x :: dx :: S) H') d xs → (∀ a, d = some a → a ∉ x :: dx :: S) → E (.ref Cc) d H'
theorem hide_cons {x : Addr} {S : List Addr} {H : Hp} : Ex (hide (x :: S) H) (hide S H) := hide_sub fun a h => List.mem_cons_of_mem _ h
/-- C is a class that makes objects by R -/
structure Mkr (P : Program) (w : World) (K : PySem.W.Frag) (mg : Str → Option Value) (base : Heap) (x : Str) (C : Addr) (k : Nat) (R : List Th → OutN → Prop) : Prop where
  gC : mg x = some (.ref C)
  ex : ∃ f fd ps, Mk K C f ∧ Binds K fd ps [] ∧ FnOk P w K mg base (L2.CX P w) k f fd ps (spNew C R)
section
variable {X : Cx} {Δ : List Sl} {e a b c o : Expr} {es : List Expr} {A B : Th → Prop} {pos apos : Pos} {P : Post} {rest body els : List Stmt} {st : Stmt} {W : WX} {C : Addr} {k : Nat}
/-- C(e, ..) -/
theorem pd_make {x : Str} {p : Pos} {R : List Th → OutN → Prop} {ts : List Th} {fs : List (Str × Th)} (M : Mkr X.prog X.w X.K X.mg X.base x C k R) (hr : Room (k + 1) X.A) (ha : PLD X Δ (e :: es) ts) (h : R ts (.val fs))
    (hg : Gl X x := by rfl) (hdb : (x == ("__debug__" : Str)) = false := by decide) (he : starEach (e :: es) X.env = (false, eval e X.env) :: starEach es X.env := by rfl) (hpl : (backTo pos (starEach es X.env)).any (·.1) = false := by rfl) :
    PD X Δ (.Call (.Name x p) (e :: es) [] pos) (objT C fs) := by
  obtain ⟨f, fd, ps, hM, hb, F⟩ := M.ex
  obtain ⟨ta, pa, fa⟩ := ha
  refine ⟨_, pe_make (E := E0) (dvs := []) hM F hr hg M.gC hb .nil passL pa hdb he hpl, fun S0 M0 H0 σ H S hA Q q => ?_⟩
  refine fa S0 M0 H0 σ H S hA _ fun ths vs H1 hB e1 r => ?_
  subst hB
  intro x dx hx hdx hne
  have dm := (hA.up e1).dom
  have xS := dm.new hx
  have dS := dm.new hdx
  have e2 : Ex H1 (upd (upd H1 dx (.own x)) x (.ins C dx [])) := (Ex.new hdx).trans (Ex.new (by rw [upd_ne (Ne.symm hne)]; exact hx))
  rw [List.append_nil]
  refine ⟨S, ths, .val fs, x, dx, vs, rfl, xS, dS, hne, upd_same, ?_, dm.up e2, r.up ?_, h, fun kvs H' e3 h3 h4 => ⟨rfl, ?_⟩⟩
  · rw [upd_ne hne, upd_same]
    exact fun z => nomatch z
  · intro a o ha
    have n0 : a ∉ S := fun z => by rw [hide_in z] at ha; cases ha
    rw [hide_out n0] at ha
    have n1 := ne_of_none ha hx
    have n2 := ne_of_none ha hdx
    rw [hide_out (by simp [n0, n1, n2])]
    exact e2 a o ha
  · refine q _ _ _ rfl (e1.trans fun a o ha => e3 a o ?_) ⟨x, dx, kvs, rfl, by rw [hide_out xS]; exact h3, h4.1, fun f t hf => ?_⟩
    · rw [hide_out (by simp [ne_of_none ha hx])]
      exact e2 a o ha
    · obtain ⟨w, q1, q2⟩ := h4.2 f t hf
      exact ⟨w, q1, t.up _ _ _ hide_cons q2⟩
/-- C(e, ..), which raises -/
theorem pr_make {x : Str} {p : Pos} {R : List Th → OutN → Prop} {Bt : List Th → Prop} {Cc : Addr} {xs : List (Str × Th)} (tk : Takes X W) (M : Mkr X.prog X.w X.K X.mg X.base x C k R) (hr : Room (k + 1) X.A) (ha : PL X Δ (e :: es) Bt) (h : ∀ ts, Bt ts → R ts (.exc Cc xs))
    (hpe : ∀ (f : Addr) (fd : FuncData) (ps : List Str) (ta : TA), Mk X.K C f → Binds X.K fd ps [] → FnOk X.prog X.w X.K X.mg X.base (L2.CX X.prog X.w) k f fd ps (spNew C R) → PA X (e :: es) ta → PE X (.Call (.Name x p) (e :: es) [] pos) (fun σ H Q => tMake C (spNew C R) [] (fun cls d H' => W cls d σ H') ta σ H Q)) :
    PR X W Δ (.Call (.Name x p) (e :: es) [] pos) Cc xs := by
  obtain ⟨f, fd, ps, hM, hb, F⟩ := M.ex
  obtain ⟨ta, pa, fa⟩ := ha
  refine ⟨_, hpe f fd ps ta hM hb F pa, fun S0 M0 H0 σ H S hA w Q => ?_⟩
  refine fa S0 M0 H0 σ H S hA _ fun ths vs H1 hB e1 r => ?_
  intro x dx hx hdx hne
  have dm := (hA.up e1).dom
  have xS := dm.new hx
  have dS := dm.new hdx
  have e2 : Ex H1 (upd (upd H1 dx (.own x)) x (.ins C dx [])) := (Ex.new hdx).trans (Ex.new (by rw [upd_ne (Ne.symm hne)]; exact hx))
  rw [List.append_nil]
  refine ⟨S, ths, .exc Cc xs, x, dx, vs, rfl, xS, dS, hne, upd_same, ?_, dm.up e2, r.up ?_, h ths hB, fun d H' e3 h3 h4 => ?_⟩
  · rw [upd_ne hne, upd_same]
    exact fun z => nomatch z
  · intro a o ha
    have n0 : a ∉ S := fun z => by rw [hide_in z] at ha; cases ha
    rw [hide_out n0] at ha
    have n1 := ne_of_none ha hx
    have n2 := ne_of_none ha hdx
    rw [hide_out (by simp [n0, n1, n2])]
    exact e2 a o ha
  · refine w H' d (e1.trans fun a o ha => e3 a o ?_) (h3.up (hide_sub fun a ha => List.mem_cons_of_mem _ (List.mem_cons_of_mem _ ha))) fun a ha z => h4 a ha (List.mem_cons_of_mem _ (List.mem_cons_of_mem _ z))
    rw [hide_out (by simp [ne_of_none ha hx])]
    exact e2 a o ha
end
/-- what doesn't lean on objects -/
def Off (t : Th) : Prop := ∀ H v x C dx kvs, H x = some (HO.ins C dx kvs) → t.R H v → t.R (hide [x] H) v
mutual
theorem dp_off {K : PySem.W.Frag} {H : Hp} {x C dx : Addr} {kvs : List (Str × V)} (h : H x = some (.ins C dx kvs)) : ∀ {d : PyData} {v : V}, Dp K H v d → Dp K (hide [x] H) v d
  | .none, _, .non => .non
  | .bool _, _, .bl b => .bl b
  | .int _, _, .int i => .int i
  | .str _, _, .str y => .str y
  | .list _, _, .lst (a := q) hq a => .lst (by
      rcases hq with (hq | ⟨o, hq⟩) | hq
      · exact Or.inl (Or.inl (by rw [hide_out (fun z => by rw [List.mem_singleton.mp z, h] at hq; cases hq)]; exact hq))
      · exact Or.inl (Or.inr ⟨o, by rw [hide_out (fun z => by rw [List.mem_singleton.mp z, h] at hq; cases hq)]; exact hq⟩)
      · exact Or.inr hq) (dpa_off h a)
  | .tuple _, _, .tup (a := q) hq a => .tup (by
      rcases hq with (hq | ⟨o, hq⟩) | hq
      · exact Or.inl (Or.inl (by rw [hide_out (fun z => by rw [List.mem_singleton.mp z, h] at hq; cases hq)]; exact hq))
      · exact Or.inl (Or.inr ⟨o, by rw [hide_out (fun z => by rw [List.mem_singleton.mp z, h] at hq; cases hq)]; exact hq⟩)
      · exact Or.inr hq) (dpa_off h a)
theorem dpa_off {K : PySem.W.Frag} {H : Hp} {x C dx : Addr} {kvs : List (Str × V)} (h : H x = some (.ins C dx kvs)) : ∀ {ds : List PyData} {vs : List V}, DpAll K H vs ds → DpAll K (hide [x] H) vs ds
  | [], _, .nil => .nil
  | _ :: _, _, .cons a t => .cons (dp_off h a) (dpa_off h t)
end
theorem off_dat {K : PySem.W.Frag} {d : PyData} : Off (dat K d) := fun H v x C dx kvs h r => dp_off h r
section
variable {P : Program} {w : World} {K : PySem.W.Frag} {mg : Str → Option Value} {base : Heap}
def iniΔ (N : List Str) (s0 : Sl) (ts : List Th) : List Sl := s0 :: (ts.map Sl.th ++ List.replicate (N.length - (ts.length + 1)) .no)
theorem ini_ml {N : List Str} {s0 : Sl} {ts ws : List Th} {i : Nat} (h0 : s0.isMl = false) (h : (iniΔ N s0 ts)[i]? = some (.ml ws)) : False := by
  cases i with
  | zero =>
    have e : s0 = .ml ws := Option.some.inj h
    rw [e] at h0
    cases h0
  | succ i => exact start_ml (ts := ts) (i := i) h
theorem at_ini {S : List Addr} {H : Hp} {N : List Str} {s0 : Sl} {ts : List Th} {v : V} {us : List V} (h0 : s0.isMl = false) (dom : Dom S H) (r0 : SlR S H (some v) s0) (r : All (hide S H) ts us) : At S [] H (iniΔ N s0 ts) (start N (v :: us)) H S := by
  refine ⟨fun _ h => h, (fun _ h => by cases h), fun _ h => Or.inl h, hide_le, dom, ?_, fun i j ts us a h1 => (ini_ml h0 h1).elim, fun i ts a h1 => (ini_ml h0 h1).elim⟩
  unfold iniΔ L2.start
  rw [List.length_cons, r.len]
  exact ⟨r0, sls_start r⟩
/-- __init__(self, ..): self.f1 = e1; self.f2 = e2 -/
theorem ini_two {qual : Str} {st : Stmt} {f C : Addr} {fd : FuncData} {N ps : List Str} {k : Nat} {R : List Th → OutN → Prop} {f1 f2 : Str} {o1 o2 e1 e2 : Expr} {q1 q2 r1 r2 : Pos} (F : Fun K "__init__" qual st f fd) (Sc : FnScope N ps (defScope st)) (c : Cls K C) (n1 : NoAttr K C f1) (n2 : NoAttr K C f2) (hne : f2 ≠ f1) (hl : ∀ ts o, R ts o → ts.length + 1 = ps.length)
    (hbody : defBody st = [.Assign [.Attribute o1 f1 q1] e1 r1, .Assign [.Attribute o2 f2 q2] e2 r2])
    (body : ∀ (cdv : Value) (A : Around) (outer : List Env) (s : Shared) (H : Hp) (E : XK), Room k (A.deeper (envOfC qual (defScope st) s.heap.objs.size f cdv)) → ∀ ts o, R ts o →
      PE (cxOf (L2.CX P w) P w K mg base N qual (defScope st) f cdv A outer s H E) o1 (tVar 0) ∧ PE (cxOf (L2.CX P w) P w K mg base N qual (defScope st) f cdv A outer s H E) o2 (tVar 0) ∧
      swapsWith e1 (some (.Attribute o1 f1 q1)) r1.line (cxOf (L2.CX P w) P w K mg base N qual (defScope st) f cdv A outer s H E).env = pure false ∧ swapsWith e2 (some (.Attribute o2 f2 q2)) r2.line (cxOf (L2.CX P w) P w K mg base N qual (defScope st) f cdv A outer s H E).env = pure false ∧ match o with
      | .val fs => ∃ t1 t2, PD (cxOf (L2.CX P w) P w K mg base N qual (defScope st) f cdv A outer s H E) (iniΔ N .no ts) e1 t1 ∧ PD (cxOf (L2.CX P w) P w K mg base N qual (defScope st) f cdv A outer s H E) (iniΔ N (.th (objT C [(f1, t1)])) ts) e2 t2 ∧ Off t2 ∧ fs = [(f2, t2), (f1, t1)]
      | .exc Cc xs => PR (cxOf (L2.CX P w) P w K mg base N qual (defScope st) f cdv A outer s H E) (fun cls d _ H => E cls d H) (iniΔ N .no ts) e1 Cc xs) : FnOk P w K mg base (L2.CX P w) (k + 1) f fd ps (spNew C R) := by
  refine F.okX Sc (fun vs H Q E ⟨S, ths, o, x, dx, us, e, _, _, _, _, _, _, r, hR, _⟩ => by rw [e, List.length_cons, ← r.len]; exact hl _ _ hR) fun cdv A outer s H vs Q E hr ⟨S, ths, o, x, dx, us, e, xS, dS, hd, hx, hdx, dom, r, hR, k⟩ => ?_
  subst e
  obtain ⟨p1, p2, s1, s2, hb⟩ := body cdv A outer s H E hr ths o hR
  rw [hbody]
  have dom' : Dom (x :: dx :: S) H := fun a ha => by
    rcases List.mem_cons.mp ha with z | z
    · rw [z, hx]; exact fun z => nomatch z
    · rcases List.mem_cons.mp z with z | z
      · rw [z]; exact hdx
      · exact dom a z
  have hA : At (x :: dx :: S) [] H (iniΔ N .no ths) (start N (.ref x :: us)) H (x :: dx :: S) := at_ini rfl dom' trivial r
  have hσ : (start N (V.ref x :: us))[0]? = some (some (.ref x)) := rfl
  cases o with
  | exc Cc xs =>
    obtain ⟨t1, pe1, g1⟩ := hb
    obtain ⟨t2, pe2⟩ := never_e (X := cxOf (L2.CX P w) P w K mg base N qual (defScope st) f cdv A outer s H E) (e := e2)
    refine ⟨_, pss_cons (ps_fld p1 pe1 s1) (pss_one (ps_fld p2 pe2 s2)), ?_⟩
    exact g1 _ _ _ _ _ _ hA (fun H' d e3 r3 nd => k d H' (hide_le.trans e3) r3 nd) _
  | val fs =>
    obtain ⟨t1, t2, ⟨te1, pe1, g1⟩, ⟨te2, pe2, g2⟩, off, rfl⟩ := hb
    refine ⟨_, pss_cons (ps_fld p1 pe1 s1) (pss_one (ps_fld p2 pe2 s2)), ?_⟩
    refine g1 _ _ _ _ _ _ hA _ fun th y1 H1 hth e3 ry1 => ?_
    rw [hth] at ry1
    refine ⟨.ref x, hσ, x, C, dx, [], rfl, e3 x _ hx, c, n1, by decide, ?_⟩
    -- behind the first field
    have hS2 : x ∉ dx :: S := fun z => by
      rcases List.mem_cons.mp z with z | z
      · exact hd z.symm
      · exact xS z
    have ex12 : Ex (hide (x :: dx :: S) H1) (hide (dx :: S) (upd H1 x (.ins C dx (putF f1 y1 [])))) := fun a o ha => by
      have n0 : a ∉ x :: dx :: S := fun z => by rw [hide_in z] at ha; cases ha
      rw [hide_out n0] at ha
      rw [hide_out (fun z => n0 (List.mem_cons_of_mem _ z)), upd_ne (fun z => n0 (by rw [z]; exact List.mem_cons_self))]
      exact ha
    have ox : (hide (dx :: S) (upd H1 x (.ins C dx (putF f1 y1 [])))) x = some (.ins C dx (putF f1 y1 [])) := by rw [hide_out hS2]; exact upd_same
    have dom2 : Dom (dx :: S) (upd H1 x (.ins C dx (putF f1 y1 []))) := fun a ha => by
      by_cases z : a = x
      · rw [z, upd_same]; exact fun z => nomatch z
      · rw [upd_ne z]
        exact (dom'.up e3) a (List.mem_cons_of_mem _ ha)
    have look1 : ∀ g, (putF f1 y1 []).lookup g = if g = f1 then some y1 else none := fun g => by rw [lookup_putF]; rfl
    have hA2 : At (dx :: S) [] (upd H1 x (.ins C dx (putF f1 y1 []))) (iniΔ N (.th (objT C [(f1, t1)])) ths) (start N (.ref x :: us)) (upd H1 x (.ins C dx (putF f1 y1 []))) (dx :: S) := by
      refine at_ini rfl dom2 ⟨_, rfl, x, dx, _, rfl, ox, fun g hg => ?_, fun g t hg => ?_⟩ ((r.up (hide_ex e3)).up ex12)
      · rw [look1]
        rw [lookup_th1] at hg
        split at hg
        · cases hg
        · rename_i z; rw [if_neg z]
      · rw [lookup_th1] at hg
        split at hg
        · rename_i z
          cases hg
          exact ⟨y1, by rw [look1, if_pos z], t1.up _ _ _ ex12 ry1⟩
        · cases hg
    refine g2 _ _ _ _ _ _ hA2 _ fun th y2 H3 hth e4 ry2 => ?_
    rw [hth] at ry2
    refine ⟨.ref x, hσ, x, C, dx, _, rfl, e4 x _ upd_same, c, n2, by rw [show putF f1 y1 [] = [(f1, y1)] from rfl]; show 1 < 1000; decide, ?_⟩
    have look2 : ∀ g, (putF f2 y2 (putF f1 y1 [])).lookup g = if g = f2 then some y2 else if g = f1 then some y1 else none := fun g => by rw [lookup_putF, look1]
    have ex34 : Ex (hide [x] (hide (dx :: S) H3)) (hide (x :: S) (upd H3 x (.ins C dx (putF f2 y2 (putF f1 y1 []))))) := fun a o ha => by
      have m0 : a ∉ [x] := fun z => by rw [hide_in z] at ha; cases ha
      rw [hide_out m0] at ha
      have m1 : a ∉ dx :: S := fun z => by rw [hide_in z] at ha; cases ha
      rw [hide_out m1] at ha
      have m2 : a ≠ x := fun z => m0 (by rw [z]; exact List.mem_singleton.mpr rfl)
      rw [hide_out (by simp [m2]; exact fun z => m1 (List.mem_cons_of_mem _ z)), upd_ne m2]
      exact ha
    have ex14 : Ex (hide (x :: dx :: S) H1) (hide (x :: S) (upd H3 x (.ins C dx (putF f2 y2 (putF f1 y1 []))))) := fun a o ha => by
      have m0 : a ∉ x :: dx :: S := fun z => by rw [hide_in z] at ha; cases ha
      rw [hide_out m0] at ha
      have m2 : a ≠ x := fun z => m0 (by rw [z]; exact List.mem_cons_self)
      have m3 : a ∉ x :: S := fun z => by
        rcases List.mem_cons.mp z with z | z
        · exact m2 z
        · exact m0 (List.mem_cons_of_mem _ (List.mem_cons_of_mem _ z))
      rw [hide_out m3, upd_ne m2]
      exact e4 a o (by rw [upd_ne m2]; exact ha)
    refine k _ _ (fun a o ha => ?_) upd_same ⟨fun g hg => ?_, fun g t hg => ?_⟩
    · have m0 : a ∉ [x] := fun z => by rw [hide_in z] at ha; cases ha
      rw [hide_out m0] at ha
      have m2 : a ≠ x := fun z => m0 (by rw [z]; exact List.mem_singleton.mpr rfl)
      rw [upd_ne m2]
      exact e4 a o (by rw [upd_ne m2]; exact e3 a o ha)
    · rw [look2]
      rw [lookup_th2] at hg
      split at hg
      · cases hg
      · rename_i z
        split at hg
        · cases hg
        · rename_i z2; rw [if_neg z, if_neg z2]
    · rw [lookup_th2] at hg
      split at hg
      · rename_i z
        cases hg
        refine ⟨y2, by rw [look2, if_pos z], t2.up _ _ _ ex34 (off _ _ x C dx (putF f1 y1 []) ?_ ry2)⟩
        rw [hide_out hS2]
        exact e4 x _ upd_same
      · rename_i z
        split at hg
        · rename_i z2
          cases hg
          exact ⟨y1, by rw [look2, if_neg z, if_pos z2], t1.up _ _ _ ex14 ry1⟩
        · cases hg
end
end DL
set_option Elab.async false
set_option linter.all false
set_option maxRecDepth 100000
/-! a in b, b an object with a __contains__ of its own; min of a list of ints. -/
namespace DL
open PySem PySem.Spec PyProof.Rows L2
def rInO (C : Addr) (sp : Sp) : R2 := fun v x H Q => ∃ a dx kvs, x = .ref a ∧ H a = some (.ins C dx kvs) ∧ sp [.ref a, v] H (fun y H' => ∃ b : Bool, y = .bl b ∧ Q (.bl b) H') E0
theorem op_inO {X : Cx} {C f : Addr} {k : Nat} {fd : FuncData} {ps : List Str} {sp : Sp} (hM : Meth X.K C "__contains__" f) (hb : Binds X.K fd ps []) (F : FnOk X.prog X.w X.K X.mg X.base CX0 k f fd ps sp) (hr : Room k X.A) : OpR X (compareOp .In) (rInO C sp) := by
  intro pins s σ H v x u ux Q I rv rx h
  obtain ⟨a, dx, kvs, rfl, ea, hq⟩ := h
  obtain rfl : ux = Value.ref a := rx
  obtain ⟨mA, O, _⟩ := ins_get I.hok ea
  obtain ⟨od, J, _⟩ := O.look
  obtain ⟨m, fr⟩ := I.fr
  refine PySem.W.in_K fr I.ok.mod.kin J hM.at_ hM.fn ?_
  have hq' : sp ([V.ref a, v] ++ []) H (fun y H' => ∃ b : Bool, y = .bl b ∧ Q (.bl b) H') E0 := by rw [List.append_nil]; exact hq
  refine wpAny_mono (run_fn (E := E0) F hr hb .nil pass0 I (.cons (show RelV (.ref a) (.ref a) from rfl) (.cons rv .nil)) hq') (fun r s' hs => ?_) fun _ _ z => z
  obtain ⟨y, H', I', ry, b, rfl, q⟩ := hs
  obtain rfl : r = Value.bool b := ry
  exact wpAny_truthy_bool ⟨.bl b, H', I', rfl, q⟩
section
variable {X : Cx} {Δ : List Sl} {e a b c o : Expr} {es : List Expr} {A B : Th → Prop} {pos apos : Pos} {P : Post} {rest body els : List Stmt} {st : Stmt} {W : WX} {C : Addr} {fs : List (Str × Th)} {k : Nat}
theorem pd_inO {R : Cn} {t : Th} {r : Bool} (M : Mth X.prog X.w X.K X.mg X.base C "__contains__" k R) (hr : Room k X.A) (ha : PD X Δ a t) (hb : PD X Δ b (objT C fs)) (h : R [objT C fs, t] (· = dat X.K (.bool r))) (hm : behindInMarks .In b = false := by rfl) :
    PD X Δ (.Compare a [.In] [b] pos) (dat X.K (.bool r)) := by
  obtain ⟨f, fd, ps, hM, hB, F⟩ := M.ex
  refine px_two (fun _ _ pa pb => pe_cmpR (op_inO hM hB F hr) pa pb hm) ha hb fun S H x' y' v w dom hx hy rx ry Q q => ?_
  subst hx; subst hy
  obtain ⟨p, dx, kvs, rfl, h2, h3, h4⟩ := id ry
  refine ⟨p, dx, kvs, rfl, hide_le _ _ h2, S, [objT C fs, x'], _, dom, ⟨ry, rx, trivial⟩, h, fun t' v' H' ht e' r' => ?_⟩
  subst ht
  have r2 : Dp X.K (hide S H') v' (.bool r) := r'
  have := dp_bool r2
  subst this
  exact ⟨r, rfl, q _ _ H' rfl e' (Dp.bl r)⟩
/-- min(e), e a list of ints -/
theorem px_min {p : Pos} {ns : List Int} (hm : X.mg "min" = none) (ha : PD X Δ e (dat X.K (.list (ns.map .int)))) (hn : 0 < ns.length) (hc : X.calm = true := by rfl) (hg : Gl X "min" := by rfl) (he : starEach [e] X.env = (false, eval e X.env) :: starEach [] X.env := by rfl) (hpl : (backTo pos (starEach [] X.env)).any (·.1) = false := by rfl) :
    PX X Δ (.Call (.Name "min" p) [e] [] pos) (isI X.K fun m => m ∈ ns ∧ ∀ y, y ∈ ns → m ≤ y) := by
  obtain ⟨t, pa, fa⟩ := pl_cons ha pl_nil he
  refine ⟨_, pe_callB (cr_min hc) hg hm (by decide +kernel) pa (by decide) (by decide) he hpl, fun S0 M0 H0 σ H S hA Q q => ?_⟩
  refine fa S0 M0 H0 σ H S hA _ fun ths vs H1 hB e1 r => ?_
  subst hB
  obtain ⟨v, rfl, r0⟩ := all1 r
  obtain ⟨a, xs, rfl, hq, hd⟩ := dp_lst r0
  have e := ints_dp hd
  subst e
  exact ⟨a, ns, rfl, ex_l hide_le hq, hn, fun m h1 h2 => q _ _ H1 ⟨m, rfl, h1, h2⟩ e1 (Dp.int m)⟩
end
end DL
set_option Elab.async false
set_option linter.all false
set_option maxRecDepth 100000
set_option maxHeartbeats 4000000
namespace K03
open PySem PySem.Spec PyProof.Rows L2 DL
def top (i : Nat) : Stmt := PySem.Challenge.pw_firmstops_k03_whole_works_made_and_refus.main.body.getD i (.Pass ⟨0, 0, 0, 0⟩)
abbrev s__wall : Stmt := top 1
abbrev s_is_whole : Stmt := top 7
abbrev s_is_ratio : Stmt := top 8
abbrev s_is_sequence : Stmt := top 9
abbrev s_is_ratio_row : Stmt := top 10
abbrev s_lowest : Stmt := top 11
abbrev s_plus : Stmt := top 12
abbrev s_minus : Stmt := top 13
abbrev s_times : Stmt := top 14
abbrev s_negative : Stmt := top 15
abbrev s_sign_of_whole : Stmt := top 16
abbrev s_sign_of : Stmt := top 17
abbrev s_is_couple : Stmt := top 19
abbrev s_place_minus : Stmt := top 20
abbrev s_dot_of : Stmt := top 21
abbrev s_cross_of : Stmt := top 22
abbrev s_quarter_left : Stmt := top 23
abbrev s_sides_between : Stmt := top 25
abbrev s_value_from : Stmt := top 26
abbrev s_rounds_of : Stmt := top 27
abbrev s_checked_corners : Stmt := top 28
abbrev s__law_mix : Stmt := top 31
abbrev s__law_hand : Stmt := top 32
abbrev s__law_draw : Stmt := top 33
abbrev s__law_gcd : Stmt := top 34
abbrev s__law_ratio : Stmt := top 35
abbrev s__law_plus : Stmt := top 36
abbrev s__law_minus : Stmt := top 37
abbrev s__law_times : Stmt := top 38
abbrev s__law_compare : Stmt := top 39
abbrev s__law_add : Stmt := top 40
abbrev s__law_less : Stmt := top 41
abbrev s__law_scaled : Stmt := top 42
abbrev s__law_cross : Stmt := top 43
abbrev s__law_side : Stmt := top 44
abbrev s__law_normal : Stmt := top 45
abbrev s__law_hull : Stmt := top 46
abbrev s__law_work : Stmt := top 47
abbrev s__law_before : Stmt := top 48
abbrev s__law_couple : Stmt := top 49
abbrev s__law_fault : Stmt := top 50
abbrev s__law_spoilt : Stmt := top 51
abbrev s__law_made : Stmt := top 52
abbrev s__law_work_right : Stmt := top 53
abbrev s_law : Stmt := top 54
theorem sc__wall : FnScope ["k"] ["k"] (defScope s__wall) := ⟨rfl, rfl, rfl, by decide +kernel, rfl, by decide +kernel, by decide +kernel⟩
theorem sc_is_whole : FnScope ["thing", "low", "high"] ["thing", "low", "high"] (defScope s_is_whole) := ⟨rfl, rfl, rfl, by decide +kernel, rfl, by decide +kernel, by decide +kernel⟩
theorem sc_is_ratio : FnScope ["thing", "top", "bottom"] ["thing"] (defScope s_is_ratio) := ⟨rfl, rfl, rfl, by decide +kernel, rfl, by decide +kernel, by decide +kernel⟩
theorem sc_is_sequence : FnScope ["thing"] ["thing"] (defScope s_is_sequence) := ⟨rfl, rfl, rfl, by decide +kernel, rfl, by decide +kernel, by decide +kernel⟩
theorem sc_is_ratio_row : FnScope ["thing", "many", "one"] ["thing", "many"] (defScope s_is_ratio_row) := ⟨rfl, rfl, rfl, by decide +kernel, rfl, by decide +kernel, by decide +kernel⟩
theorem sc_lowest : FnScope ["top", "bottom", "shared"] ["top", "bottom"] (defScope s_lowest) := ⟨rfl, rfl, rfl, by decide +kernel, rfl, by decide +kernel, by decide +kernel⟩
theorem sc_plus : FnScope ["one", "other"] ["one", "other"] (defScope s_plus) := ⟨rfl, rfl, rfl, by decide +kernel, rfl, by decide +kernel, by decide +kernel⟩
theorem sc_minus : FnScope ["one", "other"] ["one", "other"] (defScope s_minus) := ⟨rfl, rfl, rfl, by decide +kernel, rfl, by decide +kernel, by decide +kernel⟩
theorem sc_times : FnScope ["one", "other"] ["one", "other"] (defScope s_times) := ⟨rfl, rfl, rfl, by decide +kernel, rfl, by decide +kernel, by decide +kernel⟩
theorem sc_negative : FnScope ["one"] ["one"] (defScope s_negative) := ⟨rfl, rfl, rfl, by decide +kernel, rfl, by decide +kernel, by decide +kernel⟩
theorem sc_sign_of_whole : FnScope ["number"] ["number"] (defScope s_sign_of_whole) := ⟨rfl, rfl, rfl, by decide +kernel, rfl, by decide +kernel, by decide +kernel⟩
theorem sc_sign_of : FnScope ["one"] ["one"] (defScope s_sign_of) := ⟨rfl, rfl, rfl, by decide +kernel, rfl, by decide +kernel, by decide +kernel⟩
theorem sc_is_couple : FnScope ["thing"] ["thing"] (defScope s_is_couple) := ⟨rfl, rfl, rfl, by decide +kernel, rfl, by decide +kernel, by decide +kernel⟩
theorem sc_place_minus : FnScope ["one", "other"] ["one", "other"] (defScope s_place_minus) := ⟨rfl, rfl, rfl, by decide +kernel, rfl, by decide +kernel, by decide +kernel⟩
theorem sc_dot_of : FnScope ["one", "other"] ["one", "other"] (defScope s_dot_of) := ⟨rfl, rfl, rfl, by decide +kernel, rfl, by decide +kernel, by decide +kernel⟩
theorem sc_cross_of : FnScope ["one", "other"] ["one", "other"] (defScope s_cross_of) := ⟨rfl, rfl, rfl, by decide +kernel, rfl, by decide +kernel, by decide +kernel⟩
theorem sc_quarter_left : FnScope ["one"] ["one"] (defScope s_quarter_left) := ⟨rfl, rfl, rfl, by decide +kernel, rfl, by decide +kernel, by decide +kernel⟩
theorem sc_sides_between : FnScope ["corners", "at", "corner"] ["corners"] (defScope s_sides_between) := ⟨rfl, rfl, rfl, by decide +kernel, rfl, by decide +kernel, by decide +kernel⟩
theorem sc_value_from : FnScope ["corner", "normal", "place"] ["corner", "normal", "place"] (defScope s_value_from) := ⟨rfl, rfl, rfl, by decide +kernel, rfl, by decide +kernel, by decide +kernel⟩
theorem sc_rounds_of : FnScope ["sides", "ups", "side", "at", "up"] ["sides"] (defScope s_rounds_of) := ⟨rfl, rfl, rfl, by decide +kernel, rfl, by decide +kernel, by decide +kernel⟩
theorem sc_checked_corners : FnScope ["corners", "at", "corner", "kept", "sides", "side"] ["corners"] (defScope s_checked_corners) := ⟨rfl, rfl, rfl, by decide +kernel, rfl, by decide +kernel, by decide +kernel⟩
theorem sc__law_mix : FnScope ["_law_number", "_law_turn", "_law_once", "_law_twice"] ["_law_number", "_law_turn"] (defScope s__law_mix) := ⟨rfl, rfl, rfl, by decide +kernel, rfl, by decide +kernel, by decide +kernel⟩
theorem sc__law_hand : FnScope ["_law_script", "_law_total", "_law_k", "_law_cell"] ["_law_script"] (defScope s__law_hand) := ⟨rfl, rfl, rfl, by decide +kernel, rfl, by decide +kernel, by decide +kernel⟩
theorem sc__law_draw : FnScope ["_law_hand_here", "_law_many", "_law_cell", "_law_rest"] ["_law_hand_here", "_law_many"] (defScope s__law_draw) := ⟨rfl, rfl, rfl, by decide +kernel, rfl, by decide +kernel, by decide +kernel⟩
theorem sc__law_gcd : FnScope ["_law_one", "_law_other", "_law_rest"] ["_law_one", "_law_other"] (defScope s__law_gcd) := ⟨rfl, rfl, rfl, by decide +kernel, rfl, by decide +kernel, by decide +kernel⟩
theorem sc__law_ratio : FnScope ["_law_top", "_law_bottom", "_law_share"] ["_law_top", "_law_bottom"] (defScope s__law_ratio) := ⟨rfl, rfl, rfl, by decide +kernel, rfl, by decide +kernel, by decide +kernel⟩
theorem sc__law_plus : FnScope ["_law_one", "_law_other"] ["_law_one", "_law_other"] (defScope s__law_plus) := ⟨rfl, rfl, rfl, by decide +kernel, rfl, by decide +kernel, by decide +kernel⟩
theorem sc__law_minus : FnScope ["_law_one", "_law_other"] ["_law_one", "_law_other"] (defScope s__law_minus) := ⟨rfl, rfl, rfl, by decide +kernel, rfl, by decide +kernel, by decide +kernel⟩
theorem sc__law_times : FnScope ["_law_one", "_law_other"] ["_law_one", "_law_other"] (defScope s__law_times) := ⟨rfl, rfl, rfl, by decide +kernel, rfl, by decide +kernel, by decide +kernel⟩
theorem sc__law_compare : FnScope ["_law_one", "_law_other", "_law_left", "_law_right"] ["_law_one", "_law_other"] (defScope s__law_compare) := ⟨rfl, rfl, rfl, by decide +kernel, rfl, by decide +kernel, by decide +kernel⟩
theorem sc__law_add : FnScope ["_law_one", "_law_other"] ["_law_one", "_law_other"] (defScope s__law_add) := ⟨rfl, rfl, rfl, by decide +kernel, rfl, by decide +kernel, by decide +kernel⟩
theorem sc__law_less : FnScope ["_law_one", "_law_other"] ["_law_one", "_law_other"] (defScope s__law_less) := ⟨rfl, rfl, rfl, by decide +kernel, rfl, by decide +kernel, by decide +kernel⟩
theorem sc__law_scaled : FnScope ["_law_one", "_law_by"] ["_law_one", "_law_by"] (defScope s__law_scaled) := ⟨rfl, rfl, rfl, by decide +kernel, rfl, by decide +kernel, by decide +kernel⟩
theorem sc__law_cross : FnScope ["_law_one", "_law_other"] ["_law_one", "_law_other"] (defScope s__law_cross) := ⟨rfl, rfl, rfl, by decide +kernel, rfl, by decide +kernel, by decide +kernel⟩
theorem sc__law_side : FnScope ["_law_corners", "_law_k"] ["_law_corners", "_law_k"] (defScope s__law_side) := ⟨rfl, rfl, rfl, by decide +kernel, rfl, by decide +kernel, by decide +kernel⟩
theorem sc__law_normal : FnScope ["_law_corners", "_law_k", "_law_way"] ["_law_corners", "_law_k"] (defScope s__law_normal) := ⟨rfl, rfl, rfl, by decide +kernel, rfl, by decide +kernel, by decide +kernel⟩
theorem sc__law_hull : FnScope ["_law_points", "_law_alone", "_law_point", "_law_found", "_law_row", "_law_half", "_law_turn", "_law_a", "_law_b"] ["_law_points"] (defScope s__law_hull) := ⟨rfl, rfl, rfl, by decide +kernel, rfl, by decide +kernel, by decide +kernel⟩
theorem sc__law_work : FnScope ["_law_hand_here", "_law_most", "_law_kind", "_law_points", "_law_wide", "_law_high", "_law_found", "_law_k", "_law_cell", "_law_bottom", "_law_by", "_law_begin", "_law_x", "_law_y"] ["_law_hand_here", "_law_most"] (defScope s__law_work) := ⟨rfl, rfl, rfl, by decide +kernel, rfl, by decide +kernel, by decide +kernel⟩
theorem sc__law_before : FnScope ["_law_one", "_law_other", "_law_first"] ["_law_one", "_law_other"] (defScope s__law_before) := ⟨rfl, rfl, rfl, by decide +kernel, rfl, by decide +kernel, by decide +kernel⟩
theorem sc__law_couple : FnScope ["_law_thing", "_law_one"] ["_law_thing"] (defScope s__law_couple) := ⟨rfl, rfl, rfl, by decide +kernel, rfl, by decide +kernel, by decide +kernel⟩
theorem sc__law_fault : FnScope ["_law_corners", "_law_many", "_law_k", "_law_minima", "_law_here", "_law_back", "_law_after"] ["_law_corners"] (defScope s__law_fault) := ⟨rfl, rfl, rfl, by decide +kernel, rfl, by decide +kernel, by decide +kernel⟩
theorem sc__law_spoilt : FnScope ["_law_hand_here", "_law_corners", "_law_kind", "_law_at", "_law_share", "_law_put", "_law_step", "_law_things", "_law_k"] ["_law_hand_here", "_law_corners"] (defScope s__law_spoilt) := ⟨rfl, rfl, rfl, by decide +kernel, rfl, by decide +kernel, by decide +kernel⟩
theorem sc__law_made : FnScope ["_law_corners", "_law_found", "e"] ["_law_corners"] (defScope s__law_made) := ⟨rfl, rfl, rfl, by decide +kernel, rfl, by decide +kernel, by decide +kernel⟩
theorem sc__law_work_right : FnScope ["_law_work_here", "_law_corners", "_law_corner", "_law_due", "_law_other", "_law_begun", "_law_k"] ["_law_work_here", "_law_corners"] (defScope s__law_work_right) := ⟨rfl, rfl, rfl, by decide +kernel, rfl, by decide +kernel, by decide +kernel⟩
theorem sc_law : FnScope ["_law_script", "_law_hand_here", "_law_work_here", "_law_rows", "_law_thing", "_law_told", "_law_row", "_law_due", "_law_kept", "_law_passed", "_law_listed", "_law_made_here", "e", "_law_corner"] ["_law_script"] (defScope s_law) := ⟨rfl, rfl, rfl, by decide +kernel, rfl, by decide +kernel, by decide +kernel⟩
structure Txt (K : PySem.W.Frag) (mg : Str → Option Value) : Prop where
  z_int : mg "int" = none
  z_abs : mg "abs" = none
  z_len : mg "len" = none
  z_enumerate : mg "enumerate" = none
  z_isinstance : mg "isinstance" = none
  z_bool : mg "bool" = none
  z_tuple : mg "tuple" = none
  z_list : mg "list" = none
  z_all : mg "all" = none
  z_range : mg "range" = none
  z_sorted : mg "sorted" = none
  z_min : mg "min" = none
  z_zip : mg "zip" = none
  z_str : mg "str" = none
  m_gcd : mg "gcd" = some (.builtin "math.gcd")
end K03
set_option Elab.async false
set_option linter.all false
set_option maxRecDepth 100000
set_option maxHeartbeats 4000000
namespace K03
open PySem PySem.Spec PyProof.Rows L2 DL
section
variable {P : Program} {w : World} {K : PySem.W.Frag} {mg : Str → Option Value} {base : Heap} {f : Addr} {fd : FuncData}

def forBody (s : Stmt) : List Stmt := match s with
  | .For _ _ b _ _ => b
  | _ => []
theorem pop_short {p : Q} {st : List Q} (h : st.length < 2) : HU.popTo p st = st := by
  match st, h with
  | [], _ => rfl
  | [_], _ => rfl
  | _ :: _ :: _, h => exact absurd h (by simp only [List.length_cons]; omega)
def GP (p : Q) : Prop := 0 ≤ p.1 ∧ p.1 < 100 ∧ 0 ≤ p.2 ∧ p.2 < 100
def RHull (K : PySem.W.Frag) : Cn := fun ts A => ∃ ps : List Q, ts = [dat K (.list (ps.map rD))] ∧ ps.length ≤ 14 ∧ (∀ p ∈ ps, GP p) ∧ A = (fun t => ∃ qs : List Q, t = dat K (.list (qs.map rD)) ∧ (qs = [] ∨ 3 ≤ qs.length) ∧ qs.length ≤ 28 ∧ HU.Cv qs ∧ ∀ q ∈ qs, q ∈ ps)
def lowH (al : List Q) : Nat → List Q
  | 0 => []
  | 1 => (HU.chain al).tail.reverse
  | _ => HU.hull al
theorem sh_rD (q : Q) : SeqAt.shaped (rD q) = true := shaped_rD q
theorem ok_hull (F : Fun K "_law_hull" "_law_hull" s__law_hull f fd) (T : Txt K mg) : FnOk P w K mg base CX0 1 f fd ["_law_points"] (spT (RHull K)) := by
  refine fn_mk F sc__law_hull (fun ts A ⟨_, e, _⟩ => by rw [e]; rfl) fun cdv Ar outer s H E hr ts B hR => ?_
  obtain ⟨ps, rfl, hlen, hps, rfl⟩ := hR
  refine sd_new 1 ?_ sc__law_hull.nd
  refine sd_forDX 2 (Ad := fun ds => ∃ qs : List Q, ds = qs.map rD ∧ qs.Perm ps ∧ qs.Pairwise (fun x y => SrtO.lexB y x = false)) (fun ds i Δ' => ∃ (qs al : List Q) (s2 : Sl), ds = qs.map rD ∧ Al qs al i ∧ Δ' = [.th (dat K (.list (ps.map rD))), .ml ((al.map rD).map (dat K)), s2, .no, .no, .no, .no, .no, .no]) ((px_sorted T.z_sorted (px_var 0 rfl)).imp fun t ⟨qs, h1, h2, h3⟩ => ⟨_, h1, qs, rfl, h2, h3⟩) (fun ds ⟨qs, h1, h2, h3⟩ => ⟨qs, [], .no, h1, al_zero, rfl⟩) ?_ ?_ sc__law_hull.nd
  · rintro ds i z Δ' ⟨qs0, hd, hp, hs⟩ hz ⟨qs, al, s2, rfl, hal, rfl⟩
    have eq0 : qs = qs0 := by
      refine List.ext_getElem? fun k => ?_
      have := congrArg (fun l => l[k]?) hd
      simp only [List.getElem?_map] at this
      cases h1 : qs[k]? with
      | none => rw [h1] at this; cases h2 : qs0[k]? with
        | none => rfl
        | some y => rw [h2] at this; cases this
      | some x => rw [h1] at this; cases h2 : qs0[k]? with
        | none => rw [h2] at this; cases this
        | some y =>
          rw [h2] at this
          have e := Option.some.inj this
          unfold rD at e
          injection e with e
          injection e with e1 e2
          injection e1 with e1
          injection e2 with e2 _
          injection e2 with e2
          exact congrArg some (Prod.ext e1 e2)
    subst eq0
    obtain ⟨q, hq, rfl⟩ : ∃ q, qs[i]? = some q ∧ z = rD q := by
      rw [List.getElem?_map] at hz
      cases h : qs[i]? with
      | none => rw [h] at hz; cases hz
      | some q => rw [h] at hz; exact ⟨q, rfl, (Option.some.inj hz).symm⟩
    have hil : i < qs.length := (List.getElem?_eq_some_iff.mp hq).1
    refine sd_if (k := !decide (q ∈ al)) (pb_withml 1 (ds := al.map rD) rfl (PB.is (pb_cmp (ct_notInD (u65 hr) (shaped_rD q) (shaped_qs al)) (px_var 2 rfl) (px_var 1 rfl) rfl) (by rw [any_pair]))) (fun h => ?_) (fun h => ?_)
    · have hm : q ∉ al := by simpa using h
      refine sd_app (A := (· = dat K (rD q))) 1 rfl (px_var 2 rfl) (by rw [List.length_map, List.length_map]; have := hal.len; have := hp.length_eq; omega) (fun t ht => ?_) rfl (by first | exact Or.inl rfl | exact Or.inr (Or.inl rfl)) (fun te pe => pe_bm PySem.F.plainAttrs_list PySem.F.slot_list_append PySem.F.type_list_append mt_append (pv 1) (pa_cons pe pa_nil))
      subst ht
      exact sd_nil (sd_nil ⟨qs, al ++ [q], _, rfl, al_add hal hs hq hm, by rw [List.map_append, List.map_append]; rfl⟩)
    · have hm : q ∈ al := by simpa using h
      exact sd_nil (sd_nil ⟨qs, al, _, rfl, al_skip hal hq hm, rfl⟩)
  · rintro ds Δ' ⟨qs0, hd, hp, hs⟩ ⟨qs, al, s2, rfl, hal, rfl⟩
    have hmem : ∀ x, x ∈ al ↔ x ∈ qs := fun x => by
      have := hal.mem x
      rw [List.length_map, List.take_length] at this
      exact this
    have hqp : ∀ x, x ∈ qs → x ∈ ps := fun x hx => by
      have h1 : rD x ∈ qs.map rD := List.mem_map.mpr ⟨x, hx, rfl⟩
      rw [hd] at h1
      obtain ⟨y, hy, e⟩ := List.mem_map.mp h1
      unfold rD at e
      injection e with e
      injection e with e1 e2
      injection e1 with e1
      injection e2 with e2 _
      injection e2 with e2
      have : y = x := Prod.ext e1 e2
      rw [← this]
      exact hp.mem_iff.mp hy
    have hln : al.length ≤ 14 := by
      have h1 := hal.len
      have h2 := congrArg List.length hd
      rw [List.length_map] at h1 h2
      rw [List.length_map] at h2
      have := hp.length_eq
      omega
    have hcv : HU.Cv (HU.hull al) := hull_al hal fun p hp2 => ⟨(hps p (hqp p hp2)).2.2.1, (hps p (hqp p hp2)).2.2.2⟩
    have hsub : ∀ q ∈ HU.hull al, q ∈ ps := fun q hq => hqp q ((hmem q).mp (HU.hull_sub al q hq))
    have hag : ∀ x ∈ al, GP x := fun x hx => hps x (hqp x ((hmem x).mp hx))
    have hll : ∀ i, i < 2 → (lowH al i).length ≤ 14 := fun i hi => by
      match i, hi with
      | 0, _ => exact Nat.zero_le _
      | 1, _ =>
        show (HU.chain al).tail.reverse.length ≤ 14
        rw [List.length_reverse, List.length_tail]
        have := chain_len _ al rfl
        omega
    refine sd_asg 3 (pd_lst (ds := []) pl_nil) ?_ sc__law_hull.nd
    refine sd_freeze 1 rfl rfl ?_
    refine sd_forD (ds := [.list (al.map rD), .list (al.map rD).reverse]) 4 (fun i Δ' => ∃ s2 s4 s6 s7 s8 : Sl, Δ' = [.th (dat K (.list (ps.map rD))), .th (dat K (.list (al.map rD))), s2, .th (dat K (.list ((lowH al i).map rD))), s4, .no, s6, s7, s8]) (pd_tup (ds := [.list (al.map rD), .list (al.map rD).reverse]) (pl_cons (px_var 1 rfl) (pl_cons (pd_rev (px_var 1 rfl)) pl_nil))) (Or.inl rfl) ⟨_, _, _, _, _, rfl⟩ ?_ ?_ sc__law_hull.nd
    · rintro i z Δ' hz ⟨s2, s4, s6, s7, s8, rfl⟩
      have hi : i < 2 := (List.getElem?_eq_some_iff.mp hz).1
      obtain ⟨row, rfl, hrl, hrg, hnext⟩ : ∃ row : List Q, z = .list (row.map rD) ∧ row.length ≤ 14 ∧ (∀ x ∈ row, GP x) ∧ lowH al (i + 1) = lowH al i ++ (HU.chain row).tail.reverse := by
        match i, hz with
        | 0, hz => exact ⟨al, (Option.some.inj hz).symm, hln, hag, rfl⟩
        | 1, hz => exact ⟨al.reverse, by rw [List.map_reverse]; exact (Option.some.inj hz).symm, by rw [List.length_reverse]; exact hln, fun x hx => hag x (List.mem_reverse.mp hx), rfl⟩
      refine sd_new 5 ?_ sc__law_hull.nd
      refine sd_forD (ds := row.map rD) 2 (fun j Δ' => ∃ s2 s6 s7 s8 : Sl, Δ' = [.th (dat K (.list (ps.map rD))), .th (dat K (.list (al.map rD))), s2, .th (dat K (.list ((lowH al i).map rD))), .th (dat K (.list (row.map rD))), .ml (((HU.chain (row.take j)).reverse.map rD).map (dat K)), s6, s7, s8]) (px_var 4 rfl) (Or.inr rfl) ⟨_, _, _, _, rfl⟩ ?_ ?_ sc__law_hull.nd
      · rintro j z Δ' hz ⟨s2, s6, s7, s8, rfl⟩
        obtain ⟨p, hp2, rfl⟩ : ∃ p, row[j]? = some p ∧ z = rD p := by
          rw [List.getElem?_map] at hz
          cases h : row[j]? with
          | none => rw [h] at hz; cases hz
          | some q => rw [h] at hz; exact ⟨q, rfl, (Option.some.inj hz).symm⟩
        have hcl : (HU.chain (row.take j)).length ≤ 14 := Nat.le_trans (chain_len _ _ rfl) (by rw [List.length_take]; omega)
        refine sd_forR 6 (n := 20) (fun t Δ' => ∃ (st : List Q) (s6 s7 s8 : Sl), Δ' = [.th (dat K (.list (ps.map rD))), .th (dat K (.list (al.map rD))), .th (dat K (rD p)), .th (dat K (.list ((lowH al i).map rD))), .th (dat K (.list (row.map rD))), .ml ((st.reverse.map rD).map (dat K)), s6, s7, s8] ∧ HU.popTo p st = HU.popTo p (HU.chain (row.take j)) ∧ st.length + t ≤ 14 ∧ ∀ x ∈ st, GP x) T.z_range px_int (by decide) (by decide) ⟨_, _, _, _, rfl, rfl, by omega, fun x hx => hrg x (List.mem_of_mem_take (HU.chain_sub _ x hx))⟩ ?_ ?_ sc__law_hull.nd
        · rintro t Δ' ht ⟨st, s6, s7, s8, rfl, hpop, hsl, hsg⟩
          have fin : ∀ {Po : Post} {s6 s7 s8 : Sl}, HU.popTo p st = st → (∀ s6 s7 s8 : Sl, Po.nx [.th (dat K (.list (ps.map rD))), .th (dat K (.list (al.map rD))), .th (dat K (rD p)), .th (dat K (.list ((lowH al i).map rD))), .th (dat K (.list (row.map rD))), .ml (((HU.chain (row.take (j + 1))).reverse.map rD).map (dat K)), s6, s7, s8]) → SD (cxOf CX0 P w K mg base ["_law_points", "_law_alone", "_law_point", "_law_found", "_law_row", "_law_half", "_law_turn", "_law_a", "_law_b"] "_law_hull" (defScope s__law_hull) f cdv Ar outer s H E).nox (fun _ _ _ _ => False) ((forBody ((forBody ((defBody s__law_hull).getD 3 (.Pass ⟨0, 0, 0, 0⟩))).getD 1 (.Pass ⟨0, 0, 0, 0⟩))).drop 1) Po [.th (dat K (.list (ps.map rD))), .th (dat K (.list (al.map rD))), .th (dat K (rD p)), .th (dat K (.list ((lowH al i).map rD))), .th (dat K (.list (row.map rD))), .ml ((st.reverse.map rD).map (dat K)), s6, s7, s8] := fun {Po s6 s7 s8} hst hn => by
            refine sd_app (A := (· = dat K (rD p))) 5 rfl (px_var 2 rfl) (by rw [List.length_map, List.length_map, List.length_reverse]; omega) (fun t ht => ?_) rfl (by first | exact Or.inl rfl | exact Or.inr (Or.inl rfl)) (fun te pe => pe_bm PySem.F.plainAttrs_list PySem.F.slot_list_append PySem.F.type_list_append mt_append (pv 5) (pa_cons pe pa_nil))
            subst ht
            refine sd_nil ?_
            have h := hn s6 s7 s8
            rw [chain_take hp2, ← hpop, hst, List.reverse_cons, List.map_append, List.map_append] at h
            exact h
          by_cases h2 : st.length < 2
          · exact sd_ifT (pb_withml 5 (ds := st.reverse.map rD) rfl (PB.is (pb_cmp ct_lt (pd_len T.z_len (px_var 5 rfl) rfl) px_int (nomark _)) (by rw [List.length_map, List.length_reverse]; exact decide_eq_true (by omega)))) (sd_break (fin (pop_short h2) fun s6 s7 s8 => ⟨_, _, _, _, rfl⟩))
          · obtain ⟨b, a, r, rfl⟩ : ∃ b a r, st = b :: a :: r := by
              match st, h2 with
              | [], h2 => exact absurd (Nat.zero_lt_succ 1) h2
              | [_], h2 => exact absurd (Nat.lt_succ_self 1) h2
              | b :: a :: r, _ => exact ⟨b, a, r, rfl⟩
            have gb := hsg b (by simp)
            have ga := hsg a (by simp)
            have gp := hrg p (List.mem_of_getElem? hp2)
            unfold GP at gb ga gp
            refine sd_skip (pb_withml 5 (ds := (b :: a :: r).reverse.map rD) rfl (PB.is (pb_cmp ct_lt (pd_len T.z_len (px_var 5 rfl) rfl) px_int (nomark _)) (by rw [List.length_map, List.length_reverse]; exact decide_eq_false (by simp; omega)))) ?_
            refine sd_asg 7 (pd_withml 5 (ds := (b :: a :: r).reverse.map rD) (d := .tuple [.int (b.1 - a.1), .int (b.2 - a.2)]) rfl rfl (pd_tup (ds := [.int (b.1 - a.1), .int (b.2 - a.2)]) (pl_cons (pd_sub (pd_ix (pd_ix (D := .list ((b :: a :: r).reverse.map rD)) (d := rD b) (px_var 5 rfl) (PD.is (t' := dat K (.int (-1))) (pd_neg px_int) rfl) (last1 rfl).1) px_int rfl) (pd_ix (pd_ix (D := .list ((b :: a :: r).reverse.map rD)) (d := rD a) (px_var 5 rfl) (PD.is (t' := dat K (.int (-2))) (pd_neg px_int) rfl) (last1 rfl).2) px_int rfl)) (pl_cons (pd_sub (pd_ix (pd_ix (D := .list ((b :: a :: r).reverse.map rD)) (d := rD b) (px_var 5 rfl) (PD.is (t' := dat K (.int (-1))) (pd_neg px_int) rfl) (last1 rfl).1) px_int rfl) (pd_ix (pd_ix (D := .list ((b :: a :: r).reverse.map rD)) (d := rD a) (px_var 5 rfl) (PD.is (t' := dat K (.int (-2))) (pd_neg px_int) rfl) (last1 rfl).2) px_int rfl)) pl_nil)))) ?_ sc__law_hull.nd
            refine sd_asg 8 (pd_withml 5 (ds := (b :: a :: r).reverse.map rD) (d := .tuple [.int (p.1 - b.1), .int (p.2 - b.2)]) rfl rfl (pd_tup (ds := [.int (p.1 - b.1), .int (p.2 - b.2)]) (pl_cons (pd_sub (pd_ix (D := rD p) (px_var 2 rfl) px_int rfl) (pd_ix (pd_ix (D := .list ((b :: a :: r).reverse.map rD)) (d := rD b) (px_var 5 rfl) (PD.is (t' := dat K (.int (-1))) (pd_neg px_int) rfl) (last1 rfl).1) px_int rfl)) (pl_cons (pd_sub (pd_ix (D := rD p) (px_var 2 rfl) px_int rfl) (pd_ix (pd_ix (D := .list ((b :: a :: r).reverse.map rD)) (d := rD b) (px_var 5 rfl) (PD.is (t' := dat K (.int (-1))) (pd_neg px_int) rfl) (last1 rfl).1) px_int rfl)) pl_nil)))) ?_ sc__law_hull.nd
            have hcr := cr_steps a b p
            have hlt : ∀ x y z u : Int, (0 ≤ x ∧ x < 100) → (0 ≤ y ∧ y < 100) → IntMulOk z (x - y) := fun x y z u hx hy => mulR ⟨by omega, by omega⟩
            refine sd_when (k := decide (0 < HU.cr a b p)) (PB.is (pb_cmp ct_gt (pd_sub (pd_mul (pd_ix (D := .tuple [.int (b.1 - a.1), .int (b.2 - a.2)]) (px_var 7 rfl) px_int rfl) (pd_ix (D := .tuple [.int (p.1 - b.1), .int (p.2 - b.2)]) (px_var 8 rfl) px_int rfl) (hlt _ _ _ 0 ⟨gp.2.2.1, gp.2.2.2⟩ ⟨gb.2.2.1, gb.2.2.2⟩)) (pd_mul (pd_ix (D := .tuple [.int (b.1 - a.1), .int (b.2 - a.2)]) (px_var 7 rfl) px_int rfl) (pd_ix (D := .tuple [.int (p.1 - b.1), .int (p.2 - b.2)]) (px_var 8 rfl) px_int rfl) (hlt _ _ _ 0 ⟨gp.1, gp.2.1⟩ ⟨gb.1, gb.2.1⟩))) px_int (nomark _)) (by rw [hcr])) (fun h => ?_) (fun h => ?_)
            · have h' : ¬ HU.cr a b p ≤ 0 := by have := of_decide_eq_true h; omega
              exact sd_break (fin (by show (if HU.cr a b p ≤ 0 then _ else _) = _; rw [if_neg h']) fun s6 s7 s8 => ⟨_, _, _, _, rfl⟩)
            · have h' : HU.cr a b p ≤ 0 := by have := of_decide_eq_false h; omega
              refine sd_pop 5 rfl (by simp) ?_ (pe_bm0 PySem.F.plainAttrs_list PySem.F.slot_list_pop PySem.F.type_list_pop mt_pop (pv 5))
              refine sd_nil ⟨a :: r, .th (dat K (.int (t : Int))), .th (dat K (.tuple [.int (b.1 - a.1), .int (b.2 - a.2)])), .th (dat K (.tuple [.int (p.1 - b.1), .int (p.2 - b.2)])), ?_, ?_, ?_, fun x hx => hsg x (List.mem_cons_of_mem _ hx)⟩
              · have e : (((b :: a :: r).reverse.map rD).map (dat K)).dropLast = ((a :: r).reverse.map rD).map (dat K) := by
                  rw [List.reverse_cons, List.map_append, List.map_append]
                  exact List.dropLast_concat
                show _ = _
                rw [← e]
                rfl
              · rw [← hpop]
                show _ = (if HU.cr a b p ≤ 0 then _ else _)
                rw [if_pos h']
              · simp at hsl ⊢
                omega
        · rintro Δ' ⟨st, s6, s7, s8, rfl, hpop, hsl, _⟩
          exfalso
          have : (20 : Int).toNat = 20 := rfl
          omega
      · rintro Δ' ⟨s2, s6, s7, s8, rfl⟩
        rw [List.length_map, List.take_length]
        refine sd_asg 3 (PD.is (t' := dat K (.list ((lowH al (i + 1)).map rD))) (pd_catL (px_var 3 rfl) (pd_sliceM 5 (ds := (HU.chain row).reverse.map rD) rfl (pv 5) pb_none (pb_some (PD.is (t' := dat K (.int (-1))) (pd_neg px_int) rfl))) (by rw [cut_last, List.length_map, List.length_dropLast, List.length_map, List.length_reverse]; have := chain_len _ row rfl; have := hll i hi; omega)) (by rw [cut_last, hnext, List.map_append, ← List.map_dropLast, List.dropLast_reverse]; rfl)) ?_ sc__law_hull.nd
        refine sd_forget 5 (sd_nil ?_)
        exact ⟨_, _, _, _, _, rfl⟩
    · rintro Δ' ⟨s2, s4, s6, s7, s8, rfl⟩
      have e : lowH al [PyData.list (al.map rD), PyData.list (al.map rD).reverse].length = HU.hull al := rfl
      rw [e]
      have hhl : (HU.hull al).length ≤ 28 := by
        unfold HU.hull
        rw [List.length_append, List.length_reverse, List.length_reverse, List.length_tail, List.length_tail]
        have h1 := chain_len _ al rfl
        have h2 := chain_len _ al.reverse rfl
        rw [List.length_reverse] at h2
        omega
      by_cases h3 : 2 < (HU.hull al).length
      · exact sd_retX (px_ifT (PB.is (pb_cmp ct_gt (pd_len T.z_len (px_var 3 rfl) rfl) px_int (nomark _)) (by rw [List.length_map]; exact decide_eq_true (by omega))) (px_var 3 rfl : PD _ _ _ (dat K (.list ((HU.hull al).map rD))))) (fun t ht => ⟨HU.hull al, ht, Or.inr (by omega), hhl, hcv, hsub⟩)
      · exact sd_retX (px_ifF (PB.is (pb_cmp ct_gt (pd_len T.z_len (px_var 3 rfl) rfl) px_int (nomark _)) (by rw [List.length_map]; exact decide_eq_false (by omega))) (pd_lst (ds := []) pl_nil)) (fun t ht => ⟨[], ht, Or.inl rfl, Nat.zero_le _, trivial, fun q hq => by cases hq⟩)

end
end K03
set_option Elab.async false
set_option linter.all false
set_option maxRecDepth 100000
/-! Rows of corners: sides, turns, rounds. -/
namespace DL
open PySem PySem.Spec PyProof.Rows L2
abbrev c0 : Cp := ((0, 1), (0, 1))
def at_ (cs : List Cp) (k : Nat) : Cp := cs.getD k c0
def rp (p : Cp) : HU.PR := (vR p.1, vR p.2)
def sideC (cs : List Cp) (k : Nat) : Cp := lessC (at_ cs (HU.nx cs.length k)) (at_ cs k)
def sidesC (cs : List Cp) : List Cp := (List.range cs.length).map (sideC cs)
def upB (ss : List Cp) (k : Nat) : Bool := decide (0 < signI (at_ ss k).2.1)
def roundPick (ss : List Cp) (k : Nat) : Option PyData := if (upB ss k && !upB ss (HU.pv ss.length k)) = true then some (.int (k : Int)) else none
def roundsN (ss : List Cp) : Nat := ((List.range ss.length).filterMap (roundPick ss)).length
/-- the corners of a convex work -/
structure WkN (N : Nat) (cs : List Cp) : Prop where
  cl : ∀ c ∈ cs, Cl c
  sm : ∀ c ∈ cs, CSm N c
  lo : 3 ≤ cs.length
  hi : cs.length ≤ 8
  cf : HU.Cf cs.length (fun k => rp (at_ cs k))
abbrev Wk (cs : List Cp) : Prop := WkN 100 cs
abbrev W4 (cs : List Cp) : Prop := WkN 40 cs
theorem WkN.up {n m : Nat} {cs : List Cp} (h : WkN n cs) (l : n ≤ m) : WkN m cs := ⟨h.cl, fun c hc => ⟨(h.sm c hc).x.up l, (h.sm c hc).y.up l⟩, h.lo, h.hi, h.cf⟩
theorem W4.k {cs : List Cp} (h : W4 cs) : Wk cs := WkN.up h (by decide)
theorem at_mem {cs : List Cp} {k : Nat} (h : k < cs.length) : at_ cs k ∈ cs := by
  unfold at_
  rw [List.getD_eq_getElem?_getD, List.getElem?_eq_getElem h]
  exact List.getElem_mem h
theorem at_get {cs : List Cp} {k : Nat} (h : k < cs.length) : cs[k]? = some (at_ cs k) := by
  unfold at_
  rw [List.getD_eq_getElem?_getD, List.getElem?_eq_getElem h]
  rfl
theorem sign_pos {q : Q} (h : 0 < q.2) : 0 < signI q.1 ↔ 0 < vR q := by
  have e : vR q = (q.1 : Rat) / (q.2 : Rat) := by
    unfold vR
    exact Rat.divInt_eq_div ..
  have h2 : (0 : Rat) < (q.2 : Rat) := by exact_mod_cast h
  have h3 : (0 : Rat) < (q.2 : Rat)⁻¹ := Rat.inv_pos.mpr h2
  have s : 0 < signI q.1 ↔ 0 < q.1 := by
    unfold signI
    constructor
    · intro h
      by_cases h0 : q.1 = 0
      · rw [if_pos h0] at h; omega
      · rw [if_neg h0] at h
        by_cases h1 : 0 < q.1
        · exact h1
        · rw [if_neg h1] at h; omega
    · intro h
      rw [if_neg (by omega), if_pos h]
      decide
  rw [s, e, Rat.div_def]
  constructor
  · intro g
    exact Rat.mul_pos (by exact_mod_cast g) h3
  · intro g
    have g2 : (0 : Rat) < (q.1 : Rat) := by
      by_cases z : (0 : Rat) < (q.1 : Rat)
      · exact z
      · have z2 : (q.1 : Rat) ≤ 0 := Rat.not_lt.mp z
        have z3 : (q.1 : Rat) * (q.2 : Rat)⁻¹ ≤ 0 := by
          have : (0 : Rat) ≤ (-(q.1 : Rat)) * (q.2 : Rat)⁻¹ := Rat.mul_nonneg (by grind) (Rat.le_of_lt h3)
          grind
        exact absurd g (Rat.not_lt.mpr z3)
    exact_mod_cast g2
section
variable {cs : List Cp}
theorem WkN.n0 {N : Nat} (h : WkN N cs) : 0 < cs.length := by have := h.lo; omega
theorem side_val {N : Nat} (h : WkN N cs) {k : Nat} (hk : k < cs.length) : Cl (sideC cs k) ∧ vR (sideC cs k).1 = (rp (at_ cs (HU.nx cs.length k))).1 - (rp (at_ cs k)).1 ∧ vR (sideC cs k).2 = (rp (at_ cs (HU.nx cs.length k))).2 - (rp (at_ cs k)).2 ∧ CSm (N + N + 1) (sideC cs k) := by
  have h1 := at_mem (HU.nx_lt h.n0 k)
  have h2 := at_mem hk
  have c1 := h.cl _ h1
  have c2 := h.cl _ h2
  exact ⟨⟨low_minus c1.x.2 c2.x.2, low_minus c1.y.2 c2.y.2⟩, vR_minus c1.x.2 c2.x.2, vR_minus c1.y.2 c2.y.2, csm_less (h.sm _ h1) (h.sm _ h2)⟩
theorem turn_pos {N : Nat} (h : WkN N cs) {k : Nat} (hk : k < cs.length) : 0 < signI (crossC (sideC cs (HU.pv cs.length k)) (sideC cs k)).1 := by
  have hp := HU.pv_lt h.n0 k
  obtain ⟨a1, a2, a3, _⟩ := side_val h hp
  obtain ⟨b1, b2, b3, _⟩ := side_val h hk
  obtain ⟨l, e⟩ := low_cross a1 b1
  refine (sign_pos l.2).mpr ?_
  rw [e, a2, a3, b2, b3, HU.nx_pv hk]
  have t := HU.turn_left h.lo h.cf hk
  unfold HU.cq at t
  grind
theorem sides_at {k : Nat} (hk : k < cs.length) : at_ (sidesC cs) k = sideC cs k := by
  unfold at_ sidesC
  rw [List.getD_eq_getElem?_getD, List.getElem?_map, List.getElem?_range hk]
  rfl
theorem sides_len : (sidesC cs).length = cs.length := by unfold sidesC; rw [List.length_map, List.length_range]
theorem up_iff {N : Nat} (h : WkN N cs) {k : Nat} (hk : k < cs.length) : upB (sidesC cs) k = decide ((rp (at_ cs k)).2 < (rp (at_ cs (HU.nx cs.length k))).2) := by
  unfold upB
  rw [sides_at hk]
  obtain ⟨b1, b2, b3, _⟩ := side_val h hk
  refine decide_eq_decide.mpr ((sign_pos b1.y.2).trans ?_)
  rw [b3]
  grind
theorem rounds_ok {N : Nat} (h : WkN N cs) : roundsN (sidesC cs) = 1 := by
  unfold roundsN
  have r := HU.rounds_one h.lo h.cf
  rw [← r, sides_len]
  have key : ∀ l : List Nat, (∀ k ∈ l, k < cs.length) → (l.filterMap (roundPick (sidesC cs))).length = (l.filter fun k => decide ((rp (at_ cs k)).2 < (rp (at_ cs (HU.nx cs.length k))).2) && !decide ((rp (at_ cs (HU.pv cs.length k))).2 < (rp (at_ cs k)).2)).length := by
    intro l
    induction l with
    | nil => intro _; rfl
    | cons k l ih =>
      intro hl
      have hk := hl k List.mem_cons_self
      have ih' := ih fun j hj => hl j (List.mem_cons_of_mem _ hj)
      have e1 := up_iff h hk
      have e2 := up_iff h (HU.pv_lt h.n0 k)
      rw [HU.nx_pv hk] at e2
      have e3 : roundPick (sidesC cs) k = if (decide ((rp (at_ cs k)).2 < (rp (at_ cs (HU.nx cs.length k))).2) && !decide ((rp (at_ cs (HU.pv cs.length k))).2 < (rp (at_ cs k)).2)) = true then some (.int (k : Int)) else none := by
        unfold roundPick
        rw [sides_len, e1, e2]
      rw [List.filterMap_cons, List.filter_cons, e3]
      split
      · rename_i z
        split at z
        · cases z
        · rename_i q; rw [if_neg q]; exact ih'
      · rename_i w z
        split at z
        · rename_i q
          rw [if_pos q, List.length_cons, List.length_cons, ih']
        · cases z
  exact key _ fun k hk => List.mem_range.mp hk
end
end DL
set_option Elab.async false
set_option linter.all false
set_option maxRecDepth 100000
/-! Comprehensions with a test. -/
namespace DL
open PySem PySem.Spec PyProof.Rows L2
def LcQ (K : PySem.W.Frag) (pick : Nat → Option PyData) (S : List Addr) (H1 : Hp) (D : Addr) (i : Nat) (H' : Hp) : Prop :=
  Ex H1 H' ∧ ∃ acc, H' D = some (.lst acc) ∧ DpAll K (hide (D :: S) H') acc ((List.range i).filterMap pick)
/-- the test's reading: whatever block -/
def ttU (X : Cx) (scope : Scope) (c : Expr) : TT := fun σ H Q => ∀ (s : Shared) (H0 : Hp) (C : Addr) (cl : List (Str × Addr)) (fp : List Addr), ∃ t, PT (X.blk s H0 scope (compEnvC scope cl C X.env) fp) c t ∧ t σ H Q
section
variable {X : Cx} {Δ : List Sl} {e a b c o : Expr} {es : List Expr} {A B C : Th → Prop} {pos : Pos} {P : Post} {rest body els : List Stmt} {st : Stmt} {W : WX}
theorem pick_len {pick : Nat → Option PyData} {i : Nat} : ((List.range i).filterMap pick).length ≤ i := Nat.le_trans (List.length_filterMap_le _ _) (by rw [List.length_range]; exact Nat.le_refl _)
/-- [elt for tg in it if c] -/
theorem pd_lcF {tg it elt : Expr} {scope : Scope} {own : List (Str × Nat)} {ts : List Th} {Z : Th → (List Sl → List Sl) → Prop} (pick : Nat → Option PyData) (hi : PIt X Δ tg it ts) (hz : ts.length ≤ 40000) (hg : PTb X scope tg (own.map (·.2)) Z)
    (ht : ∀ (i : Nat) z, ts[i]? = some z → ∃ u, Z z u ∧ ∀ (s : Shared) (H : Hp) (C : Addr) (cl : List (Str × Addr)) (fp : List Addr), PB (X.blk s H scope (compEnvC scope cl C X.env) fp) (u (wipeΔ Δ (own.map (·.2)))) c (pick i).isSome ∧ ∀ w, pick i = some w → PD (X.blk s H scope (compEnvC scope cl C X.env) fp) (u (wipeΔ Δ (own.map (·.2)))) elt (dat X.K w))
    (hN : X.N.Nodup) (ok : BlkOk X.N X.env.scope scope own) (hc : X.calm = true := by rfl) (hs : ∀ x, foldedSetIterable it X.env x = pure x := by intro _; rfl) :
    PD X Δ (.ListComp elt [⟨tg, it, [c], 0⟩] scope pos) (dat X.K (.list ((List.range ts.length).filterMap pick))) := by
  obtain ⟨ti, pi, f⟩ := hi
  obtain ⟨g, pg, fg⟩ := hg
  have q : ∀ (s : Shared) (H : Hp) (C : Addr) (cl : List (Str × Addr)) (fp : List Addr), PE (X.blk s H scope (compEnvC scope cl C X.env) fp) elt (teU X scope elt) := fun s H C cl fp => ⟨fun pins s' σ H' Q I h => by
    obtain ⟨t, pt, ht⟩ := h s H C cl fp
    exact pt.run pins s' σ H' Q I ht⟩
  have qt : ∀ (s : Shared) (H : Hp) (C : Addr) (cl : List (Str × Addr)) (fp : List Addr), PTs (X.blk s H scope (compEnvC scope cl C X.env) fp) [c] (ttU X scope c) := fun s H C cl fp => pts_one ⟨fun pins s' σ H' Q I h => by
    obtain ⟨t, pt, ht⟩ := h s H C cl fp
    exact pt.run pins s' σ H' Q I ht⟩
  refine ⟨_, pe_lc (own := own) (g := g) (tt := ttU X scope c) hc hN pi ok pg qt q hs, fun S0 M0 H0 σ H S hA Q k => ?_⟩
  refine f S0 M0 H0 σ H S hA _ fun J H1 G Y e1 wk gm g0 hy => ?_
  have hA1 := hA.up e1
  intro D hD
  refine lc_it wk (g := g) (tt := ttU X scope c) (te := teU X scope elt) (vs := own.map (·.2)) (LcQ X.K pick S H1 D) ⟨Ex.new hD, [], upd_same, .nil⟩ (fun i H' _ p => ?_) (fun i x H' H'' hlt p y => ?_) fun H' p => ?_
  · refine gm _ _ ?_ g0
    exact fun a o h => p.1 a o (by
      have n0 : a ∉ S := fun z => by rw [hide_in z] at h; cases h
      rw [hide_out n0] at h
      exact h)
  · have hD' : H' D ≠ none := by
      obtain ⟨_, acc, h1, _⟩ := p
      rw [h1]; exact fun z => nomatch z
    have hA2 := hA1.newD hD p.1 hD'
    have hid : Ex (hide S H1) (hide (D :: S) H') := fun a o h => by
      have n0 : a ∉ S := fun z => by rw [hide_in z] at h; cases h
      have h' : H1 a = some o := by rw [hide_out n0] at h; exact h
      have ne : a ≠ D := ne_of_none h' hD
      rw [hide_out (by simp [ne, n0])]
      exact p.1 a o h'
    obtain ⟨e2, t, ht', r⟩ := hy i H' x H'' (D :: S) y hA2.dom hid
    obtain ⟨u, hu, hel⟩ := ht i t ht'
    have p2 : LcQ X.K pick S H1 D i H'' := by
      obtain ⟨q1, acc, h1, h2⟩ := p
      exact ⟨q1.trans e2, acc, e2 _ _ h1, dpa_up (hide_ex e2) h2⟩
    refine fg t u hu S (mls Δ σ) H1 (wipeΔ Δ (own.map (·.2))) (L2.wipe σ (own.map (·.2))) H'' (D :: S) x ((hA2.up e2).wipe _) r _ fun σ' hA' hw => ?_
    refine ⟨by rw [hw, wipe_wipe], ?_⟩
    intro s H0' C cl fp
    obtain ⟨⟨tt', ptt, ftt⟩, _⟩ := hel s H0' C cl fp
    refine ⟨tt', ptt, ftt S (mls Δ σ) H1 σ' H'' (D :: S) hA' _ fun H3 e3 => ?_⟩
    have p3 : LcQ X.K pick S H1 D i H3 := by
      obtain ⟨q1, acc, h1, h2⟩ := p2
      exact ⟨q1.trans e3, acc, e3 _ _ h1, dpa_up (hide_ex e3) h2⟩
    cases hp : pick i with
    | none =>
      simp only [Option.isSome, Bool.false_eq_true, if_false]
      obtain ⟨q1, acc, h1, h2⟩ := p3
      refine ⟨q1, acc, h1, ?_⟩
      rw [List.range_succ, List.filterMap_append]
      simp only [List.filterMap_cons, hp, List.filterMap_nil, List.append_nil]
      exact h2
    | some w =>
      simp only [Option.isSome, if_true]
      intro s2 H2' C2 cl2 fp2
      obtain ⟨_, hw2⟩ := hel s2 H2' C2 cl2 fp2
      obtain ⟨t', pt, ft⟩ := hw2 w hp
      refine ⟨t', pt, ft S (mls Δ σ) H1 σ' H3 (D :: S) (hA'.up e3) _ fun th y H4 hth e4 r' => ?_⟩
      subst hth
      obtain ⟨q1, acc, h1, h2⟩ := p3
      have hl := dpa_len h2
      have := pick_len (pick := pick) (i := i)
      refine ⟨acc, e4 D _ h1, Nat.lt_of_lt_of_le (by omega) (by decide : 100000 ≤ sizeLine), fun a o h => ?_, acc ++ [y], upd_same, ?_⟩
      · rw [upd_ne (ne_of_none h hD)]
        exact e4 a o (q1 a o h)
      · rw [hide_upd (List.mem_cons_self), List.range_succ, List.filterMap_append]
        simp only [List.filterMap_cons, hp, List.filterMap_nil]
        exact dpa_app (dpa_up (hide_ex e4) h2) (.cons r' .nil)
  · obtain ⟨q1, acc, h1, h2⟩ := p
    refine k _ _ H' rfl (e1.trans q1) (Dp.lst (xs := acc) (SqL.of ?_) (dpa_up (hide_sub fun a h => List.mem_cons_of_mem _ h) h2))
    rw [hide_out (hA1.dom.new hD)]
    exact h1
end
end DL
set_option Elab.async false
set_option linter.all false
set_option maxRecDepth 100000
/-! What the defs over corners ask and give. -/
namespace DL
open PySem PySem.Spec PyProof.Rows L2
section
variable {X : Cx} {Δ : List Sl} {e a b c : Expr} {es : List Expr} {pos : Pos}
/-- a op b op' c as a test -/
theorem pb_chain {op op' : CmpOp} {x y z : Th} {k k' : Bool} (h : CmpT X op x y k) (h' : CmpT X op' y z k') (ha : PD X Δ a x) (hb : PD X Δ b y) (hc : PD X Δ c z)
    (hp : ∀ r r' ta tb tc, OpR X (compareOp op) r → OpR X (compareOp op') r' → PE X a ta → PE X b tb → PE X c tc → PT X e (tTest (tChain r r' ta tb tc))) : PB X Δ e (k && k') := by
  obtain ⟨r, ho, f⟩ := h
  obtain ⟨r', ho', f'⟩ := h'
  obtain ⟨ta, pa, fa⟩ := ha
  obtain ⟨tb, pb, fb⟩ := hb
  obtain ⟨tc, pc, fc⟩ := hc
  refine ⟨_, hp r r' ta tb tc ho ho' pa pb pc, fun S0 M0 H0 σ H S hA Q q => ?_⟩
  refine fa S0 M0 H0 σ H S hA _ fun x' v H1 hx e1 rx => fb S0 M0 H0 σ H1 S (hA.up e1) _ fun y' w H2 hy e2 ry => ?_
  subst hx; subst hy
  refine f S H2 v w ((hA.up e1).up e2).dom (x'.up _ _ _ (hide_ex e2) rx) ry _ fun H3 e3 => ⟨k, rfl, ?_⟩
  cases k with
  | true =>
    refine fc S0 M0 H0 σ H3 S (((hA.up e1).up e2).up e3) _ fun z' u H4 hz e4 rz => ?_
    subst hz
    refine f' S H4 w u ((((hA.up e1).up e2).up e3).up e4).dom (y'.up _ _ _ (hide_ex (e3.trans e4)) ry) rz _ fun H5 e5 => ⟨k', rfl, q H5 ((((e1.trans e2).trans e3).trans e4).trans e5)⟩
  | false => exact ⟨false, rfl, q H3 ((e1.trans e2).trans e3)⟩
end
def RSides (K : PySem.W.Frag) : Cn := fun ts A => ∃ cs : List Cp, ts = [dat K (.tuple (cs.map cD))] ∧ Wk cs ∧ A = (· = dat K (.list ((sidesC cs).map cD)))
def RValFrom (K : PySem.W.Frag) : Cn := fun ts A => ∃ (c n p : Cp) (i j k : Nat), ts = [dat K (cD c), dat K (cD n), dat K (cD p)] ∧ CSm i c ∧ CSm j n ∧ CSm k p ∧ i + j + k ≤ 900 ∧ A = (· = dat K (rD (dotC n (lessC p c))))
def RRounds (K : PySem.W.Frag) : Cn := fun ts A => ∃ ss : List Cp, ts = [dat K (.list (ss.map cD))] ∧ ss.length ≤ 30 ∧ A = (· = dat K (.int (roundsN ss : Nat)))
def RChk (K : PySem.W.Frag) : Cn := fun ts A => ∃ (cs : List Cp) (d : PyData), ts = [dat K d] ∧ (d = .tuple (cs.map cD) ∨ d = .list (cs.map cD)) ∧ Wk cs ∧ A = (· = dat K (.tuple (cs.map cD)))
theorem fmod_nat (i n : Nat) : ((i : Int) + 1).fmod (n : Int) = (((i + 1) % n : Nat) : Int) := by
  rw [Int.fmod_eq_emod_of_nonneg _ (by omega), Int.natCast_emod]
  rfl
theorem ix_at {cs : List Cp} {k : Nat} (h : k < cs.length) : ixD (.tuple (cs.map cD)) (k : Int) = some (cD (at_ cs k)) ∧ ixD (.list (cs.map cD)) (k : Int) = some (cD (at_ cs k)) := by
  have e : (cs.map cD)[k]? = some (cD (at_ cs k)) := by rw [List.getElem?_map, at_get h]; rfl
  exact ⟨atI_nat e, atI_nat e⟩
theorem ix_prev {α : Type} {l : List α} {i : Nat} {x : α} (hi : i < l.length) (h : l[HU.pv l.length i]? = some x) : atI l ((i : Int) - 1) = some x := by
  rw [HU.pv_of hi] at h
  by_cases h0 : i = 0
  · subst h0
    rw [if_pos rfl] at h
    unfold atI
    have e : ixN l.length (((0 : Nat) : Int) - 1) = some (l.length - 1) := by
      unfold ixN
      simp
      omega
    rw [e]
    exact h
  · rw [if_neg h0] at h
    have e : (i : Int) - 1 = ((i - 1 : Nat) : Int) := by omega
    rw [e]
    exact atI_nat h
theorem csm_cross {n m : Nat} {p q : Cp} (h : CSm n p) (g : CSm m q) : Sm (n + m + (n + m) + 1) (crossC p q) := sm_cross h g
theorem isRow_cD {p : Cp} (h : Cl p) : isRow (cD p) 2 = true := by
  have h1 := isRat_rD h.x
  have h2 := isRat_rD h.y
  simp [isRow, isSeq, seqD, cD, h1, h2]
end DL
set_option Elab.async false
set_option linter.all false
set_option maxRecDepth 100000
/-! Calls as statements; a call whose first argument raises. -/
namespace DL
open PySem PySem.Spec PyProof.Rows L2
section
variable {X : Cx} {Δ : List Sl} {e a b c : Expr} {es : List Expr} {A B : Th → Prop} {pos : Pos} {P : Post} {rest : List Stmt} {W : WX}
theorem never_a : ∃ t, PA X es t := ⟨fun _ _ _ => False, ⟨fun _ _ _ _ _ _ _ h => h.elim⟩⟩
/-- e as a statement -/
theorem sd_expX (he : PX X Δ e A) (k : SD X W rest P Δ) (hs : swapsWith e none pos.line X.env = pure false := by rfl) : SD X W (.Expr e pos :: rest) P Δ := by
  obtain ⟨t, pe, f⟩ := he
  exact sd_cons ⟨_, ps_expr pe hs, fun S0 M0 H0 σ H S hA D le xw => f S0 M0 H0 σ H S hA _ fun th v H1 ha e1 r => le.nx _ _ ⟨Δ, S, k, hA.up e1⟩⟩
theorem sd_expR {Cc : Addr} {fs : List (Str × Th)} (he : PR X W Δ e Cc fs) (k : P.xc Cc fs Δ) (hs : swapsWith e none pos.line X.env = pure false := by rfl) : SD X W (.Expr e pos :: rest) P Δ := by
  obtain ⟨t, pe, f⟩ := he
  refine sd_cons ⟨_, ps_expr pe hs, fun S0 M0 H0 σ H S hA D le xw => ?_⟩
  exact f S0 M0 H0 σ H S hA (fun H' d e1 r nd => xw.1 σ H' Cc fs d Δ S k (hA.up e1) r nd) _
/-- x(e, ..), e raises -/
theorem pr_arg1 {x : Str} {k : Nat} {R : Cn} {p : Pos} {Cc : Addr} {fs : List (Str × Th)} (G : Gd X.prog X.w X.K X.mg X.base x k [] R) (hr : Room k X.A) (he1 : PR X W Δ e Cc fs)
    (hg : Gl X x := by rfl) (hdb : (x == ("__debug__" : Str)) = false := by decide) (he : starEach (e :: es) X.env = (false, eval e X.env) :: starEach es X.env := by rfl) (hpl : (backTo pos (starEach es X.env)).any (·.1) = false := by rfl) :
    PR X W Δ (.Call (.Name x p) (e :: es) [] pos) Cc fs := by
  obtain ⟨f, fd, ps, ds, dvs, hm, hk, hb, hd, hdt, F⟩ := G.ex
  obtain ⟨te, pe, fe⟩ := he1
  obtain ⟨ta, pa⟩ := never_a (X := X) (es := es)
  exact ⟨_, pe_call (E := E0) F hr hg hm hk hb hd pass0 (pa_cons pe pa he) hdb he hpl, fun S0 M0 H0 σ H S hA w Q => fe S0 M0 H0 σ H S hA w _⟩
end
end DL
set_option Elab.async false
set_option linter.all false
set_option maxRecDepth 100000
/-! A work as an object: what its methods ask and give. -/
namespace DL
open PySem PySem.Spec PyProof.Rows L2
def normC (cs : List Cp) (k : Nat) : Cp := quarC (sideC cs k)
def normsC (cs : List Cp) : List Cp := (sidesC cs).map quarC
def valC (cs : List Cp) (k : Nat) (p : Cp) : Q := dotC (normC cs k) (lessC p (at_ cs k))
def valsI (cs : List Cp) (p : Cp) : List Int := (List.range cs.length).map fun k => signI (valC cs k p).1
def leastI : List Int → Int
  | [] => 0
  | [a] => a
  | a :: b :: l => min a (leastI (b :: l))
theorem least_mem : ∀ {l : List Int}, 0 < l.length → leastI l ∈ l ∧ ∀ y ∈ l, leastI l ≤ y
  | [], h => by cases h
  | [a], _ => ⟨List.mem_singleton.mpr rfl, fun y hy => by rw [List.mem_singleton.mp hy]; exact Int.le_refl _⟩
  | a :: b :: l, _ => by
    have ih := least_mem (l := b :: l) (by simp)
    unfold leastI
    refine ⟨?_, fun y hy => ?_⟩
    · by_cases h : a ≤ leastI (b :: l)
      · rw [Int.min_eq_left h]; exact List.mem_cons_self
      · rw [Int.min_eq_right (by omega)]; exact List.mem_cons_of_mem _ ih.1
    · rcases List.mem_cons.mp hy with z | z
      · rw [z]; exact Int.min_le_left ..
      · exact Int.le_trans (Int.min_le_right ..) (ih.2 y z)
theorem least_is {l : List Int} {m : Int} (h : m ∈ l) (g : ∀ y, y ∈ l → m ≤ y) : m = leastI l := by
  have q := least_mem (l := l) (List.length_pos_of_mem h)
  have := g _ q.1
  have := q.2 _ h
  omega
def wkT (K : PySem.W.Frag) (C : Addr) (cs : List Cp) : Th := objT C [("normals", dat K (.tuple ((normsC cs).map cD))), ("corners", dat K (.tuple (cs.map cD)))]
def RMkW (K : PySem.W.Frag) : List Th → OutN → Prop := fun ts o => ∃ (cs : List Cp) (d : PyData), ts = [dat K d] ∧ (d = .tuple (cs.map cD) ∨ d = .list (cs.map cD)) ∧ Wk cs ∧ o = .val [("normals", dat K (.tuple ((normsC cs).map cD))), ("corners", dat K (.tuple (cs.map cD)))]
/-- is d the number of a side: k, or not -/
def SdOf (K : PySem.W.Frag) (N : Addr) (n : Nat) (d : PyData) (o : Out) (g : Nat → PyData) : Prop := (∃ k : Nat, k < n ∧ d = .int k ∧ o = .val (· = dat K (g k))) ∨ (isWh d (some 0) (some ((n : Int) - 1)) = false ∧ o = .exc N [("side", dat K d)])
def RSd (K : PySem.W.Frag) (C N : Addr) (g : List Cp → Nat → PyData) : CnX := fun ts o => ∃ (cs : List Cp) (d : PyData), ts = [wkT K C cs, dat K d] ∧ Wk cs ∧ SdOf K N cs.length d o (g cs)
def RSdQ (K : PySem.W.Frag) (C N : Addr) : CnX := fun ts o => ∃ (cs : List Cp) (d : PyData) (q : Q) (m : Nat), ts = [wkT K C cs, dat K d, dat K (rD q)] ∧ Wk cs ∧ Sm m q ∧ m ≤ 6000 ∧ SdOf K N cs.length d o (fun k => cD (addC (at_ cs k) (scC (sideC cs k) q)))
def RSdP (K : PySem.W.Frag) (C N : Addr) : CnX := fun ts o => ∃ (cs : List Cp) (d : PyData) (p : Cp) (m : Nat), ts = [wkT K C cs, dat K d, dat K (cD p)] ∧ Wk cs ∧ CSm m p ∧ m ≤ 700 ∧ SdOf K N cs.length d o (fun k => rD (valC cs k p))
def RLst (K : PySem.W.Frag) (C : Addr) (g : Int → PyData) : Cn := fun ts A => ∃ (cs : List Cp) (p : Cp) (m : Nat), ts = [wkT K C cs, dat K (cD p)] ∧ Wk cs ∧ CSm m p ∧ m ≤ 700 ∧ A = (· = dat K (g (leastI (valsI cs p))))
def RMid (K : PySem.W.Frag) (C : Addr) : Cn := fun ts A => ∃ cs : List Cp, ts = [wkT K C cs] ∧ Wk cs ∧ A = (· = dat K (cD (meanC cs)))
theorem norms_len {cs : List Cp} : (normsC cs).length = cs.length := by unfold normsC; rw [List.length_map, sides_len]
theorem norms_at {cs : List Cp} {k : Nat} (h : k < cs.length) : (normsC cs)[k]? = some (normC cs k) := by
  unfold normsC sidesC
  rw [List.map_map, List.getElem?_map, List.getElem?_range h]
  rfl
theorem norm_sm {cs : List Cp} {N : Nat} (h : WkN N cs) {k : Nat} (hk : k < cs.length) : CSm (N + N + 1) (normC cs k) := csm_quar (side_val h hk).2.2.2
theorem isWh_k {n k : Nat} (h : k < n) : isWh (.int (k : Int)) (some 0) (some ((n : Int) - 1)) = true := by
  show (decide ((0 : Int) ≤ k) && decide ((k : Int) ≤ (n : Int) - 1)) = true
  rw [decide_eq_true (by omega), decide_eq_true (by omega)]
  rfl
theorem vals_len {cs : List Cp} {p : Cp} : (valsI cs p).length = cs.length := by unfold valsI; rw [List.length_map, List.length_range]
end DL
set_option Elab.async false
set_option linter.all false
set_option maxRecDepth 100000
/-! What the sums over a work come to. -/
namespace DL
open PySem PySem.Spec PyProof.Rows L2
theorem cl_add {p q : Cp} (h : Cl p) (g : Cl q) : Cl (addC p q) := ⟨low_plus h.x.2 g.x.2, low_plus h.y.2 g.y.2⟩
theorem cl_less {p q : Cp} (h : Cl p) (g : Cl q) : Cl (lessC p q) := ⟨low_minus h.x.2 g.x.2, low_minus h.y.2 g.y.2⟩
theorem cl_scP {p : Cp} {r : Q} (h : Cl p) (g : 0 < r.2) : Cl (scC p r) := ⟨low_times h.x.2 g, low_times h.y.2 g⟩
theorem rp_add {p q : Cp} (h : Cl p) (g : Cl q) : rp (addC p q) = ((rp p).1 + (rp q).1, (rp p).2 + (rp q).2) := Prod.ext (vR_plus h.x.2 g.x.2) (vR_plus h.y.2 g.y.2)
theorem rp_less {p q : Cp} (h : Cl p) (g : Cl q) : rp (lessC p q) = ((rp p).1 - (rp q).1, (rp p).2 - (rp q).2) := Prod.ext (vR_minus h.x.2 g.x.2) (vR_minus h.y.2 g.y.2)
theorem rp_sc {p : Cp} {r : Q} (h : Cl p) (g : 0 < r.2) : rp (scC p r) = ((rp p).1 * vR r, (rp p).2 * vR r) := Prod.ext (vR_times h.x.2 g) (vR_times h.y.2 g)
theorem rp_quar {p : Cp} : rp (quarC p) = (-(rp p).2, (rp p).1) := Prod.ext vR_neg rfl
theorem rp_inj {p q : Cp} (h : Cl p) (g : Cl q) (e : rp p = rp q) : p = q := Prod.ext (vR_inj h.x g.x (congrArg Prod.fst e)) (vR_inj h.y g.y (congrArg Prod.snd e))
theorem low_dotR {p q : Cp} (h : Cl p) (g : Cl q) : Low (dotC p q) ∧ vR (dotC p q) = (rp p).1 * (rp q).1 + (rp p).2 * (rp q).2 := low_dot h g
section
variable {cs : List Cp} {k : Nat} {q : Q}
theorem side_rp {N : Nat} (h : WkN N cs) (hk : k < cs.length) : rp (sideC cs k) = ((rp (at_ cs (HU.nx cs.length k))).1 - (rp (at_ cs k)).1, (rp (at_ cs (HU.nx cs.length k))).2 - (rp (at_ cs k)).2) := rp_less (h.cl _ (at_mem (HU.nx_lt h.n0 k))) (h.cl _ (at_mem hk))
theorem norm_cl {N : Nat} (h : WkN N cs) (hk : k < cs.length) : Cl (normC cs k) := cl_quar (side_val h hk).1
theorem dot_ns {N : Nat} (h : WkN N cs) (hk : k < cs.length) : dotC (normC cs k) (sideC cs k) = (0, 1) := by
  obtain ⟨l, e⟩ := low_dotR (norm_cl h hk) (side_val h hk).1
  refine vR_inj l low_zero ?_
  rw [e, vR_zero]
  unfold normC
  rw [rp_quar]
  grind
theorem dot_nn {N : Nat} (h : WkN N cs) (hk : k < cs.length) : dotC (normC cs k) (normC cs k) = dotC (sideC cs k) (sideC cs k) := by
  obtain ⟨l, e⟩ := low_dotR (norm_cl h hk) (norm_cl h hk)
  obtain ⟨l2, e2⟩ := low_dotR (side_val h hk).1 (side_val h hk).1
  refine vR_inj l l2 ?_
  rw [e, e2]
  unfold normC
  rw [rp_quar]
  grind
theorem val_rp {N : Nat} (h : WkN N cs) (hk : k < cs.length) {p : Cp} (hp : Cl p) : Low (valC cs k p) ∧ vR (valC cs k p) = HU.cq (rp (at_ cs k)) (rp (at_ cs (HU.nx cs.length k))) (rp p) := by
  have c := h.cl _ (at_mem hk)
  obtain ⟨l, e⟩ := low_dotR (norm_cl h hk) (cl_less hp c)
  refine ⟨l, e.trans ?_⟩
  unfold normC
  rw [rp_quar, rp_less hp c, side_rp h hk]
  unfold HU.cq
  grind
theorem place_cl {N : Nat} (h : WkN N cs) (hk : k < cs.length) (hq : 0 < q.2) : Cl (addC (at_ cs k) (scC (sideC cs k) q)) := cl_add (h.cl _ (at_mem hk)) (cl_scP (side_val h hk).1 hq)
theorem place_rp {N : Nat} (h : WkN N cs) (hk : k < cs.length) (hq : 0 < q.2) : rp (addC (at_ cs k) (scC (sideC cs k) q)) = ((rp (at_ cs k)).1 + ((rp (at_ cs (HU.nx cs.length k))).1 - (rp (at_ cs k)).1) * vR q, (rp (at_ cs k)).2 + ((rp (at_ cs (HU.nx cs.length k))).2 - (rp (at_ cs k)).2) * vR q) := by
  rw [rp_add (h.cl _ (at_mem hk)) (cl_scP (side_val h hk).1 hq), rp_sc (side_val h hk).1 hq, side_rp h hk]
theorem val_place {N : Nat} (h : WkN N cs) (hk : k < cs.length) (hq : 0 < q.2) : valC cs k (addC (at_ cs k) (scC (sideC cs k) q)) = (0, 1) := by
  obtain ⟨l, e⟩ := val_rp h hk (place_cl h hk hq)
  refine vR_inj l low_zero ?_
  rw [e, vR_zero, place_rp h hk hq]
  unfold HU.cq
  grind
theorem place_0 {N : Nat} (h : WkN N cs) (hk : k < cs.length) : addC (at_ cs k) (scC (sideC cs k) (0, 1)) = at_ cs k := by
  refine rp_inj (place_cl h hk (by decide)) (h.cl _ (at_mem hk)) ?_
  rw [place_rp h hk (by decide), vR_zero]
  refine Prod.ext ?_ ?_
  · show _ = (rp (at_ cs k)).1; grind
  · show _ = (rp (at_ cs k)).2; grind
theorem vR_one : vR ((1, 1) : Q) = 1 := by unfold vR; rfl
theorem place_1 {N : Nat} (h : WkN N cs) (hk : k < cs.length) : addC (at_ cs k) (scC (sideC cs k) (1, 1)) = at_ cs (HU.nx cs.length k) := by
  refine rp_inj (place_cl h hk (by decide)) (h.cl _ (at_mem (HU.nx_lt h.n0 k))) ?_
  rw [place_rp h hk (by decide), vR_one]
  refine Prod.ext ?_ ?_
  · show _ = (rp (at_ cs (HU.nx cs.length k))).1; grind
  · show _ = (rp (at_ cs (HU.nx cs.length k))).2; grind
end
/-! the middle lies within -/
def sumP : List Cp → HU.PR
  | [] => (0, 0)
  | p :: l => ((rp p).1 + (sumP l).1, (rp p).2 + (sumP l).2)
theorem sum_from : ∀ {l : List Cp} {a : Cp}, Cl a → (∀ p ∈ l, Cl p) → Cl (l.foldl addC a) ∧ rp (l.foldl addC a) = ((rp a).1 + (sumP l).1, (rp a).2 + (sumP l).2)
  | [], a, h, _ => ⟨h, by show rp a = ((rp a).1 + 0, (rp a).2 + 0); rw [Rat.add_zero, Rat.add_zero]⟩
  | p :: l, a, h, g => by
    have hp := g p List.mem_cons_self
    obtain ⟨c, e⟩ := sum_from (l := l) (cl_add h hp) fun z hz => g z (List.mem_cons_of_mem _ hz)
    refine ⟨c, e.trans ?_⟩
    rw [rp_add h hp]
    refine Prod.ext ?_ ?_
    · show (rp a).1 + (rp p).1 + (sumP l).1 = (rp a).1 + ((rp p).1 + (sumP l).1); grind
    · show (rp a).2 + (rp p).2 + (sumP l).2 = (rp a).2 + ((rp p).2 + (sumP l).2); grind
theorem vR_inv {n : Nat} (h : 0 < n) : vR ((1, (n : Int)) : Q) * (n : Rat) = 1 := by
  have e : vR ((1, (n : Int)) : Q) = (1 : Rat) / (n : Rat) := by
    unfold vR
    rw [Rat.divInt_eq_div]
    rfl
  have h0 : (n : Rat) ≠ 0 := by
    intro z
    have : (n : Nat) = 0 := by exact_mod_cast z
    omega
  rw [e, Rat.div_def, Rat.one_mul, Rat.inv_mul_cancel _ h0]
theorem inv_pos {n : Nat} (h : 0 < n) : 0 < vR ((1, (n : Int)) : Q) := by
  have e : vR ((1, (n : Int)) : Q) = (1 : Rat) / (n : Rat) := by
    unfold vR
    rw [Rat.divInt_eq_div]
    rfl
  rw [e, Rat.div_def, Rat.one_mul]
  exact Rat.inv_pos.mpr (by exact_mod_cast h)
theorem mean_eq (cs : List Cp) : meanC cs = scC (sumC cs) (1, (cs.length : Int)) := by rw [sumC_eq]; rfl
theorem mean_rp {cs : List Cp} (h : ∀ p ∈ cs, Cl p) (h0 : 0 < cs.length) : Cl (meanC cs) ∧ rp (meanC cs) = ((sumP cs).1 * vR (1, (cs.length : Int)), (sumP cs).2 * vR (1, (cs.length : Int))) := by
  obtain ⟨c, e⟩ := sum_from (l := cs) (a := c0) ⟨low_zero, low_zero⟩ h
  have e0 : rp c0 = (0, 0) := Prod.ext vR_zero vR_zero
  rw [e0] at e
  have hp : (0 : Int) < ((1, (cs.length : Int)) : Q).2 := by show (0 : Int) < cs.length; omega
  rw [mean_eq]
  refine ⟨cl_scP c hp, ?_⟩
  rw [rp_sc (show Cl (sumC cs) from c) hp, show rp (sumC cs) = (0 + (sumP cs).1, 0 + (sumP cs).2) from e, Rat.zero_add, Rat.zero_add]
theorem sum_cq {a b : HU.PR} : ∀ (l : List Cp), (b.1 - a.1) * ((sumP l).2 - (l.length : Rat) * a.2) - (b.2 - a.2) * ((sumP l).1 - (l.length : Rat) * a.1) = (l.map fun p => HU.cq a b (rp p)).sum
  | [] => by simp [sumP]; grind
  | p :: l => by
    rw [List.map_cons, List.sum_cons, ← sum_cq l]
    show (b.1 - a.1) * ((rp p).2 + (sumP l).2 - ((l.length + 1 : Nat) : Rat) * a.2) - (b.2 - a.2) * ((rp p).1 + (sumP l).1 - ((l.length + 1 : Nat) : Rat) * a.1) = _
    have : (((l.length + 1 : Nat)) : Rat) = (l.length : Rat) + 1 := by exact_mod_cast rfl
    rw [this]
    unfold HU.cq
    grind
theorem sum_nn : ∀ {l : List Rat}, (∀ x ∈ l, 0 ≤ x) → 0 ≤ l.sum
  | [], _ => by simp
  | x :: l, h => by
    rw [List.sum_cons]
    have a := h x List.mem_cons_self
    have b := sum_nn (l := l) fun y hy => h y (List.mem_cons_of_mem _ hy)
    grind
theorem sum_pos {l : List Rat} (h : ∀ x ∈ l, 0 ≤ x) {x : Rat} (hx : x ∈ l) (h0 : 0 < x) : 0 < l.sum := by
  induction l with
  | nil => cases hx
  | cons y l ih =>
    rw [List.sum_cons]
    have b := sum_nn (l := l) fun z hz => h z (List.mem_cons_of_mem _ hz)
    rcases List.mem_cons.mp hx with z | z
    · subst z; grind
    · have := ih (fun z hz => h z (List.mem_cons_of_mem _ hz)) z
      have a := h y List.mem_cons_self
      grind
theorem mid_pos {cs : List Cp} {N : Nat} (h : WkN N cs) {k : Nat} (hk : k < cs.length) : 0 < signI (valC cs k (meanC cs)).1 := by
  obtain ⟨cm, em⟩ := mean_rp h.cl h.n0
  obtain ⟨l, e⟩ := val_rp h hk cm
  refine (sign_pos l.2).mpr ?_
  rw [e, em]
  have s := sum_cq (a := rp (at_ cs k)) (b := rp (at_ cs (HU.nx cs.length k))) cs
  have hpos : 0 < (cs.map fun p => HU.cq (rp (at_ cs k)) (rp (at_ cs (HU.nx cs.length k))) (rp p)).sum := by
    have hlo := h.lo
    obtain ⟨i, hi, h1, h2⟩ : ∃ i, i < cs.length ∧ i ≠ k ∧ i ≠ HU.nx cs.length k := by
      by_cases a : (0 : Nat) ≠ k ∧ 0 ≠ HU.nx cs.length k
      · exact ⟨0, by omega, a.1, a.2⟩
      · by_cases b : (1 : Nat) ≠ k ∧ 1 ≠ HU.nx cs.length k
        · exact ⟨1, by omega, b.1, b.2⟩
        · exact ⟨2, by omega, by omega, by omega⟩
    refine sum_pos (fun x hx => ?_) (List.mem_map.mpr ⟨at_ cs i, at_mem hi, rfl⟩) (HU.side_left h.cf hk hi h1 h2)
    obtain ⟨p, hp, rfl⟩ := List.mem_map.mp hx
    obtain ⟨j, hj⟩ := List.getElem?_of_mem hp
    have hjl := (List.getElem?_eq_some_iff.mp hj).1
    have ej : p = at_ cs j := Option.some.inj (hj.symm.trans (at_get hjl))
    rw [ej]
    by_cases z1 : j = k
    · rw [z1]; unfold HU.cq; grind
    · by_cases z2 : j = HU.nx cs.length k
      · rw [z2]; unfold HU.cq; grind
      · exact Rat.le_of_lt (HU.side_left h.cf hk hjl z1 z2)
  rw [← s] at hpos
  have hi := vR_inv h.n0
  have hp := Rat.mul_pos hpos (inv_pos h.n0)
  unfold HU.cq
  refine lt_of_lt_of_eq hp ?_
  grind
theorem mid_least {cs : List Cp} {N : Nat} (h : WkN N cs) : 0 < leastI (valsI cs (meanC cs)) := by
  have q := (least_mem (l := valsI cs (meanC cs)) (by rw [vals_len]; exact h.n0)).1
  unfold valsI at q
  obtain ⟨k, hk, e⟩ := List.mem_map.mp q
  unfold valsI
  rw [← e]
  exact mid_pos h (List.mem_range.mp hk)
end DL
set_option Elab.async false
set_option linter.all false
set_option maxRecDepth 100000
/-! What the law's own defs over a work ask and give. -/
namespace DL
open PySem PySem.Spec PyProof.Rows L2
def RLSide (K : PySem.W.Frag) (g : List Cp → Nat → Cp) : Cn := fun ts A => ∃ (cs : List Cp) (k : Nat), ts = [dat K (.list (cs.map cD)), dat K (.int k)] ∧ Wk cs ∧ k < cs.length ∧ A = (· = dat K (cD (g cs k)))
def RLPlace (K : PySem.W.Frag) : Cn := fun ts A => ∃ (cs : List Cp) (k : Nat) (q : Q) (m : Nat), ts = [dat K (.list (cs.map cD)), dat K (.tuple [.int k, rD q])] ∧ Wk cs ∧ k < cs.length ∧ Sm m q ∧ m ≤ 6000 ∧ A = (· = dat K (cD (addC (at_ cs k) (scC (sideC cs k) q))))
def RLValue (K : PySem.W.Frag) : Cn := fun ts A => ∃ (cs : List Cp) (k : Nat) (p : Cp) (m : Nat), ts = [dat K (.list (cs.map cD)), dat K (.int k), dat K (cD p)] ∧ Wk cs ∧ k < cs.length ∧ CSm m p ∧ m ≤ 700 ∧ A = (· = dat K (rD (valC cs k p)))
/-- a place that the law takes -/
def GP7 (p : Cp) : Prop := CSm 700 p ∧ Cl p
def RInner (K : PySem.W.Frag) : Cn := fun ts A => ∃ cs : List Cp, ts = [handT, dat K (.list (cs.map cD))] ∧ W4 cs ∧ A = (fun t => ∃ p, t = dat K (cD p) ∧ GP7 p)
def RPower (K : PySem.W.Frag) : Cn := fun ts A => ∃ n : Nat, ts = [dat K (.int 10), dat K (.int n)] ∧ n ≤ 12 ∧ A = (· = dat K (.int ((10 : Int) ^ n)))
def RRefu (K : PySem.W.Frag) (C : Addr) : Cn := fun ts A => ∃ (cs : List Cp) (how : Int) (d : PyData), ts = [wkT K C cs, dat K (.int how), dat K d] ∧ Wk cs ∧ isWh d (some 0) (some ((cs.length : Int) - 1)) = false ∧ A = (· = dat K (.list [.str "refused", d]))
def RPlaces (K : PySem.W.Frag) : Cn := fun ts A => ∃ cs : List Cp, ts = [handT, dat K (.list (cs.map cD)), dat K (.list ((normsC cs).map cD))] ∧ Wk cs ∧ A = (fun t => ∃ ps : List Cp, t = dat K (.list (ps.map cD)) ∧ (∀ p ∈ ps, GP7 p) ∧ ps.length ≤ 14)
theorem sm_nat {m n : Nat} (h : 0 < m) (g : m < 2 ^ n) (hn : 0 < n) : Sm n ((1, (m : Int)) : Q) := ⟨by show (1 : Int).natAbs < 2 ^ n; have := Nat.one_lt_two_pow (n := n) (by omega); simpa using this, by show ((m : Int)).natAbs < 2 ^ n; omega, by show (0 : Int) < m; omega⟩
end DL
namespace DL
open PySem PySem.Spec PyProof.Rows L2
theorem mean_csm {cs : List Cp} (h : W4 cs) : CSm 350 (meanC cs) := by
  have hlo := h.lo
  have hhi := h.hi
  rw [mean_eq]
  have s : CSm 330 (sumC cs) := by
    rw [sumC_eq]
    have hb : cs.length * 41 ≤ 8 * 41 := Nat.mul_le_mul hhi (Nat.le_refl _)
    exact ⟨(sm_sum (n := 40) cs.length (cs.map (fun p : Cp => p.1)) (List.length_map _) fun q hq => by (obtain ⟨p, hp, rfl⟩ := List.mem_map.mp hq; exact (h.sm p hp).x)).up (by omega), (sm_sum (n := 40) cs.length (cs.map (fun p : Cp => p.2)) (List.length_map _) fun q hq => by (obtain ⟨p, hp, rfl⟩ := List.mem_map.mp hq; exact (h.sm p hp).y)).up (by omega)⟩
  exact (csm_sc s (sm_nat (n := 4) (m := cs.length) (by omega) (by omega) (by decide))).up (by decide)
theorem shaped_cT (ps : List Cp) : SeqAt.shaped (.tuple (ps.map cD)) = true := by
  have h1 := depth_cDs ps
  have h2 : PyData.depth (.tuple (ps.map cD)) ≤ 64 := by
    simp only [PyData.depth]
    omega
  show (PyData.canLay0 (.tuple (ps.map cD)) && decide (PyData.depth (.tuple (ps.map cD)) ≤ 64)) = true
  rw [Bool.and_eq_true]
  exact ⟨by simp only [PyData.canLay0]; exact lay_cDs ps, decide_eq_true h2⟩
theorem eqv_cT (ps : List Cp) : PyData.eqv (.tuple (ps.map cD)) (.tuple (ps.map cD)) = true := by
  simp only [PyData.eqv]
  exact eqv_cDs ps
theorem shaped_cD (p : Cp) : SeqAt.shaped (cD p) = true := by simp [SeqAt.shaped, cD, rD, PyData.canLay0, PyData.canLayAll0, PyData.depth, PyData.depthAll]
theorem norms_map {cs : List Cp} : (List.range cs.length).map (fun k => cD (normC cs k)) = (normsC cs).map cD := by
  unfold normsC sidesC
  rw [List.map_map, List.map_map]
  rfl
theorem cmp_0 (q : Q) : cmpQ q (0, 1) = signI q.1 := by
  unfold cmpQ
  rw [Int.mul_one, Int.zero_mul, Int.sub_zero]
theorem wk_of_lt {n : Int} (m : Nat) (h : 0 ≤ n) (g : n < m) : ∃ k : Nat, n = (k : Int) ∧ k < m := ⟨n.toNat, by omega, by omega⟩
end DL
set_option Elab.async false
set_option linter.all false
set_option maxRecDepth 100000
set_option maxHeartbeats 4000000
namespace K03
open PySem PySem.Spec PyProof.Rows L2 DL
section
variable {P : Program} {w : World} {K : PySem.W.Frag} {mg : Str → Option Value} {base : Heap} {f : Addr} {fd : FuncData}

theorem cv3 {p q r : HU.P} (h : 0 < HU.cr p q r) : HU.Cv [p, q, r] := ⟨List.pairwise_cons.mpr ⟨fun x hx => by rw [List.mem_singleton] at hx; rw [hx]; exact h, List.pairwise_singleton _ _⟩, ⟨List.pairwise_singleton _ _, .nil, trivial⟩⟩
theorem cv4 {p q r t : HU.P} (h1 : 0 < HU.cr p q r) (h2 : 0 < HU.cr p q t) (h3 : 0 < HU.cr p r t) (h4 : 0 < HU.cr q r t) : HU.Cv [p, q, r, t] :=
  ⟨List.pairwise_cons.mpr ⟨fun x hx => by
    rcases List.mem_cons.mp hx with e | e
    · rw [e]; exact h1
    · rw [List.mem_singleton.mp e]; exact h2, List.pairwise_cons.mpr ⟨fun x hx => by rw [List.mem_singleton.mp hx]; exact h3, List.pairwise_singleton _ _⟩⟩, cv3 h4⟩
/-- a row of whole corners -/
structure GR (ps : List Q) : Prop where
  cv : HU.Cv ps
  lo : 3 ≤ ps.length
  hi : ps.length ≤ 28
  gp : ∀ p ∈ ps, GP p
def ratP (bx b' d : Int) (p : Q) : Cp := (lowQ (p.1 + bx) d, lowQ (p.2 + b') d)
/-- a drawn work's corners -/
def GW (m : Int) (cs : List Cp) : Prop := ∃ (ps : List Q) (bx b' d : Int), GR ps ∧ (ps.length : Int) ≤ m ∧ 1 ≤ d ∧ d ≤ 3 ∧ -1000 ≤ bx ∧ bx ≤ 1001 ∧ -500000000 ≤ b' ∧ b' < 500000000 ∧ cs = ps.map (ratP bx b' d)
def RWork (K : PySem.W.Frag) : Cn := fun ts A => ∃ m : Int, ts = [handT, dat K (.int m)] ∧ 3 ≤ m ∧ m ≤ 8 ∧ A = (fun t => ∃ cs : List Cp, t = dat K (.list (cs.map cD)) ∧ GW m cs)
theorem gr_sub {ps qs : List Q} (h : GR ps) (hs : qs.Sublist ps) (hl : 3 ≤ qs.length) : GR qs := ⟨HU.cv_sub h.cv hs, hl, Nat.le_trans hs.length_le h.hi, fun p hp => h.gp p (hs.mem hp)⟩
theorem gr_take {ps : List Q} (h : GR ps) {m : Nat} (hm : 3 ≤ m) : GR (ps.take m) := gr_sub h (List.take_sublist _ _) (by rw [List.length_take]; have := h.lo; omega)
theorem gr_turn {ps : List Q} (h : GR ps) (b : Nat) : GR (ps.drop b ++ ps.take b) :=
  ⟨HU.cv_cyc _ _ (by rw [List.take_append_drop]; exact h.cv), by rw [List.length_append, List.length_drop, List.length_take]; have := h.lo; omega, by rw [List.length_append, List.length_drop, List.length_take]; have := h.hi; omega,
    fun p hp => h.gp p (by rcases List.mem_append.mp hp with z | z; exact List.mem_of_mem_drop z; exact List.mem_of_mem_take z)⟩
theorem cut_to (l : List PyData) (m : Nat) : DL.cutD l none (some (m : Int)) = l.take m := by
  unfold DL.cutD
  rw [HT.sIx_nat, HT.sIx_none, List.drop_zero, Nat.sub_zero, List.take_eq_take_iff]
  omega
theorem cut_from (l : List PyData) (m : Nat) : DL.cutD l (some (m : Int)) none = l.drop m := by
  unfold DL.cutD
  rw [HT.sIx_nat, HT.sIx_none]
  by_cases h : m ≤ l.length
  · rw [Nat.min_eq_left h, List.take_of_length_le (by rw [List.length_drop]; exact Nat.le_refl _)]
  · rw [Nat.min_eq_right (by omega), Nat.sub_self, List.take_zero, List.drop_eq_nil_of_le (by omega)]
theorem ok_work (F : Fun K "_law_work" "_law_work" s__law_work f fd) (T : Txt K mg) (G__law_draw : Gd P w K mg base "_law_draw" 2 [] (RDraw K)) (G__law_hull : Gd P w K mg base "_law_hull" 1 [] (RHull K)) (G__law_ratio : Gd P w K mg base "_law_ratio" 2 [] (RLow K)) : FnOk P w K mg base CX0 3 f fd ["_law_hand_here", "_law_most"] (spT (RWork K)) := by
  refine fn_mk F sc__law_work (fun ts A ⟨_, e, _⟩ => by rw [e]; rfl) fun cdv Ar outer s H E hr ts B hR => ?_
  obtain ⟨m, rfl, hm3, hm8, rfl⟩ := hR
  -- from the corners and the shift on
  have go3 : ∀ (ps : List Q) (kd bt bx b' : Int) (s4 s5 s6 s7 s8 : Sl), GR ps → (ps.length : Int) ≤ m → 1 ≤ bt → bt ≤ 3 → -1000 ≤ bx → bx ≤ 1001 → -500000000 ≤ b' → b' < 500000000 → SD (cxOf CX0 P w K mg base ["_law_hand_here", "_law_most", "_law_kind", "_law_points", "_law_wide", "_law_high", "_law_found", "_law_k", "_law_cell", "_law_bottom", "_law_by", "_law_begin", "_law_x", "_law_y"] "_law_work" (defScope s__law_work) f cdv Ar outer s H E).nox (fun _ _ _ _ => False) ((defBody s__law_work).drop 7) (retOf K fun t => ∃ cs : List Cp, t = dat K (.list (cs.map cD)) ∧ GW m cs) [.th handT, .th (dat K (.int m)), .th (dat K (.int kd)), .th (dat K (.list (ps.map rD))), s4, s5, s6, s7, s8, .th (dat K (.int bt)), .th (dat K (.tuple [.int bx, .int b'])), .no, .no, .no] := by
    intro ps kd bt bx b' s4 s5 s6 s7 s8 hps hpm h1 h2 h3 h4 h5 h6
    have hlo := hps.lo
    refine sd_asgX 11 (px_draw (i := 0) G__law_draw (hr.mono (by decide)) rfl (pi_of (pd_len T.z_len (px_var 3 rfl) rfl)) (fun z hz => by subst hz; rw [List.length_map]; exact ⟨by omega, by omega⟩)) (fun t ⟨bg, ht, z, hz, b0, b1⟩ => ?_) sc__law_work.nd
    subst ht; subst hz
    obtain ⟨n, rfl⟩ : ∃ n : Nat, bg = (n : Int) := ⟨bg.toNat, by omega⟩
    refine sd_asg 3 (PD.is (t' := dat K (.list ((ps.drop n ++ ps.take n).map rD))) (pd_catL (pd_slice (px_var 3 rfl) (pb_some (px_var 11 rfl)) pb_none) (pd_slice (px_var 3 rfl) pb_none (pb_some (px_var 11 rfl))) (by rw [cut_from, cut_to, List.length_drop, List.length_take, List.length_map]; have := hps.hi; omega)) (by rw [cut_from, cut_to, List.map_append, List.map_drop, List.map_take]; rfl)) ?_ sc__law_work.nd
    have hps2 := gr_turn hps n
    have hl2 : ((ps.drop n ++ ps.take n).length : Int) ≤ m := by
      rw [List.length_append, List.length_drop, List.length_take]
      omega
    generalize ps.drop n ++ ps.take n = qs at hps2 hl2
    refine sd_retX (px_lcI (own := [("_law_x", 12), ("_law_y", 13)]) (ts := qs.map fun p => tupT K [dat K (.int p.1), dat K (.int p.2)]) (fun i w => ∃ p, qs[i]? = some p ∧ w = cD (ratP bx b' bt p)) (pit_list (PD.is (px_var 3 rfl) (by rw [dat_lst, List.map_map]; congr 1; refine List.map_congr_left fun p _ => ?_; exact dat_tup))) (by rw [List.length_map]; have := hps2.hi; omega) (ptb_names [12, 13] (fun _ _ _ _ _ => pg_tup rfl (pgs_cons (pg_name (i := 12) sc__law_work.nd rfl (Or.inl rfl)) (pgs_cons (pg_name (i := 13) sc__law_work.nd rfl (Or.inl rfl)) pgs_nil)))) (fun i z hz => ?_) sc__law_work.nd (blkOk_by (own := [("_law_x", 12), ("_law_y", 13)]) (N := ["_law_hand_here", "_law_most", "_law_kind", "_law_points", "_law_wide", "_law_high", "_law_found", "_law_k", "_law_cell", "_law_bottom", "_law_by", "_law_begin", "_law_x", "_law_y"]) (sc := defScope s__law_work) (by decide +kernel))) (fun t ⟨es, h1, h2, h3⟩ => ⟨qs.map (ratP bx b' bt), ?_, qs, bx, b', bt, hps2, hl2, by assumption, by assumption, by assumption, by assumption, by assumption, by assumption, rfl⟩)
    · obtain ⟨p, hp, rfl⟩ : ∃ p, qs[i]? = some p ∧ z = tupT K [dat K (.int p.1), dat K (.int p.2)] := by
        rw [List.getElem?_map] at hz
        cases h : qs[i]? with
        | none => rw [h] at hz; cases hz
        | some p => rw [h] at hz; exact ⟨p, rfl, (Option.some.inj hz).symm⟩
      refine ⟨_, ⟨[dat K (.int p.1), dat K (.int p.2)], rfl, rfl, rfl⟩, fun _ _ _ _ _ => ?_⟩
      have hb : bt.natAbs < 2 ^ 2 := by omega
      refine (pd_tup (ds := [rD (lowQ (p.1 + bx) bt), rD (lowQ (p.2 + b') bt)]) (pl_cons (pd_call G__law_ratio hr (pl_cons (pd_add (px_var 12 rfl) (pd_ix (D := .tuple [.int bx, .int b']) (d := .int bx) (px_var 10 rfl) px_int rfl)) (pl_cons (px_var 9 rfl) pl_nil)) ⟨_, _, 2, rfl, by omega, hb, by decide, rfl⟩) (pl_cons (pd_call G__law_ratio hr (pl_cons (pd_add (px_var 13 rfl) (pd_ix (D := .tuple [.int bx, .int b']) (d := .int b') (px_var 10 rfl) px_int rfl)) (pl_cons (px_var 9 rfl) pl_nil)) ⟨_, _, 2, rfl, by omega, hb, by decide, rfl⟩) pl_nil))).imp fun t ht => ⟨_, ht, p, hp, rfl⟩
    · rw [h1]
      congr 2
      refine List.ext_getElem? fun i => ?_
      rw [List.getElem?_map, List.getElem?_map]
      cases q : es[i]? with
      | none =>
        have : qs.length ≤ i := by
          have := List.getElem?_eq_none_iff.mp q
          rw [h2, List.length_map] at this
          exact this
        rw [List.getElem?_eq_none this]
        rfl
      | some w =>
        obtain ⟨p, e1, e2⟩ := h3 i w q
        rw [e1, e2]
        rfl
  have go2 : ∀ (ps : List Q) (kd : Int) (s4 s5 s6 s7 s8 : Sl), GR ps → (ps.length : Int) ≤ m → SD (cxOf CX0 P w K mg base ["_law_hand_here", "_law_most", "_law_kind", "_law_points", "_law_wide", "_law_high", "_law_found", "_law_k", "_law_cell", "_law_bottom", "_law_by", "_law_begin", "_law_x", "_law_y"] "_law_work" (defScope s__law_work) f cdv Ar outer s H E).nox (fun _ _ _ _ => False) ((defBody s__law_work).drop 4) (retOf K fun t => ∃ cs : List Cp, t = dat K (.list (cs.map cD)) ∧ GW m cs) [.th handT, .th (dat K (.int m)), .th (dat K (.int kd)), .th (dat K (.list (ps.map rD))), s4, s5, s6, s7, s8, .no, .no, .no, .no, .no] := by
    intro ps kd s4 s5 s6 s7 s8 hps hpm
    refine sd_asgX 9 (px_ixX (D := .list [.int 1, .int 1, .int 2, .int 3]) (Pi := fun i => ∃ m, m = 4 ∧ 0 ≤ i ∧ i < m) (C := fun t => ∃ bt : Int, t = dat K (.int bt) ∧ 1 ≤ bt ∧ bt ≤ 3) (pd_lst (ds := [.int 1, .int 1, .int 2, .int 3]) (pl_cons px_int (pl_cons px_int (pl_cons px_int (pl_cons px_int pl_nil))))) (px_draw (i := 0) G__law_draw (hr.mono (by decide)) rfl (pi_of px_int) (fun m hm => by subst hm; decide)) (fun i ⟨z, hz, h0, h1⟩ => by
      subst hz
      have : i = 0 ∨ i = 1 ∨ i = 2 ∨ i = 3 := by omega
      rcases this with rfl | rfl | rfl | rfl
      · exact ⟨.int 1, rfl, 1, rfl, by decide, by decide⟩
      · exact ⟨.int 1, rfl, 1, rfl, by decide, by decide⟩
      · exact ⟨.int 2, rfl, 2, rfl, by decide, by decide⟩
      · exact ⟨.int 3, rfl, 3, rfl, by decide, by decide⟩)) (fun t ⟨bt, ht, h1, h2⟩ => ?_) sc__law_work.nd
    subst ht
    refine sd_asg 10 (pd_tup (ds := [.int 0, .int 0]) (pl_cons px_int (pl_cons px_int pl_nil))) ?_ sc__law_work.nd
    refine sd_ifE (pbe_eq (px_draw (i := 0) G__law_draw (hr.mono (by decide)) rfl (pi_of px_int) (fun m hm => by subst hm; decide)) (pi_of px_int)) ?_ (sd_nil (go3 ps kd bt 0 0 s4 s5 s6 s7 s8 hps hpm h1 h2 (by decide) (by decide) (by decide) (by decide)))
    refine sd_asgX 10 (px_tup2 (Ad := fun d => ∃ z : Int, d = .int z ∧ -1000 ≤ z ∧ z ≤ 1001) (Bd := fun d => ∃ z : Int, d = .int z ∧ -500000000 ≤ z ∧ z < 500000000) ((px_opI0 op_sub (R := fun z => -1000 ≤ z ∧ z ≤ 1001) (px_draw (i := 0) G__law_draw (hr.mono (by decide)) rfl (pi_of px_int) (fun m hm => by subst hm; decide)) (pi_of px_int) (fun i j ⟨z, hz, h0, h1⟩ hj => by subst hz; subst hj; omega)).imp fun t ⟨z, h1, h2⟩ => ⟨_, h1, z, rfl, h2⟩) ((px_opI0 op_sub (R := fun z => -500000000 ≤ z ∧ z < 500000000) (px_draw (i := 0) G__law_draw (hr.mono (by decide)) rfl (pi_of (PD.is (t' := dat K (.int 1000000000)) (pd_pow px_int px_int ⟨by decide, by decide, by decide⟩) rfl)) (fun m hm => by subst hm; decide)) (pi_of (PD.is (t' := dat K (.int 500000000)) (pd_mul px_int (pd_pow px_int px_int ⟨by decide, by decide, by decide⟩) (mulL (by decide))) rfl)) (fun i j ⟨z, hz, h0, h1⟩ hj => by subst hz; subst hj; omega)).imp fun t ⟨z, h1, h2⟩ => ⟨_, h1, z, rfl, h2⟩)) (fun t ⟨d, d', ht, ⟨bx, hd, g1, g2⟩, b', hd', g3, g4⟩ => ?_) sc__law_work.nd
    subst ht; subst hd; subst hd'
    exact sd_nil (go3 ps kd bt bx b' s4 s5 s6 s7 s8 hps hpm h1 h2 g1 g2 g3 g4)
  have go1 : ∀ (ps : List Q) (kd : Int) (s4 s5 s6 s7 s8 : Sl), GR ps → SD (cxOf CX0 P w K mg base ["_law_hand_here", "_law_most", "_law_kind", "_law_points", "_law_wide", "_law_high", "_law_found", "_law_k", "_law_cell", "_law_bottom", "_law_by", "_law_begin", "_law_x", "_law_y"] "_law_work" (defScope s__law_work) f cdv Ar outer s H E).nox (fun _ _ _ _ => False) ((defBody s__law_work).drop 3) (retOf K fun t => ∃ cs : List Cp, t = dat K (.list (cs.map cD)) ∧ GW m cs) [.th handT, .th (dat K (.int m)), .th (dat K (.int kd)), .th (dat K (.list (ps.map rD))), s4, s5, s6, s7, s8, .no, .no, .no, .no, .no] := by
    intro ps kd s4 s5 s6 s7 s8 hps
    obtain ⟨n, rfl⟩ : ∃ n : Nat, m = (n : Int) := ⟨m.toNat, by omega⟩
    by_cases h : (n : Int) < (ps.length : Int)
    · refine sd_ifT (PB.is (pb_cmp ct_gt (pd_len T.z_len (px_var 3 rfl) rfl) (px_var 1 rfl) (nomark _)) (by rw [List.length_map]; exact decide_eq_true h)) ?_
      refine sd_asg 3 (PD.is (t' := dat K (.list ((ps.take n).map rD))) (pd_slice (px_var 3 rfl) pb_none (pb_some (px_var 1 rfl))) (by rw [cut_to, List.map_take]; rfl)) ?_ sc__law_work.nd
      exact sd_nil (go2 (ps.take n) kd s4 s5 s6 s7 s8 (gr_take hps (by omega)) (by rw [List.length_take]; omega))
    · exact sd_skip (PB.is (pb_cmp ct_gt (pd_len T.z_len (px_var 3 rfl) rfl) (px_var 1 rfl) (nomark _)) (by rw [List.length_map]; exact decide_eq_false h)) (go2 ps kd s4 s5 s6 s7 s8 hps (by omega))
  have hr0 : GR [(0, 0), (4, 0), (4, 2), (0, 2)] := ⟨cv4 (by decide) (by decide) (by decide) (by decide), by decide, by decide, fun p hp => by
    simp only [List.mem_cons, List.not_mem_nil, or_false] at hp
    rcases hp with rfl | rfl | rfl | rfl <;> exact ⟨by decide, by decide, by decide, by decide⟩⟩
  refine sd_asgX 2 (px_draw (i := 0) G__law_draw (hr.mono (by decide)) rfl (pi_of px_int) (fun m hm => by subst hm; decide)) (fun t ⟨kd, ht, z, hz, k0, k1⟩ => ?_) sc__law_work.nd
  subst ht; subst hz
  refine sd_asg 3 (PD.is (t' := dat K (.list (([(0, 0), (4, 0), (4, 2), (0, 2)] : List Q).map rD))) (pd_lst (ds := [rD (0, 0), rD (4, 0), rD (4, 2), rD (0, 2)]) (pl_cons (pd_tup (ds := [.int (0), .int (0)]) (pl_cons px_int (pl_cons px_int pl_nil))) (pl_cons (pd_tup (ds := [.int (4), .int (0)]) (pl_cons px_int (pl_cons px_int pl_nil))) (pl_cons (pd_tup (ds := [.int (4), .int (2)]) (pl_cons px_int (pl_cons px_int pl_nil))) (pl_cons (pd_tup (ds := [.int (0), .int (2)]) (pl_cons px_int (pl_cons px_int pl_nil))) pl_nil))))) rfl) ?_ sc__law_work.nd
  by_cases hk1 : kd = 1
  · subst hk1
    refine sd_ifT (PB.is (pb_cmp (ct_eq hr.units rfl rfl) (px_var 2 rfl) px_int (nomark _)) rfl) ?_
    have one : ∀ {i j : Int}, (i = 1) → (∃ m, m = 6 ∧ 0 ≤ j ∧ j < m) → 1 ≤ i + j ∧ i + j < 7 := fun {i j} hi ⟨z, hz, h0, h1⟩ => by subst hi; subst hz; omega
    refine sd_asgX 3 (px_lstX (Bt := fun ts => ∃ a b : Int, ts = [dat K (rD (0, 0)), dat K (rD (a, 0)), dat K (rD (0, b))] ∧ (1 ≤ a ∧ a < 7) ∧ 1 ≤ b ∧ b < 7) (Cd := fun ds => ∃ a b : Int, ds = [rD (0, 0), rD (a, 0), rD (0, b)] ∧ (1 ≤ a ∧ a < 7) ∧ 1 ≤ b ∧ b < 7)
      (pl_consA (A := (· = dat K (rD (0, 0)))) (B := fun ts => ∃ a b : Int, ts = [dat K (rD (a, 0)), dat K (rD (0, b))] ∧ (1 ≤ a ∧ a < 7) ∧ 1 ≤ b ∧ b < 7) (pd_tup (ds := [.int 0, .int 0]) (pl_cons px_int (pl_cons px_int pl_nil)))
        (pl_consA (B := fun ts => ∃ b : Int, ts = [dat K (rD (0, b))] ∧ 1 ≤ b ∧ b < 7) (px_tup2 (Ad := fun d => ∃ z : Int, d = .int z ∧ 1 ≤ z ∧ z < 7) (Bd := fun d => d = .int 0) ((px_opI0 op_add (R := fun z => 1 ≤ z ∧ z < 7) (pi_of px_int) (px_draw (i := 0) G__law_draw (hr.mono (by decide)) rfl (pi_of px_int) (fun m hm => by subst hm; decide)) (fun i j hi hj => one hi hj)).imp fun t ⟨z, h1, h2⟩ => ⟨_, h1, z, rfl, h2⟩) (px_int.imp fun t h => ⟨_, h, rfl⟩))
          (pl_consA (B := fun ts => ts = []) (px_tup2 (Ad := fun d => d = .int 0) (Bd := fun d => ∃ z : Int, d = .int z ∧ 1 ≤ z ∧ z < 7) (px_int.imp fun t h => ⟨_, h, rfl⟩) ((px_opI0 op_add (R := fun z => 1 ≤ z ∧ z < 7) (pi_of px_int) (px_draw (i := 0) G__law_draw (hr.mono (by decide)) rfl (pi_of px_int) (fun m hm => by subst hm; decide)) (fun i j hi hj => one hi hj)).imp fun t ⟨z, h1, h2⟩ => ⟨_, h1, z, rfl, h2⟩))
            pl_nil (fun t ts ⟨d, d', ht, hd, z, hz, h1⟩ h2 => ⟨z, by rw [ht, hd, hz, h2]; rfl, h1⟩)) (fun t ts ⟨d, d', ht, ⟨z, hz, h1⟩, hd⟩ ⟨b, h2, h3⟩ => ⟨z, b, by rw [ht, hd, hz, h2]; rfl, h1, h3⟩)) (fun t ts ht ⟨a, b, h1, h2, h3⟩ => ⟨a, b, by rw [ht, h1], h2, h3⟩))
      (fun ts ⟨a, b, h1, h2, h3⟩ => ⟨[rD (0, 0), rD (a, 0), rD (0, b)], h1, by show 3 ≤ 1000; decide, a, b, rfl, h2, h3⟩)) (fun t ⟨ds, ht, a, b, hds, ⟨ha0, ha1⟩, hb0, hb1⟩ => ?_) sc__law_work.nd
    subst ht; subst hds
    have hab : 0 < a * b := Int.mul_pos (by omega) (by omega)
    have c1 : a * b = HU.cr (0, 0) (a, 0) (0, b) := by unfold HU.cr; grind
    refine sd_nil (go1 [(0, 0), (a, 0), (0, b)] 1 _ _ _ _ _ ⟨cv3 (c1 ▸ hab), Nat.le_refl _, by show 3 ≤ 28; decide, fun p hp => ?_⟩)
    simp only [List.mem_cons, List.not_mem_nil, or_false] at hp
    rcases hp with rfl | rfl | rfl <;> exact ⟨by simp; try omega, by simp; try omega, by simp; try omega, by simp; try omega⟩
  · refine sd_ifF (PB.is (pb_cmp (ct_eq hr.units rfl rfl) (px_var 2 rfl) px_int (nomark _)) (by show (kd == 1) = false; simpa using hk1)) ?_
    by_cases hk2 : kd = 2
    · subst hk2
      refine sd_ifT (PB.is (pb_cmp (ct_eq hr.units rfl rfl) (px_var 2 rfl) px_int (nomark _)) rfl) ?_
      have one : ∀ {i j : Int}, (i = 1) → (∃ m, m = 6 ∧ 0 ≤ j ∧ j < m) → 1 ≤ i + j ∧ i + j < 7 := fun {i j} hi ⟨z, hz, h0, h1⟩ => by subst hi; subst hz; omega
      refine sd_asgX 4 (px_opI0 op_add (R := fun z => 1 ≤ z ∧ z < 7) (pi_of px_int) (px_draw (i := 0) G__law_draw (hr.mono (by decide)) rfl (pi_of px_int) (fun m hm => by subst hm; decide)) (fun i j hi hj => one hi hj)) (fun t ⟨a, ht, ha0, ha1⟩ => ?_) sc__law_work.nd
      subst ht
      refine sd_asgX 5 (px_opI0 op_add (R := fun z => 1 ≤ z ∧ z < 7) (pi_of px_int) (px_draw (i := 0) G__law_draw (hr.mono (by decide)) rfl (pi_of px_int) (fun m hm => by subst hm; decide)) (fun i j hi hj => one hi hj)) (fun t ⟨b, ht, hb0, hb1⟩ => ?_) sc__law_work.nd
      subst ht
      refine sd_asg 3 (PD.is (t' := dat K (.list (([(0, 0), (a, 0), (a, b), (0, b)] : List Q).map rD))) (pd_lst (ds := [rD (0, 0), rD (a, 0), rD (a, b), rD (0, b)]) (pl_cons (pd_tup (ds := [.int (0), .int (0)]) (pl_cons px_int (pl_cons px_int pl_nil))) (pl_cons (pd_tup (ds := [.int (a), .int (0)]) (pl_cons (px_var 4 rfl) (pl_cons px_int pl_nil))) (pl_cons (pd_tup (ds := [.int (a), .int (b)]) (pl_cons (px_var 4 rfl) (pl_cons (px_var 5 rfl) pl_nil))) (pl_cons (pd_tup (ds := [.int (0), .int (b)]) (pl_cons px_int (pl_cons (px_var 5 rfl) pl_nil))) pl_nil))))) rfl) ?_ sc__law_work.nd
      have hab : 0 < a * b := Int.mul_pos (by omega) (by omega)
      have c1 : a * b = HU.cr (0, 0) (a, 0) (a, b) := by unfold HU.cr; grind
      have c2 : a * b = HU.cr (0, 0) (a, 0) (0, b) := by unfold HU.cr; grind
      have c3 : a * b = HU.cr (0, 0) (a, b) (0, b) := by unfold HU.cr; grind
      have c4 : a * b = HU.cr (a, 0) (a, b) (0, b) := by unfold HU.cr; grind
      refine sd_nil (sd_nil (go1 _ 2 _ _ _ _ _ ⟨cv4 (c1 ▸ hab) (c2 ▸ hab) (c3 ▸ hab) (c4 ▸ hab), by show 3 ≤ 4; decide, by show 4 ≤ 28; decide, fun p hp => ?_⟩))
      simp only [List.mem_cons, List.not_mem_nil, or_false] at hp
      rcases hp with rfl | rfl | rfl | rfl <;> exact ⟨by simp; try omega, by simp; try omega, by simp; try omega, by simp; try omega⟩
    · refine sd_ifF (PB.is (pb_cmp (ct_eq hr.units rfl rfl) (px_var 2 rfl) px_int (nomark _)) (by show (kd == 2) = false; simpa using hk2)) ?_
      by_cases hk3 : 2 < kd
      · refine sd_ifT (PB.is (pb_cmp ct_gt (px_var 2 rfl) px_int (nomark _)) (decide_eq_true hk3)) ?_
        refine sd_new 6 ?_ sc__law_work.nd
        refine sd_forRX 7 (Nn := fun n => 4 ≤ n ∧ n ≤ 14) (fun n i Δ' => ∃ (ps : List Q) (s7 s8 : Sl), Δ' = [.th handT, .th (dat K (.int m)), .th (dat K (.int kd)), .th (dat K (.list (([(0, 0), (4, 0), (4, 2), (0, 2)] : List Q).map rD))), .no, .no, .ml ((ps.map rD).map (dat K)), s7, s8, .no, .no, .no, .no, .no] ∧ ps.length ≤ i ∧ ∀ p ∈ ps, GP p) T.z_range (px_if (k := decide (kd = 7)) (PB.is (pb_cmp (ct_eq hr.units rfl rfl) (px_var 2 rfl) px_int (nomark _)) rfl) (fun _ => (pi_of px_int).imp fun t ⟨z, h1, h2⟩ => ⟨z, h1, by subst h2; decide⟩) (fun _ => px_opI0 op_add (pi_of px_int) (px_draw (i := 0) G__law_draw (hr.mono (by decide)) rfl (pi_of px_int) (fun m hm => by subst hm; decide)) (fun i j hi ⟨z, hz, h0, h1⟩ => by subst hi; subst hz; omega))) (fun n h => by omega) (fun n _ => ⟨[], .no, .no, rfl, Nat.zero_le _, fun p hp => by cases hp⟩) ?_ ?_ sc__law_work.nd
        · rintro n i Δ' hn hi ⟨ps, s7, s8, rfl, hl, hg⟩
          refine sd_asgX 8 (px_draw (i := 0) G__law_draw (hr.mono (by decide)) rfl (pi_of px_int) (fun m hm => by subst hm; decide)) (fun t ⟨c, ht, z, hz, c0, c1⟩ => ?_) sc__law_work.nd
          subst ht; subst hz
          refine sd_app (A := (· = dat K (rD (c.fdiv 7, c.fmod 7)))) 6 rfl (pd_tup (ds := [.int (c.fdiv 7), .int (c.fmod 7)]) (pl_cons (pd_fdiv (px_var 8 rfl) px_int (dvS (by decide) (by decide))) (pl_cons (pd_mod (pd_int T.z_int (px_var 8 rfl)) px_int (by decide)) pl_nil))) (by rw [List.length_map, List.length_map]; omega) (fun t ht => ?_) rfl (by first | exact Or.inl rfl | exact Or.inr (Or.inl rfl)) (fun te pe => pe_bm PySem.F.plainAttrs_list PySem.F.slot_list_append PySem.F.type_list_append mt_append (pv 6) (pa_cons pe pa_nil))
          subst ht
          refine sd_nil ⟨ps ++ [(c.fdiv 7, c.fmod 7)], _, _, by rw [List.map_append, List.map_append]; rfl, by rw [List.length_append]; simp; omega, fun p hp => ?_⟩
          rcases List.mem_append.mp hp with z | z
          · exact hg p z
          · rw [List.mem_singleton.mp z]
            have h7 := fmod_lt (a := c) (b := 7) (by decide)
            have hdv : c.fdiv 7 = c / 7 := Int.fdiv_eq_ediv_of_nonneg _ (by decide)
            exact ⟨by show 0 ≤ c.fdiv 7; rw [hdv]; omega, by show c.fdiv 7 < 100; rw [hdv]; omega, h7.1, by show c.fmod 7 < 100; omega⟩
        · rintro n Δ' hn ⟨ps, s7, s8, rfl, hl, hg⟩
          refine sd_freeze 6 rfl rfl ?_
          refine sd_asgX 6 (px_call G__law_hull (hr.mono (by decide)) (pl_cons (px_var 6 rfl) pl_nil) (fun ts h => ⟨_, ⟨ps, by rw [h]; rfl, by omega, hg, rfl⟩, fun t h => h⟩)) (fun t ⟨qs, ht, h3, h28, hcv, hsub⟩ => ?_) sc__law_work.nd
          subst ht
          cases qs with
          | nil => exact sd_skip (PB.is (pb_list (ds := []) (px_var 6 rfl) (Or.inl rfl)) rfl) (sd_nil (sd_nil (sd_nil (go1 _ kd _ _ _ _ _ hr0))))
          | cons q qs =>
            have h3' : 3 ≤ (q :: qs).length := h3.elim (fun z => by cases z) id
            refine sd_ifT (PB.is (pb_list (ds := (q :: qs).map rD) (px_var 6 rfl) (Or.inl rfl)) rfl) ?_
            obtain ⟨k, hk⟩ : ∃ k : Nat, m = (k : Int) := ⟨m.toNat, by omega⟩
            subst hk
            refine sd_asg 3 (PD.is (t' := dat K (.list (((q :: qs).take k).map rD))) (pd_slice (px_var 6 rfl) pb_none (pb_some (px_var 1 rfl))) (by rw [cut_to, List.map_take]; rfl)) ?_ sc__law_work.nd
            exact sd_nil (sd_nil (sd_nil (sd_nil (go1 _ kd _ _ _ _ _ (gr_take ⟨hcv, h3', h28, fun p hp => hg p (hsub p hp)⟩ (by omega))))))
      · exact sd_skip (PB.is (pb_cmp ct_gt (px_var 2 rfl) px_int (nomark _)) (decide_eq_false hk3)) (sd_nil (sd_nil (go1 _ kd _ _ _ _ _ hr0)))
theorem wk_of_gw {cs : List Cp} {m : Int} (hm : m ≤ 8) (h : GW m cs) : W4 cs := by
  obtain ⟨ps, bx, b', d, hg, hl, d1, d3, x0, x1, y0, y1, rfl⟩ := h
  have hd : (0 : Rat) < (d : Rat) := by exact_mod_cast (show 0 < d by omega)
  have cl : ∀ c ∈ ps.map (ratP bx b' d), Cl c := fun c hc => by
    obtain ⟨p, hp, rfl⟩ := List.mem_map.mp hc
    exact ⟨low_low (by omega), low_low (by omega)⟩
  refine ⟨cl, fun c hc => ?_, by rw [List.length_map]; exact hg.lo, by rw [List.length_map]; omega, ?_⟩
  · obtain ⟨p, hp, rfl⟩ := List.mem_map.mp hc
    obtain ⟨g1, g2, g3, g4⟩ := hg.gp p hp
    exact ⟨low_sm (by omega) (by omega) (by omega), low_sm (by omega) (by omega) (by omega)⟩
  · have cq := HU.cq_of_cv (bx := (bx : Rat)) (b' := (b' : Rat)) hd hg.cv
    intro i j k hi hj hk
    rw [List.length_map] at hk
    have q := HU.cq_idx cq i j k hi hj (by rw [List.length_map]; exact hk)
    have e : ∀ (i : Nat) (h : i < ps.length), rp (at_ (ps.map (ratP bx b' d)) i) = (ps.map fun p => (((p.1 : Rat) + (bx : Rat)) / (d : Rat), ((p.2 : Rat) + (b' : Rat)) / (d : Rat)))[i]'(by rw [List.length_map]; exact h) := fun i h => by
      have e1 : at_ (ps.map (ratP bx b' d)) i = ratP bx b' d ps[i] := by
        unfold at_
        rw [List.getD_eq_getElem?_getD, List.getElem?_map, List.getElem?_eq_getElem h]
        rfl
      rw [e1, List.getElem_map]
      unfold rp ratP
      have hd0 : d ≠ 0 := by omega
      refine Prod.ext ?_ ?_
      · show vR (lowQ (ps[i].1 + bx) d) = _
        rw [vR_low hd0, Rat.divInt_eq_div, Rat.intCast_add]
      · show vR (lowQ (ps[i].2 + b') d) = _
        rw [vR_low hd0, Rat.divInt_eq_div, Rat.intCast_add]
    show 0 < HU.cq (rp (at_ (ps.map (ratP bx b' d)) i)) (rp (at_ (ps.map (ratP bx b' d)) j)) (rp (at_ (ps.map (ratP bx b' d)) k))
    rw [e i (by omega), e j (by omega), e k hk]
    exact q
end
end K03
set_option Elab.async false
set_option linter.all false
set_option maxRecDepth 100000
/-! Tuples whose items are not known. -/
namespace DL
open PySem PySem.Spec PyProof.Rows L2
section
variable {X : Cx} {Δ : List Sl} {e a b c : Expr} {es : List Expr} {A B C : Th → Prop} {pos : Pos} {P : Post} {rest body : List Stmt} {W : WX}
/-- a tuple whose items are not known -/
theorem px_tupX {x1} {Bt : List Th → Prop} {Cd : List PyData → Prop} (h : PL X Δ es Bt) (hB : ∀ ts, Bt ts → ∃ ds : List PyData, ts = ds.map (dat X.K) ∧ ds.length ≤ 1000 ∧ Cd ds) : PX X Δ (.Tuple es x1 pos) (fun t => ∃ ds, t = dat X.K (.tuple ds) ∧ Cd ds) := by
  obtain ⟨t, p, f⟩ := h
  refine ⟨_, pe_tup p, fun S0 M0 H0 σ H S hA Q q => f S0 M0 H0 σ H S hA _ fun ths vs H2 ht e2 r => ?_⟩
  obtain ⟨ds, rfl, hl, hc⟩ := hB ths ht
  have hd := all_dpa r
  refine ⟨sz_of (by rw [dpa_len hd]; omega), fun p hp => q _ _ _ ⟨ds, rfl, hc⟩ (e2.trans (Ex.new hp)) ?_⟩
  have np := ((hA.up e2).dom).new hp
  refine Dp.tup (SqT.of ?_) (dpa_up (hide_ex (Ex.new hp)) hd)
  rw [hide_out np]
  exact upd_same
/-- for x in e, e a list that is not known -/
theorem sd_forDT {x : Str} {px : Pos} (j : Nat) {Ad : List PyData → Prop} (I : List PyData → Nat → List Sl → Prop) (he : PX X Δ e (fun t => ∃ ds, t = dat X.K (.tuple ds) ∧ Ad ds)) (h0 : ∀ ds, Ad ds → I ds 0 Δ)
    (step : ∀ ds (i : Nat) z Δ', Ad ds → ds[i]? = some z → I ds i Δ' → SD X W body { P with nx := I ds (i + 1), ct := I ds (i + 1), bk := fun Δ2 => SD X W rest P Δ2, top := false } (Δ'.set j (.th (dat X.K z))))
    (hd : ∀ ds Δ', Ad ds → I ds ds.length Δ' → SD X W rest P Δ') (hN : X.N.Nodup) (hc : X.calm = true := by rfl) (hi : X.N[j]? = some x := by rfl) (hx : Loc X.env.scope x := by first | exact Or.inl rfl | exact Or.inr rfl)
    (hf : X.fn x = true ∨ X.env.scope.names.lookup x = some .local := by first | exact .inl rfl | exact .inr rfl)
    (hp : PassesOwn (model X.prog X.w) X.A X.env X.xe := by exact PassesOwn.never) (hfs : ∀ x, foldedSetIterable e X.env x = pure x := by intro _; rfl) : SD X W (.For (.Name x px) e body [] pos :: rest) P Δ := by
  refine sd_cons ?_
  obtain ⟨t, pe, f⟩ := he
  have qb : PSs X body (fun D σ H => ∃ t, PSs X body t ∧ t D σ H) := ⟨fun pins s σ H D J ⟨t, p, h⟩ => p.run pins s σ H D J h⟩
  have turn : ∀ {ds : List PyData} {S0 M0 S : List Addr} {H0 H H' : Hp} {σ σ' : L2.St} {D : Ends} {xs : List V} {i : Nat} {v : V} {Δ' : List Sl} {S' : List Addr}, Ad ds → At S0 M0 H0 Δ σ H S → Le (ends S0 M0 H0 { P with nx := fun Δ' => SD X W rest P Δ' }) D → XW S0 M0 H0 P W → DpAll X.K (hide S H) xs ds → xs[i]? = some v →
      I ds i Δ' → At S (mls Δ σ) H Δ' σ' H' S' → (fun D σ H => ∃ t, PSs X body t ∧ t D σ H) { D with nx := fun σ2 H2 => ∃ Δ2 S2, I ds (i + 1) Δ2 ∧ At S (mls Δ σ) H Δ2 σ2 H2 S2, ct := fun σ2 H2 => ∃ Δ2 S2, I ds (i + 1) Δ2 ∧ At S (mls Δ σ) H Δ2 σ2 H2 S2, bk := D.nx } (σ'.set j (some v)) H' := by
    intro ds S0 M0 S H0 H H' σ σ' D xs i v Δ' S' had hA le xw hx' hv i' hA'
    obtain ⟨z, hz, r⟩ : ∃ z, ds[i]? = some z ∧ Dp X.K (hide S H) v z := by
      have hl := dpa_len hx'
      have li : i < ds.length := by rw [← hl]; exact (List.getElem?_eq_some_iff.mp hv).1
      obtain ⟨v', e1, r1⟩ := dpa_get hx' (List.getElem?_eq_getElem li)
      rw [hv] at e1
      have e2 := Option.some.inj e1
      exact ⟨ds[i], List.getElem?_eq_getElem li, by rw [e2]; exact r1⟩
    obtain ⟨u, pu, fu⟩ := step ds i z Δ' had hz i'
    have le' := ends_lift hA hA.mown le
    exact ⟨u, pu, fu S (mls Δ σ) H _ H' S' (hA'.set (t := dat X.K z) (dp_up hA'.hid r)) _ ⟨fun _ _ q => q, le'.rt, le'.nx, fun _ _ q => q⟩ (xw_lift hA hA.mown xw (fun _ _ _ z => z) rfl)⟩
  refine ⟨_, ps_for hp hc (pi_tup pe) (pg_name hN hi hx hf) qb hfs, fun S0 M0 H0 σ H S hA D le xw => ?_⟩
  refine f S0 M0 H0 σ H S hA _ fun th v H1 ht e1 r => ?_
  obtain ⟨ds, rfl, had⟩ := ht
  obtain ⟨p, xs, rfl, hq, hxs⟩ := dp_tup r
  have hA1 := hA.up e1
  refine ⟨p, rfl, ⟨xs, ex_t hide_le hq⟩, for_tup (K := X.K) (a := p) (xs := xs) (g := gName j) (tb := fun D σ H => ∃ t, PSs X body t ∧ t D σ H) (fun i σ' H' => ∃ Δ' S', I ds i Δ' ∧ At S (mls Δ σ) H1 Δ' σ' H' S') ⟨Δ, S, h0 ds had, hA1.here⟩ (fun i σ' H' _ ⟨Δ', S', _, hA'⟩ => ex_t hide_le (ex_t hA'.hid hq)) (fun i v σ' H' hv ⟨Δ', S', i', hA'⟩ => turn had hA1 le xw hxs hv i' hA') (fun σ' H' ⟨Δ', S', i', hA'⟩ => le.nx _ _ ⟨Δ', S', hd ds Δ' had (by rw [← dpa_len hxs]; exact i'), hA1.lift hA1.mown hA'⟩)⟩

/-- a + b, a a list that is not known -/
theorem px_catX {es : List PyData} {Ad : List PyData → Prop} (ha : PX X Δ a (fun t => ∃ ds, t = dat X.K (.list ds) ∧ Ad ds)) (hb : PD X Δ b (dat X.K (.list es))) (hz : ∀ ds, Ad ds → ds.length + es.length ≤ 100000) : PX X Δ (.BinOp a .Add b pos) (fun t => ∃ ds, t = dat X.K (.list (ds ++ es)) ∧ Ad ds) :=
  px_two (fun _ _ pa pb => pe_op op_catL pa pb) ha hb fun S H x' y' v w dom hx hy rx ry Q q => by
    obtain ⟨ds, rfl, had⟩ := hx
    subst hy
    obtain ⟨l, xs, rfl, hq, hd⟩ := dp_lst rx
    obtain ⟨b, zs, rfl, hq2, hd2⟩ := dp_lst ry
    refine ⟨l, b, xs, zs, rfl, rfl, ex_l hide_le hq, ex_l hide_le hq2, by rw [dpa_len hd, dpa_len hd2]; exact Nat.le_trans (hz ds had) (by decide), fun p hp => q _ _ _ ⟨ds, rfl, had⟩ (Ex.new hp) (Dp.lst (SqL.of ?_) (dpa_up (hide_ex (Ex.new hp)) (dpa_app hd hd2)))⟩
    rw [hide_out (dom.new hp)]
    exact upd_same
end
end DL
set_option Elab.async false
set_option linter.all false
set_option maxRecDepth 100000
/-! Defs that hand back a list of their own, which the caller may go on filling. -/
namespace DL
open PySem PySem.Spec PyProof.Rows L2
theorem execs_app (env : Env) : ∀ (a b : List Stmt), execs (a ++ b) env = (execs a env >>= fun f => match f with | .next => execs b env | f => pure f)
  | [], b => by
    rw [List.nil_append]
    conv => rhs; lhs; unfold execs
    rw [pure_bind]
  | s :: a, b => by
    have ih := execs_app env a b
    have e : ∀ l, execs (s :: l) env = (exec s env >>= fun f => match f with | .next => execs l env | f => pure f) := fun l => by
      conv => lhs; unfold execs
      rfl
    rw [List.cons_append, e, e, bind_assoc]
    congr 1
    funext f
    cases f
    · exact ih
    · rw [pure_bind]
    · rw [pure_bind]
    · rw [pure_bind]
theorem pss_app {X : Cx} {a b : List Stmt} {t u : TS} (h1 : PSs X a t) (h2 : PSs X b u) : PSs X (a ++ b) (tSeq t u) := by
  refine ⟨fun pins s σ H D I h => ?_⟩
  rw [execs_app]
  refine wpAny_bind (thn (h1.run pins s σ H { D with nx := u D } I h) fun f s1 q => ?_)
  cases f with
  | next =>
    obtain ⟨σ', H', I', q⟩ := q
    exact h2.run pins s1 σ' H' D I' q
  | ret v => exact wpAny_pure q
  | brk => exact wpAny_pure q
  | cont => exact wpAny_pure q
/-- a contract of such a def: what the list holds -/
abbrev CnF := List Th → (List Th → Prop) → Prop
def spF (R : CnF) : Sp := fun vs H Q _ => ∃ S ths A, Dom S H ∧ All (hide S H) ths vs ∧ R ths A ∧ ∀ us a xs H', A us → Ex H H' → H a = none → H' a = some (.lst xs) → All (hide (a :: S) H') us xs → Q (.ref a) H'
structure GdF (P : Program) (w : World) (K : PySem.W.Frag) (mg : Str → Option Value) (base : Heap) (x : Str) (k : Nat) (R : CnF) : Prop where
  ex : ∃ f fd ps, mg x = some (.ref f) ∧ PySem.W.keepIn K (.ref f) = true ∧ Binds K fd ps [] ∧ FnOk P w K mg base CX0 k f fd ps (spF R)
section
variable {P : Program} {w : World} {K : PySem.W.Frag} {mg : Str → Option Value} {base : Heap}
/-- the rule: rows, then return of the list in slot i -/
theorem fnF_mk {x qual y : Str} {st : Stmt} {f : Addr} {fd : FuncData} {N ps : List Str} {k : Nat} {R : CnF} {rows : List Stmt} {p p' : Pos} (i : Nat) (F : Fun K x qual st f fd) (Sc : FnScope N ps (defScope st)) (hl : ∀ ts A, R ts A → ts.length = ps.length)
    (hb : defBody st = rows ++ [.Return (some (.Name y p)) p'])
    (hy : ∀ (cdv : Value) (A : Around) (outer : List Env) (s : Shared) (H : Hp) (E : XK), PE (cxOf CX0 P w K mg base N qual (defScope st) f cdv A outer s H E).nox (.Name y p) (tVar i))
    (body : ∀ (cdv : Value) (A : Around) (outer : List Env) (s : Shared) (H : Hp) (E : XK), Room k (A.deeper (envOfC qual (defScope st) s.heap.objs.size f cdv)) → ∀ ts B, R ts B →
      SD (cxOf CX0 P w K mg base N qual (defScope st) f cdv A outer s H E).nox (fun _ _ _ _ => False) rows { nx := fun Δ => ∃ us, Δ[i]? = some (.ml us) ∧ B us, rt := fun _ => False, top := true } (startΔ N ts)) : FnOk P w K mg base CX0 (k + 1) f fd ps (spF R) := by
  refine F.ok Sc (fun vs H Q E ⟨S, ths, A, _, r, hR, _⟩ => by rw [← r.len]; exact hl _ _ hR) fun cdv A outer s H vs Q E hr ⟨S, ths, B, dom, r, hR, k⟩ => ?_
  obtain ⟨t, p, f⟩ := body cdv A outer s H E hr ths B hR
  rw [hb]
  refine ⟨_, pss_app p (pss_one (ps_ret (hy cdv A outer s H E))), ?_⟩
  have ex0 : ∀ {H'}, Ex (hide [] H) H' → Ex H H' := fun {H'} e a o h => e a o (by rw [hide_out (by simp)]; exact h)
  refine f S [] H _ H S (at_start dom r) _ ⟨fun σ' H' ⟨Δ', S', ⟨us, hi, hB⟩, hA⟩ => ?_, fun _ _ ⟨_, p, _⟩ => p.elim, fun _ _ ⟨_, _, p, _⟩ => p.elim, fun _ _ ⟨_, _, p, _⟩ => p.elim⟩ ⟨fun _ _ _ _ _ _ _ p => p.elim, fun _ => ⟨rfl, dom⟩⟩
  obtain ⟨o, e1, a, xs, e2, hm, hq, hx⟩ := hA.env.get hi
  subst e2
  have na : H a = none := by
    rcases hA.own i _ a hi e1 with z | z
    · cases z
    · exact z
  refine ⟨_, e1, k us a xs H' hB (ex0 hA.ex) na hq (hx.up (hide_sub fun b hb => ?_))⟩
  rcases List.mem_cons.mp hb with z | z
  · rw [z]; exact hm
  · exact hA.sub b z
theorem gdF_mk {x : Str} {k : Nat} {R : CnF} {f : Addr} {fd : FuncData} {ps : List Str} (hm : mg x = some (.ref f)) (hk : PySem.W.keepIn K (.ref f) = true) (hb : Binds K fd ps []) (F : FnOk P w K mg base CX0 k f fd ps (spF R)) : GdF P w K mg base x k R := ⟨f, fd, ps, hm, hk, hb, F⟩
end
theorem At.fresh {S0 M0 S : List Addr} {H0 H H' : Hp} {Δ : List Sl} {σ : L2.St} {i : Nat} {l : Addr} {us : List Th} {xs : List V} (hA : At S0 M0 H0 Δ σ H S) (ex1 : Ex H H') (hl : H l = none) (hH : H' l = some (.lst xs)) (hx : All (hide (l :: S) H') us xs) :
    At S0 M0 H0 (Δ.set i (.ml us)) (σ.set i (some (V.ref l))) H' (l :: S) := by
  have nS : l ∉ S := hA.dom.new hl
  have nl : l ∉ M0 → H0 l = none := ex_none hA.ex hl
  have own0 : l ∈ M0 ∨ H0 l = none := by
    by_cases q : l ∈ M0
    · exact Or.inl q
    · exact Or.inr (nl q)
  have hid : Ex (hide S H) (hide (l :: S) (H')) := fun a o h => by
    by_cases q : a ∈ S
    · rw [hide_in q] at h; cases h
    · rw [hide_out q] at h
      have ne : a ≠ l := ne_of_none h hl
      rw [hide_out (by simp [ne, q])]
      exact ex1 a o h
  have env1 : SlsR (l :: S) (H') Δ σ := by
    have step : ∀ {Δ : List Sl} {σ : L2.St}, SlsR S H Δ σ → SlsR (l :: S) (H') Δ σ := fun {Δ σ} h => by
      induction Δ generalizing σ with
      | nil =>
        cases σ with
        | nil => trivial
        | cons _ _ => exact h.elim
      | cons s ss ih =>
        cases σ with
        | nil => exact h.elim
        | cons o os =>
          refine ⟨?_, ih h.2⟩
          have h1 := h.1
          cases s with
          | no => trivial
          | th t => obtain ⟨v, e1, r⟩ := h1; exact ⟨v, e1, t.up _ _ _ hid r⟩
          | ml ts => obtain ⟨a, xs, e1, m, q, r⟩ := h1; exact ⟨a, xs, e1, List.mem_cons_of_mem _ m, ex1 a _ q, r.up hid⟩
    exact step hA.env
  have other : ∀ {m : Nat} {ts : List Th} {a : Addr}, Δ[m]? = some (.ml ts) → σ[m]? = some (some (V.ref a)) → a ≠ l := fun {m ts a} h1 h2 z => by
    obtain ⟨o, e1, a', xs, e2, mm, q, _⟩ := hA.env.get h1
    rw [h2] at e1
    have e3 := Option.some.inj e1
    rw [← e3] at e2
    have e4 : a = a' := V.ref.inj (Option.some.inj e2)
    exact nS (by rw [← z, e4]; exact mm)
  have at_ : ∀ {m : Nat} {ts : List Th}, (Δ.set i (.ml us))[m]? = some (.ml ts) → m = i ∨ (m ≠ i ∧ Δ[m]? = some (.ml ts)) := fun {m ts} h => by
    by_cases q : m = i
    · exact Or.inl q
    · rw [List.getElem?_set_ne (Ne.symm q)] at h
      exact Or.inr ⟨q, h⟩
  have si : ∀ {a : Addr}, (σ.set i (some (V.ref l)))[i]? = some (some (V.ref a)) → a = l := fun {a} h => by
    rw [List.getElem?_set_self'] at h
    cases z : σ[i]? with
    | none => rw [z] at h; simp at h
    | some w =>
      rw [z] at h
      have h' : V.ref l = V.ref a := by simpa using h
      exact (V.ref.inj h').symm
  refine ⟨fun a h => List.mem_cons_of_mem _ (hA.sub a h), hA.msub, fun a h => ?_, hA.ex.trans ex1, fun a h => ?_, SlsR.set (s := .ml us) ⟨l, xs, rfl, List.mem_cons_self, hH, hx⟩ env1, fun m j ts us a h1 h2 h3 h4 => ?_, fun m ts a h1 h3 => ?_⟩
  · rcases List.mem_cons.mp h with z | z
    · subst z
      rcases own0 with z | z
      · exact Or.inl (hA.msub _ z)
      · exact Or.inr z
    · exact hA.new a z
  · rcases List.mem_cons.mp h with z | z
    · subst z
      rw [hH]
      exact fun z => nomatch z
    · exact (hA.dom.up ex1) a z
  · rcases at_ h1 with z1 | ⟨z1, g1⟩ <;> rcases at_ h2 with z2 | ⟨z2, g2⟩
    · rw [z1, z2]
    · subst z1
      have e1 := si h3
      rw [List.getElem?_set_ne (Ne.symm z2)] at h4
      exact absurd e1 (other g2 h4)
    · subst z2
      have e1 := si h4
      rw [List.getElem?_set_ne (Ne.symm z1)] at h3
      exact absurd e1 (other g1 h3)
    · rw [List.getElem?_set_ne (Ne.symm z1)] at h3
      rw [List.getElem?_set_ne (Ne.symm z2)] at h4
      exact hA.apart m j ts us a g1 g2 h3 h4
  · rcases at_ h1 with z1 | ⟨z1, g1⟩
    · subst z1
      rw [si h3]
      exact own0
    · rw [List.getElem?_set_ne (Ne.symm z1)] at h3
      exact hA.own m ts a g1 h3
section
variable {X : Cx} {Δ : List Sl} {e : Expr} {es : List Expr} {pos : Pos} {P : Post} {rest : List Stmt} {W : WX}
/-- x = f(e, ..), f hands back a list of its own -/
theorem sd_asgF (i : Nat) {x g : Str} {p p' q : Pos} {k : Nat} {R : CnF} {Bt : List Th → Prop} {C : List Th → Prop} (G : GdF X.prog X.w X.K X.mg X.base g k R) (hr : Room k X.A) (ha : PL X Δ (e :: es) Bt) (h : ∀ ts, Bt ts → ∃ A, R ts A ∧ ∀ us, A us → C us) (kk : ∀ us, C us → SD X W rest P (Δ.set i (.ml us))) (hN : X.N.Nodup)
    (hi : X.N[i]? = some x := by rfl) (hx : Loc X.env.scope x := by first | exact Or.inl rfl | exact Or.inr rfl) (hg : Gl X g := by rfl) (hdb : (g == ("__debug__" : Str)) = false := by decide) (he : starEach (e :: es) X.env = (false, eval e X.env) :: starEach es X.env := by rfl) (hpl : (backTo q (starEach es X.env)).any (·.1) = false := by rfl)
    (hs : swapsWith (.Call (.Name g p) (e :: es) [] q) (some (.Name x p')) pos.line X.env = pure false := by rfl) (hw : swappedStores [.Name x p'] (.Call (.Name g p) (e :: es) [] q) X.env = pure none := by rfl)
    (hf : X.fn x = true ∨ X.env.scope.names.lookup x = some .local := by first | exact .inl rfl | exact .inr rfl) : SD X W (.Assign [.Name x p'] (.Call (.Name g p) (e :: es) [] q) pos :: rest) P Δ := by
  obtain ⟨f, fd, ps, hm, hk, hb, F⟩ := G.ex
  obtain ⟨t, pa, fa⟩ := ha
  refine sd_cons ⟨_, ps_asg (pe_call (E := E0) F hr hg hm hk hb (dvs := []) .nil pass0 pa hdb he hpl) (pg_name hN hi hx hf) hs hw, fun S0 M0 H0 σ H S hA D le xw => ?_⟩
  refine fa S0 M0 H0 σ H S hA _ fun ths vs H1 hB e1 r => ?_
  obtain ⟨A, hR, hC⟩ := h ths hB
  show spF R (vs ++ []) H1 _ E0
  rw [List.append_nil]
  have hA1 := hA.up e1
  exact ⟨S, ths, A, hA1.dom, r, hR, fun us a xs H2 hA2 e2 na hH hxs => le.nx _ _ ⟨_, a :: S, kk us (hC us hA2), hA1.fresh e2 na hH hxs⟩⟩
end
end DL
set_option Elab.async false
set_option linter.all false
set_option maxRecDepth 100000
/-! x[e] = v where x is a list that this def fills; its items read. -/
namespace DL
open PySem PySem.Spec PyProof.Rows L2
theorem all_set {H : Hp} {t : Th} {v : V} (r : t.R H v) : ∀ {ts : List Th} {xs : List V} (j : Nat), All H ts xs → All H (ts.set j t) (xs.set j v)
  | [], [], _, _ => trivial
  | [], _ :: _, _, h => h.elim
  | _ :: _, [], _, h => h.elim
  | _ :: _, _ :: _, 0, h => ⟨r, h.2⟩
  | _ :: _, _ :: _, j + 1, h => ⟨h.1, all_set r j h.2⟩
section
variable {X : Cx} {Δ : List Sl} {e a b : Expr} {pos : Pos} {P : Post} {rest : List Stmt} {W : WX}
/-- x[a] = e -/
theorem sd_put (i : Nat) {x : Str} {p p' : Pos} {ts : List Th} {t : Th} {k : Int} {j : Nat} (h : Δ[i]? = some (.ml ts)) (hv : PE X (.Name x p) (tVar i)) (he : PD X Δ e t) (ha : PD X Δ a (dat X.K (.int k))) (hj : ixN ts.length k = some j) (kk : SD X W rest P (Δ.set i (.ml (ts.set j t))))
    (hs : swapsWithSole [.Subscript (.Name x p) a p'] e pos.line X.env = pure false := by rfl) (hw : swappedStores [.Subscript (.Name x p) a p'] e X.env = pure none := by rfl)
    (h1 : (assignEach [.Subscript (.Name x p) a p'] X.env).map (·.2) = [assign (.Subscript (.Name x p) a p') X.env] := by rfl)
    (hst : ∀ v, assign (.Subscript (.Name x p) a p') X.env v = (do
      let ov ← holding [v] (eval (.Name x p) X.env)
      let iv ← holding [v, ov] (eval a X.env)
      standAt p'
      holding [v, ov, iv] (setItem ov iv v)
      release [v, ov, iv] []) := by intro _; rfl) :
    SD X W (.Assign [.Subscript (.Name x p) a p'] e pos :: rest) P Δ := by
  obtain ⟨te, pe, fe⟩ := he
  obtain ⟨ti, pi, fi⟩ := ha
  refine sd_cons ⟨_, ps_asg pe (pg_sub hv pi set_list hst) hs hw h1, fun S0 M0 H0 σ H S hA D le xw => ?_⟩
  refine fe S0 M0 H0 σ H S hA _ fun th v H1 hth e1 r1 => ?_
  subst hth
  have hA1 := hA.up e1
  obtain ⟨o, q1, l, xs, q2, hm, hH, hx⟩ := hA1.env.get h
  subst q2
  refine ⟨.ref l, q1, ?_⟩
  refine fi S0 M0 H0 σ H1 S hA1 _ fun th2 w H2 hth2 e2 r2 => ?_
  subst hth2
  have ew := dp_int r2
  subst ew
  have hA2 := hA1.up e2
  exact ⟨l, xs, k, j, rfl, rfl, e2 l _ hH, by rw [← hx.len]; exact hj, le.nx _ _ ⟨_, S, kk, hA2.chg h q1 hm (all_set (th.up _ _ _ (hide_ex e2) r1) j (hx.up (hide_ex e2)))⟩⟩
end
end DL
set_option Elab.async false
set_option linter.all false
set_option maxRecDepth 100000
/-! Stops: a side's number and a spot. -/
namespace DL
open PySem PySem.Spec PyProof.Rows L2
abbrev Stp := Nat × Q
def sD (s : Stp) : PyData := .tuple [.int (s.1 : Nat), rD s.2]
/-- a spot within its side -/
structure InS (M : Nat) (q : Q) : Prop where
  sm : Sm M q
  lo : Low q
  p : 0 < q.1
  l : q.1 < q.2
structure GS (n M : Nat) (s : Stp) : Prop where
  k : s.1 < n
  q : InS M s.2
theorem InS.up {n m : Nat} {q : Q} (h : InS n q) (l : n ≤ m) : InS m q := ⟨h.sm.up l, h.lo, h.p, h.l⟩
theorem GS.up {n m k : Nat} {s : Stp} (h : GS k n s) (l : n ≤ m) : GS k m s := ⟨h.k, h.q.up l⟩
theorem low_in {i j : Int} (h : 0 < i) (g : i < j) : 0 < (lowQ i j).1 ∧ (lowQ i j).1 < (lowQ i j).2 := by
  obtain ⟨s, k, l, h0, h1, h2, h3, h4, _, _⟩ := low_spec (i := i) (j := j) (by omega)
  rw [h3]
  show 0 < k ∧ k < l
  have hs : 0 < s := by
    by_cases q : 0 < s
    · exact q
    · have : s * l ≤ 0 := Int.mul_nonpos_of_nonpos_of_nonneg (by omega) (by omega)
      omega
  constructor
  · by_cases q : 0 < k
    · exact q
    · have : s * k ≤ 0 := Int.mul_nonpos_of_nonneg_of_nonpos (by omega) (by omega)
      omega
  · by_cases q : k < l
    · exact q
    · have : s * l ≤ s * k := Int.mul_le_mul_of_nonneg_left (by omega) (by omega)
      omega
theorem in_spot {i j : Int} {n : Nat} (h : 0 < i) (g : i < j) (hj : j.natAbs < 2 ^ n) : InS n (lowQ i j) :=
  ⟨low_sm (by omega) (by omega) hj, low_low (by omega), (low_in h g).1, (low_in h g).2⟩
theorem sq_nn (x : Rat) : 0 ≤ x * x := by
  by_cases h : 0 ≤ x
  · exact Rat.mul_nonneg h h
  · have h' : 0 ≤ -x := by grind
    have := Rat.mul_nonneg h' h'
    grind
theorem side_nz {cs : List Cp} {N : Nat} (h : WkN N cs) {k : Nat} (hk : k < cs.length) : 0 < (dotC (sideC cs k) (sideC cs k)).1 := by
  obtain ⟨l, e⟩ := low_dotR (side_val h hk).1 (side_val h hk).1
  have pos : 0 < signI (dotC (sideC cs k) (sideC cs k)).1 := by
    refine (sign_pos l.2).mpr ?_
    rw [e, side_rp h hk]
    have t := HU.turn_left h.lo h.cf hk
    unfold HU.cq at t
    have a := sq_nn ((rp (at_ cs (HU.nx cs.length k))).1 - (rp (at_ cs k)).1)
    have b := sq_nn ((rp (at_ cs (HU.nx cs.length k))).2 - (rp (at_ cs k)).2)
    generalize hx : (rp (at_ cs (HU.nx cs.length k))).1 - (rp (at_ cs k)).1 = x at a
    generalize hy : (rp (at_ cs (HU.nx cs.length k))).2 - (rp (at_ cs k)).2 = y at b
    show 0 < x * x + y * y
    by_cases z : 0 < x * x + y * y
    · exact z
    · exfalso
      have x0 : x * x = 0 := by grind
      have y0 : y * y = 0 := by grind
      have x1 : x = 0 := by grind
      have y1 : y = 0 := by grind
      rw [x1] at hx
      rw [y1] at hy
      have hx2 : (rp (at_ cs (HU.nx cs.length k))).1 = (rp (at_ cs k)).1 := by grind
      have hy2 : (rp (at_ cs (HU.nx cs.length k))).2 = (rp (at_ cs k)).2 := by grind
      rw [hx2, hy2, Rat.mul_comm, Rat.sub_self] at t
      exact absurd t (by decide)
  unfold signI at pos
  split at pos
  · omega
  · split at pos
    · assumption
    · omega
theorem sm_over {a b : Q} {n m : Nat} (ha : Sm n a) (hb : Sm m b) (h0 : b.1 ≠ 0) : Sm (n + m) (overQ a b) ∧ Low (overQ a b) :=
  ⟨low_sm (over_bot ha hb h0) (mul_ab ha.t hb.b) (mul_ab ha.b hb.t), low_low (over_bot ha hb h0)⟩
def RSpot (K : PySem.W.Frag) : Cn := fun ts A => ts = [handT] ∧ A = (fun t => ∃ q, t = dat K (rD q) ∧ InS 21 q)
def RFeet (K : PySem.W.Frag) : CnF := fun ts B => ∃ (cs : List Cp) (p : Cp), ts = [dat K (.list (cs.map cD)), dat K (cD p)] ∧ W4 cs ∧ CSm 700 p ∧ Cl p ∧ B = (fun us => ∃ ss : List Stp, us = ss.map (fun s => dat K (sD s)) ∧ ss.length ≤ cs.length ∧ ∀ s ∈ ss, GS cs.length 2000 s)
theorem lf_sD (s : Stp) : lf (sD s) = true := by simp [lf, lfs, sD, rD]
end DL
set_option Elab.async false
set_option linter.all false
set_option maxRecDepth 100000
/-! Spots moved. -/
namespace DL
open PySem PySem.Spec PyProof.Rows L2
theorem vR_den {q : Q} (h : 0 < q.2) : vR q * (q.2 : Rat) = (q.1 : Rat) := by
  have e : vR q = (q.1 : Rat) / (q.2 : Rat) := by
    unfold vR
    exact Rat.divInt_eq_div ..
  have h2 : (q.2 : Rat) ≠ 0 := by
    intro z
    have : q.2 = 0 := by exact_mod_cast z
    omega
  rw [e, Rat.div_def, Rat.mul_assoc, Rat.inv_mul_cancel _ h2, Rat.mul_one]
theorem in_vR {q : Q} (h : 0 < q.2) : (0 < q.1 ∧ q.1 < q.2) ↔ (0 < vR q ∧ vR q < 1) := by
  have d := vR_den h
  have h2 : (0 : Rat) < (q.2 : Rat) := by exact_mod_cast h
  constructor
  · rintro ⟨a, b⟩
    have a' : (0 : Rat) < (q.1 : Rat) := by exact_mod_cast a
    have b' : (q.1 : Rat) < (q.2 : Rat) := by exact_mod_cast b
    constructor
    · by_cases z : 0 < vR q
      · exact z
      · have z' : 0 ≤ -vR q := by grind
        have := Rat.mul_nonneg z' (Rat.le_of_lt h2)
        grind
    · by_cases z : vR q < 1
      · exact z
      · have z' : 0 ≤ vR q - 1 := by grind
        have := Rat.mul_nonneg z' (Rat.le_of_lt h2)
        grind
  · rintro ⟨a, b⟩
    have a' := Rat.mul_pos a h2
    have b' := Rat.mul_pos (show 0 < 1 - vR q by grind) h2
    constructor
    · have : (0 : Rat) < (q.1 : Rat) := by grind
      exact_mod_cast this
    · have : (q.1 : Rat) < (q.2 : Rat) := by grind
      exact_mod_cast this
theorem in_of {q : Q} {n : Nat} (hs : Sm n q) (hl : Low q) (a : 0 < vR q) (b : vR q < 1) : InS n q := ⟨hs, hl, ((in_vR hl.2).mpr ⟨a, b⟩).1, ((in_vR hl.2).mpr ⟨a, b⟩).2⟩
theorem InS.v {q : Q} {n : Nat} (h : InS n q) : 0 < vR q ∧ vR q < 1 := (in_vR h.lo.2).mp ⟨h.p, h.l⟩
/-- the nearer share of a spot -/
def nearQ (q : Q) (j : Int) : Q := timesQ (if 2 * q.1 < q.2 then q else minusQ (1, 1) q) (j, 4)
theorem vR_j {j : Int} : vR ((j, 4) : Q) * 4 = (j : Rat) := by
  have := vR_den (q := (j, 4)) (by show (0 : Int) < 4; decide)
  exact this
theorem near_ok {q : Q} {j : Int} {n : Nat} (h : InS n q) (h1 : 1 ≤ j) (h3 : j ≤ 3) : Sm (n + 6) (nearQ q j) ∧ InS (2 * n + 7) (minusQ q (nearQ q j)) ∧ InS (2 * n + 7) (plusQ q (nearQ q j)) := by
  have s1 : Sm 1 ((1, 1) : Q) := ⟨by decide, by decide, by decide⟩
  have sj : Sm 3 ((j, 4) : Q) := ⟨by show j.natAbs < 2 ^ 3; omega, by show (4 : Int).natAbs < 2 ^ 3; decide, by show (0 : Int) < 4; decide⟩
  obtain ⟨v0, v1⟩ := h.v
  have hj := vR_j (j := j)
  have j1 : (1 : Rat) ≤ (j : Rat) := by exact_mod_cast h1
  have j3 : (j : Rat) ≤ 3 := by exact_mod_cast h3
  have base : Sm (n + 2) (if 2 * q.1 < q.2 then q else minusQ (1, 1) q) := by
    split
    · exact h.sm.up (by omega)
    · exact (sm_minus s1 h.sm).up (by omega)
  have sn : Sm (n + 6) (nearQ q j) := (sm_times base sj).up (by omega)
  have p4 : (0 : Int) < ((j, 4) : Q).2 := by show (0 : Int) < 4; decide
  have vn : vR (nearQ q j) = (if 2 * q.1 < q.2 then vR q else 1 - vR q) * vR (j, 4) := by
    unfold nearQ
    rw [vR_times base.p p4]
    split
    · rfl
    · rw [vR_minus (by show (0 : Int) < 1; decide) h.lo.2]
      rfl
  have half : 2 * q.1 < q.2 ↔ 2 * vR q < 1 := by
    have d := vR_den h.lo.2
    have h2 : (0 : Rat) < (q.2 : Rat) := by exact_mod_cast h.lo.2
    constructor
    · intro g
      have g' : (2 : Rat) * (q.1 : Rat) < (q.2 : Rat) := by exact_mod_cast g
      by_cases z : 2 * vR q < 1
      · exact z
      · have := Rat.mul_nonneg (show 0 ≤ 2 * vR q - 1 by grind) (Rat.le_of_lt h2)
        grind
    · intro g
      have := Rat.mul_pos (show 0 < 1 - 2 * vR q by grind) h2
      have g' : (2 : Rat) * (q.1 : Rat) < (q.2 : Rat) := by grind
      exact_mod_cast g'
  have nb : 0 < vR (nearQ q j) ∧ vR (nearQ q j) < vR q ∧ vR (nearQ q j) < 1 - vR q := by
    rw [vn]
    have w : vR ((j, 4) : Q) = (j : Rat) / 4 := by grind
    have w0 : 0 < vR ((j, 4) : Q) := by grind
    have w1 : 0 < 1 - vR ((j, 4) : Q) := by grind
    split
    · rename_i g
      have g' := half.mp g
      have a := Rat.mul_pos v0 w0
      have b := Rat.mul_pos v0 w1
      refine ⟨a, by grind, by grind⟩
    · rename_i g
      have g' : ¬ 2 * vR q < 1 := fun z => g (half.mpr z)
      have u0 : 0 < 1 - vR q := by grind
      have a := Rat.mul_pos u0 w0
      have b := Rat.mul_pos u0 w1
      refine ⟨a, by grind, by grind⟩
  refine ⟨sn, in_of ((sm_minus h.sm sn).up (by omega)) (low_minus h.lo.2 sn.p) ?_ ?_, in_of ((sm_plus h.sm sn).up (by omega)) (low_plus h.lo.2 sn.p) ?_ ?_⟩
  · rw [vR_minus h.lo.2 sn.p]; grind
  · rw [vR_minus h.lo.2 sn.p]; grind
  · rw [vR_plus h.lo.2 sn.p]; grind
  · rw [vR_plus h.lo.2 sn.p]; grind
def RStops (K : PySem.W.Frag) : Cn := fun ts A => ∃ (cs : List Cp) (m : Nat), ts = [handT, dat K (.list (cs.map cD)), dat K (.int (m : Nat))] ∧ W4 cs ∧ m ≤ 8 ∧ A = (fun t => ∃ ss : List Stp, t = dat K (.list (ss.map sD)) ∧ ss.length ≤ m ∧ ∀ s ∈ ss, GS cs.length 4100 s)
end DL
set_option Elab.async false
set_option linter.all false
set_option maxRecDepth 100000
/-! A comprehension whose element raises. -/
namespace DL
open PySem PySem.Spec PyProof.Rows L2
section
variable {X : Cx} {pins : List (Addr × Obj)} {σ : L2.St} {H : Hp} {s : Shared} {W : WX}
/-- what a call lets out is taken -/
def TakesC (X : Cx) (W : WX) : Prop := ∀ σ, PassesAt (L2.CX X.prog X.w) X σ (WE W σ)
theorem takesC_of (tk : Takes X W) : TakesC X W := fun σ => passAt tk σ
theorem inv_xe (xe : Value → Shared → Prop) (I : Inv X pins σ H s) : Inv { X with xe := xe } pins σ H s :=
  ⟨⟨I.ok.mod, I.ok.kind, I.ok.glob, I.ok.blt, I.ok.above, I.ok.inj, I.ok.has, I.ok.cab, I.ok.hd, I.ok.frames, I.ok.stk, I.ok.exf, I.ok.bs, I.ok.bsz, I.ok.noex, I.ok.exfs, I.ok.funs, I.ok.frf⟩, I.os, I.bare, I.base, I.loc, I.cell, I.free, I.freeC, I.pin, I.hok, I.len⟩
theorem inv_ex {xe : Value → Shared → Prop} (I : Inv { X with xe := xe } pins σ H s) : Inv X pins σ H s :=
  ⟨⟨I.ok.mod, I.ok.kind, I.ok.glob, I.ok.blt, I.ok.above, I.ok.inj, I.ok.has, I.ok.cab, I.ok.hd, I.ok.frames, I.ok.stk, I.ok.exf, I.ok.bs, I.ok.bsz, I.ok.noex, I.ok.exfs, I.ok.funs, I.ok.frf⟩, I.os, I.bare, I.base, I.loc, I.cell, I.free, I.freeC, I.pin, I.hok, I.len⟩
theorem pe_xe {e : Expr} {t : TE} {xe : Value → Shared → Prop} (h : PE X e t) (hx : ∀ u s', X.xe u s' → xe u s') : PE { X with xe := xe } e t :=
  ⟨fun pins s σ H Q I q => wpAny_mono (h.run pins s σ H Q (inv_ex I) q) (fun v s' ⟨x, H', J, r, k⟩ => ⟨x, H', inv_xe xe J, r, k⟩) hx⟩
/-- what a call in the block lets out goes on in the def -/
theorem raise_out {fp : List Addr} {scope : Scope} {ce : Env} {H3 : Hp} {s3 : Shared} {xe : Value → Shared → Prop}
    (hs : X.stack = X.env :: X.outer) (hf : X.env.frame = some X.env.locals) (tk : Takes X W) (I3 : Inv X pins σ H3 s3) (hL : ce.locals = s3.heap.objs.size) (hfr : ce.frame = X.env.frame) (f3 : ∀ b ∈ fp, FpOk X pins H3 b)
    (hxe : ∀ u s', notedBy (model X.prog X.w) X.A ce (fun e s'' => CompFails (model X.prog X.w) X.A X.xe ce e s'') u s' → xe u s') :
    TakesC { X.blk s3 H3 scope ce fp with xe := xe } (fun c d _ H4 => W c d σ H4) := by
  intro σ5 pins5 H5 s5 u s6 I5 c
  obtain ⟨a, B, H6, cls, d, rfl, fl, hok, ub, na, os, ag, hE⟩ := c
  have hE' : W cls d σ H6 := hE
  refine hxe _ _ ?_
  have hA : X.A.frames = some (X.env :: X.outer) := by rw [I3.ok.frames, hs]
  show wpAny _ _ (noteFrame (.ref a) ce) _ _ s6
  rw [noteFrame_env _ hfr]
  have fl' : HandSPX.FlyingZ B (X.env :: X.outer) a (Zc cls d) s6.heap := by rw [← hs]; exact fl
  refine HandSPX.looks_onZ Zc.steady hA hf fl' fun h7 hh up7 => ?_
  have nC : H5 ce.locals = none := I5.free
  have cfs : ce.locals ∉ frs X.stack := fun z => by
    rcases List.mem_cons.mp (I3.stkSub _ z) with z | z
    · exact absurd I3.lt (by rw [← z, hL]; exact Nat.lt_irrefl _)
    · exact I3.nofs (Nat.le_of_eq hL.symm) z
  obtain ⟨m, ⟨oC, es, ep, hoC, hdC, hrC⟩, _⟩ := I5.loc
  have hoC : s5.heap.get? ce.locals = some oC := hoC
  have bC : B.get? ce.locals = some oC := ub.keep _ _ hoC nC cfs
  refine ⟨m, ⟨oC, es, ep, hh.1 _ _ bC, hdC, hrC⟩, fun h8 m8 _ sb => ?_⟩
  obtain ⟨B', b1, b2⟩ := restrict B fun b => decide (b ≠ ce.locals)
  have bsub : ∀ b o, B'.get? b = some o → B.get? b = some o ∧ b ≠ ce.locals := fun b o e => by
    by_cases q : b = ce.locals
    · rw [b2 b (by simp [q])] at e
      cases e
    · rw [b1 b (by simp [q])] at e
      exact ⟨e, q⟩
  have bof : ∀ b o, b ≠ ce.locals → B.get? b = some o → B'.get? b = some o := fun b o q e => by
    rw [b1 b (by simp [q])]
    exact e
  have bnone : ∀ b, B.get? b = none → B'.get? b = none := fun b e => by
    cases q : B'.get? b with
    | none => rfl
    | some o =>
      rw [(bsub b o q).1] at e
      cases e
  have hh0 := hh
  obtain ⟨g1, g2, g3, oe, vs, T, oT, ts, q1, q2, q3, q4, q5, q6, q7, q8, q9⟩ := hh
  have aC : a ≠ ce.locals := fun z => by rw [z, bC] at g2; cases g2
  have TC : T ≠ ce.locals := fun z => by rw [z, bC] at q5; cases q5
  have fC : ∀ b ∈ frs (X.env :: X.outer), b ≠ ce.locals := fun b hb z => cfs (by rw [hs, ← z]; exact hb)
  have ff8 : h8.FunFrames B' (X.env :: X.outer) := by
    refine funFrames_none (base := B) ?_ fun b hb => bnone b (g3.mem hb).1
    have : ∀ {l : List Env}, (∀ b ∈ frs l, b ≠ ce.locals) → h7.FunFrames B l → h8.FunFrames B l := by
      intro l
      induction l with
      | nil => intro _ _; trivial
      | cons en l ih =>
        rintro hn ⟨k1, ⟨L, o, k2, k3, k4, k5⟩, k6⟩
        refine ⟨k1, ⟨L, o, k2, k3, ?_, k5⟩, ih (fun b hb => hn b ?_) k6⟩
        · rw [sb.2 L (hn L (List.mem_filterMap.mpr ⟨en, List.mem_cons_self, k2⟩))]
          exact k4
        · obtain ⟨e, he, q⟩ := List.mem_filterMap.mp hb
          exact List.mem_filterMap.mpr ⟨e, List.mem_cons_of_mem _ he, q⟩
    exact this fC g3
  have a8 : h8.get? a = some oe := by rw [sb.2 a aC]; exact q1
  have hh8 : HandSPX.HeldZ B' (X.env :: X.outer) a (Zc cls d) X.env.locals h8 := by
    refine ⟨fun b o e => ?_, bnone a g2, ff8, oe, vs, T, oT, ts, a8, q2, q3, q4, bnone T q5, q6, ?_, q8, q9⟩
    · obtain ⟨e1, ne⟩ := bsub b o e
      rw [sb.2 b ne]
      exact g1 b o e1
    · rw [sb.2 T TC]
      exact q7
  unfold PySem.passOn
  refine wpAny_bind (wpAny_field (s := { s6 with heap := h8 }) a8 q3 q4 ?_)
  rw [if_neg (show ¬((Value.ref T == Value.none) = true) by simp), hfr, hf]
  refine wpAny_bind (HandSPX.setFlight_onZ (s := { s6 with heap := h8 }) hh8 fun h9 hh9 up9 => ?_)
  refine wpAny_throw (tk _ _ ?_)
  obtain ⟨G, G1, G2⟩ := restrict h9 fun b => (B'.get? b).isSome || decide (b ∈ frs X.stack)
  have og : ∀ b o, G.get? b = some o → h9.get? b = some o ∧ ((B'.get? b).isSome = true ∨ b ∈ frs X.stack) := fun b o e => by
    cases q : ((B'.get? b).isSome || decide (b ∈ frs X.stack)) with
    | false => rw [G2 b q] at e; cases e
    | true =>
      rw [G1 b q] at e
      exact ⟨e, by simpa [Bool.or_eq_true] using q⟩
  have gB : ∀ b o, B'.get? b = some o → G.get? b = some o := fun b o e => by
    rw [G1 b (by simp [e])]
    exact hh9.1 b o e
  have gF : ∀ b, b ∈ frs X.stack → G.get? b = h9.get? b := fun b hb => G1 b (by simp [hb])
  have neC : ∀ b o, s3.heap.get? b = some o → b ≠ ce.locals := fun b o e z => by
    have lt := Heap.lt_size e
    rw [z, hL] at lt
    exact Nat.lt_irrefl _ lt
  -- a frame's object, from the block's state on
  have frm : ∀ b o, b ∈ frs X.stack → s6.heap.get? b = some o → ∃ sl, h9.get? b = some { o with slots := sl } := fun b o hb e => by
    obtain ⟨_, o', e', nf⟩ := fl.2.2.1.mem hb
    have : o = o' := Option.some.inj (e.symm.trans e')
    subst this
    obtain ⟨sl, e7⟩ := up7 b o e nf
    have e8 : h8.get? b = some { o with slots := sl } := by rw [sb.2 b fun z => cfs (by rw [← z]; exact hb)]; exact e7
    exact up9 b { o with slots := sl } e8 nf
  have free6 : H6 ce.locals = none := ub.free _ oC hoC nC
  have hokB : HOk X.prog X.w H6 B' := fun b v e => by
    refine (hok b v e).stay (fun c w hc q => bof c w (fun z => ?_) q) (fun _ q => q) fun _ _ q => q
    rcases hc with z' | z'
    · rw [← z', z, free6] at e; cases e
    · rw [z, free6] at z'; cases z'
  refine ⟨a, B', { s3 with heap := G, gens := s6.gens, drawn := s6.drawn, toks := s6.toks }, pins, σ, H6, cls, d, rfl, ?_, fun b o e hb => ?_, Heap.UpToSlots.of_keeps fun b o e => (og b o e).1, .inr (.inr (by rw [hs]; exact hh9)), na, ?_, ag, hE'⟩
  · refine I3.call (ch := fp) (u := ⟨fun b o e n hb hc => ?_, fun b o e n hb hc => ?_, fun b o e n hc => ?_, fun b o e hc => ?_, fun b xs e => ub.tups b xs (I5.base.tups b xs e), fun b o v e => ub.frzs b o v (I5.base.frzs b o v e), fun b ps e => ?_⟩) (hokB.kept gB) ag fun b hb => ⟨(f3 b hb).2.2.2.1, (f3 b hb).2.1, (f3 b hb).2.2.2.2.1, (f3 b hb).2.2.2.2.2⟩
    · exact gB b o (bof b o (neC b o e) (ub.keep b o (I5.base.keep b o e n hb hc) (I5.base.free b o e n hc) hb))
    · obtain ⟨sl, e5⟩ := I5.base.slot b o e n hb hc
      obtain ⟨sl6, e6⟩ := ub.slot b _ e5 hb
      obtain ⟨sl9, e9⟩ := frm b _ hb e6
      exact ⟨sl9, by rw [gF b hb]; exact e9⟩
    · obtain ⟨o5, e5⟩ := I5.base.there b o e hc
      exact ub.free b o5 e5 (I5.base.free b o e n hc)
    · obtain ⟨o5, e5⟩ := I5.base.there b o e hc
      by_cases hb : b ∈ frs X.stack
      · obtain ⟨sl6, e6⟩ := ub.slot b _ e5 hb
        obtain ⟨sl9, e9⟩ := frm b _ hb e6
        exact ⟨_, by rw [gF b hb]; exact e9⟩
      · obtain ⟨o6, e6⟩ := ub.there b o5 e5 hb
        exact ⟨o6, gB b o6 (bof b o6 (neC b o e) e6)⟩
    · obtain ⟨m1, e1⟩ := I5.base.tbls b ps e
      obtain ⟨m2, e2⟩ := ub.tbls b _ e1
      exact ⟨m1 ++ m2, by rw [e2, Array.append_assoc]⟩
  · obtain ⟨e9, h⟩ := og b o e
    rcases h with h | h
    · obtain ⟨o', q⟩ := Option.isSome_iff_exists.mp h
      have z := hh9.1 b o' q
      rw [e9] at z
      cases z
      exact q
    · exact absurd h hb
  · exact os.trans I5.os
/-- [elt for tg in it], where some turn raises -/
def tLcR (wi : TI) (g : TG) (te : WX → TE) (vs : List Nat) (W : WX) : TE := fun σ H _ => wi σ H fun J H1 => ∀ D, H1 D = none → ∃ (n : Nat) (In : Nat → Hp → Prop), In 0 (upd H1 D (.lst [])) ∧
  ∀ i H', In i H' → i ≤ n ∧ J.go i H' ∧ ∀ x H2, J.yld i H' x H2 → g x (L2.wipe σ vs) H2 fun σ2 H3 => L2.wipe σ2 vs = L2.wipe σ vs ∧
    te (fun c d _ H4 => W c d σ H4) σ2 H3 fun y H4 => ∃ acc, H4 D = some (.lst acc) ∧ acc.length < sizeLine ∧ In (i + 1) (upd H4 D (.lst (acc ++ [y])))
theorem pe_lcR {elt tg iter : Expr} {scope : Scope} {own : List (Str × Nat)} {pos : Pos} {wi : TI} {g : TG} {te : WX → TE} (hst : X.stack = X.env :: X.outer) (hf : X.env.frame = some X.env.locals) (tk : Takes X W) (hc : X.calm = true) (hN : X.N.Nodup)
    (hi : PI X tg iter wi) (ok : BlkOk X.N X.env.scope scope own) (hg : ∀ (s : Shared) (H : Hp) (C : Addr) (cl : List (Str × Addr)) (fp : List Addr), PG (X.blk s H scope (compEnvC scope cl C X.env) fp) tg g)
    (he : ∀ (s : Shared) (H : Hp) (C : Addr) (cl : List (Str × Addr)) (fp : List Addr) (xe : Value → Shared → Prop) (V : WX), TakesC { X.blk s H scope (compEnvC scope cl C X.env) fp with xe := xe } V → PE { X.blk s H scope (compEnvC scope cl C X.env) fp with xe := xe } elt (te V))
    (hfs : ∀ x, foldedSetIterable iter X.env x = pure x) : PE X (.ListComp elt [⟨tg, iter, [], 0⟩] scope pos) (tLcR wi g te (own.map (·.2)) W) := by
  refine ⟨fun pins s σ H Q I h => ?_⟩
  rw [eval_ListComp]
  have caught : ∀ y ∈ scope.names, y.2 = .free → ∃ c, X.env.cells.lookup y.1 = some c := fun y hy e => (ok.free y hy e).elim (fun k => I.ok.has _ (.inl k)) fun k => I.ok.has _ (.inr k)
  refine comprehension_at (use := none) rfl hfs (closure_ok caught) ok.kind (fun y hy e => (ok.uniq y hy).trans (by rw [e])) (thn (hi.run pins s σ H _ I h) fun xv s1 hx => thn hx fun itv s2 ht => ?_)
  obtain ⟨it, fp, tn, J, H2, e, I2, T, st2, f2, q⟩ := ht
  subst e
  refine wpAny_newObj_type (newEnv_comp ?_) (by show 0 ≤ sizeLine; decide)
  generalize eD : s2.heap.objs.size = D
  obtain ⟨n, In, in0, turn⟩ := q D (I2.hok.fresh (Nat.le_of_eq eD))
  generalize e3 : ({ s2 with heap := s2.heap.push { cls := .type "list", data := .seq ([] : List Value).toArray } } : Shared) = s3
  have h3 : s3.heap = s2.heap.push { cls := .type "list", data := .seq ([] : List Value).toArray } := by rw [← e3]
  have I3 : Inv X pins σ (upd H2 D (.lst [])) s3 := by
    subst e3
    refine I2.laid (t' := s2.toks) (fun b o k => Heap.get?_push_of_some _ k) (Nat.le_of_eq eD) ⟨Nat.zero_le _, [], 0, .nil, ?_⟩
    rw [← eD]
    exact Heap.get?_push_size _ rfl
  have f3 : ∀ b ∈ fp, FpOk X pins (upd H2 D (.lst [])) b ∧ b < s3.heap.objs.size := fun b hb => by
    obtain ⟨o, k, _⟩ := T.obj _ _ st2 b hb
    have lt := Heap.lt_size k
    refine ⟨⟨?_, (f2 b hb).2⟩, by rw [h3, Heap.size_push]; exact Nat.lt_succ_of_lt lt⟩
    rw [upd_ne (by rw [← eD]; exact Nat.ne_of_lt lt)]
    exact (f2 b hb).1
  have st3 : tn 0 s3.heap := T.keep _ _ _ st2 fun b _ o k => by rw [h3]; exact Heap.get?_push_of_some _ k
  have I4 := block_start I3 ok hN f3
  show codeAny _ _ (.compStart (.ListComp elt [⟨tg, iter, [], 0⟩] scope pos) 0 (.ref it) (.ref D) (compEnvC scope (cellsFrom (s3.heap.objs.size + 1) scope.names (cloFrom X.env.cells scope.names [])) s3.heap.objs.size X.env)) (compEnds (model X.prog X.w) X.A X.xe none _ (.ref D) (compEnvC scope (cellsFrom (s3.heap.objs.size + 1) scope.names (cloFrom X.env.cells scope.names [])) s3.heap.objs.size X.env)) { s3 with heap := pushCells (s3.heap.push { cls := .type "dict", data := .dict #[] }) scope.names }
  have pg := hg s3 (upd H2 D (.lst [])) s3.heap.objs.size (cellsFrom (s3.heap.objs.size + 1) scope.names (cloFrom X.env.cells scope.names [])) fp
  have pe := he s3 (upd H2 D (.lst [])) s3.heap.objs.size (cellsFrom (s3.heap.objs.size + 1) scope.names (cloFrom X.env.cells scope.names [])) fp
  generalize hce : compEnvC scope (cellsFrom (s3.heap.objs.size + 1) scope.names (cloFrom X.env.cells scope.names [])) s3.heap.objs.size X.env = ce at I4 pg pe ⊢
  have hL : ce.locals = s3.heap.objs.size := by subst hce; rfl
  have hfr : ce.frame = X.env.frame := by subst hce; rfl
  generalize hH3 : upd H2 D (.lst []) = H3 at I3 I4 pg pe in0 f3
  generalize hs4 : ({ s3 with heap := pushCells (s3.heap.push { cls := .type "dict", data := .dict #[] }) scope.names } : Shared) = s4 at I4 ⊢
  have st4 : tn 0 s4.heap := T.keep _ _ _ st3 fun b _ o k => by rw [← hs4]; exact pushCells_keeps _ _ _ _ (Heap.get?_push_of_some _ k)
  let xe : Value → Shared → Prop := fun u s' => notedBy (model X.prog X.w) X.A ce (fun e s'' => CompFails (model X.prog X.w) X.A X.xe ce e s'') u s'
  have pe' := pe xe _ (raise_out (scope := scope) (fp := fp) (xe := xe) hst hf tk I3 hL hfr (fun b hb => (f3 b hb).1) fun _ _ z => z)
  have fpo : ∀ {σ' : L2.St} {H' : Hp} {s' : Shared}, Inv (X.blk s3 H3 scope ce fp) [] σ' H' s' → (∀ b ∈ fp, H' b = none) → ∀ b ∈ fp, FpOk (X.blk s3 H3 scope ce fp) [] H' b := fun J nf b hb =>
    ⟨nf b hb, (J.ok.exf b hb).1, J.ok.exfs b hb, .inl hb, fun x c k => (J.ok.exf b hb).2 x c k, fun p hp => absurd (show p ∈ ([] : List (Addr × Obj)) ++ [] from hp) (by simp)⟩
  have loop : codeAny (model X.prog X.w) X.A (.compLoop (.ListComp elt [⟨tg, iter, [], 0⟩] scope pos) 0 (.ref it) (.ref D) ce) (compEnds (model X.prog X.w) X.A X.xe none (EP X pins σ Q) (.ref D) ce) s4 := by
    refine compLoop_any (fun k s' => ∃ i H', k + i = n + 1 ∧ Inv (X.blk s3 H3 scope ce fp) [] (L2.wipe σ (own.map (·.2))) H' s' ∧ tn i s'.heap ∧ (∀ b ∈ fp, H' b = none) ∧ In i H') ?_ (n + 1) ⟨0, H3, rfl, I4, st4, fun b hb => (f3 b hb).1.1, in0⟩
    rintro k s5 ⟨i, H5, hk, I5, st5, n5, w5⟩
    obtain ⟨hin, go, step⟩ := turn i H5 w5
    refine thnF (T.item (X.blk s3 H3 scope ce fp) rfl rfl rfl hc i [] s5 _ H5 (fun _ _ => False) I5 (fpo I5 n5) st5 go) fun r s6 ⟨u, hr, h6⟩ => ?_
    subst hr
    refine thnF h6 fun _ s7 ⟨x, H7, I7, r7, y7, st7, n7⟩ => ?_
    refine thnF (pg.run _ s7 _ H7 x u _ (I7.pinned (fpo I7 n7) (T.obj _ _ st7)) r7 (step x H7 y7)) fun _ s8 ⟨σ8, H8, I8, hw8, q8⟩ => ?_
    refine thnF ((pts_nil (X := X.blk s3 H3 scope ce fp)).run _ s8 σ8 H8 (fun b H9 => b = true ∧ H9 = H8) I8 ⟨rfl, rfl⟩) fun b s9 ⟨H9, I9, hb, hH⟩ => ?_
    subst hb; subst hH
    rw [if_pos rfl]
    refine wpAny_mono (pe'.run _ s9 σ8 H9 _ (inv_xe xe I9) q8) (fun z s10 ⟨yv, H10, I10', r10, acc, d1, d2, nx⟩ => ?_) fun _ _ z => z
    have I10 := inv_ex I10'
    refine app_ok (X := X.blk s3 H3 scope ce fp) I10 d1 d2 r10 fun s11 I11 => ⟨k - 1, by omega, i + 1, _, by omega, ?_, ?_, fun b hb => ?_, nx⟩
    · refine (I11.unpinned (pins := [])).weak (by rw [← hw8, wipe_length]) fun j v e => ?_
      rw [← hw8] at e
      exact (wipe_some e).1
    · exact T.keep _ _ _ st7 fun b hb o e => (I11.pin (b, o) (List.mem_append_right _ (List.mem_append_right _ (mem_pinsAt hb e)))).1
    · obtain ⟨o, e, _⟩ := T.obj _ _ st7 b hb
      exact (I11.pin (b, o) (List.mem_append_right _ (List.mem_append_right _ (mem_pinsAt hb e)))).2.1
  exact codeAny_compStart_list loop (T.self X.A 0 _ _ _ st4 loop)
end
end DL
set_option Elab.async false
set_option linter.all false
set_option maxRecDepth 100000
/-! A comprehension that raises: its element at some turn, or what it goes over. -/
namespace DL
open PySem PySem.Spec PyProof.Rows L2
section
variable {X : Cx} {Δ : List Sl} {e a b c o : Expr} {es : List Expr} {A B C : Th → Prop} {pos : Pos} {P : Post} {rest body els : List Stmt} {st : Stmt} {W : WX}
/-- a call that raises, where calls alone may raise -/
theorem pr_callC {x : Str} {k : Nat} {R : CnX} {p : Pos} {B : List Th → Prop} {Cc : Addr} {fs : List (Str × Th)} (tk : TakesC X W) (G : GdX X.prog X.w X.K X.mg X.base x k R) (hr : Room k X.A) (ha : PL X Δ (e :: es) B) (h : ∀ ts, B ts → R ts (.exc Cc fs))
    (hg : Gl X x := by rfl) (hdb : (x == ("__debug__" : Str)) = false := by decide) (he : starEach (e :: es) X.env = (false, eval e X.env) :: starEach es X.env := by rfl) (hpl : (backTo pos (starEach es X.env)).any (·.1) = false := by rfl) :
    PR X W Δ (.Call (.Name x p) (e :: es) [] pos) Cc fs := by
  obtain ⟨f, fd, ps, hm, hk, hb, F⟩ := G.ex
  obtain ⟨t, pa, fa⟩ := ha
  refine ⟨_, pe_callS F hr hg hm hk hb tk pa hdb he hpl, fun S0 M0 H0 σ H S hA w Q => ?_⟩
  refine fa S0 M0 H0 σ H S hA _ fun ths vs H1 hB e1 r => ?_
  exact ⟨S, ths, .exc Cc fs, (hA.up e1).dom, r, h ths hB, fun d H' e2 r2 nd => w H' d (e1.trans e2) r2 nd⟩
/-- [elt for tg in it]: the turns before k give data, turn k raises -/
theorem pr_lcI {tg it elt : Expr} {scope : Scope} {own : List (Str × Nat)} {ts : List Th} {Z : Th → (List Sl → List Sl) → Prop} {Cc : Addr} {fs : List (Str × Th)} (k : Nat) (tk : Takes X W) (hi : PIt X Δ tg it ts) (hz : ts.length ≤ 40000) (hk : k < ts.length) (hg : PTb X scope tg (own.map (·.2)) Z)
    (ht : ∀ (i : Nat) z, i < k → ts[i]? = some z → ∃ u, Z z u ∧ ∀ (s : Shared) (H : Hp) (C : Addr) (cl : List (Str × Addr)) (fp : List Addr), PX (X.blk s H scope (compEnvC scope cl C X.env) fp) (u (wipeΔ Δ (own.map (·.2)))) elt (fun t => ∃ w, t = dat X.K w))
    (hr : ∀ z, ts[k]? = some z → ∃ u, Z z u ∧ ∀ (s : Shared) (H : Hp) (C : Addr) (cl : List (Str × Addr)) (fp : List Addr) (xe : Value → Shared → Prop) (V : WX), TakesC { X.blk s H scope (compEnvC scope cl C X.env) fp with xe := xe } V →
      PR { X.blk s H scope (compEnvC scope cl C X.env) fp with xe := xe } V (u (wipeΔ Δ (own.map (·.2)))) elt Cc fs)
    (hN : X.N.Nodup) (ok : BlkOk X.N X.env.scope scope own) (hst : X.stack = X.env :: X.outer := by rfl) (hf : X.env.frame = some X.env.locals := by rfl) (hc : X.calm = true := by rfl) (hs : ∀ x, foldedSetIterable it X.env x = pure x := by intro _; rfl) :
    PR X W Δ (.ListComp elt [⟨tg, it, [], 0⟩] scope pos) Cc fs := by
  obtain ⟨ti, pi, f⟩ := hi
  obtain ⟨g, pg, fg⟩ := hg
  have q : ∀ (s : Shared) (H : Hp) (C : Addr) (cl : List (Str × Addr)) (fp : List Addr) (xe : Value → Shared → Prop) (V : WX), TakesC { X.blk s H scope (compEnvC scope cl C X.env) fp with xe := xe } V → PE { X.blk s H scope (compEnvC scope cl C X.env) fp with xe := xe } elt
      (fun σ H Q => ∀ (s : Shared) (H0 : Hp) (C : Addr) (cl : List (Str × Addr)) (fp : List Addr) (xe : Value → Shared → Prop), TakesC { X.blk s H0 scope (compEnvC scope cl C X.env) fp with xe := xe } V → ∃ t, PE { X.blk s H0 scope (compEnvC scope cl C X.env) fp with xe := xe } elt t ∧ t σ H Q) := fun s H C cl fp xe V tk => ⟨fun pins s' σ H' Q I h => by
    obtain ⟨t, pt, ht⟩ := h s H C cl fp xe tk
    exact pt.run pins s' σ H' Q I ht⟩
  refine ⟨_, pe_lcR (own := own) (g := g) hst hf tk hc hN pi ok pg q hs, fun S0 M0 H0 σ H S hA hW Q => ?_⟩
  refine f S0 M0 H0 σ H S hA _ fun J H1 G Y e1 wk gm g0 hy => ?_
  have hA1 := hA.up e1
  intro D hD
  refine ⟨k, fun i H' => i ≤ k ∧ LcP X.K (fun _ _ => True) S H1 D i H', ⟨Nat.zero_le _, Ex.new hD, [], [], upd_same, .nil, rfl, fun j w h => by simp at h⟩, fun i H' ⟨hik, p⟩ => ?_⟩
  have gH : G H' := gm _ _ (fun a o h => p.1 a o (by
    have n0 : a ∉ S := fun z => by rw [hide_in z] at h; cases h
    rw [hide_out n0] at h
    exact h)) g0
  refine ⟨hik, wk.goes i H' (by omega) gH, fun x H'' y0 => ?_⟩
  have y := wk.yields i H' x H'' (by omega) gH y0
  have hD' : H' D ≠ none := by
    obtain ⟨_, acc, es, h1, _⟩ := p
    rw [h1]; exact fun z => nomatch z
  have hA2 := hA1.newD hD p.1 hD'
  have hid : Ex (hide S H1) (hide (D :: S) H') := fun a o h => by
    have n0 : a ∉ S := fun z => by rw [hide_in z] at h; cases h
    have h' : H1 a = some o := by rw [hide_out n0] at h; exact h
    have ne : a ≠ D := ne_of_none h' hD
    rw [hide_out (by simp [ne, n0])]
    exact p.1 a o h'
  obtain ⟨e2, t, ht', r⟩ := hy i H' x H'' (D :: S) y hA2.dom hid
  have p2 : LcP X.K (fun _ _ => True) S H1 D i H'' := by
    obtain ⟨q1, acc, es, h1, h2, h3, h4⟩ := p
    exact ⟨q1.trans e2, acc, es, e2 _ _ h1, dpa_up (hide_ex e2) h2, h3, h4⟩
  by_cases hlt : i < k
  · obtain ⟨u, hu, hel⟩ := ht i t hlt ht'
    refine fg t u hu S (mls Δ σ) H1 (wipeΔ Δ (own.map (·.2))) (L2.wipe σ (own.map (·.2))) H'' (D :: S) x ((hA2.up e2).wipe _) r _ fun σ' hA' hw => ?_
    refine ⟨by rw [hw, wipe_wipe], fun s H0' C cl fp xe tk => ?_⟩
    obtain ⟨t', pt, ft⟩ := hel s H0' C cl fp
    refine ⟨t', pe_xe pt fun _ _ z => z.elim, ft S (mls Δ σ) H1 σ' H'' (D :: S) hA' _ fun th y H4 ⟨w, hw'⟩ e4 r' => ?_⟩
    subst hw'
    obtain ⟨acc, c1, c2, c3⟩ := lc_more hD (by omega) p2 e4 r' trivial
    exact ⟨acc, c1, c2, by omega, c3⟩
  · have hik : i = k := by omega
    subst hik
    obtain ⟨u, hu, hel⟩ := hr t ht'
    refine fg t u hu S (mls Δ σ) H1 (wipeΔ Δ (own.map (·.2))) (L2.wipe σ (own.map (·.2))) H'' (D :: S) x ((hA2.up e2).wipe _) r _ fun σ' hA' hw => ?_
    refine ⟨by rw [hw, wipe_wipe], fun s H0' C cl fp xe tk => ?_⟩
    obtain ⟨t', pt, ft⟩ := hel s H0' C cl fp xe _ tk
    refine ⟨t', pt, ft S (mls Δ σ) H1 σ' H'' (D :: S) hA' (fun H4 d e4 xf nd => ?_) _⟩
    exact hW H4 d ((e1.trans p.1).trans (e2.trans e4)) (xf.up (hide_sub fun a h => List.mem_cons_of_mem _ h)) fun a h z => nd a h (List.mem_cons_of_mem _ z)
/-- [elt for tg in it], where it raises -/
theorem pr_lcIt {tg it elt : Expr} {ifs : List Expr} {scope : Scope} {own : List (Str × Nat)} {Cc : Addr} {fs : List (Str × Th)} (he : PR X W Δ it Cc fs) (ok : BlkOk X.N X.env.scope scope own) (hs : ∀ x, foldedSetIterable it X.env x = pure x := by intro _; rfl) :
    PR X W Δ (.ListComp elt [⟨tg, it, ifs, 0⟩] scope pos) Cc fs := by
  obtain ⟨t, pe, f⟩ := he
  refine ⟨fun σ H _ => t σ H fun _ _ => False, ⟨fun pins s σ H Q I h => ?_⟩, fun S0 M0 H0 σ H S hA hW Q => f S0 M0 H0 σ H S hA hW _⟩
  rw [eval_ListComp]
  have caught : ∀ y ∈ scope.names, y.2 = .free → ∃ c, X.env.cells.lookup y.1 = some c := fun y hy e => (ok.free y hy e).elim (fun k => I.ok.has _ (.inl k)) fun k => I.ok.has _ (.inr k)
  exact comprehension_at (use := none) rfl hs (closure_ok caught) ok.kind (fun y hy e => (ok.uniq y hy).trans (by rw [e])) (wpAny_mono (pe.run pins s σ H _ I h) (fun v s' ⟨_, _, _, _, z⟩ => z.elim) fun _ _ z => z)
end
end DL
set_option Elab.async false
set_option linter.all false
set_option maxRecDepth 100000
/-! len of an object with a __len__ of its own. -/
namespace DL
open PySem PySem.Spec PyProof.Rows L2
theorem call_lenO {X : Cx} {C f : Addr} {k : Nat} {fd : FuncData} {ps : List Str} {sp : Sp} (hM : Meth X.K C "__len__" f) (hb : Binds X.K fd ps []) (F : FnOk X.prog X.w X.K X.mg X.base CX0 k f fd ps sp) (hr : Room (k + 1) X.A) :
    CallR X (.builtin "len") (fun xs H Q => ∃ a dx kvs, xs = [.ref a] ∧ H a = some (.ins C dx kvs) ∧ sp [.ref a] H (fun y H' => ∃ n : Nat, y = .int (n : Int) ∧ n < 2 ^ 62 ∧ Q (.int (n : Int)) H') E0) := by
  intro pins s σ H xs us Q I r h
  obtain ⟨a, dx, kvs, rfl, ea, hq⟩ := h
  obtain ⟨u, rfl, rx⟩ := vals1 r
  obtain rfl : u = Value.ref a := rx
  obtain ⟨mA, O, _⟩ := ins_get I.hok ea
  obtain ⟨od, J, _⟩ := O.look
  obtain ⟨m, fr⟩ := I.fr
  have hl : ([Value.ref a] ++ ([] : List Value)).length = ps.length := by rw [← F.len _ _ _ _ hq]; rfl
  refine PySem.W.len_K fr I.ok.mod.kin J hM.at_ hM.fn (wpAny_call ?_)
  refine codeAny_mono (F.run X.A.in1 X.stack s H ⟨[.ref a], []⟩ [.ref a] [.ref a] _ E0 hr.in1 I.env0.in1 (hb _ [.ref a] I.kIn hl) (.cons rfl .nil) hq) fun r s' hq => ?_
  cases r with
  | error er => exact pass0 pins σ H s er s' I hq
  | ok fl =>
    cases fl with
    | ret u =>
      obtain ⟨v, H', I3, rv, n, rfl, hn, q3⟩ := I.after hq
      obtain ⟨t, rfl⟩ := rv
      exact ⟨⟨by omega, by omega⟩, .int (n : Int), H', I3.tok _, ⟨_, rfl⟩, q3⟩
    | next => exact False.elim hq
    | brk => exact False.elim hq
    | cont => exact False.elim hq
section
variable {X : Cx} {Δ : List Sl} {e a b c o : Expr} {es : List Expr} {A B : Th → Prop} {pos apos : Pos} {P : Post} {rest body els : List Stmt} {st : Stmt} {W : WX} {C : Addr} {fs : List (Str × Th)} {k : Nat}
/-- len(o), o an object with a __len__ of its own -/
theorem pd_lenO {R : Cn} {n : Nat} {p : Pos} (M : Mth X.prog X.w X.K X.mg X.base C "__len__" k R) (hr : Room (k + 1) X.A) (hm : X.mg "len" = none) (ho : PD X Δ e (objT C fs)) (h : R [objT C fs] (· = dat X.K (.int (n : Int)))) (hn : n < 2 ^ 62)
    (hg : Gl X "len" := by rfl) (he : starEach [e] X.env = (false, eval e X.env) :: starEach [] X.env := by rfl) (hpl : (backTo pos (starEach [] X.env)).any (·.1) = false := by rfl) : PD X Δ (.Call (.Name "len" p) [e] [] pos) (dat X.K (.int (n : Int))) := by
  obtain ⟨f, fd, ps, hM, hB, F⟩ := M.ex
  refine px_blt (call_lenO hM hB F hr) hm (pl_cons ho pl_nil he) (fun S H ts vs dom hB r Q q => ?_) (by decide +kernel) hg (by decide) (by decide) he hpl
  subst hB
  obtain ⟨v, rfl, r0⟩ := all1 r
  obtain ⟨p, dx, kvs, rfl, h2, h3, h4⟩ := id r0
  refine ⟨p, dx, kvs, rfl, hide_le _ _ h2, S, [objT C fs], _, dom, ⟨r0, trivial⟩, h, fun t' v' H' ht e' r' => ?_⟩
  subst ht
  have r2 : Dp X.K (hide S H') v' (.int (n : Int)) := r'
  have := dp_int r2
  subst this
  exact ⟨n, rfl, hn, q _ _ H' rfl e' (Dp.int _)⟩
end
end DL
set_option Elab.async false
set_option linter.all false
set_option maxRecDepth 100000
/-! Exceptions as values; rows of things as lists; several except clauses. -/
namespace DL
open PySem PySem.Spec PyProof.Rows L2
/-- an exception object of the class at C, what it carries -/
def exV (C : Addr) (fs : List (Str × Th)) : Th := ⟨fun H v => ∃ a, v = .ref a ∧ ((fs = [] ∧ H a = some (ExO (.ref C) a)) ∨ ∃ dx kvs, H a = some (exo a C (some dx)) ∧ H dx = some (exd dx kvs) ∧ ∀ f t, fs.lookup f = some t → ∃ w, kvs.lookup f = some w ∧ t.R H w),
  fun H H' v e ⟨a, h1, h2⟩ => ⟨a, h1, h2.elim (fun ⟨h3, h4⟩ => Or.inl ⟨h3, e a _ h4⟩) fun ⟨dx, kvs, h3, h4, h5⟩ => Or.inr ⟨dx, kvs, e a _ h3, e dx _ h4, fun f t hf => let ⟨w, q1, q2⟩ := h5 f t hf; ⟨w, q1, t.up _ _ _ e q2⟩⟩⟩⟩
/-- a class as a value -/
def clsT (u : Value) : Th := ⟨fun _ v => ClsV v u, fun _ _ _ _ h => h⟩
section
variable {X : Cx} {pins : List (Addr × Obj)} {σ : L2.St} {H H' : Hp} {s : Shared}
theorem exv_look (I : Inv X pins σ H s) (ex : Ex H' H) {C : Addr} {fs : List (Str × Th)} {v : V} {u : Value} (r : (exV C fs).R H' v) (ru : RelV v u) :
    ∃ (a : Addr) (ox : Obj) (od : Option Obj), v = .ref a ∧ u = .ref a ∧ PySem.W.InstAt s.heap a ox C od ∧ ∀ f t, fs.lookup f = some t → ∃ o y w, od = some o ∧ PySem.W.lookIn f o = some (some y) ∧ RelV w y ∧ t.R H' w := by
  obtain ⟨a, rfl, h⟩ := r
  obtain rfl : u = Value.ref a := ru
  rcases h with ⟨rfl, ea⟩ | ⟨dx, kvs, ea, ed, hl⟩
  · obtain ⟨⟨oe, vs, ho, hz, hd, _⟩, _, _⟩ := (show ObjOk X.prog X.w H s.heap a (ExO (.ref C) a) from I.hok a _ (ex a _ ea))
    exact ⟨a, oe, none, rfl, rfl, ⟨ho, hz.1, by unfold PySem.W.notCls; rw [hd] <;> rfl, by rw [hz.2]; trivial⟩, fun f t h => by simp at h⟩
  · obtain ⟨t1, ho⟩ := exo_at I.hok (ex a _ ea)
    obtain ⟨mA, hns, hr⟩ := exd_at I.hok (ex dx _ ed)
    obtain ⟨od, hod, hlk⟩ := lookIn_ns hns
    refine ⟨a, _, some od, rfl, rfl, ⟨ho, rfl, rfl, hod⟩, fun f t h => ?_⟩
    obtain ⟨w, h1, h2⟩ := hl f t h
    obtain ⟨y, hy, ry⟩ := RelO.some_of (v := w) (o := mA f) (by rw [← h1]; exact hr f)
    exact ⟨od, y, w, rfl, by rw [hlk, hy], ry, h2⟩
end
/-- isinstance(e, c), e an exception as a value -/
def rIsV (K : PySem.W.Frag) (C : Addr) : List V → Hp → VK → Prop := fun xs H Q => ∃ (x c : V) (fs : List (Str × Th)) (u : Value) (b : Bool) (H' : Hp), xs = [x, c] ∧ ClsV c u ∧ Ex H' H ∧ (exV C fs).R H' x ∧ PySem.W.kitOne K (.ref C) u = some b ∧ Q (.bl b) H
theorem kitE {K : PySem.W.Frag} {C x : Addr} {ox : Obj} {od : Option Obj} (T : L2.ExcC K C) : PySem.W.KitX K (.ref x) (.ref C) (fun h => PySem.W.InstAt h x ox C od) :=
  PySem.W.kitx_exc (by obtain ⟨cd, hc, _⟩ := PySem.W.any_some T.hd; rw [hc]; rfl) T.hg T.hk T.hs T.ha T.hn T.ht T.hm
theorem call_isV {X : Cx} {C : Addr} (T : L2.ExcC X.K C) : CallR X (.builtin "isinstance") (rIsV X.K C) := by
  intro pins s σ H xs us Q I r h
  obtain ⟨x, c, fs, u, b, H', rfl, k, ex, rx, e, q⟩ := h
  obtain ⟨u1, u2, rfl, r1, r2⟩ := vals2 r
  have e2 := k.eq r2
  subst e2
  obtain ⟨a, ox, od, rfl, rfl, J, _⟩ := exv_look I ex rx r1
  exact PySem.W.kia_one (kitE T) I.kIn J e (fun z => nomatch z) fun tk => ⟨.bl b, H, I.tok tk, rfl, q⟩
/-- isinstance(e, c), e the exception that the suite holds -/
def rIsX (K : PySem.W.Frag) (C a : Addr) (d : Option Addr) : List V → Hp → VK → Prop := fun xs H Q => ∃ (c : V) (u : Value) (b : Bool), xs = [.ref a, c] ∧ ClsV c u ∧ (d = none ∨ ∃ dd fs, d = some dd ∧ H dd = some (.xd fs)) ∧ PySem.W.kitOne K (.ref C) u = some b ∧ Q (.bl b) H
theorem call_isX {X : Cx} {a C : Addr} {oe : Obj} {d : Option Addr} {pn : List (Addr × Obj)} (T : L2.ExcC X.K C) (hz : Zc (.ref C) d oe) (hf : ∃ vs, oe.data = .fields vs) : CallR (X.suite a ((a, oe) :: pn)) (.builtin "isinstance") (rIsX X.K C a d) := by
  intro pins s σ H xs us Q I r h
  obtain ⟨c, u, b, rfl, k, hd, e, q⟩ := h
  obtain ⟨u1, u2, rfl, r1, r2⟩ := vals2 r
  have e2 := k.eq r2
  subst e2
  obtain rfl : u1 = Value.ref a := r1
  obtain ⟨hget, _⟩ := I.pin (a, oe) (List.mem_append_left _ List.mem_cons_self)
  obtain ⟨vs, hv⟩ := hf
  have J : ∃ od, PySem.W.InstAt s.heap a oe C od := by
    rcases hd with rfl | ⟨dd, fs, rfl, ea⟩
    · exact ⟨none, hget, hz.1, by unfold PySem.W.notCls; rw [hv] <;> rfl, by rw [hz.2]; trivial⟩
    · have hx : ObjOk X.prog X.w H s.heap dd (.xd fs) := I.hok dd _ ea
      obtain ⟨mA, hns, hr⟩ := hx
      obtain ⟨od, ho, hl⟩ := lookIn_ns hns
      exact ⟨some od, hget, hz.1, by unfold PySem.W.notCls; rw [hv] <;> rfl, by rw [hz.2]; exact ho⟩
  obtain ⟨od, J⟩ := J
  exact PySem.W.kia_one (kitE T) I.kIn J e (fun z => nomatch z) fun tk => ⟨.bl b, H, I.tok tk, rfl, q⟩
/-- e.f, e an exception as a value -/
def tXv (C : Addr) (n : Str) (t : Th) (te : TE) : TE := fun σ H Q => te σ H fun x H1 => ∃ fs H', Ex H' H1 ∧ (exV C fs).R H' x ∧ fs.lookup n = some t ∧ ∀ w, t.R H' w → Q w H1
theorem pe_xv {X : Cx} {C : Addr} {e : Expr} {te : TE} {pos : Pos} {n : Str} {t : Th} (T : XfC X.K C) (hno : PySem.W.findIn X.K (.ref C) n = some none) (he : PE X e te) (hb : attributeBase e n X.env (eval e X.env) = eval e X.env := by rfl) : PE X (.Attribute e n pos) (tXv C n t te) := by
  refine ⟨fun pins s σ H Q I h => ?_⟩
  refine attr_of hb (thn (he.run pins s σ H _ I h) fun u s1 hh => ?_)
  obtain ⟨x, H1, I1, rx, fs, H', ex, r, hl, q⟩ := hh
  obtain ⟨a, ox, od, rfl, rfl, J, look⟩ := exv_look I1 ex r rx
  obtain ⟨o, y, w, rfl, hy, ry, rt⟩ := look n t hl
  exact HandSPX.exc_get I1.kIn J T.ga T.gg T.exC (PySem.W.findObj_own T.hdC hno rfl hy) (handed_of ry) ⟨w, H1, I1.tok _, ry, q w rt⟩
/-- C(e, ..) with an __init__ of its own, as a value -/
def tMkV (C : Addr) (sp : Sp) (ta : TA) : TE := fun σ H Q => ta σ H fun vs H1 => vs.length ≤ 1000 ∧ ∀ a, H1 a = none → sp (.ref a :: vs) (upd H1 a (exo a C none)) (fun v H2 => v = .non ∧ Q (.ref a) H2) (fun _ _ _ => False)
theorem pe_oex {X : Cx} {CX : CXT} {x : Str} {C fI : Addr} {k : Nat} {fd : FuncData} {ps : List Str} {sp : Sp} {e : Expr} {es : List Expr} {ta : TA} {p pos : Pos} (T : OexC X.K C) (iC : PySem.W.findIn X.K (.ref C) "__init__" = some (some (.ref fI))) (tI : PySem.W.typeIn X.K (.ref fI) = some (.type "function"))
    (F1 : FnOk X.prog X.w X.K X.mg X.base CX k fI fd ps sp) (hr : Room (k + 1) X.A) (hb : Binds X.K fd ps []) (hx : Passes CX X (fun _ _ _ => False)) (hg : Gl X x) (hm : X.mg x = some (.ref C)) (ha : PA X (e :: es) ta)
    (hdb : (x == ("__debug__" : Str)) = false := by decide) (he : starEach (e :: es) X.env = (false, eval e X.env) :: starEach es X.env := by rfl) (hpl : (backTo pos (starEach es X.env)).any (·.1) = false := by rfl) :
    PE X (.Call (.Name x p) (e :: es) [] pos) (tMkV C sp ta) := by
  refine ⟨fun pins s σ H Q I h => ?_⟩
  obtain ⟨nm, q, N, bs, bm, sn, sub, ab, col, dd, k0, k1, k2, k3, k5, hC, hbm⟩ := T.cls
  refine wpAny_Call_Name_kw (ld_glob I hg hm ?_ hdb)
  refine PySem.W.callWith_K (h₀ := X.base) I.ok.mod.kin T.kC (thn (ha.run pos pins s σ H _ I h) fun us s1 ⟨vs, H1, I1, r1, hz, q1⟩ => ⟨I1.kIn, ?_⟩) he hpl
  show wpAny _ _ (call (.ref C) us) _ _ _
  obtain ⟨hp, g, dr, tk, os⟩ := s1
  have hsz : hp.objs.size ≤ hp.objs.size + 1 := Nat.le_succ _
  have hn : H1 (hp.objs.size + 1) = none := I1.hok.fresh hsz
  have hq := q1 (hp.objs.size + 1) hn
  have kk : ∀ b o, hp.get? b = some o → ((hp.push (PySem.W.kdv_tup us)).push (PySem.HandSPX.excO C hp.objs.size)).get? b = some o := fun b o e => Heap.get?_push_of_some _ (Heap.get?_push_of_some _ e)
  have hget : ((hp.push (PySem.W.kdv_tup us)).push (PySem.HandSPX.excO C hp.objs.size)).get? (hp.objs.size + 1) = some (PySem.HandSPX.excO C hp.objs.size) := by heap_get
  have I2 : Inv X pins σ (upd H1 (hp.objs.size + 1) (exo (hp.objs.size + 1) C none)) ⟨(hp.push (PySem.W.kdv_tup us)).push (PySem.HandSPX.excO C hp.objs.size), g, dr, tk, os⟩ :=
    I1.laid (t' := tk) (a := hp.objs.size + 1) (o := exo (hp.objs.size + 1) C none) (h' := (hp.push (PySem.W.kdv_tup us)).push (PySem.HandSPX.excO C hp.objs.size)) kk hsz (exo_ok hget)
  have r2 : Vals (V.ref (hp.objs.size + 1) :: vs) (Value.ref (hp.objs.size + 1) :: us) := .cons rfl r1
  have hl : (Value.ref (hp.objs.size + 1) :: us).length = ps.length := by
    have e := r2.length
    rw [F1.len _ _ _ _ hq] at e
    exact e.symm
  have hus : us.length ≤ sizeLine := by
    rw [← Paired.length r1, sizeLine_eq]
    omega
  refine wpAny_call (PySem.HandSPX.call_own F.excBase_ValueError (fun Y => PySem.HandSPX.refsVE_contains Y bm hbm) (I1.kIn _ _ hC) (PySem.W.looks_findIn I1.kIn iC) (fun self => PySem.W.bind_fn I1.kIn self tI) hus
    (codeAny_mono (F1.run _ X.stack _ _ ⟨Value.ref (hp.objs.size + 1) :: us, []⟩ (Value.ref (hp.objs.size + 1) :: us) _ _ (fun _ _ _ => False) (hr.make C us []) (I2.env0.make C us []) (by
      have hb' := hb _ (Value.ref (hp.objs.size + 1) :: us) I2.kIn (by rw [List.append_nil]; exact hl)
      rw [List.append_nil] at hb'
      exact hb') r2 hq) fun r s' hq' => ?_))
  cases r with
  | error er => exact hx pins σ _ _ er s' I2 hq'
  | ok fl =>
    cases fl with
    | ret u =>
      obtain ⟨v, H2, os2, bare2, un2, hok2, rv, ev, q2⟩ := hq'
      subst ev
      exact ⟨rv, .ref _, H2, I2.call' (ch := []) os2 un2 hok2 bare2 (fun b z => absurd z (by simp)), rfl, q2⟩
    | next => exact False.elim hq'
    | brk => exact False.elim hq'
    | cont => exact False.elim hq'
/-- C(), without an __init__ of its own, as a value -/
theorem pe_own0 {X : Cx} {x : Str} {p pos : Pos} {C : Addr} (T : ExC0 X.K X.mg x C) (hg : Gl X x) (hdb : (x == ("__debug__" : Str)) = false := by decide) : PE X (.Call (.Name x p) [] [] pos) (fun σ H Q => ∀ a, H a = none → Q (.ref a) (upd H a (ExO (.ref C) a))) := by
  refine ⟨fun pins s σ H Q I h => ?_⟩
  refine wpAny_Call_Name_kw (ld_glob I hg T.gC ?_ hdb)
  refine PySem.W.callWith_K0 I.kIn T.kC ?_
  obtain ⟨bm, N, nm, qn, bs, hdct, sn, sub, ab, col, dd, k0, k1, k2, k3, k5, mN, hC, hN, hni, T2⟩ := exc_obj I.kIn T.q
  refine wpAny_call_exc_subT PySem.F.excBase_ValueError T2 hC hN hni (fun h' a hm => ?_) (Nat.zero_le _)
  have hn : H a = none := I.hok.gone hm.new
  obtain ⟨t, ht, _, _⟩ := hm.there
  exact ⟨.ref a, upd H a (ExO (.ref C) a), I.laidN hm.keeps hm.new hn (exO_ok ht ⟨rfl, rfl⟩ rfl rfl rfl (show 4 < 6 by decide)), rfl, h a hn⟩
/-! ### values -/
section
variable {X : Cx} {Δ : List Sl} {e a b c : Expr} {es : List Expr} {A B : Th → Prop} {pos : Pos} {P : Post} {rest body els : List Stmt} {st : Stmt} {W : WX}
theorem pd_cls {x : Str} {C : Addr} (hm : X.mg x = some (.ref C)) (hg : Gl X x := by rfl) (hd : (x == ("__debug__" : Str)) = false := by decide) : PD X Δ (.Name x pos) (clsT (.ref C)) :=
  ⟨_, pe_glob (v := .ref C) hg hm rfl hd, fun _ _ _ _ H S _ Q q => q _ _ H rfl (Ex.refl H) (.own C)⟩
theorem pd_clsB {x : Str} {n : String} (hm : X.mg x = none) (hv : bootBuiltins x = some (.type n) := by decide +kernel) (hg : Gl X x := by rfl) (hn : x ≠ "__name__" := by decide) (hd : (x == ("__debug__" : Str)) = false := by decide) : PD X Δ (.Name x pos) (clsT (.type n)) :=
  ⟨_, pe_bltn hg hm hv (show RelV (.ty n) _ from rfl) hn hd, fun _ _ _ _ H S _ Q q => q _ _ H rfl (Ex.refl H) (.ty n)⟩
theorem pd_isV {p : Pos} {C : Addr} {fs : List (Str × Th)} {u : Value} {k : Bool} (T : L2.ExcC X.K C) (hm : X.mg "isinstance" = none) (ha : PD X Δ a (exV C fs)) (hb : PD X Δ b (clsT u)) (hk : PySem.W.kitOne X.K (.ref C) u = some k) (hg : Gl X "isinstance" := by rfl)
    (he1 : starEach [b] X.env = (false, eval b X.env) :: starEach [] X.env := by rfl) (he : starEach [a, b] X.env = (false, eval a X.env) :: starEach [b] X.env := by rfl) (hpl : (backTo pos (starEach [b] X.env)).any (·.1) = false := by rfl) :
    PD X Δ (.Call (.Name "isinstance" p) [a, b] [] pos) (dat X.K (.bool k)) :=
  px_blt (call_isV T) hm (pl_cons ha (pl_cons hb pl_nil he1) he) (fun S H ts vs _ hB r Q q => by
    subst hB
    obtain ⟨v, w, rfl, r0, r2⟩ := all2 r
    exact ⟨v, w, fs, u, k, _, rfl, r2, hide_le, r0, hk, q _ _ H rfl (Ex.refl H) (Dp.bl k)⟩) (by decide +kernel) hg (by decide) (by decide) he hpl
theorem pd_isX {p : Pos} {q C : Addr} {oe : Obj} {d : Option Addr} {pn : List (Addr × Obj)} {fs : List (Str × Th)} {u : Value} {k : Bool} (T : L2.ExcC X.K C) (hz : Zc (.ref C) d oe) (hf : ∃ vs, oe.data = .fields vs) (hm : X.mg "isinstance" = none) (ha : PD (X.suite q ((q, oe) :: pn)) Δ a (excT q d fs)) (hb : PD (X.suite q ((q, oe) :: pn)) Δ b (clsT u))
    (hk : PySem.W.kitOne X.K (.ref C) u = some k) (hg : Gl (X.suite q ((q, oe) :: pn)) "isinstance" := by rfl)
    (he1 : starEach [b] X.env = (false, eval b X.env) :: starEach [] X.env := by rfl) (he : starEach [a, b] X.env = (false, eval a X.env) :: starEach [b] X.env := by rfl) (hpl : (backTo pos (starEach [b] X.env)).any (·.1) = false := by rfl) :
    PD (X.suite q ((q, oe) :: pn)) Δ (.Call (.Name "isinstance" p) [a, b] [] pos) (dat X.K (.bool k)) :=
  px_blt (call_isX T hz hf) hm (pl_cons ha (pl_cons hb pl_nil he1) he) (fun S H ts vs _ hB r Q q => by
    subst hB
    obtain ⟨v, w, rfl, r0, r2⟩ := all2 r
    obtain ⟨rfl, rx⟩ := r0
    refine ⟨w, u, k, rfl, r2, ?_, hk, q _ _ H rfl (Ex.refl H) (Dp.bl k)⟩
    rcases rx with ⟨_, e0⟩ | ⟨_, dd, kvs, e1, e2, _⟩
    · exact Or.inl e0
    · exact Or.inr ⟨dd, kvs, e1, hide_le _ _ e2⟩) (by decide +kernel) hg (by decide) (by decide) he hpl
theorem pd_xv {C : Addr} {fs : List (Str × Th)} {n : Str} {t : Th} (T : XfC X.K C) (hno : PySem.W.findIn X.K (.ref C) n = some none) (he : PD X Δ e (exV C fs)) (hl : fs.lookup n = some t) (hb : attributeBase e n X.env (eval e X.env) = eval e X.env := by rfl) : PD X Δ (.Attribute e n pos) t := by
  obtain ⟨te, pe, fe⟩ := he
  refine ⟨_, pe_xv (t := t) T hno pe hb, fun S0 M0 H0 σ H S hA Q k => fe S0 M0 H0 σ H S hA _ fun th v H1 hth e1 r => ?_⟩
  subst hth
  exact ⟨fs, _, hide_le, r, hl, fun w rw => k t w H1 rfl e1 rw⟩
theorem pd_mk0 {x : Str} {C : Addr} {p : Pos} (T : ExC0 X.K X.mg x C) (hg : Gl X x := by rfl) (hdb : (x == ("__debug__" : Str)) = false := by decide) : PD X Δ (.Call (.Name x p) [] [] pos) (exV C []) :=
  ⟨_, pe_own0 T hg hdb, fun S0 M0 H0 σ H S hA Q q a ha => q _ _ _ rfl (Ex.new ha) ⟨a, rfl, Or.inl ⟨rfl, by rw [hide_out (hA.dom.new ha)]; exact upd_same⟩⟩⟩
theorem pd_mk1 {x g : Str} {C : Addr} {p : Pos} {t : Th} (F : ExF1 X.prog X.w X.K X.mg X.base x C g) (hr : Room 2 X.A) (he : PD X Δ e t) (hg : Gl X x := by rfl) (hdb : (x == ("__debug__" : Str)) = false := by decide)
    (hs : starEach [e] X.env = (false, eval e X.env) :: starEach [] X.env := by rfl) (hpl : (backTo pos (starEach [] X.env)).any (·.1) = false := by rfl) : PD X Δ (.Call (.Name x p) [e] [] pos) (exV C [(g, t)]) := by
  obtain ⟨fI, fd, ps, h1, h2, hb, Fk⟩ := F.ini
  obtain ⟨ta, pa, fa⟩ := pl_cons he pl_nil hs
  refine ⟨_, pe_oex F.T h1 h2 Fk hr hb (fun _ _ _ _ _ _ _ z => z.elim) hg F.gC pa hdb hs hpl, fun S0 M0 H0 σ H S hA Q q => ?_⟩
  refine fa S0 M0 H0 σ H S hA _ fun ths vs H1 hB e1 r => ?_
  subst hB
  obtain ⟨y, rfl, ry⟩ := all1 r
  refine ⟨by show 1 ≤ 1000; decide, fun a ha => ⟨a, C, y, rfl, F.T, F.no, upd_same, fun dx hdx hne => ⟨rfl, ?_⟩⟩⟩
  rw [upd_ne hne] at hdx
  have ex2 : Ex H1 (upd (upd (upd H1 a (exo a C none)) dx (exd dx [(g, y)])) a (exo a C (some dx))) := fun b o h => by
    have n1 : b ≠ a := ne_of_none h ha
    have n2 : b ≠ dx := ne_of_none h hdx
    rw [upd_ne n1, upd_ne n2, upd_ne n1]
    exact h
  have dm := (hA.up e1).dom
  refine q _ _ _ rfl (e1.trans ex2) ⟨a, rfl, Or.inr ⟨dx, [(g, y)], ?_, ?_, fun f t' hf => ?_⟩⟩
  · rw [hide_out (dm.new ha)]; exact upd_same
  · rw [hide_out (dm.new hdx), upd_ne hne]; exact upd_same
  · rw [lookup_th1] at hf
    by_cases hfg : f = g
    · rw [if_pos hfg] at hf
      cases hf
      exact ⟨y, by rw [hfg]; simp [List.lookup], t.up _ _ _ (hide_ex ex2) ry⟩
    · rw [if_neg hfg] at hf
      cases hf
theorem pd_mk2 {x g g' : Str} {C : Addr} {p : Pos} {e' : Expr} {t t' : Th} (F : ExF2 X.prog X.w X.K X.mg X.base x C g g') (hr : Room 2 X.A) (he : PD X Δ e t) (he' : PD X Δ e' t') (hgg : g' ≠ g := by decide) (hg : Gl X x := by rfl) (hdb : (x == ("__debug__" : Str)) = false := by decide)
    (hs1 : starEach [e'] X.env = (false, eval e' X.env) :: starEach [] X.env := by rfl) (hs : starEach [e, e'] X.env = (false, eval e X.env) :: starEach [e'] X.env := by rfl) (hpl : (backTo pos (starEach [e'] X.env)).any (·.1) = false := by rfl) : PD X Δ (.Call (.Name x p) [e, e'] [] pos) (exV C [(g', t'), (g, t)]) := by
  obtain ⟨fI, fd, ps, h1, h2, hb, Fk⟩ := F.ini
  obtain ⟨ta, pa, fa⟩ := pl_cons he (pl_cons he' pl_nil hs1) hs
  refine ⟨_, pe_oex F.T h1 h2 Fk hr hb (fun _ _ _ _ _ _ _ z => z.elim) hg F.gC pa hdb hs hpl, fun S0 M0 H0 σ H S hA Q q => ?_⟩
  refine fa S0 M0 H0 σ H S hA _ fun ths vs H1 hB e1 r => ?_
  subst hB
  obtain ⟨y, y', rfl, ry, ry'⟩ := all2 r
  refine ⟨by show 2 ≤ 1000; decide, fun a ha => ⟨a, C, y, y', rfl, F.T, F.no, F.no', upd_same, fun dx hdx hne => ⟨rfl, ?_⟩⟩⟩
  rw [upd_ne hne] at hdx
  have ex2 : Ex H1 (upd (upd (upd (upd H1 a (exo a C none)) dx (exd dx [(g, y)])) a (exo a C (some dx))) dx (exd dx [(g', y'), (g, y)])) := fun b o h => by
    have n1 : b ≠ a := ne_of_none h ha
    have n2 : b ≠ dx := ne_of_none h hdx
    rw [upd_ne n2, upd_ne n1, upd_ne n2, upd_ne n1]
    exact h
  have dm := (hA.up e1).dom
  refine q _ _ _ rfl (e1.trans ex2) ⟨a, rfl, Or.inr ⟨dx, [(g', y'), (g, y)], ?_, ?_, fun f t1 hf => ?_⟩⟩
  · rw [hide_out (dm.new ha), upd_ne (Ne.symm hne)]; exact upd_same
  · rw [hide_out (dm.new hdx)]; exact upd_same
  · rw [lookup_th2] at hf
    by_cases hfg : f = g'
    · rw [if_pos hfg] at hf
      cases hf
      exact ⟨y', by rw [hfg]; simp [List.lookup], t'.up _ _ _ (hide_ex ex2) ry'⟩
    · rw [if_neg hfg] at hf
      have hfb : (f == g') = false := by simpa using hfg
      by_cases hfg2 : f = g
      · rw [if_pos hfg2] at hf
        cases hf
        exact ⟨y, by simp only [List.lookup, hfb]; rw [hfg2]; simp, t.up _ _ _ (hide_ex ex2) ry⟩
      · rw [if_neg hfg2] at hf
        cases hf
/-! ### rows of things -/
theorem pd_tupT {ts : List Th} {x1} (h : PLD X Δ es ts) (hl : ts.length ≤ 100000 := by exact Nat.le_of_ble_eq_true rfl) : PD X Δ (.Tuple es x1 pos) (tupT X.K ts) := by
  obtain ⟨t, p, f⟩ := h
  refine ⟨_, pe_tup p, fun S0 M0 H0 σ H S hA Q q => f S0 M0 H0 σ H S hA _ fun ths vs H2 ht e2 r => ?_⟩
  subst ht
  refine ⟨sz_of (by rw [← r.len]; exact hl), fun p hp => q _ _ _ rfl (e2.trans (Ex.new hp)) ⟨p, vs, rfl, SqT.of ?_, r.up (hide_ex (Ex.new hp))⟩⟩
  rw [hide_out (((hA.up e2).dom).new hp)]
  exact upd_same
theorem pd_lstT {ts : List Th} (h : PLD X Δ es ts) (hl : ts.length ≤ 100000 := by exact Nat.le_of_ble_eq_true rfl) : PD X Δ (.List es pos) (lstT X.K ts) := by
  obtain ⟨t, p, f⟩ := h
  refine ⟨_, pe_lst p, fun S0 M0 H0 σ H S hA Q q => f S0 M0 H0 σ H S hA _ fun ths vs H2 ht e2 r => ?_⟩
  subst ht
  refine ⟨sz_of (by rw [← r.len]; exact hl), fun p hp => q _ _ _ rfl (e2.trans (Ex.new hp)) ⟨p, vs, rfl, SqL.of ?_, r.up (hide_ex (Ex.new hp))⟩⟩
  rw [hide_out (((hA.up e2).dom).new hp)]
  exact upd_same
theorem pd_catT {ts us : List Th} (ha : PD X Δ a (lstT X.K ts)) (hb : PD X Δ b (lstT X.K us)) (hz : ts.length + us.length ≤ 100000 := by exact Nat.le_of_ble_eq_true rfl) : PD X Δ (.BinOp a .Add b pos) (lstT X.K (ts ++ us)) :=
  px_two (fun _ _ pa pb => pe_op op_catL pa pb) ha hb fun S H x' y' v w dom hx hy rx ry Q q => by
    subst hx; subst hy
    obtain ⟨l, xs, rfl, hq, hd⟩ := rx
    obtain ⟨b, zs, rfl, hq2, hd2⟩ := ry
    refine ⟨l, b, xs, zs, rfl, rfl, ex_l hide_le hq, ex_l hide_le hq2, by rw [← hd.len, ← hd2.len]; exact Nat.le_trans hz (by decide), fun p hp => q _ _ _ rfl (Ex.new hp) ⟨p, xs ++ zs, rfl, SqL.of ?_, (hd.app hd2).up (hide_ex (Ex.new hp))⟩⟩
    rw [hide_out (dom.new hp)]
    exact upd_same
theorem pd_lenT {p : Pos} {ts : List Th} (hm : X.mg "len" = none) (ha : PD X Δ e (lstT X.K ts)) (hg : Gl X "len" := by rfl) (he : starEach [e] X.env = (false, eval e X.env) :: starEach [] X.env := by rfl) (hpl : (backTo pos (starEach [] X.env)).any (·.1) = false := by rfl) :
    PD X Δ (.Call (.Name "len" p) [e] [] pos) (dat X.K (.int (ts.length : Nat))) :=
  px_blt call_len_seq hm (pl_cons ha pl_nil he) (fun S H us vs _ hB r Q q => by
    subst hB
    obtain ⟨v, rfl, r0⟩ := all1 r
    obtain ⟨a, xs, rfl, hq, hd⟩ := r0
    refine ⟨a, xs, rfl, Or.inl (ex_l hide_le hq), ?_⟩
    rw [← hd.len]
    exact q _ _ H rfl (Ex.refl H) (Dp.int _)) (by decide +kernel) hg (by decide) (by decide) he hpl
theorem pd_ixT {ts : List Th} {t : Th} {k : Nat} (ha : PD X Δ a (lstT X.K ts)) (hb : PD X Δ b (dat X.K (.int (k : Int)))) (h : ts[k]? = some t) (hs : PlainIx b := by exact fun _ _ => rfl) : PD X Δ (.Subscript a b pos) t :=
  px_two (r := fun x y H Q => rIxL X.K x y H Q ∨ rIxT X.K x y H Q) (fun _ _ pa pb => pe_ix (ix_list.or ix_tup) pa pb hs) ha hb fun S H x y v w _ hx hy rx ry Q q => by
    subst hx; subst hy
    have e2 := dp_int ry
    subst e2
    obtain ⟨p, xs, rfl, hq, hd⟩ := rx
    obtain ⟨u, e1, r⟩ := hd.get' h
    exact Or.inl ⟨p, xs, (k : Int), u, rfl, rfl, ex_l hide_le hq, atI_nat e1, q _ u H rfl (Ex.refl H) r⟩
end
end DL
set_option Elab.async false
set_option linter.all false
set_option maxRecDepth 100000
/-! Rows of things that need not be data: a dict may stand among them. -/
namespace DL
open PySem PySem.Spec PyProof.Rows L2
/-- data, or a dict -/
abbrev AD := Option PyData
def dicT : Th := ⟨fun H v => ∃ a kvs, v = .ref a ∧ H a = some (.dK kvs), fun _ _ _ e ⟨a, kvs, h1, h2⟩ => ⟨a, kvs, h1, e _ _ h2⟩⟩
def anyT (K : PySem.W.Frag) : AD → Th
  | some d => dat K d
  | none => dicT
def tyA : AD → String
  | some d => tyD d
  | none => "dict"
theorem any_ty {K : PySem.W.Frag} {H : Hp} : ∀ {x : AD} {v : V}, (anyT K x).R H v → TyX K H v (.type (tyA x))
  | some d, v, h => dp_ty h
  | none, v, ⟨a, kvs, e, h⟩ => by subst e; exact .base (.dK h)
theorem any_flat {K : PySem.W.Frag} {H : Hp} : ∀ {x : AD} {v : V}, (anyT K x).R H v → (∃ a, v = .ref a) ∨ flatB v = true
  | some d, v, h => by
    have h : Dp K H v d := h
    cases h with
    | non => exact .inr rfl
    | bl b => exact .inr rfl
    | int i => exact .inr rfl
    | str x => exact .inr rfl
    | lst h _ => exact .inl ⟨_, rfl⟩
    | tup h _ => exact .inl ⟨_, rfl⟩
  | none, v, ⟨a, kvs, e, h⟩ => .inl ⟨a, e⟩
def isSeqA : AD → Bool
  | some d => isSeq d
  | none => false
def rowT (K : PySem.W.Frag) (xs : List AD) : Th := lstT K (xs.map (anyT K))
theorem row_dat {K : PySem.W.Frag} {ds : List PyData} : rowT K (ds.map some) = dat K (.list ds) := by
  rw [dat_lst, rowT, List.map_map]
  rfl
/-- a list with just these values -/
def lstV (K : PySem.W.Frag) (vs : List V) (ts : List Th) : Th := ⟨fun H v => ∃ a, v = .ref a ∧ SqL K H a vs ∧ All H ts vs, fun _ _ _ e ⟨a, h1, h2, h3⟩ => ⟨a, h1, ex_l e h2, h3.up e⟩⟩
theorem lstV_T {K : PySem.W.Frag} {vs : List V} {ts : List Th} {H : Hp} {v : V} (h : (lstV K vs ts).R H v) : (lstT K ts).R H v := let ⟨a, h1, h2, h3⟩ := h; ⟨a, vs, h1, h2, h3⟩
theorem all_drop {H : Hp} : ∀ {ts : List Th} {vs : List V} (n : Nat), All H ts vs → All H (ts.drop n) (vs.drop n)
  | _, _, 0, h => h
  | [], [], n + 1, _ => trivial
  | t :: ts, v :: vs, n + 1, h => all_drop n h.2
  | [], _ :: _, _ + 1, h => h.elim
  | _ :: _, [], _ + 1, h => h.elim
theorem all_take {H : Hp} : ∀ {ts : List Th} {vs : List V} (n : Nat), All H ts vs → All H (ts.take n) (vs.take n)
  | [], [], 0, _ => trivial
  | _ :: _, _ :: _, 0, _ => trivial
  | [], [], n + 1, _ => trivial
  | t :: ts, v :: vs, n + 1, h => ⟨h.1, all_take n h.2⟩
  | [], _ :: _, _, h => h.elim
  | _ :: _, [], _, h => h.elim
theorem cut_take (vs : List V) (n : Nat) : cutV vs none (some (n : Int)) = vs.take n := by
  unfold cutV
  rw [HT.sIx_none, HT.sIx_nat]
  simp only [List.drop_zero, Nat.sub_zero]
  rw [List.take_eq_take_iff]
  omega
theorem cut_drop (vs : List V) (n : Nat) : cutV vs (some (n : Int)) none = vs.drop n := by
  unfold cutV
  rw [HT.sIx_none, HT.sIx_nat]
  by_cases h : n ≤ vs.length
  · rw [Nat.min_eq_left h, List.take_of_length_le (by rw [List.length_drop]; omega)]
  · rw [Nat.min_eq_right (by omega), List.drop_of_length_le (Nat.le_refl _), List.drop_of_length_le (by omega), List.take_nil]
theorem op_neV {X : Cx} (hu : X.A.units + 64 < cLine) : OpR X (compareOp .NotEq) (fun x y H Q => ∃ a b vs, x = .ref a ∧ y = .ref b ∧ SqL X.K H a vs ∧ SqL X.K H b vs ∧ (∀ v ∈ vs, (∃ a, v = V.ref a) ∨ flatB v = true) ∧ Q (.bl false) H) := by
  intro pins s σ H x y v u Q I rx ry h
  obtain ⟨a, b, vs, rfl, rfl, ha, hb, hv, q⟩ := h
  obtain rfl : v = Value.ref a := rx
  obtain rfl : u = Value.ref b := ry
  obtain ⟨us, r1, p1, _⟩ := I.list ha
  obtain ⟨ws, r2, p2, _⟩ := I.list hb
  have hsz : us.toArray.size = ws.toArray.size := by rw [List.size_toArray, List.size_toArray, ← r1.length, ← r2.length]
  have same : ∀ (vs : List V) (us ws : List Value), (∀ v ∈ vs, (∃ a, v = V.ref a) ∨ flatB v = true) → Vals vs us → Vals vs ws → ∀ j (h1 : j < us.length) (h2 : j < ws.length), SeqAt.EqAt X.A.in1 s us[j] ws[j] true := by
    intro vs
    induction vs with
    | nil =>
      intro us ws _ r1 r2 j h1 h2
      cases r1
      exact absurd h1 (Nat.not_lt_zero j)
    | cons v vs ih =>
      intro us ws hv r1 r2 j h1 h2
      cases r1 with
      | cons c1 d1 =>
        cases r2 with
        | cons c2 d2 =>
          cases j with
          | zero =>
            rcases hv v List.mem_cons_self with ⟨a, rfl⟩ | f
            · cases c1
              cases c2
              exact SeqAt.EqAt.same _
            · exact eqAt_same c1 c2 f
          | succ j => exact ih _ _ (fun v m => hv v (List.mem_cons_of_mem _ m)) d1 d2 j (Nat.lt_of_succ_lt_succ h1) (Nat.lt_of_succ_lt_succ h2)
  refine SeqAt.RcNeAt.lists (e := fun _ => true) p1.isList p2.isList hsz (by omega) (fun j h1 h2 => ?_) X.prog X.w _ _ ?_
  · have k := same vs us ws hv r1 r2 j (by simpa using h1) (by simpa using h2)
    simpa using k
  · rw [show ((List.range us.toArray.size).all fun _ => true) = true from List.all_eq_true.mpr fun _ _ => rfl]
    exact ⟨.bl false, H, I, rfl, q⟩
section
variable {X : Cx} {Δ : List Sl} {e a b c o : Expr} {es : List Expr} {A B C : Th → Prop} {pos : Pos} {P : Post} {rest body els sts : List Stmt} {st : Stmt} {W : WX}
theorem ct_neV {vs : List V} {ts : List Th} {xs : List AD} (hu : X.A.units + 64 < cLine) (ht : ts = xs.map (anyT X.K)) : CmpT X .NotEq (lstV X.K vs ts) (lstV X.K vs ts) false :=
  ⟨_, op_neV hu, fun S H v w _ ⟨a, h1, h2, h3⟩ ⟨b, g1, g2, _⟩ Q q => ⟨a, b, vs, h1, g1, ex_l hide_le h2, ex_l hide_le g2, fun z hz => by
    obtain ⟨i, hi⟩ := List.mem_iff_getElem?.mp hz
    obtain ⟨t, ht', r⟩ := h3.get hi
    rw [ht, List.getElem?_map] at ht'
    obtain ⟨x, _, hx⟩ := Option.map_eq_some_iff.mp ht'
    rw [← hx] at r
    exact any_flat r, q H (Ex.refl H)⟩⟩
theorem PD.cast {t u : Th} (h : PD X Δ e t) (i : ∀ H v, t.R H v → u.R H v) : PD X Δ e u := PX.cast h fun t' ht => ⟨u, rfl, fun H v r => i H v (by rw [← ht]; exact r)⟩
theorem pd_isiA {p : Pos} {x : AD} {n : String} {k : Bool} (hm : X.mg "isinstance" = none) (ha : PD X Δ a (anyT X.K x)) (hb : PD X Δ b (tyT n)) (hk : kitB (tyA x) n = some k) (hg : Gl X "isinstance" := by rfl)
    (he1 : starEach [b] X.env = (false, eval b X.env) :: starEach [] X.env := by rfl) (he : starEach [a, b] X.env = (false, eval a X.env) :: starEach [b] X.env := by rfl) (hpl : (backTo pos (starEach [b] X.env)).any (·.1) = false := by rfl) :
    PD X Δ (.Call (.Name "isinstance" p) [a, b] [] pos) (dat X.K (.bool k)) :=
  px_blt call_isi hm (pl_cons ha (pl_cons hb pl_nil he1) he) (fun S H ts vs _ hB r Q q => by
    subst hB
    obtain ⟨v, w, rfl, r0, r2⟩ := all2 r
    have r' : w = .ty n := r2
    subst r'
    exact ⟨v, .ty n, _, _, k, rfl, .ty n, any_ty ((anyT X.K x).up _ _ _ hide_le r0), kit_ty hk, q _ _ H rfl (Ex.refl H) (Dp.bl k)⟩) (by decide +kernel) hg (by decide) (by decide) he hpl
theorem pd_isi2A {x1 x2 : Str} {n1 n2 : String} {p p1 p2 p3 : Pos} {kk : Nat} {x : AD} {k1 k2 : Bool} (hm : X.mg "isinstance" = none) (ha : PD X Δ a (anyT X.K x)) (m1 : X.mg x1 = none) (m2 : X.mg x2 = none) (hk1 : kitB (tyA x) n1 = some k1) (hk2 : kitB (tyA x) n2 = some k2)
    (hv1 : bootBuiltins x1 = some (.type n1) := by decide +kernel) (hv2 : bootBuiltins x2 = some (.type n2) := by decide +kernel) (hg : Gl X "isinstance" := by rfl) (g1 : Gl X x1 := by rfl) (g2 : Gl X x2 := by rfl) (hn1 : x1 ≠ "__name__" := by decide) (hn2 : x2 ≠ "__name__" := by decide)
    (hd1 : (x1 == ("__debug__" : Str)) = false := by decide) (hd2 : (x2 == ("__debug__" : Str)) = false := by decide)
    (hs1 : starEach [.Name x1 p1, .Name x2 p2] X.env = (false, eval (.Name x1 p1) X.env) :: starEach [.Name x2 p2] X.env := by rfl) (hs2 : starEach [.Name x2 p2] X.env = (false, eval (.Name x2 p2) X.env) :: starEach [] X.env := by rfl)
    (he1 : starEach [.Tuple [.Name x1 p1, .Name x2 p2] kk p3] X.env = (false, eval (.Tuple [.Name x1 p1, .Name x2 p2] kk p3) X.env) :: starEach [] X.env := by rfl)
    (he : starEach [a, .Tuple [.Name x1 p1, .Name x2 p2] kk p3] X.env = (false, eval a X.env) :: starEach [.Tuple [.Name x1 p1, .Name x2 p2] kk p3] X.env := by rfl) (hpl : (backTo pos (starEach [.Tuple [.Name x1 p1, .Name x2 p2] kk p3] X.env)).any (·.1) = false := by rfl) :
    PD X Δ (.Call (.Name "isinstance" p) [a, .Tuple [.Name x1 p1, .Name x2 p2] kk p3] [] pos) (dat X.K (.bool (k1 || k2))) := by
  obtain ⟨t, pa, fa⟩ := ha
  have tt : PA X [.Tuple [.Name x1 p1, .Name x2 p2] kk p3] _ := pa_cons (pe_tup (pa_cons (pe_bltn g1 m1 hv1 (show RelV (.ty n1) _ from rfl) hn1 hd1) (pa_cons (pe_bltn g2 m2 hv2 (show RelV (.ty n2) _ from rfl) hn2 hd2) pa_nil hs2) hs1)) pa_nil he1
  refine ⟨_, pe_callB call_isiT hg hm (by decide +kernel) (pa_cons pa tt he) (by decide) (by decide) he hpl, fun S0 M0 H0 σ H S hA Q q => ?_⟩
  refine fa S0 M0 H0 σ H S hA _ fun th v H1 hth e1 r => ?_
  subst hth
  refine ⟨by show 2 ≤ sizeLine; decide, fun tp htp => ?_⟩
  refine ⟨v, tp, [.ty n1, .ty n2], _, [.type n1, .type n2], k1 || k2, rfl, upd_same, .cons (.ty n1) (.cons (.ty n2) .nil), any_ty ((anyT X.K x).up _ _ _ (Ex.trans hide_le (Ex.new htp)) r), ?_, q _ _ _ rfl (e1.trans (Ex.new htp)) (Dp.bl _)⟩
  refine kitAny_cons (kit_ty hk1) (fun z => ?_) (fun z => by rw [z]; rfl)
  rw [z]
  exact kitAny_cons (kit_ty hk2) (fun z2 => by rw [z2]; exact kitAny_nil) (fun z2 => by rw [z2]; rfl)
theorem pd_dict0 : PD X Δ (.Dict [] [] pos) dicT := ⟨_, pe_dnewK, fun S0 M0 H0 σ H S hA Q q p hp => q _ _ _ rfl (Ex.new hp) ⟨p, [], rfl, by rw [hide_out (hA.dom.new hp)]; exact upd_same⟩⟩
theorem pd_dict1 {k i : Int} (ha : PD X Δ a (dat X.K (.int k))) (hb : PD X Δ b (dat X.K (.int i))) : PD X Δ (.Dict [some a] [b] pos) dicT := by
  obtain ⟨ta, pa, fa⟩ := ha
  obtain ⟨tb, pb, fb⟩ := hb
  refine ⟨_, pe_disp (pps_cons pa pb pps_nil) rfl rfl (by simp) (by simp), fun S0 M0 H0 σ H S hA Q q p hp => ?_⟩
  refine fa S0 M0 H0 σ _ S (hA.up (Ex.new hp)) _ fun th v H1 hth e1 r => ?_
  refine fb S0 M0 H0 σ H1 S ((hA.up (Ex.new hp)).up e1) _ fun th2 v2 H2 hth2 e2 r2 => ?_
  subst hth; subst hth2
  have e3 := dp_int r
  have e4 := dp_int r2
  subst e3; subst e4
  have hp2 : H2 p = some (.dK []) := e2 _ _ (e1 _ _ upd_same)
  refine ⟨hp2, [(Sum.inl k, .int i)], rfl, by simp, q _ _ _ rfl (fun x o h => ?_) ⟨p, _, rfl, by rw [hide_out (hA.dom.new hp)]; exact upd_same⟩⟩
  have ne := ne_of_none h hp
  rw [upd_ne ne]
  exact e2 _ _ (e1 _ _ (by rw [upd_ne ne]; exact h))
/-- the values of a list -/
theorem sd_vals (i : Nat) {ts : List Th} (h : Δ[i]? = some (.th (lstT X.K ts))) (k : ∀ vs, SD X W sts P (Δ.set i (.th (lstV X.K vs ts)))) : SD X W sts P Δ := by
  refine ⟨fun D σ H => ∃ u, PSs X sts u ∧ u D σ H, ⟨fun pins s σ H D I ⟨u, pu, hu⟩ => pu.run pins s σ H D I hu⟩, fun S0 M0 H0 σ H S hA D le xw => ?_⟩
  obtain ⟨o, e1, v, e2, a, vs, e3, r1, r2⟩ := hA.env.get h
  obtain ⟨u, pu, fu⟩ := k vs
  refine ⟨u, pu, fu S0 M0 H0 σ H S ?_ D le xw⟩
  have q := hA.set (i := i) (t := lstV X.K vs ts) (v := v) ⟨a, e3, r1, r2⟩
  have e4 : σ.set i (some v) = σ := by
    rw [← e2]
    obtain ⟨h1, h2⟩ := List.getElem?_eq_some_iff.mp e1
    rw [← h2, List.set_getElem_self]
  rw [e4] at q
  exact q
theorem pd_listV {p : Pos} {vs : List V} {ts : List Th} (hm : X.mg "list" = none) (ha : PD X Δ a (lstV X.K vs ts)) (hg : Gl X "list" := by rfl) (na : starEach [a] X.env = (false, eval a X.env) :: starEach [] X.env := by rfl) (hpl : (backTo pos (starEach [] X.env)).any (·.1) = false := by rfl) :
    PD X Δ (.Call (.Name "list" p) [a] [] pos) (lstV X.K vs ts) :=
  px_bltT call_list_of hm (pl_cons ha pl_nil na) (fun S H us ws dom hB r Q q => by
    subst hB
    obtain ⟨v, rfl, p, rfl, hq, hd⟩ := all1 r
    exact ⟨p, vs, rfl, Or.inl (ex_l hide_le hq), fun l hl => q _ _ _ rfl (Ex.new hl) ⟨l, rfl, SqL.of (by rw [hide_out (dom.new hl)]; exact upd_same), hd.up (hide_ex (Ex.new hl))⟩⟩) (by decide +kernel) hg (by decide) (by decide) na hpl
theorem pd_tupleT {p : Pos} {ts : List Th} (hm : X.mg "tuple" = none) (ha : PD X Δ a (lstT X.K ts)) (hg : Gl X "tuple" := by rfl) (na : starEach [a] X.env = (false, eval a X.env) :: starEach [] X.env := by rfl) (hpl : (backTo pos (starEach [] X.env)).any (·.1) = false := by rfl) :
    PD X Δ (.Call (.Name "tuple" p) [a] [] pos) (tupT X.K ts) :=
  px_bltT call_tuple_of hm (pl_cons ha pl_nil na) (fun S H us ws dom hB r Q q => by
    subst hB
    obtain ⟨v, rfl, p, vs, rfl, hq, hd⟩ := all1 r
    exact ⟨p, vs, rfl, Or.inl ⟨ex_l hide_le hq, fun l hl => q _ _ _ rfl (Ex.new hl) ⟨l, vs, rfl, SqT.of (by rw [hide_out (dom.new hl)]; exact upd_same), hd.up (hide_ex (Ex.new hl))⟩⟩⟩) (by decide +kernel) hg (by decide) (by decide) na hpl
theorem px_ixTX {ts : List Th} {Pi : Int → Prop} (ha : PD X Δ a (lstT X.K ts)) (hb : PX X Δ b (isI X.K Pi)) (h : ∀ i, Pi i → ∃ (j : Nat) (t : Th), i = (j : Int) ∧ ts[j]? = some t ∧ C t) (hs : PlainIx b := by exact fun _ _ => rfl) : PX X Δ (.Subscript a b pos) C :=
  px_two (r := fun x y H Q => rIxL X.K x y H Q ∨ rIxT X.K x y H Q) (fun _ _ pa pb => pe_ix (ix_list.or ix_tup) pa pb hs) ha hb fun S H x y v w _ hx ⟨k, hy, hk⟩ rx ry Q q => by
    subst hx; subst hy
    have e2 := dp_int ry
    subst e2
    obtain ⟨p, xs, rfl, hq, hd⟩ := rx
    obtain ⟨j, t, ej, ht, hc⟩ := h k hk
    obtain ⟨u, e1, r⟩ := hd.get' ht
    exact Or.inl ⟨p, xs, k, u, rfl, rfl, ex_l hide_le hq, by rw [ej]; exact atI_nat e1, q _ u H hc (Ex.refl H) r⟩
theorem pd_takeT {ts : List Th} {hi : Option Expr} {n : Nat} {p2 : Pos} (he : PD X Δ e (lstT X.K ts)) (hu : PBd X Δ hi (some (n : Int))) : PD X Δ (.Subscript e (.Slice none hi none p2) pos) (lstT X.K (ts.take n)) := by
  obtain ⟨te, pe, fe⟩ := he
  obtain ⟨tu, pu, fu⟩ := hu
  refine ⟨_, pe_slice sl_list pe po_none pu, fun S0 M0 H0 σ H S hA Q q => ?_⟩
  refine fe S0 M0 H0 σ H S hA _ fun th v H1 hth e1 r => fu S0 M0 H0 σ H1 S (hA.up e1) _ fun H3 e3 => ?_
  subst hth
  obtain ⟨a, xs, rfl, hq, hd⟩ := r
  refine ⟨a, xs, rfl, ex_l (hide_le.trans e3) hq, fun p hp => q _ _ _ rfl ((e1.trans e3).trans (Ex.new hp)) ⟨p, cutV xs none (some (n : Int)), rfl, SqL.of ?_, ?_⟩⟩
  · rw [hide_out (((hA.up e1).up e3).dom.new hp)]
    exact upd_same
  · rw [cut_take]
    exact (all_take n hd).up (hide_ex (e3.trans (Ex.new hp)))
theorem pd_dropT {ts : List Th} {lo : Option Expr} {n : Nat} {p2 : Pos} (he : PD X Δ e (lstT X.K ts)) (hu : PBd X Δ lo (some (n : Int))) : PD X Δ (.Subscript e (.Slice lo none none p2) pos) (lstT X.K (ts.drop n)) := by
  obtain ⟨te, pe, fe⟩ := he
  obtain ⟨tu, pu, fu⟩ := hu
  refine ⟨_, pe_slice sl_list pe pu po_none, fun S0 M0 H0 σ H S hA Q q => ?_⟩
  refine fe S0 M0 H0 σ H S hA _ fun th v H1 hth e1 r => fu S0 M0 H0 σ H1 S (hA.up e1) _ fun H3 e3 => ?_
  subst hth
  obtain ⟨a, xs, rfl, hq, hd⟩ := r
  refine ⟨a, xs, rfl, ex_l (hide_le.trans e3) hq, fun p hp => q _ _ _ rfl ((e1.trans e3).trans (Ex.new hp)) ⟨p, cutV xs (some (n : Int)) none, rfl, SqL.of ?_, ?_⟩⟩
  · rw [hide_out (((hA.up e1).up e3).dom.new hp)]
    exact upd_same
  · rw [cut_drop]
    exact (all_drop n hd).up (hide_ex (e3.trans (Ex.new hp)))
end
end DL
set_option Elab.async false
set_option linter.all false
set_option maxRecDepth 100000
/-! Comprehensions that give things; loops over tuples of things that are not known. -/
namespace DL
open PySem PySem.Spec PyProof.Rows L2
def LcT (Bw : Nat → Th → Prop) (S : List Addr) (H1 : Hp) (D : Addr) (i : Nat) (H' : Hp) : Prop :=
  Ex H1 H' ∧ ∃ acc us, H' D = some (.lst acc) ∧ All (hide (D :: S) H') us acc ∧ us.length = i ∧ ∀ j t, us[j]? = some t → Bw j t
theorem lcT_more {Bw : Nat → Th → Prop} {S : List Addr} {H1 H' H4 : Hp} {D : Addr} {i : Nat} {t : Th} {y : V} (hD : H1 D = none) (hi : i < 50000) (p : LcT Bw S H1 D i H') (e4 : Ex H' H4) (r : t.R (hide (D :: S) H4) y) (bw : Bw i t) :
    ∃ acc, H4 D = some (.lst acc) ∧ acc.length < sizeLine ∧ LcT Bw S H1 D (i + 1) (upd H4 D (.lst (acc ++ [y]))) := by
  obtain ⟨e1, acc, us, h1, h2, h3, h4⟩ := p
  have hlen := h2.len
  refine ⟨acc, e4 D _ h1, Nat.lt_of_lt_of_le (by omega) (by decide : 100000 ≤ sizeLine), fun a o h => ?_, acc ++ [y], us ++ [t], upd_same, ?_, by rw [List.length_append, h3, List.length_singleton], fun k w' hk => ?_⟩
  · rw [upd_ne (ne_of_none h hD)]
    exact e4 a o (e1 a o h)
  · rw [hide_upd (List.mem_cons_self)]
    exact (h2.up (hide_ex e4)).app ⟨r, trivial⟩
  · rw [List.getElem?_append] at hk
    split at hk
    · exact h4 k w' hk
    · have hk0 : k - us.length = 0 := by
        by_cases q : k - us.length = 0
        · exact q
        · rw [List.getElem?_eq_none (by simp; omega)] at hk
          cases hk
      rw [hk0] at hk
      have e5 : t = w' := Option.some.inj hk
      have e6 : k = i := by omega
      rw [← e5, e6]
      exact bw
section
variable {X : Cx} {Δ : List Sl} {e a b c o : Expr} {es : List Expr} {A B C : Th → Prop} {pos : Pos} {P : Post} {rest body els sts : List Stmt} {st : Stmt} {W : WX}
/-- y = [elt for tg in it], the elements things -/
theorem sd_lcT {tg it elt : Expr} {scope : Scope} {own : List (Str × Nat)} {ts : List Th} {Z : Th → (List Sl → List Sl) → Prop} (Bw : Nat → Th → Prop) (hi : PIt X Δ tg it ts) (hz : ts.length ≤ 40000) (hg : PTb X scope tg (own.map (·.2)) Z)
    (ht : ∀ (i : Nat) z, ts[i]? = some z → ∃ u, Z z u ∧ ∀ (s : Shared) (H : Hp) (C : Addr) (cl : List (Str × Addr)) (fp : List Addr), PX (X.blk s H scope (compEnvC scope cl C X.env) fp) (u (wipeΔ Δ (own.map (·.2)))) elt (fun t => Bw i t))
    (i0 : Nat) {y : Str} {py spos : Pos} (k0 : ∀ us : List Th, us.length = ts.length → (∀ i t, us[i]? = some t → Bw i t) → SD X W rest P (Δ.set i0 (.th (lstT X.K us))))
    (hN : X.N.Nodup) (ok : BlkOk X.N X.env.scope scope own) (hy : X.N[i0]? = some y := by rfl) (hyl : X.env.scope.names.lookup y = some .local := by rfl) (hsw : swapsWith (.ListComp elt [⟨tg, it, [], 0⟩] scope pos) (some (.Name y py)) spos.line X.env = pure true := by exact sw_true rfl rfl rfl (by decide +kernel))
    (hc : X.calm = true := by rfl) (hs : ∀ x, foldedSetIterable it X.env x = pure x := by intro _; rfl) :
    SD X W (.Assign [.Name y py] (.ListComp elt [⟨tg, it, [], 0⟩] scope pos) spos :: rest) P Δ := by
  refine sd_cons ?_
  obtain ⟨ti, pi, f⟩ := hi
  obtain ⟨g, pg, fg⟩ := hg
  have q : ∀ (s : Shared) (H : Hp) (C : Addr) (cl : List (Str × Addr)) (fp : List Addr), PE (X.blk s H scope (compEnvC scope cl C X.env) fp) elt (teU X scope elt) := fun s H C cl fp => ⟨fun pins s' σ H' Q I h => by
    obtain ⟨t, pt, ht⟩ := h s H C cl fp
    exact pt.run pins s' σ H' Q I ht⟩
  refine ⟨_, ps_setLc (own := own) (g := g) (tt := tYes) hc hN hy hyl hsw pi ok pg (fun _ _ _ _ _ => pts_nil) q hs, fun S0 M0 H0 σ H S hA D0 le xw => ?_⟩
  refine f S0 M0 H0 σ H S hA _ fun J H1 G Y e1 wk gm g0 hy => ?_
  have hA1 := hA.up e1
  intro D hD
  refine lc_it wk (g := g) (tt := tYes) (te := teU X scope elt) (vs := own.map (·.2)) (LcT Bw S H1 D) ⟨Ex.new hD, [], [], upd_same, trivial, rfl, fun j w h => by simp at h⟩ (fun i H' _ p => ?_) (fun i x H' H'' hlt p y => ?_) fun H' p => ?_
  · refine gm _ _ ?_ g0
    exact fun a o h => p.1 a o (by
      have n0 : a ∉ S := fun z => by rw [hide_in z] at h; cases h
      rw [hide_out n0] at h
      exact h)
  · have hD' : H' D ≠ none := by
      obtain ⟨_, acc, es, h1, _⟩ := p
      rw [h1]; exact fun z => nomatch z
    have hA2 := hA1.newD hD p.1 hD'
    have hid : Ex (hide S H1) (hide (D :: S) H') := fun a o h => by
      have n0 : a ∉ S := fun z => by rw [hide_in z] at h; cases h
      have h' : H1 a = some o := by rw [hide_out n0] at h; exact h
      have ne : a ≠ D := ne_of_none h' hD
      rw [hide_out (by simp [ne, n0])]
      exact p.1 a o h'
    obtain ⟨e2, t, ht', r⟩ := hy i H' x H'' (D :: S) y hA2.dom hid
    obtain ⟨u, hu, hel⟩ := ht i t ht'
    have p2 : LcT Bw S H1 D i H'' := by
      obtain ⟨q1, acc, es, h1, h2, h3, h4⟩ := p
      exact ⟨q1.trans e2, acc, es, e2 _ _ h1, h2.up (hide_ex e2), h3, h4⟩
    refine fg t u hu S (mls Δ σ) H1 (wipeΔ Δ (own.map (·.2))) (L2.wipe σ (own.map (·.2))) H'' (D :: S) x ((hA2.up e2).wipe _) r _ fun σ' hA' hw => ?_
    refine ⟨by rw [hw, wipe_wipe], ?_⟩
    unfold tYes
    simp only [if_true]
    intro s H0' C cl fp
    obtain ⟨t', pt, ft⟩ := hel s H0' C cl fp
    exact ⟨t', pt, ft S (mls Δ σ) H1 σ' H'' (D :: S) hA' _ fun th y H4 bw e4 r' => lcT_more hD (by omega) p2 e4 r' bw⟩
  · obtain ⟨e2, acc, us, h1, h2, h3, h4⟩ := p
    have hDn : D ∉ S := hA1.dom.new hD
    refine le.nx _ _ ⟨_, S, k0 us h3 h4, (hA1.up e2).set (v := V.ref D) ⟨D, acc, rfl, SqL.of (by rw [hide_out hDn]; exact h1), h2.up (hide_sub fun a h => List.mem_cons_of_mem _ h)⟩⟩
/-- a tuple of things that are not known -/
theorem px_tupTX {Bt : List Th → Prop} {x1} (h : PL X Δ es Bt) (hl : ∀ ts, Bt ts → ts.length ≤ 100000) : PX X Δ (.Tuple es x1 pos) (fun t => ∃ ts, t = tupT X.K ts ∧ Bt ts) := by
  obtain ⟨t, p, f⟩ := h
  refine ⟨_, pe_tup p, fun S0 M0 H0 σ H S hA Q q => f S0 M0 H0 σ H S hA _ fun ths vs H2 ht e2 r => ?_⟩
  refine ⟨sz_of (by rw [← r.len]; exact hl _ ht), fun p hp => q _ _ _ ⟨ths, rfl, ht⟩ (e2.trans (Ex.new hp)) ⟨p, vs, rfl, SqT.of ?_, r.up (hide_ex (Ex.new hp))⟩⟩
  rw [hide_out (((hA.up e2).dom).new hp)]
  exact upd_same
/-- for x in e, e a tuple of things that is not known -/
theorem sd_forTX {x : Str} {px : Pos} (j : Nat) {Ad : List Th → Prop} (I : List Th → Nat → List Sl → Prop) (he : PX X Δ e (fun t => ∃ ts, t = tupT X.K ts ∧ Ad ts)) (h0 : ∀ ts, Ad ts → I ts 0 Δ)
    (step : ∀ ts (i : Nat) z Δ', Ad ts → ts[i]? = some z → I ts i Δ' → SD X W body { P with nx := I ts (i + 1), ct := I ts (i + 1), bk := fun Δ2 => SD X W rest P Δ2, top := false } (Δ'.set j (.th z)))
    (hd : ∀ ts Δ', Ad ts → I ts ts.length Δ' → SD X W rest P Δ') (hN : X.N.Nodup) (hc : X.calm = true := by rfl) (hi : X.N[j]? = some x := by rfl) (hx : Loc X.env.scope x := by first | exact Or.inl rfl | exact Or.inr rfl)
    (hf : X.fn x = true ∨ X.env.scope.names.lookup x = some .local := by first | exact .inl rfl | exact .inr rfl)
    (hp : PassesOwn (model X.prog X.w) X.A X.env X.xe := by exact PassesOwn.never) (hfs : ∀ x, foldedSetIterable e X.env x = pure x := by intro _; rfl) : SD X W (.For (.Name x px) e body [] pos :: rest) P Δ := by
  refine sd_cons ?_
  obtain ⟨t, pe, f⟩ := he
  have qb : PSs X body (fun D σ H => ∃ t, PSs X body t ∧ t D σ H) := ⟨fun pins s σ H D J ⟨t, p, h⟩ => p.run pins s σ H D J h⟩
  refine ⟨_, ps_for hp hc (pi_tup pe) (pg_name hN hi hx hf) qb hfs, fun S0 M0 H0 σ H S hA D le xw => ?_⟩
  refine f S0 M0 H0 σ H S hA _ fun th v H1 ht e1 r => ?_
  obtain ⟨ts, rfl, had⟩ := ht
  obtain ⟨p, xs, rfl, hq, hxs⟩ := r
  have hA1 := hA.up e1
  refine ⟨p, rfl, ⟨xs, ex_t hide_le hq⟩, for_tup (K := X.K) (a := p) (xs := xs) (g := gName j) (tb := fun D σ H => ∃ t, PSs X body t ∧ t D σ H) (fun i σ' H' => ∃ Δ' S', I ts i Δ' ∧ At S (mls Δ σ) H1 Δ' σ' H' S') ⟨Δ, S, h0 ts had, hA1.here⟩ (fun i σ' H' _ ⟨Δ', S', _, hA'⟩ => ex_t hide_le (ex_t hA'.hid hq)) (fun i v σ' H' hv ⟨Δ', S', i', hA'⟩ => ?_) (fun σ' H' ⟨Δ', S', i', hA'⟩ => le.nx _ _ ⟨Δ', S', hd ts Δ' had (by rw [hxs.len]; exact i'), hA1.lift hA1.mown hA'⟩)⟩
  obtain ⟨z, hz, r⟩ := hxs.get hv
  obtain ⟨u, pu, fu⟩ := step ts i z Δ' had hz i'
  have le' := ends_lift hA1 hA1.mown le
  exact ⟨u, pu, fu S (mls Δ σ) H1 _ H' S' (hA'.set (t := z) (z.up _ _ _ hA'.hid r)) _ ⟨fun _ _ q => q, le'.rt, le'.nx, fun _ _ q => q⟩ (xw_lift hA1 hA1.mown xw (fun _ _ _ z => z) rfl)⟩
end
end DL
set_option Elab.async false
set_option linter.all false
set_option maxRecDepth 100000
/-! Two except clauses; a text's letter; a repeated list. -/
namespace DL
open PySem PySem.Spec PyProof.Rows L2
/-- what 'except x0 ..: .. except x as n' wishes of an exception that only the second one takes -/
def wAs2 (K : PySem.W.Frag) (c0 c : Value) (i : Nat) (ts : Addr → Value → Option Addr → TS) (D : Ends) : WX := fun cls d σ H =>
  PySem.W.exmOne K cls c0 = some false ∧ PySem.W.exmOne K cls c = some true ∧ ∀ a, H a = none → ts a cls d { nx := fun σ' H' => D.nx (σ'.set i none) H', rt := D.rt, bk := fun σ' H' => D.bk (σ'.set i none) H', ct := fun σ' H' => D.ct (σ'.set i none) H' } (σ.set i (some (.ref a))) H
theorem ps_try_as2 {X : Cx} {x0 x n : Str} {c0 c : Value} {i : Nat} {body suite suite0 : List Stmt} {b₀ : Stmt} {nm0 : Option Str} {np0 pos0 np pos pos' : Pos} {tb : WX → TS} {ts : Addr → Value → Option Addr → TS} (hs : X.stack = X.env :: X.outer) (hf : X.env.frame = some X.env.locals) (hN : X.N.Nodup) (hi : X.N[i]? = some n) (hln : X.env.kindOf n = some .local) (hc0 : Names X x0 c0) (hc : Names X x c)
    (hb : ∀ (W : WX) (pn : List (Addr × Obj)) (xe : Value → Shared → Prop), Takes (X.tr pn xe) W → PassesOwn (model X.prog X.w) X.A X.env xe → PSs (X.tr pn xe) body (tb W))
    (hsu : ∀ (a : Addr) (oe : Obj) (cls : Value) (d : Option Addr) (pn : List (Addr × Obj)), Zc cls d oe → (∃ vs, oe.data = .fields vs) → PSs (X.suite a ((a, oe) :: pn)) (b₀ :: suite) (ts a cls d)) :
    PS X (.Try body [.ExceptHandler (some (.Name x0 np0)) nm0 suite0 pos0, .ExceptHandler (some (.Name x np)) (some n) (b₀ :: suite) pos'] [] [] pos) (fun D σ H => tb (wAs2 X.K c0 c i ts D) D σ H) := by
  refine ⟨fun pins s σ H D I h => ?_⟩
  have ok := I.ok
  have hfr : X.A.frames = some (X.env :: X.outer) := by rw [ok.frames, hs]
  have hloc : Loc X.env.scope n := .inl hln
  refine wpAny_Try_except ?_
  refine wpAny_mono ((hb (wAs2 X.K c0 c i ts D) (X.pn ++ pins) (fun e s₁ => wpAny (model X.prog X.w) X.A (noteFrame e X.env) (fun _ s₂ => wpAny (model X.prog X.w) X.A (setFlight e none) (fun _ s₃ =>
    wpAny (model X.prog X.w) X.A (handleBy e X.env [.ExceptHandler (some (.Name x0 np0)) nm0 suite0 pos0, .ExceptHandler (some (.Name x np)) (some n) (b₀ :: suite) pos']) (SP X pins D) X.xe s₃) X.xe s₂) X.xe s₁) (fun u s' xx => ?_) PassesOwn.looking).run [] s σ H D (I.toTry _) h) (fun f s1 hsp => ?_) (fun e s1 he => he)
  · obtain ⟨a, B, sI, pins', σ', H', cls, d, rfl, J', nb, up, sky, na, os, ag, hb0, hb1, hyes⟩ := xx
    have J : Inv X pins σ' H' sI := J'.ofTry ok
    have sky' : Sky B (X.env :: X.outer) a (Zc cls d) X.env.locals s'.heap := by rw [← hs]; exact sky
    show wpAny (model X.prog X.w) X.A (noteFrame (.ref a) X.env) _ _ _
    refine Sky.land Zc.steady hfr hf sky' fun h3 fl3 up3 => ?_
    have J3 : Inv X pins σ' H' { s' with heap := h3 } := J.landed nb fl3.1 (up.trans up3) os ag
    obtain ⟨oe3, vs3, he3, hz3, hd3⟩ := fl3.there
    have notFr : ∀ {h : Heap} {o : Obj} {vs : Array Value}, h.FunFrames B (X.env :: X.outer) → h.get? a = some o → o.data = .fields vs → a ∉ frs (X.env :: X.outer) := fun {h o vs} ff e dd hm => by
      obtain ⟨_, o', e', hnf⟩ := ff.mem hm
      rw [e] at e'; cases e'
      exact hnf _ dd
    have nfr := notFr fl3.2.2.1 he3 hd3
    have nL : a ≠ X.env.locals := fun z => nfr (List.mem_filterMap.mpr ⟨X.env, List.mem_cons_self, by rw [hf, z]⟩)
    have nF : a ∉ X.fs := fun hm => by
      obtain ⟨e, he, q⟩ := List.mem_filterMap.mp hm
      exact nfr (List.mem_filterMap.mpr ⟨e, List.mem_cons_of_mem _ he, q⟩)
    have S3 := J3.suite he3 hd3 na nL nF
    have LT : PySem.W.Looks (model X.prog X.w) h3 (typeOf (.ref a)) cls := fun A Q E s k q => wpAny_typeOf_ref (k _ _ he3) (by rw [hz3.1]; exact q)
    have test : ∀ {y : Str} {yp : Pos} {u : Value} {Q : Value → Shared → Prop} {E : Value → Shared → Prop}, Names X y u → Q u { s' with heap := h3 } → wpAny (model X.prog X.w) (X.A.mark (some (.ref a))) (eval (.Name y yp) X.env) Q E { s' with heap := h3 } := fun {y yp u Q E} hc q => by
      obtain ⟨hg, hdbg, hm | ⟨hm, hv, hnn⟩⟩ := hc
      · exact ld_glob (X := X.suite a ((a, oe3) :: (X.pn ++ pins))) S3 hg hm q hdbg
      · exact ld_blt (X := X.suite a ((a, oe3) :: (X.pn ++ pins))) S3 hg hm hv q hnn hdbg
    refine wpAny_handleBy_cons (codeAny_handlers_test ?_) (by intro q; cases q)
    refine test hc0 ((PySem.W.exm_one (M := model X.prog X.w) (J3.kIn) LT hb0).here ?_)
    show wpAny _ X.A (handleBy (.ref a) X.env [.ExceptHandler (some (.Name x np)) (some n) (b₀ :: suite) pos']) _ _ _
    refine wpAny_handleBy_cons (codeAny_handlers_test ?_) (by intro q; cases q)
    refine test hc ((PySem.W.exm_one (M := model X.prog X.w) (J3.kIn) LT hb1).here ?_)
    refine codeAny_handlers_suite_as ?_
    refine HandSPX.lands_againZ fl3 fun h4 fl4 up4 => ?_
    have J4 : Inv X pins σ' H' { s' with heap := h4 } := J.landed nb fl4.1 ((up.trans up3).trans up4) os ag
    obtain ⟨oe4, vs4, he4, hz4, hd4⟩ := fl4.there
    have S4 := J4.suite he4 hd4 na nL nF
    refine store_ok (X := X.suite a ((a, oe4) :: (X.pn ++ pins))) (v := .ref a) S4 hN hi hloc rfl (fun s5 S5 => ?_) (.inr hln)
    refine wpAny_mono ((hsu a oe4 cls d (X.pn ++ pins) hz4 ⟨_, hd4⟩).run [] s5 _ H' _ S5 (hyes a na)) (fun f s6 hsp => ?_) (fun _ _ z => False.elim z)
    have end_ : ∀ {σ6 : L2.St} {H6 : Hp} {Q : Shared → Prop}, Inv (X.suite a ((a, oe4) :: (X.pn ++ pins))) [] σ6 H6 s6 → (∀ s7, Inv X pins (σ6.set i none) H6 s7 → Q s7) →
        wpAny (model X.prog X.w) X.A (do bindName X.env n .none; unbindBehindTheSuite X.env n pos') (fun _ s7 => Q s7) X.xe s6 := fun {σ6 H6 Q} S6 hq => gone_ok (S6.unsuite ok) hN hi hln hq
    cases f with
    | next =>
      obtain ⟨σ6, H6, S6, q6⟩ := hsp
      exact end_ S6 fun s7 J7 => ⟨_, _, J7, q6⟩
    | brk =>
      obtain ⟨σ6, H6, S6, q6⟩ := hsp
      exact end_ S6 fun s7 J7 => ⟨_, _, J7, q6⟩
    | cont =>
      obtain ⟨σ6, H6, S6, q6⟩ := hsp
      exact end_ S6 fun s7 J7 => ⟨_, _, J7, q6⟩
    | ret u =>
      obtain ⟨v6, σ6, H6, S6, r6, q6⟩ := hsp
      exact end_ S6 fun s7 J7 => ⟨_, _, _, J7, r6, q6⟩
  · cases f with
    | next =>
      obtain ⟨σ', H', J', q⟩ := hsp
      exact wpAny_execs_nil ⟨σ', H', J'.ofTry ok, q⟩
    | brk =>
      obtain ⟨σ', H', J', q⟩ := hsp
      exact ⟨σ', H', J'.ofTry ok, q⟩
    | cont =>
      obtain ⟨σ', H', J', q⟩ := hsp
      exact ⟨σ', H', J'.ofTry ok, q⟩
    | ret u =>
      obtain ⟨v, σ', H', J', r, q⟩ := hsp
      exact ⟨v, σ', H', J'.ofTry ok, r, q⟩
section
variable {X : Cx} {Δ : List Sl} {e a b c : Expr} {es : List Expr} {A B C : Th → Prop} {pos : Pos} {P : Post} {rest body els : List Stmt} {st : Stmt} {W : WX}
/-- try: body except x0 ..: .. except x as n: suite -/
theorem sd_tryF2 (i : Nat) {x0 x n : Str} {c0 cv : Value} {b0 : Stmt} {suite suite0 : List Stmt} {nm0 : Option Str} {np0 pos0 np pos' : Pos} {Wout : WX} (XC : Addr → List (Str × Th) → List Sl → Prop) (hN : X.N.Nodup) (hi : X.N[i]? = some n) (hln : X.env.kindOf n = some .local) (hc0 : Names X x0 c0) (hc : Names X x cv)
    (hb : ∀ (W : WX) (pn : List (Addr × Obj)) (xe : Value → Shared → Prop), Takes (X.tr pn xe) W → PassesOwn (model X.prog X.w) X.A X.env xe → SD (X.tr pn xe) W body { P with nx := fun Δ' => SD X Wout rest P Δ', xc := XC } Δ)
    (hcls : ∀ C fs Δ', XC C fs Δ' → PySem.W.exmOne X.K (.ref C) c0 = some false ∧ PySem.W.exmOne X.K (.ref C) cv = some true)
    (hsu : ∀ C fs Δ', XC C fs Δ' → ∀ (a : Addr) (oe : Obj) (d : Option Addr) (pn : List (Addr × Obj)), Zc (.ref C) d oe → (∃ vs, oe.data = .fields vs) → (fs = [] → d = none) →
      SD (X.suite a ((a, oe) :: pn)) (fun _ _ _ _ => False) (b0 :: suite) { nx := fun Δ2 => SD X Wout rest P (Δ2.set i .no), rt := P.rt, bk := fun Δ2 => P.bk (Δ2.set i .no), ct := fun Δ2 => P.ct (Δ2.set i .no) } (Δ'.set i (.th (excT a d fs))))
    (hsl : ∀ C fs Δ', XC C fs Δ' → ∀ ts, Δ'[i]? ≠ some (.ml ts))
    (hs : X.stack = X.env :: X.outer := by rfl) (hf : X.env.frame = some X.env.locals := by rfl) :
    SD X Wout (.Try body [.ExceptHandler (some (.Name x0 np0)) nm0 suite0 pos0, .ExceptHandler (some (.Name x np)) (some n) (b0 :: suite) pos'] [] [] pos :: rest) P Δ := by
  refine sd_cons ?_
  have pb : ∀ (W : WX) (pn : List (Addr × Obj)) (xe : Value → Shared → Prop), Takes (X.tr pn xe) W → PassesOwn (model X.prog X.w) X.A X.env xe → PSs (X.tr pn xe) body (fun D σ H => ∀ (pn : List (Addr × Obj)) (xe : Value → Shared → Prop), Takes (X.tr pn xe) W → PassesOwn (model X.prog X.w) X.A X.env xe → ∃ t, PSs (X.tr pn xe) body t ∧ t D σ H) :=
    fun W pn xe tk hp => ⟨fun pins s σ H D I h => by
      obtain ⟨t, p, ht⟩ := h pn xe tk hp
      exact p.run pins s σ H D I ht⟩
  have ps : ∀ (a : Addr) (oe : Obj) (cls : Value) (d : Option Addr) (pn : List (Addr × Obj)), Zc cls d oe → (∃ vs, oe.data = .fields vs) → PSs (X.suite a ((a, oe) :: pn)) (b0 :: suite) (fun D σ H => ∀ (oe : Obj) (pn : List (Addr × Obj)), Zc cls d oe → (∃ vs, oe.data = .fields vs) → ∃ t, PSs (X.suite a ((a, oe) :: pn)) (b0 :: suite) t ∧ t D σ H) :=
    fun a oe cls d pn hz hfl => ⟨fun pins s σ H D I h => by
      obtain ⟨t, p, ht⟩ := h oe pn hz hfl
      exact p.run pins s σ H D I ht⟩
  refine ⟨_, ps_try_as2 (ts := fun a cls d => fun D σ H => ∀ (oe : Obj) (pn : List (Addr × Obj)), Zc cls d oe → (∃ vs, oe.data = .fields vs) → ∃ t, PSs (X.suite a ((a, oe) :: pn)) (b0 :: suite) t ∧ t D σ H) hs hf hN hi hln hc0 hc pb ps, fun S0 M0 H0 σ H S hA D le xw => ?_⟩
  intro pn xe tk2 hp2
  obtain ⟨t, p, f⟩ := hb _ pn xe tk2 hp2
  refine ⟨t, p, f S0 M0 H0 σ H S hA D ⟨le.nx, le.rt, le.bk, le.ct⟩ ⟨fun σ1 H1 C fs d Δ1 S1 hxc hA1 r nd => ?_, xw.2⟩⟩
  refine ⟨(hcls C fs Δ1 hxc).1, (hcls C fs Δ1 hxc).2, fun a na oe pn hz hfl => ?_⟩
  have hd0 : fs = [] → d = none := fun z => by
    rcases r with ⟨_, r⟩ | ⟨ne, _⟩
    · exact r
    · exact absurd z ne
  obtain ⟨u, pu, fu⟩ := hsu C fs Δ1 hxc a oe d pn hz hfl hd0
  refine ⟨u, pu, fu S0 M0 H0 _ H1 S1 (hA1.setS (s := .th (excT a d fs)) rfl ⟨.ref a, rfl, rfl, r⟩) _ ⟨fun σ2 H2 ⟨Δ2, S2, n2, hA2⟩ => le.nx _ _ ⟨_, S2, n2, hA2.setS (s := .no) rfl trivial⟩, le.rt, fun σ2 H2 ⟨Δ2, S2, n2, hA2⟩ => le.bk _ _ ⟨_, S2, n2, hA2.setS (s := .no) rfl trivial⟩, fun σ2 H2 ⟨Δ2, S2, n2, hA2⟩ => le.ct _ _ ⟨_, S2, n2, hA2.setS (s := .no) rfl trivial⟩⟩ ⟨fun _ _ _ _ _ _ _ p => p.elim, fun z => nomatch z⟩⟩
/-- raise X(e, e') with an __init__ of its own -/
theorem sd_raise2 {x g g' : Str} {Cc : Addr} {p p2 : Pos} {e' : Expr} {t t' : Th} (F : ExF2 X.prog X.w X.K X.mg X.base x Cc g g') (hr : Room 2 X.A) (he : PD X Δ e t) (he' : PD X Δ e' t') (tk : Takes X W) (k : P.xc Cc [(g', t'), (g, t)] Δ) (hg : Gl X x := by rfl) (hc : X.calm = true := by rfl) (hdb : (x == ("__debug__" : Str)) = false := by decide)
    (hs1 : starEach [e'] X.env = (false, eval e' X.env) :: starEach [] X.env := by rfl) (hs : starEach [e, e'] X.env = (false, eval e X.env) :: starEach [e'] X.env := by rfl) (hpl : (backTo p2 (starEach [e'] X.env)).any (·.1) = false := by rfl) :
    SD X W (.Raise (some (.Call (.Name x p) [e, e'] [] p2)) none pos :: rest) P Δ := by
  obtain ⟨fI, fd, ps, h1, h2, hb, Fk⟩ := F.ini
  obtain ⟨ta, pa, fa⟩ := pl_cons he (pl_cons he' pl_nil hs1) hs
  refine sd_cons ⟨_, ps_raise hc tk (pmk_oex (dvs := []) F.T h1 h2 Fk hr hb .nil (fun _ _ _ _ _ _ _ z => z.elim) hg F.gC pa hdb hs hpl), fun S0 M0 H0 σ H S hA D le xw => ?_⟩
  refine fa S0 M0 H0 σ H S hA _ fun ths vs H1 hB e1 r => ?_
  subst hB
  obtain ⟨y, y', rfl, ry, ry'⟩ := all2 r
  refine ⟨by show 2 ≤ 1000; decide, fun a ha => ⟨a, Cc, y, y', rfl, F.T, F.no, F.no', upd_same, fun dx hdx hne => ⟨rfl, dx, [(g', y'), (g, y)], ?_, upd_same, ?_, ?_⟩⟩⟩
  · rw [upd_ne (Ne.symm hne)]; exact upd_same
  · rw [upd_ne hne] at hdx; exact hdx
  · rw [upd_ne hne] at hdx
    rw [raise_heap2 ha hne]
    have hA1 := hA.up (e1.trans (Ex.new (o := .xd [(g', y'), (g, y)]) hdx))
    have nS : dx ∉ S := (hA.up e1).dom.new hdx
    refine xw.1 σ _ Cc [(g', t'), (g, t)] (some dx) Δ S k hA1 (Or.inr ⟨by simp, dx, [(g', y'), (g, y)], rfl, by rw [hide_out nS]; exact upd_same, fun f t1 hf => ?_⟩) (fun a z => by cases z; exact nS)
    rw [lookup_th2] at hf
    by_cases hfg : f = g'
    · rw [if_pos hfg] at hf
      cases hf
      exact ⟨y', by rw [hfg]; simp [List.lookup], t'.up _ _ _ (hide_ex (Ex.new hdx)) ry'⟩
    · rw [if_neg hfg] at hf
      have hfb : (f == g') = false := by simpa using hfg
      by_cases hfg2 : f = g
      · rw [if_pos hfg2] at hf
        cases hf
        exact ⟨y, by simp only [List.lookup, hfb]; rw [hfg2]; simp, t.up _ _ _ (hide_ex (Ex.new hdx)) ry⟩
      · rw [if_neg hfg2] at hf
        cases hf
/-- a letter of a text -/
theorem px_ixS {z : Str} {Pi : Int → Prop} (ha : PD X Δ a (dat X.K (.str z))) (hb : PX X Δ b (isI X.K Pi)) (hz : z.length ≤ 100000) (h : ∀ i, Pi i → 0 ≤ i ∧ i < z.length) (hs : PlainIx b := by exact fun _ _ => rfl) :
    PX X Δ (.Subscript a b pos) (fun t => ∃ y : Str, t = dat X.K (.str y) ∧ y.length = 1 ∧ (PyData.strOk z = true → PyData.strOk y = true)) :=
  px_two (r := rIxS) (fun _ _ pa pb => pe_ix ix_str pa pb hs) ha hb fun S H x y v w _ hx ⟨k, hy, hk⟩ rx ry Q q => by
    subst hx; subst hy
    have e2 := dp_int ry
    subst e2
    have rx' : Dp X.K (hide S H) v (.str z) := rx
    cases rx'
    obtain ⟨h0, h1⟩ := h k hk
    obtain ⟨j, rfl⟩ : ∃ j : Nat, k = (j : Int) := ⟨k.toNat, by omega⟩
    have hj : j < z.cps.toList.length := by
      rw [Array.length_toList]
      have : (j : Int) < (z.cps.size : Nat) := h1
      omega
    exact ⟨z, (j : Int), z.cps.toList[j], rfl, rfl, sz_of hz, atI_nat (List.getElem?_eq_getElem hj), q _ _ H ⟨_, rfl, rfl, fun hk => by
      unfold PyData.strOk at *
      have hm : z.cps.toList[j] ∈ z.cps := by simp
      have := (Array.all_eq_true_iff_forall_mem.mp hk) _ hm
      simpa using this⟩ (Ex.refl H) (Dp.str _)⟩
/-- text + text, some of it not known -/
theorem px_addS {Pa Pb : Str → Prop} {R : Str → Prop} (ha : PX X Δ a (fun t => ∃ y, t = dat X.K (.str y) ∧ Pa y)) (hb : PX X Δ b (fun t => ∃ y, t = dat X.K (.str y) ∧ Pb y)) (h : ∀ x y, Pa x → Pb y → x.length + y.length ≤ 100000 ∧ R (x ++ y)) :
    PX X Δ (.BinOp a .Add b pos) (fun t => ∃ y, t = dat X.K (.str y) ∧ R y) := by
  obtain ⟨ta, pa, fa⟩ := ha
  obtain ⟨tb, pb, fb⟩ := hb
  refine ⟨_, pe_op op_add_str pa pb, fun S0 M0 H0 σ H S hA Q q => ?_⟩
  refine fa S0 M0 H0 σ H S hA _ fun x v H1 ⟨z, hx, hz⟩ e1 rx => fb S0 M0 H0 σ H1 S (hA.up e1) _ fun y w H2 ⟨z', hy, hz'⟩ e2 ry => ?_
  subst hx; subst hy
  obtain ⟨h1, h2⟩ := h z z' hz hz'
  have rx' : Dp X.K (hide S H1) v (.str z) := rx
  have ry' : Dp X.K (hide S H2) w (.str z') := ry
  cases rx'
  cases ry'
  exact ⟨z, z', rfl, rfl, sz_of h1, q _ _ H2 ⟨_, rfl, h2⟩ (e1.trans e2) (Dp.str _)⟩
theorem dpa_rep {K : PySem.W.Frag} {H : Hp} {vs : List V} {ds : List PyData} (h : DpAll K H vs ds) : ∀ n : Nat, DpAll K H (List.replicate n vs).flatten (List.replicate n ds).flatten
  | 0 => .nil
  | n + 1 => by
    rw [List.replicate_succ, List.replicate_succ, List.flatten_cons, List.flatten_cons]
    exact dpa_app h (dpa_rep h n)
/-- [ ... ] * n -/
theorem pd_rep {ds : List PyData} {n : Nat} {p : Pos} (h : PLD X Δ es (ds.map (dat X.K))) (hb : PD X Δ b (dat X.K (.int (n : Int)))) (hl : ds.length ≤ 1000 := by decide) (hn : n ≤ 50 := by decide) : PD X Δ (.BinOp (.List es p) .Mult b pos) (dat X.K (.list (List.replicate n ds).flatten)) := by
  obtain ⟨ta, pa, fa⟩ := h
  obtain ⟨tb, pb, fb⟩ := hb
  refine ⟨_, pe_op op_rep (pe_lst pa) pb, fun S0 M0 H0 σ H S hA Q q => ?_⟩
  refine fa S0 M0 H0 σ H S hA _ fun ths vs H1 ht e1 r => ?_
  subst ht
  have hd := all_dpa r
  refine ⟨sz_of (by rw [dpa_len hd]; omega), fun p hp => ?_⟩
  have e2 : Ex H1 (upd H1 p (.lst vs)) := Ex.new hp
  refine fb S0 M0 H0 σ _ S (hA.up (e1.trans e2)) _ fun y w H2 hy e3 ry => ?_
  subst hy
  have e4 := dp_int ry
  subst e4
  refine ⟨p, (n : Int), vs, rfl, rfl, e3 _ _ upd_same, by omega, by omega, ?_, fun p2 hp2 => q _ _ _ rfl (e1.trans (e2.trans (e3.trans (Ex.new hp2)))) ?_⟩
  · rw [dpa_len hd, Int.toNat_natCast]
    refine sz_of (Nat.le_trans (Nat.mul_le_mul hl hn) (by decide))
  · rw [Int.toNat_natCast]
    have dm := ((hA.up (e1.trans e2)).up e3).dom
    have hd2 := dpa_up (hide_ex (S := S) (e2.trans (e3.trans (Ex.new (o := .lst (List.replicate n vs).flatten) hp2)))) hd
    exact Dp.lst (SqL.of (by rw [hide_out (dm.new hp2)]; exact upd_same)) (dpa_rep hd2 n)
end
end DL
set_option Elab.async false
set_option linter.all false
set_option maxRecDepth 100000
/-! What is told of things that are stops or not. -/
namespace DL
open PySem PySem.Spec PyProof.Rows L2
def pairA : AD → Option (PyData × PyData)
  | some (.tuple [a, b]) => some (a, b)
  | some (.list [a, b]) => some (a, b)
  | _ => none
def innerD : PyData → Bool
  | .tuple [.int i, .int j] => isRat (.tuple [.int i, .int j]) && (decide (0 < i) && decide (i < j))
  | _ => false
def wordP (n : Nat) (a b : PyData) : Option Str := if isWh a (some 0) (some ((n : Int) - 1)) = false then some "side" else if innerD b = false then some "spot" else none
def wordA (n : Nat) (x : AD) : Option Str := match pairA x with
  | none => some "stop"
  | some (a, b) => wordP n a b
def stopA (x : AD) : PyData := match pairA x with
  | some (a, b) => .tuple [a, b]
  | none => .none
def firstA (n : Nat) : List AD → Nat → Option (Nat × Str)
  | [], _ => none
  | x :: xs, i => match wordA n x with
    | some w => some (i, w)
    | none => firstA n xs (i + 1)
def dueA (n : Nat) (xs : List AD) : Option (Nat × Str) := if 8 < xs.length then some (0, "many") else firstA n xs 0
def errD (k : Nat) (w : Str) : PyData := .list [.int (k : Nat), .str w]
def dueD (n : Nat) (xs : List AD) : PyData := match dueA n xs with
  | some (k, w) => errD k w
  | none => .tuple (xs.map stopA)
def oneD (n : Nat) (x : AD) : PyData := match wordA n x with
  | some w => errD 0 w
  | none => stopA x
def optW : Option Str → PyData
  | some w => .str w
  | none => .none
/-- the words -/
theorem word_in {n : Nat} {x : AD} {w : Str} (h : wordA n x = some w) : w = "stop" ∨ w = "side" ∨ w = "spot" := by
  unfold wordA at h
  split at h
  · exact Or.inl (Option.some.inj h).symm
  · unfold wordP at h
    split at h
    · exact Or.inr (Or.inl (Option.some.inj h).symm)
    · split at h
      · exact Or.inr (Or.inr (Option.some.inj h).symm)
      · cases h
theorem first_in {n : Nat} : ∀ {xs : List AD} {i : Nat} {k : Nat} {w : Str}, firstA n xs i = some (k, w) → (w = "stop" ∨ w = "side" ∨ w = "spot") ∧ i ≤ k ∧ k < i + xs.length
  | [], i, k, w, h => by cases h
  | x :: xs, i, k, w, h => by
    unfold firstA at h
    split at h
    · rename_i w' hw
      have h' := Option.some.inj h
      rw [Prod.mk.injEq] at h'
      obtain ⟨e1, e2⟩ := h'
      rw [← e2]
      exact ⟨word_in hw, by omega, by rw [List.length_cons]; omega⟩
    · obtain ⟨h1, h2, h3⟩ := first_in h
      exact ⟨h1, by omega, by rw [List.length_cons]; omega⟩
/-- what comes first -/
theorem first_some {n : Nat} : ∀ {xs : List AD} {i k : Nat} {w : Str}, firstA n xs i = some (k, w) → ∃ j, k = i + j ∧ j < xs.length ∧ (∀ m x, m < j → xs[m]? = some x → wordA n x = none) ∧ ∃ x, xs[j]? = some x ∧ wordA n x = some w
  | [], i, k, w, h => by cases h
  | x :: xs, i, k, w, h => by
    unfold firstA at h
    split at h
    · rename_i w' hw
      have h' := Option.some.inj h
      rw [Prod.mk.injEq] at h'
      obtain ⟨e1, e2⟩ := h'
      exact ⟨0, by omega, by simp, fun m _ hm => by omega, x, rfl, by rw [hw, e2]⟩
    · rename_i hw
      obtain ⟨j, h1, h2, h3, y, h4, h5⟩ := first_some h
      refine ⟨j + 1, by omega, by simpa using h2, fun m z hm hz => ?_, y, by simpa using h4, h5⟩
      cases m with
      | zero =>
        have : x = z := Option.some.inj hz
        rw [← this]
        exact hw
      | succ m => exact h3 m z (by omega) (by simpa using hz)
theorem first_none {n : Nat} : ∀ {xs : List AD} {i : Nat}, firstA n xs i = none → ∀ x ∈ xs, wordA n x = none
  | [], i, h, x, hx => by cases hx
  | y :: xs, i, h, x, hx => by
    unfold firstA at h
    split at h
    · cases h
    · rename_i hw
      rcases List.mem_cons.mp hx with e | e
      · rw [e]; exact hw
      · exact first_none h x e
theorem first_of {n : Nat} : ∀ {xs : List AD} {i j : Nat} {w : Str} {x : AD}, (∀ m y, m < j → xs[m]? = some y → wordA n y = none) → xs[j]? = some x → wordA n x = some w → firstA n xs i = some (i + j, w)
  | [], i, j, w, x, _, h, _ => by simp at h
  | y :: xs, i, 0, w, x, _, h, hw => by
    have e : y = x := Option.some.inj h
    unfold firstA
    rw [e, hw]
    rfl
  | y :: xs, i, j + 1, w, x, hb, h, hw => by
    unfold firstA
    rw [hb 0 y (by omega) rfl]
    show firstA n xs (i + 1) = _
    rw [first_of (j := j) (fun m z hm hz => hb (m + 1) z (by omega) (by simpa using hz)) (by simpa using h) hw]
    congr 2
    omega
theorem first_all {n : Nat} : ∀ {xs : List AD} {i : Nat}, (∀ x ∈ xs, wordA n x = none) → firstA n xs i = none
  | [], i, _ => rfl
  | y :: xs, i, h => by
    unfold firstA
    rw [h y List.mem_cons_self]
    exact first_all fun x hx => h x (List.mem_cons_of_mem _ hx)
theorem rat_low {i j : Int} (h : isRat (.tuple [.int i, .int j]) = true) : Low ((i, j) : Q) := by
  have h : (isWh (.int i) none none && (isWh (.int j) (some 1) none && gOne (.int i) (.int j))) = true := h
  rw [Bool.and_eq_true, Bool.and_eq_true] at h
  obtain ⟨_, h2, h3⟩ := h
  have h2 : (decide (1 ≤ j) && true) = true := h2
  have h3 : (gI i j == 1) = true := h3
  rw [Bool.and_true] at h2
  have e := eq_of_beq h3
  have e1 := of_decide_eq_true h2
  exact ⟨by unfold gI at e; exact_mod_cast e, by show 0 < j; omega⟩
/-- a thing that is a stop -/
theorem inner_is {d : PyData} (h : innerD d = true) : ∃ q : Q, d = rD q ∧ Low q ∧ 0 < q.1 ∧ q.1 < q.2 := by
  unfold innerD at h
  split at h
  · rename_i i j
    rw [Bool.and_eq_true, Bool.and_eq_true] at h
    obtain ⟨h1, h2, h3⟩ := h
    refine ⟨(i, j), rfl, ?_, of_decide_eq_true h2, of_decide_eq_true h3⟩
    exact rat_low h1
  · cases h
theorem wh_is {n : Nat} {d : PyData} (h : isWh d (some 0) (some ((n : Int) - 1)) = true) : ∃ k : Nat, d = .int (k : Nat) ∧ k < n := by
  cases d with
  | int i =>
    have h : (decide (0 ≤ i) && decide (i ≤ (n : Int) - 1)) = true := h
    rw [Bool.and_eq_true] at h
    have h1 := of_decide_eq_true h.1
    have h2 := of_decide_eq_true h.2
    exact ⟨i.toNat, by congr 1; omega, by omega⟩
  | _ => cases h
theorem word_none {n : Nat} {x : AD} (h : wordA n x = none) : ∃ s : Stp, pairA x = some (.int (s.1 : Nat), rD s.2) ∧ stopA x = sD s ∧ s.1 < n ∧ Low s.2 ∧ 0 < s.2.1 ∧ s.2.1 < s.2.2 := by
  unfold wordA at h
  split at h
  · cases h
  · rename_i a b hp
    unfold wordP at h
    split at h
    · cases h
    · rename_i h1
      split at h
      · cases h
      · rename_i h2
        obtain ⟨k, rfl, hk⟩ := wh_is (by simpa using h1)
        obtain ⟨q, rfl, l, p, g⟩ := inner_is (by simpa using h2)
        exact ⟨(k, q), hp, by unfold stopA; rw [hp]; rfl, hk, l, p, g⟩
theorem pair_is {x : AD} {a b : PyData} (h : pairA x = some (a, b)) : x = some (.tuple [a, b]) ∨ x = some (.list [a, b]) := by
  unfold pairA at h
  split at h
  · have := Option.some.inj h
    rw [Prod.mk.injEq] at this
    rw [this.1, this.2]
    exact Or.inl rfl
  · have := Option.some.inj h
    rw [Prod.mk.injEq] at this
    rw [this.1, this.2]
    exact Or.inr rfl
  · cases h
/-- how great its numbers are -/
def GA (x : AD) : Prop := ∀ (k : Nat) (q : Q), pairA x = some (.int (k : Nat), rD q) → Sm 4100 q ∨ ¬ 0 < q.2
theorem stops_of {n : Nat} : ∀ {xs : List AD}, (∀ x ∈ xs, wordA n x = none) → (∀ x ∈ xs, GA x) → ∃ ss : List Stp, xs.map stopA = ss.map sD ∧ ss.length = xs.length ∧ ∀ s ∈ ss, GS n 4100 s
  | [], _, _ => ⟨[], rfl, rfl, fun s h => by cases h⟩
  | x :: xs, h, g => by
    obtain ⟨ss, h1, h2, h3⟩ := stops_of (fun x hx => h x (List.mem_cons_of_mem _ hx)) (fun x hx => g x (List.mem_cons_of_mem _ hx))
    obtain ⟨s, p1, p2, p3, p4, p5, p6⟩ := word_none (h x List.mem_cons_self)
    refine ⟨s :: ss, by rw [List.map_cons, List.map_cons, h1, p2], by rw [List.length_cons, List.length_cons, h2], fun t ht => ?_⟩
    rcases List.mem_cons.mp ht with e | e
    · rw [e]
      rcases g x List.mem_cons_self s.1 s.2 p1 with z | z
      · exact ⟨p3, z, p4, p5, p6⟩
      · exact absurd p4.2 z
    · exact h3 t e
theorem rat_is {d : PyData} (h : isRat d = true) : ∃ i j, d = .tuple [.int i, .int j] := by
  unfold isRat at h
  split at h
  · rename_i a b
    rw [Bool.and_eq_true, Bool.and_eq_true] at h
    obtain ⟨h1, h2, h3⟩ := h
    cases a with
    | int i =>
      cases b with
      | int j => exact ⟨i, j, rfl⟩
      | _ => cases h2
    | _ => cases h1
  · cases h
/-! contracts -/
def RLenW (K : PySem.W.Frag) (C : Addr) : Cn := fun ts A => ∃ cs : List Cp, ts = [wkT K C cs] ∧ Wk cs ∧ A = (· = dat K (.int (cs.length : Nat)))
def RSeqA (K : PySem.W.Frag) : Cn := fun ts A => ∃ (t : Th) (b : Bool), ts = [t] ∧ ((∃ x : AD, t = anyT K x ∧ b = isSeqA x) ∨ ((∃ us, t = lstT K us ∨ t = tupT K us) ∧ b = true)) ∧ A = (· = dat K (.bool b))
theorem Gd.view {P : Program} {w : World} {K : PySem.W.Frag} {mg : Str → Option Value} {base : Heap} {x : Str} {k : Nat} {R R' : Cn} (G : Gd P w K mg base x k [] R) (hl : ∀ ts A, R' ts A → ∃ B, R ts B ∧ ∀ t, B t → A t) : Gd P w K mg base x k [] R' := by
  obtain ⟨f, fd, ps, ds, dvs, h1, h2, h3, h4, h5, F⟩ := G.ex
  refine ⟨f, fd, ps, ds, dvs, h1, h2, h3, h4, h5, F.imp fun vs H Q E ⟨S, ths, A, hd, ha, hR, hq⟩ => ?_⟩
  obtain ⟨B, hB, hi⟩ := hl ths A hR
  exact ⟨S, ths, B, hd, ha, hB, fun t v H' ht e r => hq t v H' (hi t ht) e r⟩
theorem seq_view {P : Program} {w : World} {K : PySem.W.Frag} {mg : Str → Option Value} {base : Heap} {k : Nat} (G : Gd P w K mg base "is_sequence" k [] (RSeqA K)) : Gd P w K mg base "is_sequence" k [] (RPred0 K isSeq) :=
  G.view fun ts A ⟨d, e1, e2⟩ => ⟨_, ⟨_, _, e1, Or.inl ⟨some d, rfl, rfl⟩, rfl⟩, fun t h => by rw [e2]; exact h⟩
def badS (K : PySem.W.Frag) (k : Nat) (w : Str) : List (Str × Th) := [("what", dat K (.str w)), ("index", dat K (.int (k : Nat)))]
def outW (K : PySem.W.Frag) (S : Addr) (k : Nat) (d : PyData) : Option Str → Out
  | some w => .exc S (badS K k w)
  | none => .val (· = dat K d)
def RTold (K : PySem.W.Frag) (C S : Addr) : CnX := fun ts o => ∃ (cs : List Cp) (x : AD) (i : Nat), ts = [wkT K C cs, anyT K x, dat K (.int (i : Nat))] ∧ Wk cs ∧ o = outW K S i (stopA x) (wordA cs.length x)
def RTold1 (K : PySem.W.Frag) (C S : Addr) : CnX := fun ts o => ∃ (cs : List Cp) (x : AD), ts = [wkT K C cs, anyT K x] ∧ Wk cs ∧ o = outW K S 0 (stopA x) (wordA cs.length x)
/-- a row, or a thing that is no row -/
def RowOf (K : PySem.W.Frag) (n : Nat) (t : Th) (r : Option (Nat × Str)) (xs : List AD) : Prop :=
  ((t = lstT K (xs.map (anyT K)) ∨ t = tupT K (xs.map (anyT K))) ∧ xs.length ≤ 20 ∧ r = dueA n xs) ∨ (∃ x : AD, t = anyT K x ∧ isSeqA x = false ∧ xs = [] ∧ r = some (0, ("many" : Str)))
def outD (K : PySem.W.Frag) (S : Addr) (d : PyData) : Option (Nat × Str) → Out
  | some (k, w) => .exc S (badS K k w)
  | none => .val (· = dat K d)
def RChkS (K : PySem.W.Frag) (C S : Addr) : CnX := fun ts o => ∃ (cs : List Cp) (t : Th) (r : Option (Nat × Str)) (xs : List AD), ts = [wkT K C cs, t] ∧ Wk cs ∧ RowOf K cs.length t r xs ∧ o = outD K S (.tuple (xs.map stopA)) r
def placeS (cs : List Cp) (s : Stp) : Cp := addC (at_ cs s.1) (scC (sideC cs s.1) s.2)
def RPlS (K : PySem.W.Frag) (C S : Addr) : CnX := fun ts o => ∃ (cs : List Cp) (t : Th) (r : Option (Nat × Str)) (xs : List AD) (ss : List Stp), ts = [wkT K C cs, t] ∧ Wk cs ∧ RowOf K cs.length t r xs ∧ (r = none → xs.map stopA = ss.map sD ∧ ∀ s ∈ ss, GS cs.length 4200 s) ∧ o = outD K S (.tuple ((ss.map (placeS cs)).map cD)) r
def spotC (cs : List Cp) (k : Nat) (p : Cp) : Q := overQ (dotC (lessC p (at_ cs k)) (sideC cs k)) (dotC (sideC cs k) (sideC cs k))
def RSpotOn (K : PySem.W.Frag) (C : Addr) : Cn := fun ts A => ∃ (cs : List Cp) (k : Nat) (p : Cp) (m : Nat), ts = [wkT K C cs, dat K (.int (k : Nat)), dat K (cD p)] ∧ Wk cs ∧ k < cs.length ∧ CSm m p ∧ m ≤ 700 ∧ A = (· = dat K (rD (spotC cs k p)))
def onS (cs : List Cp) (k : Nat) (p : Cp) : Bool := decide ((valC cs k p).1 = 0) && (decide (0 < (spotC cs k p).1) && decide ((spotC cs k p).1 < (spotC cs k p).2))
/-- the first side on which the place stands -/
def foundS (cs : List Cp) (p : Cp) : Nat → Nat → PyData
  | _, 0 => .none
  | k, m + 1 => if onS cs k p = true then sD (k, spotC cs k p) else foundS cs p (k + 1) m
def RStopAt (K : PySem.W.Frag) (C B : Addr) : CnX := fun ts o => ∃ (cs : List Cp) (d : PyData), ts = [wkT K C cs, dat K d] ∧ Wk cs ∧
  ((∃ (p : Cp) (m : Nat), (d = .tuple [rD p.1, rD p.2] ∨ d = .list [rD p.1, rD p.2]) ∧ Cl p ∧ CSm m p ∧ m ≤ 700 ∧ o = .val (· = dat K (foundS cs p 0 cs.length))) ∨ ((seqD d).length ≤ 40000 ∧ isRow d 2 = false ∧ o = .exc B []))
theorem sign_zero (i : Int) : (signI i == 0) = decide (i = 0) := by
  unfold signI
  by_cases h : i = 0
  · rw [if_pos h, decide_eq_true h]; rfl
  · rw [if_neg h, decide_eq_false h]
    split <;> rfl
section
variable {X : Cx} {Δ : List Sl} {e a b c o : Expr} {es : List Expr} {A B C : Th → Prop} {pos : Pos} {P : Post} {rest body els sts : List Stmt} {st : Stmt} {W : WX}
theorem pd_isi2T {x1 x2 : Str} {n1 n2 : String} {p p1 p2 p3 : Pos} {kk : Nat} {t0 : Th} {ty : String} {k1 k2 : Bool} (hty : ∀ H v, t0.R H v → TyX X.K H v (.type ty)) (hm : X.mg "isinstance" = none) (ha : PD X Δ a t0) (m1 : X.mg x1 = none) (m2 : X.mg x2 = none) (hk1 : kitB ty n1 = some k1) (hk2 : kitB ty n2 = some k2)
    (hv1 : bootBuiltins x1 = some (.type n1) := by decide +kernel) (hv2 : bootBuiltins x2 = some (.type n2) := by decide +kernel) (hg : Gl X "isinstance" := by rfl) (g1 : Gl X x1 := by rfl) (g2 : Gl X x2 := by rfl) (hn1 : x1 ≠ "__name__" := by decide) (hn2 : x2 ≠ "__name__" := by decide)
    (hd1 : (x1 == ("__debug__" : Str)) = false := by decide) (hd2 : (x2 == ("__debug__" : Str)) = false := by decide)
    (hs1 : starEach [.Name x1 p1, .Name x2 p2] X.env = (false, eval (.Name x1 p1) X.env) :: starEach [.Name x2 p2] X.env := by rfl) (hs2 : starEach [.Name x2 p2] X.env = (false, eval (.Name x2 p2) X.env) :: starEach [] X.env := by rfl)
    (he1 : starEach [.Tuple [.Name x1 p1, .Name x2 p2] kk p3] X.env = (false, eval (.Tuple [.Name x1 p1, .Name x2 p2] kk p3) X.env) :: starEach [] X.env := by rfl)
    (he : starEach [a, .Tuple [.Name x1 p1, .Name x2 p2] kk p3] X.env = (false, eval a X.env) :: starEach [.Tuple [.Name x1 p1, .Name x2 p2] kk p3] X.env := by rfl) (hpl : (backTo pos (starEach [.Tuple [.Name x1 p1, .Name x2 p2] kk p3] X.env)).any (·.1) = false := by rfl) :
    PD X Δ (.Call (.Name "isinstance" p) [a, .Tuple [.Name x1 p1, .Name x2 p2] kk p3] [] pos) (dat X.K (.bool (k1 || k2))) := by
  obtain ⟨t, pa, fa⟩ := ha
  have tt : PA X [.Tuple [.Name x1 p1, .Name x2 p2] kk p3] _ := pa_cons (pe_tup (pa_cons (pe_bltn g1 m1 hv1 (show RelV (.ty n1) _ from rfl) hn1 hd1) (pa_cons (pe_bltn g2 m2 hv2 (show RelV (.ty n2) _ from rfl) hn2 hd2) pa_nil hs2) hs1)) pa_nil he1
  refine ⟨_, pe_callB call_isiT hg hm (by decide +kernel) (pa_cons pa tt he) (by decide) (by decide) he hpl, fun S0 M0 H0 σ H S hA Q q => ?_⟩
  refine fa S0 M0 H0 σ H S hA _ fun th v H1 hth e1 r => ?_
  subst hth
  refine ⟨by show 2 ≤ sizeLine; decide, fun tp htp => ?_⟩
  refine ⟨v, tp, [.ty n1, .ty n2], _, [.type n1, .type n2], k1 || k2, rfl, upd_same, .cons (.ty n1) (.cons (.ty n2) .nil), hty _ _ (th.up _ _ _ (Ex.trans hide_le (Ex.new htp)) r), ?_, q _ _ _ rfl (e1.trans (Ex.new htp)) (Dp.bl _)⟩
  refine kitAny_cons (kit_ty hk1) (fun z => ?_) (fun z => by rw [z]; rfl)
  rw [z]
  exact kitAny_cons (kit_ty hk2) (fun z2 => by rw [z2]; exact kitAny_nil) (fun z2 => by rw [z2]; rfl)
theorem lst_ty {K : PySem.W.Frag} {ts : List Th} {H : Hp} {v : V} (h : (lstT K ts).R H v) : TyX K H v (.type "list") := by
  obtain ⟨a, xs, rfl, hq, _⟩ := h
  exact sq_tyL hq
theorem tup_ty {K : PySem.W.Frag} {ts : List Th} {H : Hp} {v : V} (h : (tupT K ts).R H v) : TyX K H v (.type "tuple") := by
  obtain ⟨a, xs, rfl, hq, _⟩ := h
  exact sq_tyT hq
theorem pd_lenU {p : Pos} {ts : List Th} (hm : X.mg "len" = none) (ha : PD X Δ e (tupT X.K ts)) (hg : Gl X "len" := by rfl) (he : starEach [e] X.env = (false, eval e X.env) :: starEach [] X.env := by rfl) (hpl : (backTo pos (starEach [] X.env)).any (·.1) = false := by rfl) :
    PD X Δ (.Call (.Name "len" p) [e] [] pos) (dat X.K (.int (ts.length : Nat))) :=
  px_blt call_len_seq hm (pl_cons ha pl_nil he) (fun S H us vs _ hB r Q q => by
    subst hB
    obtain ⟨v, rfl, r0⟩ := all1 r
    obtain ⟨a, xs, rfl, hq, hd⟩ := r0
    refine ⟨a, xs, rfl, Or.inr (ex_t hide_le hq), ?_⟩
    rw [← hd.len]
    exact q _ _ H rfl (Ex.refl H) (Dp.int _)) (by decide +kernel) hg (by decide) (by decide) he hpl
/-- tuple(e), e raises -/
theorem pr_tuple {p : Pos} {Cc : Addr} {fs : List (Str × Th)} (hm : X.mg "tuple" = none) (ha : PR X W Δ a Cc fs) (hg : Gl X "tuple" := by rfl) (na : starEach [a] X.env = (false, eval a X.env) :: starEach [] X.env := by rfl) :
    PR X W Δ (.Call (.Name "tuple" p) [a] [] pos) Cc fs := by
  obtain ⟨te, pe, fe⟩ := ha
  exact ⟨_, pe_tupleOf hg hm pe na, fun S0 M0 H0 σ H S hA w Q => fe S0 M0 H0 σ H S hA w _⟩
/-- x, y = e, e a list -/
theorem sd_asgL (is : List Nat) {tg : List Expr} {kk : Nat} {pt : Pos} {ts : List Th} (he : PD X Δ e (lstT X.K ts)) (hl : ts.length = is.length) (hpg : PGs X tg (gNames is)) (k : SD X W rest P (setN Δ is ts)) (hc : X.calm = true := by rfl)
    (hn : (assignEach tg X.env).length = is.length := by rfl) (hst : (assignEach tg X.env).findIdx? (·.1) = none := by rfl)
    (hs : swapsWithSole [.Tuple tg kk pt] e pos.line X.env = pure false := by rfl) (hw : swappedStores [.Tuple tg kk pt] e X.env = pure none := by rfl) :
    SD X W (.Assign [.Tuple tg kk pt] e pos :: rest) P Δ := by
  obtain ⟨t, pe, f⟩ := he
  refine sd_cons ⟨_, ps_asg pe (pg_lst hc hpg hn hst) hs hw, fun S0 M0 H0 σ H S hA D le xw => f S0 M0 H0 σ H S hA _ fun th v H2 ha e2 r => ?_⟩
  subst ha
  obtain ⟨p, xs, rfl, hq, hd⟩ := r
  exact ⟨p, xs, rfl, ex_l hide_le hq, by rw [← hd.len, hl], (hA.up e2).setN0 hd hl fun σ' h => le.nx _ _ ⟨_, S, k, h⟩⟩
end
end DL
set_option Elab.async false
set_option linter.all false
set_option maxRecDepth 100000
set_option maxHeartbeats 4000000
namespace K03
open PySem PySem.Spec PyProof.Rows L2 DL
section
variable {P : Program} {w : World} {K : PySem.W.Frag} {mg : Str → Option Value} {base : Heap} {f : Addr} {fd : FuncData}

theorem ok_mix (F : Fun K "_law_mix" "_law_mix" s__law_mix f fd) (T : Txt K mg) : FnOk P w K mg base CX0 1 f fd ["_law_number", "_law_turn"] (spT (RMix K)) := by
  refine fn_mk F sc__law_mix (fun ts A ⟨a, b, e, _⟩ => by rw [e]; rfl) fun cdv Ar outer s H E hr ts B hR => ?_
  obtain ⟨a, b, rfl, rfl⟩ := hR
  refine sd_asg 2 (pd_mod (pd_int T.z_int (pd_add (pd_add (pd_mul (px_var 0 rfl) px_int (mulR (by decide))) (pd_mul (px_var 1 rfl) px_int (mulR (by decide)))) px_int)) px_int (by decide)) ?_ sc__law_mix.nd
  obtain ⟨o0, o1⟩ := fmod_lt (a := a * 48271 + b * 16807 + 11) (b := 2147483647) (by decide)
  generalize (a * 48271 + b * 16807 + 11).fmod 2147483647 = o at *
  refine sd_asg 3 (pd_mod (pd_int T.z_int (pd_add (pd_add (pd_mul (px_var 2 rfl) (px_var 2 rfl) (mulL ⟨by omega, by omega⟩)) (pd_mul (pd_fdiv (px_var 2 rfl) px_int (dvS (by decide) (by decide))) px_int (mulR (by decide)))) (pd_mul (px_var 1 rfl) px_int (mulR (by decide))))) px_int (by decide)) ?_ sc__law_mix.nd
  obtain ⟨u0, u1⟩ := fmod_lt (a := o * o + o.fdiv 127 * 40692 + b * 69621) (b := 2147483399) (by decide)
  generalize (o * o + o.fdiv 127 * 40692 + b * 69621).fmod 2147483399 = u at *
  exact sd_ret (pd_fdiv (pd_mod (pd_int T.z_int (pd_add (pd_fdiv (pd_mul (px_var 3 rfl) (px_var 3 rfl) (mulL ⟨by omega, by omega⟩)) px_int (dvS (by decide) (by decide))) (px_var 2 rfl))) px_int (by decide)) px_int (dvS (by decide) (by decide))) ⟨_, rfl, trivial⟩
theorem ok_hand (F : Fun K "_law_hand" "_law_hand" s__law_hand f fd) (T : Txt K mg) : FnOk P w K mg base CX0 1 f fd ["_law_script"] (spT (RHand K)) := by
  refine hand_view rfl ?_
  refine F.ok sc__law_hand (fun vs H Q E h => ?_) (fun cdv A outer s H vs Q E hr h => ?_)
  · obtain ⟨a, ns, rfl, _⟩ := h
    rfl
  · obtain ⟨a, ns, rfl, hS, hn, k⟩ := h
    refine ⟨_, pss_cons (ps_set (i := 1) sc__law_hand.nd rfl (Or.inl rfl) pe_int)
      (pss_cons (ps_for PassesOwn.never rfl (pi_enum (by rfl) T.z_enumerate (pa_cons (pv 0) pa_nil)) (pg_tup rfl (pgs_cons (pg_name (i := 2) sc__law_hand.nd rfl (Or.inl rfl)) (pgs_cons (pg_name (i := 3) sc__law_hand.nd rfl (Or.inl rfl)) pgs_nil)))
        (pss_one (ps_set (i := 1) sc__law_hand.nd rfl (Or.inl rfl) (pe_op op_modN (pe_callTy call_int1 (by rfl) T.z_int (by decide +kernel) (pa_cons (pe_op op_add (pe_op op_mulO (pv 1) pe_int) (pe_op op_mulO (pe_callTy call_int1 (by rfl) T.z_int (by decide +kernel) (pa_cons (pv 3) pa_nil)) (pe_op op_add (pv 2) pe_int))) pa_nil)) pe_int))))
      (pss_one (ps_ret (pe_lst (pa_cons (pe_lc (own := [("_law_cell", 3)]) (g := gName 3) (tt := tYes) rfl sc__law_hand.nd (pi_list (pv 0)) (blkOk_by (own := [("_law_cell", 3)]) (N := ["_law_script", "_law_total", "_law_k", "_law_cell"]) (sc := defScope s__law_hand) (by decide +kernel)) (fun _ _ _ _ _ => pg_name (i := 3) sc__law_hand.nd rfl (Or.inl rfl)) (fun _ _ _ _ _ => pts_nil)
        (fun _ _ _ _ _ => pe_callB call_abs (by rfl) T.z_abs (by decide +kernel) (pa_cons (pe_callTy call_int1 (by rfl) T.z_int (by decide +kernel) (pa_cons (pv 3) pa_nil)) pa_nil))) (pa_cons pe_int (pa_cons pe_int (pa_cons (pv 1) pa_nil)))))))), ?_⟩
    refine ⟨_, rfl, a, _, rfl, hS, for_it (walk_enum (K := K) (a := a) (xs := List.map V.int ns)) (fun i σ H' => ∃ (t : Int) (v2 v3 : Option V), σ = [some (.ref a), some (.int t), v2, v3] ∧ Ex H H') ⟨0, none, none, rfl, Ex.refl H⟩ (fun i σ H' _ ⟨_, _, _, _, e⟩ => ex_l e hS) ?_ ?_⟩
    · rintro i x σ H1 H1' hi ⟨t, v2, v3, rfl, e⟩ ⟨T', x1, y1, rfl, hT, rfl, e1, e2⟩
      have ex1 : x1 = .int (i : Int) := (Option.some.inj e1).symm
      subst ex1
      obtain ⟨z, hz⟩ : ∃ z : Int, y1 = .int z := by
        have e2 : (List.map V.int ns)[i]? = some y1 := e2
        rw [List.getElem?_map] at e2
        cases q : ns[i]? with
        | none => rw [q] at e2; cases e2
        | some z => rw [q] at e2; exact ⟨z, (Option.some.inj e2).symm⟩
      subst hz
      have hi' : i < 1000 := by
        rw [List.length_map] at hi
        omega
      refine ⟨T', _, rfl, SqT.of upd_same, rfl, _, _, rfl, _, _, rfl, rfl, ?_⟩
      exact ⟨_, rfl, t, 31, rfl, rfl, mulR (by decide), _, rfl, .inl ⟨z, rfl, _, rfl, _, _, rfl, rfl, _, _, rfl, rfl, mulR ⟨by omega, by omega⟩, _, _, rfl, rfl, .inl ⟨_, rfl, _, _, rfl, rfl, (show (2147483629 : Int) ≠ 0 by decide), _, _, _, rfl, e.trans (Ex.new hT)⟩⟩⟩
    · rintro σ H1 ⟨t, v2, v3, rfl, e⟩
      refine ⟨_, rfl, a, rfl, ⟨_, ex_l e hS⟩, fun D hD => lc_list (K := K) (a := a) (xs := List.map V.int ns) (fun i H' => Ex H1 H' ∧ ∃ ms : List Int, H' D = some (.lst (List.map V.int ms)) ∧ ms.length = i) ⟨Ex.new hD, [], upd_same, rfl⟩ (fun i H' _ p => ex_l (e.trans p.1) hS) (fun i x H' hx p => ?_) fun H' p => ?_⟩
      · obtain ⟨e2, ms, h1, h2⟩ := p
        obtain ⟨z, hz⟩ : ∃ z : Int, x = .int z := by
          rw [List.getElem?_map] at hx
          cases q : ns[i]? with
          | none => rw [q] at hx; cases hx
          | some z => rw [q] at hx; exact ⟨z, (Option.some.inj hx).symm⟩
        subst hz
        have hi' : i < 1000 := by
          have := (List.getElem?_eq_some_iff.mp hx).1
          rw [List.length_map] at this
          omega
        refine ⟨rfl, ?_⟩
        unfold tYes
        simp only [if_true]
        refine ⟨_, rfl, .inl ⟨z, rfl, z, rfl, _, h1, ?_, ?_, ?_⟩⟩
        · rw [List.length_map]
          exact Nat.lt_of_lt_of_le (by omega) (by decide : 100000 ≤ sizeLine)
        · exact fun b o hb => by rw [upd_ne (ne_of_none hb hD)]; exact e2 b o hb
        · exact ⟨ms ++ [if z < 0 then -z else z], by rw [upd_same, List.map_append]; rfl, by rw [List.length_append, h2]; rfl⟩
      · obtain ⟨e2, ms, h1, h2⟩ := p
        refine ⟨_, rfl, (by show 4 ≤ sizeLine; decide), fun p hp => ?_⟩
        have ncp : D ≠ p := ne_of_none h1 hp
        have e3 : Ex H (upd H' p (.lst [V.ref D, .int 0, .int 0, .int t])) := (e.trans e2).trans (Ex.new hp)
        have back : ∀ {b : Addr} {G : Hp}, Ex H G → G b = none → H b = none := fun {b G} eg hg => by
          cases q : H b with
          | none => rfl
          | some o => rw [eg b o q] at hg; cases hg
        refine k p D t ms _ (back (e.trans e2) hp) (back e hD) e3 upd_same ?_
        rw [upd_ne ncp]
        exact h1
theorem ok_draw (F : Fun K "_law_draw" "_law_draw" s__law_draw f fd) (T : Txt K mg) (Gm : Gd P w K mg base "_law_mix" 1 [] (RMix K)) : FnOk P w K mg base CX0 2 f fd ["_law_hand_here", "_law_many"] (spT (RDraw K)) := by
  obtain ⟨fM, fdM, psM, dsM, dvM, mM, kM, bM, vM, aM, GM⟩ := Gm.ex
  refine draw_view rfl ?_
  refine F.ok sc__law_draw (fun vs H Q E h => ?_) (fun cdv A outer s H vs Q E hr h => ?_)
  · obtain ⟨h, c, m, i, r, t, ns, rfl, _⟩ := h
    rfl
  · obtain ⟨h, c, m, i, r, t, ns, rfl, hm, hm2, hH, hi, hc, k⟩ := h
    have hr1 : Room 1 _ := hr.mono (by decide)
    have nch : c ≠ h := fun z => by
      rw [z, hH] at hc
      have z2 := HO.lst.inj (Option.some.inj hc)
      cases ns with
      | nil => cases z2
      | cons m ms => injection z2 with z3 _; cases z3
    have dv0 : dvM = [] := by
      have := aM H
      cases dvM with
      | nil => rfl
      | cons _ _ => exact this.elim
    subst dv0
    refine ⟨_, Evl.pss_cut (ps_if (PW.pt (pw_and (pt_cmpR op_eq (pe_ix ix_list (pv 0) pe_int fun _ _ => rfl) pe_int (nomark _)) (pw_and1 (pt_cmpR op_lt (pe_ix ix_list (pv 0) pe_int fun _ _ => rfl) (pe_callB call_len_seq (by rfl) T.z_len PySem.boot_len (pa_cons (pe_ix ix_list (pv 0) pe_int fun _ _ => rfl) pa_nil)) (nomark _)))))
        (pss_cons (ps_set (i := 2) sc__law_draw.nd rfl (Or.inl rfl) (pe_ix ix_list (pe_ix ix_list (pv 0) pe_int fun _ _ => rfl) (pe_ix ix_list (pv 0) pe_int fun _ _ => rfl) fun _ _ => rfl))
        (pss_cons (ps_asg (pe_op op_add (pe_ix ix_list (pv 0) pe_int fun _ _ => rfl) pe_int) (pg_sub (pv 0) pe_int set_list))
        (pss_cons (ps_if (pt_cmpR op_lt (pv 2) (pe_op op_pow pe_int pe_int) (nomark _))
            (pss_one (ps_ret (pe_op op_modN (pe_callTy call_int1 (by rfl) T.z_int (by decide +kernel) (pa_cons (pe_call (E := E0) GM hr1 (by rfl) mM kM bM vM pass0 (pa_cons (pe_op op_modN (pe_callTy call_int1 (by rfl) T.z_int (by decide +kernel) (pa_cons (pv 2) pa_nil)) pe_int) (pa_cons (pe_ix ix_list (pv 0) pe_int fun _ _ => rfl) pa_nil))) pa_nil)) (pv 1)))) pss_nil)
        (pss_one (ps_asg (pv 2) (pg_sub (pv 0) pe_int set_list)))))) pss_nil)
      (pss_cons (ps_if (pt_cmpR op_gt (pe_ix ix_list (pv 0) pe_int fun _ _ => rfl) pe_int (nomark _))
        (pss_cons (ps_set (i := 3) sc__law_draw.nd rfl (Or.inl rfl) (pe_ix ix_list (pv 0) pe_int fun _ _ => rfl))
        (pss_cons (ps_asg (pe_op op_fdivO (pv 3) (pv 1)) (pg_sub (pv 0) pe_int set_list))
        (pss_one (ps_ret (pe_op op_modN (pe_callTy call_int1 (by rfl) T.z_int (by decide +kernel) (pa_cons (pv 3) pa_nil)) (pv 1)))))) pss_nil)
      (pss_cons (ps_asg (pe_op op_modN (pe_callTy call_int1 (by rfl) T.z_int (by decide +kernel) (pa_cons (pe_op op_add (pe_ix ix_list (pv 0) pe_int fun _ _ => rfl) pe_int) pa_nil)) pe_int) (pg_sub (pv 0) pe_int set_list))
      (pss_one (ps_ret (pe_op op_modN (pe_callTy call_int1 (by rfl) T.z_int (by decide +kernel) (pa_cons (pe_call (E := E0) GM hr1 (by rfl) mM kM bM vM pass0 (pa_cons (pe_ix ix_list (pv 0) pe_int fun _ _ => rfl) (pa_cons (pe_ix ix_list (pv 0) pe_int fun _ _ => rfl) pa_nil))) pa_nil)) (pv 1)))))), ?_⟩
    have hm0 : m ≠ 0 := by omega
    have hdv : ∀ x : Int, CDv x m := fun x => dvS hm0 (by omega)
    have fin : ∀ {i' r' t' : Int} {H'' : Hp}, H'' h = some (.lst [.ref c, .int i', .int r', .int t']) → (∀ b o, b ≠ h → H b = some o → H'' b = some o) → Ex (upd H h (.lst [.ref c, .int i', .int r', .int t'])) H'' := fun {i' r' t' H''} h1 h2 b o hb => by
      by_cases z : b = h
      · rw [z, upd_same] at hb
        rw [z, h1]
        exact hb
      · rw [upd_ne z] at hb
        exact h2 b o z hb
    -- a mixed number
    have mixed : ∀ {x y : Int} {G : Hp} {Qv : VK}, (∀ q G', Ex G G' → Qv (.int q) G') → spT (RMix K) ([V.int x, V.int y] ++ []) G Qv E0 := fun {x y G Qv} q =>
      ⟨[], [dat K (.int x), dat K (.int y)], _, (fun _ z => by cases z), ⟨Dp.int _, Dp.int _, trivial⟩, ⟨_, _, rfl, rfl⟩, fun t v H' ⟨z, et, _⟩ ex r => by
        subst et
        have := dp_int r
        subst this
        exact q z H' ex⟩
    refine ⟨fun σ' H' => ∃ (i2 r2 : Int) (v2 v3 : Option V), σ' = [some (.ref h), some (.int m), v2, v3] ∧ 0 ≤ i2 ∧ H' h = some (.lst [.ref c, .int i2, .int r2, .int t]) ∧ ∀ b o, b ≠ h → H b = some o → H' b = some o, ?_, ?_⟩
    · refine rd rfl hH rfl ⟨rfl, _, rfl, ?_⟩
      refine ite2 (fun hr0 => ?_) (fun hr0 => iteF ⟨i, r, none, none, rfl, hi, hH, fun b o _ e => e⟩)
      refine rd rfl hH rfl (rd rfl hH rfl ⟨c, _, rfl, .inl (SqL.of hc), _, _, rfl, rfl, _, rfl, ?_⟩)
      refine ite2 (fun hlt => ?_) (fun _ => ⟨i, r, none, none, rfl, hi, hH, fun b o _ e => e⟩)
      have hlt' : i < (((List.map V.int ns).length : Nat) : Int) := of_decide_eq_true hlt
      rw [List.length_map] at hlt'
      obtain ⟨j, rfl⟩ : ∃ j : Nat, i = (j : Int) := ⟨i.toNat, by omega⟩
      have hj : j < ns.length := by omega
      have hat : atI (List.map V.int ns) (j : Int) = some (.int ns[j]) := atI_nat (by rw [List.getElem?_map, List.getElem?_eq_getElem hj]; rfl)
      generalize ns[j] = z at hat
      refine rd rfl hH rfl (rd rfl hH rfl ⟨c, _, _, _, rfl, rfl, SqL.of hc, hat, ?_⟩)
      refine rd rfl hH rfl ⟨_, 1, rfl, rfl, _, rfl, h, _, 1, 1, rfl, rfl, hH, rfl, ?_⟩
      refine ⟨_, rfl, 10, 18, rfl, rfl, ⟨by decide, by decide, by decide⟩, _, _, rfl, rfl, _, rfl, ?_⟩
      refine ite2 (fun _ => ?_) (fun _ => ?_)
      · refine ⟨_, rfl, .inl ⟨z, rfl, z, _, rfl, rfl, (show (2147483647 : Int) ≠ 0 by decide), rd rfl upd_same rfl (mixed fun q G' ex => .inl ⟨q, rfl, _, rfl, q, m, rfl, rfl, hm0, ?_⟩)⟩⟩
        exact k _ ((j : Int) + 1) r t G' (fmod_lt hm).1 (fmod_lt hm).2 (by omega) ex
      · exact ⟨_, rfl, _, rfl, h, _, 2, 2, rfl, rfl, upd_same, rfl, (j : Int) + 1, z, _, _, rfl, by omega, upd_same, fun b o hb e => by rw [upd_ne hb, upd_ne hb]; exact e⟩
    · rintro σ' H' ⟨i2, r2, v2, v3, rfl, hi2, hH2, kp⟩
      refine rd rfl hH2 rfl ⟨_, _, rfl, rfl, _, rfl, ?_⟩
      refine ite2 (fun _ => ?_) (fun _ => ?_)
      · refine rd rfl hH2 rfl ?_
        refine ⟨_, rfl, _, rfl, r2, m, rfl, rfl, hdv _, _, rfl, h, _, 2, 2, rfl, rfl, hH2, rfl, ?_⟩
        refine ⟨_, rfl, .inl ⟨r2, rfl, _, rfl, r2, m, rfl, rfl, hm0, ?_⟩⟩
        exact k _ i2 (r2.fdiv m) t _ (fmod_lt hm).1 (fmod_lt hm).2 hi2 (fin upd_same fun b o hb e => by rw [upd_ne hb]; exact kp b o hb e)
      · refine rd rfl hH2 rfl ⟨_, 1, rfl, rfl, .inl ⟨_, rfl, _, _, rfl, rfl, (show (2147483629 : Int) ≠ 0 by decide), _, rfl, h, _, 3, 3, rfl, rfl, hH2, rfl, ?_⟩⟩
        refine rd rfl upd_same rfl (rd rfl upd_same rfl (mixed fun q G' ex => .inl ⟨q, rfl, _, rfl, q, m, rfl, rfl, hm0, ?_⟩))
        refine k _ i2 r2 ((t + 1).fmod 2147483629) G' (fmod_lt hm).1 (fmod_lt hm).2 hi2 (fin (ex h _ upd_same) fun b o hb e => ex b o (by rw [upd_ne hb]; exact kp b o hb e))

theorem ok_is_whole (F : FunD K "is_whole" "is_whole" (defArgs s_is_whole) (defBody s_is_whole) (defScope s_is_whole) [.non, .non] [] f fd) (T : Txt K mg) : FnOk P w K mg base CX0 1 f fd ["thing", "low", "high"] (spT (RWhole K)) := by
  refine fnD_mk F sc_is_whole (fun ts A ⟨d, lo, hi, e, _⟩ => by rw [e]; rfl) fun cdv Ar outer s H E hr ts B hR => ?_
  obtain ⟨d, lo, hi, rfl, rfl⟩ := hR
  cases d with
  | int i =>
    refine sd_skip (PB.is (PBW.pb (pwo (pb_val (pd_isi T.z_isinstance (px_var 0 rfl) (pd_tyN (n := "bool") T.z_bool) rfl)) (pw1o (pb_not (pb_val (pd_isi T.z_isinstance (px_var 0 rfl) (pd_tyN (n := "int") T.z_int) rfl)))))) rfl) ?_
    have fin : ∀ (b : Bool), isWh (.int i) lo hi = (b && (match hi with | some h => decide (i ≤ h) | none => true)) → b = true → SD (cxOf CX0 P w K mg base ["thing", "low", "high"] "is_whole" (defScope s_is_whole) f cdv Ar outer s H E).nox (fun _ _ _ _ => False) ((defBody s_is_whole).drop 2) (retOf K (· = dat K (.bool (isWh (.int i) lo hi)))) (startΔ ["thing", "low", "high"] [dat K (.int i), dat K (optD lo), dat K (optD hi)]) := fun b hb hb1 => by
      subst hb1
      rw [hb, Bool.true_and]
      cases hi with
      | none => exact sd_ret (pd_or_t (pd_cmp ct_isN (px_var 2 rfl) px_none (nomark _))) rfl
      | some h => exact sd_ret (pd_or (pd_cmp ct_isN (px_var 2 rfl) px_none (nomark _)) (pd_one (pd_cmp ct_le (px_var 0 rfl) (px_var 2 rfl) (nomark _)))) rfl
    cases lo with
    | none => exact sd_skip (PBW.pb (pwa_f (pb_cmp ct_notN (px_var 1 rfl) px_none (nomark _)) never_w)) (fin true rfl rfl)
    | some l =>
      by_cases hl : i < l
      · refine sd_ifT ((PBW.pb (pwa (pb_cmp ct_notN (px_var 1 rfl) px_none (nomark _)) (pw1a (pb_cmp ct_lt (px_var 0 rfl) (px_var 1 rfl) (nomark _))))).is (by rw [decide_eq_true hl]; rfl)) (sd_ret px_bool ?_)
        show dat K (.bool false) = dat K (.bool (isWh (.int i) (some l) hi))
        have q : isWh (.int i) (some l) hi = false := by
          show (decide (l ≤ i) && _) = false
          rw [decide_eq_false (by omega)]; rfl
        rw [q]
      · refine sd_skip ((PBW.pb (pwa (pb_cmp ct_notN (px_var 1 rfl) px_none (nomark _)) (pw1a (pb_cmp ct_lt (px_var 0 rfl) (px_var 1 rfl) (nomark _))))).is (by rw [decide_eq_false hl]; rfl)) (fin (decide (l ≤ i)) rfl (decide_eq_true (by omega)))
  | bool b => exact sd_ifT (PBW.pb (pwo_t (pb_val (pd_isi T.z_isinstance (px_var 0 rfl) (pd_tyN (n := "bool") T.z_bool) rfl)) never_w)) (sd_ret px_bool rfl)
  | none => exact sd_ifT (PB.is (PBW.pb (pwo (pb_val (pd_isi T.z_isinstance (px_var 0 rfl) (pd_tyN (n := "bool") T.z_bool) rfl)) (pw1o (pb_not (pb_val (pd_isi T.z_isinstance (px_var 0 rfl) (pd_tyN (n := "int") T.z_int) rfl)))))) rfl) (sd_ret px_bool rfl)
  | str x => exact sd_ifT (PB.is (PBW.pb (pwo (pb_val (pd_isi T.z_isinstance (px_var 0 rfl) (pd_tyN (n := "bool") T.z_bool) rfl)) (pw1o (pb_not (pb_val (pd_isi T.z_isinstance (px_var 0 rfl) (pd_tyN (n := "int") T.z_int) rfl)))))) rfl) (sd_ret px_bool rfl)
  | list x => exact sd_ifT (PB.is (PBW.pb (pwo (pb_val (pd_isi T.z_isinstance (px_var 0 rfl) (pd_tyN (n := "bool") T.z_bool) rfl)) (pw1o (pb_not (pb_val (pd_isi T.z_isinstance (px_var 0 rfl) (pd_tyN (n := "int") T.z_int) rfl)))))) rfl) (sd_ret px_bool rfl)
  | tuple x => exact sd_ifT (PB.is (PBW.pb (pwo (pb_val (pd_isi T.z_isinstance (px_var 0 rfl) (pd_tyN (n := "bool") T.z_bool) rfl)) (pw1o (pb_not (pb_val (pd_isi T.z_isinstance (px_var 0 rfl) (pd_tyN (n := "int") T.z_int) rfl)))))) rfl) (sd_ret px_bool rfl)
  | dict x => exact sd_ifT (PB.is (PBW.pb (pwo (pb_val (pd_isi T.z_isinstance (px_var 0 rfl) (pd_tyN (n := "bool") T.z_bool) rfl)) (pw1o (pb_not (pb_val (pd_isi T.z_isinstance (px_var 0 rfl) (pd_tyN (n := "int") T.z_int) rfl)))))) rfl) (sd_ret px_bool rfl)
theorem ok_is_ratio (F : Fun K "is_ratio" "is_ratio" s_is_ratio f fd) (T : Txt K mg) (G_w1 : Gd P w K mg base "is_whole" 1 [dat K .none, dat K .none] (RWhole K)) (G_w2 : Gd P w K mg base "is_whole" 1 [dat K .none] (RWhole K)) : FnOk P w K mg base CX0 2 f fd ["thing"] (spT (RPred0 K isRat)) := by
  refine fn_mk F sc_is_ratio (fun ts A ⟨d, e, _⟩ => by rw [e]; rfl) fun cdv Ar outer s H E hr ts B hR => ?_
  obtain ⟨d, rfl, rfl⟩ := hR
  cases d with
  | none => exact sd_ifT (PBW.pb (pwo_t (PB.is (pb_not (pb_val (pd_isi T.z_isinstance (px_var 0 rfl) (pd_tyN (n := "tuple") T.z_tuple) rfl))) rfl) never_w)) (sd_ret px_bool rfl)
  | bool b => exact sd_ifT (PBW.pb (pwo_t (PB.is (pb_not (pb_val (pd_isi T.z_isinstance (px_var 0 rfl) (pd_tyN (n := "tuple") T.z_tuple) rfl))) rfl) never_w)) (sd_ret px_bool rfl)
  | int i => exact sd_ifT (PBW.pb (pwo_t (PB.is (pb_not (pb_val (pd_isi T.z_isinstance (px_var 0 rfl) (pd_tyN (n := "tuple") T.z_tuple) rfl))) rfl) never_w)) (sd_ret px_bool rfl)
  | str x => exact sd_ifT (PBW.pb (pwo_t (PB.is (pb_not (pb_val (pd_isi T.z_isinstance (px_var 0 rfl) (pd_tyN (n := "tuple") T.z_tuple) rfl))) rfl) never_w)) (sd_ret px_bool rfl)
  | list x => exact sd_ifT (PBW.pb (pwo_t (PB.is (pb_not (pb_val (pd_isi T.z_isinstance (px_var 0 rfl) (pd_tyN (n := "tuple") T.z_tuple) rfl))) rfl) never_w)) (sd_ret px_bool rfl)
  | dict x => exact sd_ifT (PBW.pb (pwo_t (PB.is (pb_not (pb_val (pd_isi T.z_isinstance (px_var 0 rfl) (pd_tyN (n := "tuple") T.z_tuple) rfl))) rfl) never_w)) (sd_ret px_bool rfl)
  | tuple ds =>
    match ds with
    | [] => exact sd_ifT (PB.is (PBW.pb (pwo (PB.is (pb_not (pb_val (pd_isi T.z_isinstance (px_var 0 rfl) (pd_tyN (n := "tuple") T.z_tuple) rfl))) rfl) (pw1o (pb_cmp (ct_ne hr.units rfl rfl) (pd_len T.z_len (px_var 0 rfl) rfl) px_int (nomark _))))) (rfl)) (sd_ret px_bool rfl)
    | [a] => exact sd_ifT (PB.is (PBW.pb (pwo (PB.is (pb_not (pb_val (pd_isi T.z_isinstance (px_var 0 rfl) (pd_tyN (n := "tuple") T.z_tuple) rfl))) rfl) (pw1o (pb_cmp (ct_ne hr.units rfl rfl) (pd_len T.z_len (px_var 0 rfl) rfl) px_int (nomark _))))) (rfl)) (sd_ret px_bool rfl)
    | a :: b :: c :: r => exact sd_ifT (PB.is (PBW.pb (pwo (PB.is (pb_not (pb_val (pd_isi T.z_isinstance (px_var 0 rfl) (pd_tyN (n := "tuple") T.z_tuple) rfl))) rfl) (pw1o (pb_cmp (ct_ne hr.units rfl rfl) (pd_len T.z_len (px_var 0 rfl) rfl) px_int (nomark _))))) (by show (false || !((((r.length + 1 + 1 + 1 : Nat) : Int)) == 2)) = true; rw [show ((((r.length + 1 + 1 + 1 : Nat) : Int)) == 2) = false from (beq_eq_false_iff_ne.mpr (by omega))]; rfl)) (sd_ret px_bool rfl)
    | [a, b] =>
      refine sd_skip (PB.is (PBW.pb (pwo (PB.is (pb_not (pb_val (pd_isi T.z_isinstance (px_var 0 rfl) (pd_tyN (n := "tuple") T.z_tuple) rfl))) rfl) (pw1o (pb_cmp (ct_ne hr.units rfl rfl) (pd_len T.z_len (px_var 0 rfl) rfl) px_int (nomark _))))) (rfl)) (sd_tup2 1 2 (px_var 0 rfl) ?_ sc_is_ratio.nd)
      show SD _ _ _ (retOf K (· = dat K (.bool (isWh a none none && (isWh b (some 1) none && gOne a b))))) _
      cases ha : isWh a none none with
      | false =>
        rw [Bool.false_and]
        exact sd_ret (pd_and_f (PD.is (t' := dat K (.bool false)) (pd_call G_w1 (hr.mono (by decide)) (pl_cons (px_var 1 rfl) pl_nil) ⟨_, none, none, rfl, rfl⟩) (by rw [ha]))) rfl
      | true =>
        rw [Bool.true_and]
        cases hb : isWh b (some 1) none with
        | false =>
          rw [Bool.false_and]
          exact sd_ret (PD.is (pd_and (PD.is (t' := dat K (.bool true)) (pd_call G_w1 (hr.mono (by decide)) (pl_cons (px_var 1 rfl) pl_nil) ⟨_, none, none, rfl, rfl⟩) (by rw [ha])) (pd_and_f (PD.is (t' := dat K (.bool false)) (pd_call G_w2 (hr.mono (by decide)) (pl_cons (px_var 2 rfl) (pl_cons px_int pl_nil)) ⟨_, some 1, none, rfl, rfl⟩) (by rw [hb])))) rfl) rfl
        | true =>
          rw [Bool.true_and]
          cases a with
          | int i =>
            cases b with
            | int j => exact sd_ret (PD.is (pd_and (PD.is (t' := dat K (.bool true)) (pd_call G_w1 (hr.mono (by decide)) (pl_cons (px_var 1 rfl) pl_nil) ⟨_, none, none, rfl, rfl⟩) (by rw [ha])) (pd_and (PD.is (t' := dat K (.bool true)) (pd_call G_w2 (hr.mono (by decide)) (pl_cons (px_var 2 rfl) (pl_cons px_int pl_nil)) ⟨_, some 1, none, rfl, rfl⟩) (by rw [hb])) (pd_one (pd_cmp (ct_eq hr.units rfl rfl) (pd_gcd T.m_gcd (px_var 1 rfl) (px_var 2 rfl)) px_int (nomark _))))) rfl) rfl
            | _ => cases hb
          | _ => cases ha
theorem ok_is_ratio_row (F : Fun K "is_ratio_row" "is_ratio_row" s_is_ratio_row f fd) (T : Txt K mg) (G_is_sequence : Gd P w K mg base "is_sequence" 1 [] (RPred0 K isSeq)) (G_is_ratio : Gd P w K mg base "is_ratio" 2 [] (RPred0 K isRat)) : FnOk P w K mg base CX0 3 f fd ["thing", "many"] (spT (RRow K)) := by
  refine fn_mk F sc_is_ratio_row (fun ts A ⟨d, m, e, _⟩ => by rw [e]; rfl) fun cdv Ar outer s H E hr ts B hR => ?_
  obtain ⟨d, m, rfl, hlen, rfl⟩ := hR
  cases d with
  | list ds => exact sd_ret (PD.is (pd_and (pd_call G_is_sequence (hr.mono (by decide)) (pl_cons (px_var 0 rfl) pl_nil) ⟨_, rfl, rfl⟩) (pd_and (pd_cmp (ct_eq hr.units rfl rfl) (pd_len T.z_len (px_var 0 rfl) rfl) (px_var 1 rfl) (nomark _)) (pd_one (pd_all (bs := ds.map isRat) T.z_all
        (PD.is (pd_lcD 2 (fun z => .bool (isRat z)) (px_var 0 rfl) (Or.inr rfl) hlen (fun z _ _ _ _ _ _ => pd_call G_is_ratio (hr.mono (by decide)) (pl_cons (px_var 2 rfl) pl_nil) ⟨_, rfl, rfl⟩) sc_is_ratio_row.nd (blkOk_by (own := [("one", 2)]) (N := ["thing", "many", "one"]) (sc := defScope s_is_ratio_row) (by decide +kernel)) (fun _ _ _ _ _ => pg_name (i := 2) sc_is_ratio_row.nd rfl (Or.inl rfl))) (by rw [List.map_map]; rfl)))))) (by rw [List.all_map]; rfl)) rfl
  | tuple ds => exact sd_ret (PD.is (pd_and (pd_call G_is_sequence (hr.mono (by decide)) (pl_cons (px_var 0 rfl) pl_nil) ⟨_, rfl, rfl⟩) (pd_and (pd_cmp (ct_eq hr.units rfl rfl) (pd_len T.z_len (px_var 0 rfl) rfl) (px_var 1 rfl) (nomark _)) (pd_one (pd_all (bs := ds.map isRat) T.z_all
        (PD.is (pd_lcD 2 (fun z => .bool (isRat z)) (px_var 0 rfl) (Or.inl rfl) hlen (fun z _ _ _ _ _ _ => pd_call G_is_ratio (hr.mono (by decide)) (pl_cons (px_var 2 rfl) pl_nil) ⟨_, rfl, rfl⟩) sc_is_ratio_row.nd (blkOk_by (own := [("one", 2)]) (N := ["thing", "many", "one"]) (sc := defScope s_is_ratio_row) (by decide +kernel)) (fun _ _ _ _ _ => pg_name (i := 2) sc_is_ratio_row.nd rfl (Or.inl rfl))) (by rw [List.map_map]; rfl)))))) (by rw [List.all_map]; rfl)) rfl
  | _ => exact sd_ret (pd_and_f (pd_call G_is_sequence (hr.mono (by decide)) (pl_cons (px_var 0 rfl) pl_nil) ⟨_, rfl, rfl⟩)) rfl
theorem ok_lowest (F : Fun K "lowest" "lowest" s_lowest f fd) (T : Txt K mg) : FnOk P w K mg base CX0 1 f fd ["top", "bottom"] (spT (RLow K)) := by
  refine fn_mk F sc_lowest (fun ts A ⟨i, j, n, e, _⟩ => by rw [e]; rfl) fun cdv Ar outer s H E hr ts B hR => ?_
  obtain ⟨i, j, n, rfl, hj, hb, hn, rfl⟩ := hR
  refine sd_asg 2 (pd_gcd T.m_gcd (px_var 0 rfl) (px_var 1 rfl)) ?_ sc_lowest.nd
  have hd := okD (i := i) hj hb hn
  by_cases hlt : j < 0
  · have e : sgI i j = -gI i j := if_pos hlt
    rw [e] at hd
    refine sd_ifT ((pb_cmp ct_lt (px_var 1 rfl) px_int (nomark _)).is (decide_eq_true hlt)) (sd_asg 2 (pd_neg (px_var 2 rfl)) (sd_nil ?_) sc_lowest.nd)
    refine sd_ret (pd_tup (ds := [_, _]) (pl_cons (pd_fdiv (px_var 0 rfl) (px_var 2 rfl) (hd _)) (pl_cons (pd_fdiv (px_var 1 rfl) (px_var 2 rfl) (hd _)) pl_nil))) ?_
    show dat K (.tuple [.int (i.fdiv (-gI i j)), .int (j.fdiv (-gI i j))]) = dat K (rD (lowQ i j))
    unfold lowQ
    rw [e]
    rfl
  · have e : sgI i j = gI i j := if_neg hlt
    rw [e] at hd
    refine sd_skip ((pb_cmp ct_lt (px_var 1 rfl) px_int (nomark _)).is (decide_eq_false hlt)) ?_
    refine sd_ret (pd_tup (ds := [_, _]) (pl_cons (pd_fdiv (px_var 0 rfl) (px_var 2 rfl) (hd _)) (pl_cons (pd_fdiv (px_var 1 rfl) (px_var 2 rfl) (hd _)) pl_nil))) ?_
    show dat K (.tuple [.int (i.fdiv (gI i j)), .int (j.fdiv (gI i j))]) = dat K (rD (lowQ i j))
    unfold lowQ
    rw [e]
    rfl
theorem ok_plus (F : Fun K "plus" "plus" s_plus f fd) (T : Txt K mg) (G_lowest : Gd P w K mg base "lowest" 1 [] (RLow K)) : FnOk P w K mg base CX0 2 f fd ["one", "other"] (spT (R2Q K plusQ)) := by
  refine fn_mk F sc_plus (fun ts A ⟨a, b, n, m, e, _⟩ => by rw [e]; rfl) fun cdv Ar outer s H E hr ts B hR => ?_
  obtain ⟨a, b, n, m, rfl, ha, hb, hn, rfl⟩ := hR
  exact sd_ret (pd_call G_lowest (hr.mono (by decide)) (pl_cons (pd_add (pd_mul (pd_ix (px_var 0 rfl) px_int rfl) (pd_ix (px_var 1 rfl) px_int rfl) (okM ha.t hb.b (by omega))) (pd_mul (pd_ix (px_var 1 rfl) px_int rfl) (pd_ix (px_var 0 rfl) px_int rfl) (okM hb.t ha.b (by omega)))) (pl_cons (pd_mul (pd_ix (px_var 0 rfl) px_int rfl) (pd_ix (px_var 1 rfl) px_int rfl) (okM ha.b hb.b (by omega))) pl_nil)) ⟨_, _, n + m, rfl, sm_bot ha hb, mul_ab ha.b hb.b, by omega, rfl⟩) rfl
theorem ok_minus (F : Fun K "minus" "minus" s_minus f fd) (T : Txt K mg) (G_lowest : Gd P w K mg base "lowest" 1 [] (RLow K)) : FnOk P w K mg base CX0 2 f fd ["one", "other"] (spT (R2Q K minusQ)) := by
  refine fn_mk F sc_minus (fun ts A ⟨a, b, n, m, e, _⟩ => by rw [e]; rfl) fun cdv Ar outer s H E hr ts B hR => ?_
  obtain ⟨a, b, n, m, rfl, ha, hb, hn, rfl⟩ := hR
  exact sd_ret (pd_call G_lowest (hr.mono (by decide)) (pl_cons (pd_sub (pd_mul (pd_ix (px_var 0 rfl) px_int rfl) (pd_ix (px_var 1 rfl) px_int rfl) (okM ha.t hb.b (by omega))) (pd_mul (pd_ix (px_var 1 rfl) px_int rfl) (pd_ix (px_var 0 rfl) px_int rfl) (okM hb.t ha.b (by omega)))) (pl_cons (pd_mul (pd_ix (px_var 0 rfl) px_int rfl) (pd_ix (px_var 1 rfl) px_int rfl) (okM ha.b hb.b (by omega))) pl_nil)) ⟨_, _, n + m, rfl, sm_bot ha hb, mul_ab ha.b hb.b, by omega, rfl⟩) rfl
theorem ok_times (F : Fun K "times" "times" s_times f fd) (T : Txt K mg) (G_lowest : Gd P w K mg base "lowest" 1 [] (RLow K)) : FnOk P w K mg base CX0 2 f fd ["one", "other"] (spT (R2Q K timesQ)) := by
  refine fn_mk F sc_times (fun ts A ⟨a, b, n, m, e, _⟩ => by rw [e]; rfl) fun cdv Ar outer s H E hr ts B hR => ?_
  obtain ⟨a, b, n, m, rfl, ha, hb, hn, rfl⟩ := hR
  exact sd_ret (pd_call G_lowest (hr.mono (by decide)) (pl_cons (pd_mul (pd_ix (px_var 0 rfl) px_int rfl) (pd_ix (px_var 1 rfl) px_int rfl) (okM ha.t hb.t (by omega))) (pl_cons (pd_mul (pd_ix (px_var 0 rfl) px_int rfl) (pd_ix (px_var 1 rfl) px_int rfl) (okM ha.b hb.b (by omega))) pl_nil)) ⟨_, _, n + m, rfl, sm_bot ha hb, mul_ab ha.b hb.b, by omega, rfl⟩) rfl
theorem ok_negative (F : Fun K "negative" "negative" s_negative f fd) (T : Txt K mg) : FnOk P w K mg base CX0 1 f fd ["one"] (spT (RNeg K)) := by
  refine fn_mk F sc_negative (fun ts A ⟨a, e, _⟩ => by rw [e]; rfl) fun cdv Ar outer s H E hr ts B hR => ?_
  obtain ⟨a, rfl, rfl⟩ := hR
  exact sd_ret (pd_tup (ds := [_, _]) (pl_cons (pd_neg (pd_ix (px_var 0 rfl) px_int rfl)) (pl_cons (pd_ix (px_var 0 rfl) px_int rfl) pl_nil))) rfl
theorem ok_sign_of_whole (F : Fun K "sign_of_whole" "sign_of_whole" s_sign_of_whole f fd) (T : Txt K mg) : FnOk P w K mg base CX0 1 f fd ["number"] (spT (RSign K)) := by
  refine fn_mk F sc_sign_of_whole (fun ts A ⟨a, e, _⟩ => by rw [e]; rfl) fun cdv Ar outer s H E hr ts B hR => ?_
  obtain ⟨i, rfl, rfl⟩ := hR
  by_cases h0 : i = 0
  · subst h0
    exact sd_ifT (pb_cmp (ct_eq hr.units rfl rfl) (px_var 0 rfl) px_int (nomark _)) (sd_ret px_int rfl)
  · refine sd_skip ((pb_cmp (ct_eq hr.units rfl rfl) (px_var 0 rfl) px_int (nomark _)).is (by show (i == 0) = false; simpa using h0)) ?_
    have e : signI i = if 0 < i then 1 else -1 := if_neg h0
    rw [e]
    by_cases h1 : 0 < i
    · rw [if_pos h1]
      exact sd_ret (px_ifT ((pb_cmp ct_gt (px_var 0 rfl) px_int (nomark _)).is (decide_eq_true h1)) px_int) rfl
    · rw [if_neg h1]
      exact sd_ret (px_ifF ((pb_cmp ct_gt (px_var 0 rfl) px_int (nomark _)).is (decide_eq_false h1)) (pd_neg px_int)) rfl
theorem ok_is_couple (F : Fun K "is_couple" "is_couple" s_is_couple f fd) (T : Txt K mg) (G_is_ratio_row : Gd P w K mg base "is_ratio_row" 3 [] (RRow K)) : FnOk P w K mg base CX0 4 f fd ["thing"] (spT (RPred K (fun d => isRow d 2))) := by
  refine fn_mk F sc_is_couple (fun ts A ⟨d, e, _⟩ => by rw [e]; rfl) fun cdv Ar outer s H E hr ts B hR => ?_
  obtain ⟨d, rfl, hlen, rfl⟩ := hR
  exact sd_ret (pd_call G_is_ratio_row (hr.mono (by decide)) (pl_cons (px_var 0 rfl) (pl_cons px_int pl_nil)) ⟨_, _, rfl, hlen, rfl⟩) rfl
theorem ok_place_minus (F : Fun K "place_minus" "place_minus" s_place_minus f fd) (T : Txt K mg) (G_minus : Gd P w K mg base "minus" 2 [] (R2Q K minusQ)) : FnOk P w K mg base CX0 3 f fd ["one", "other"] (spT (R2CL K lessC)) := by
  refine fn_mk F sc_place_minus (fun ts A ⟨d, a, b, n, m, e, _⟩ => by rw [e]; rfl) fun cdv Ar outer s H E hr ts B hR => ?_
  obtain ⟨d, p, q, n, m, rfl, hd, hp, hq, hn, rfl⟩ := hR
  rcases hd with rfl | rfl <;> exact sd_ret (pd_tup (ds := [_, _]) (pl_cons (pd_call G_minus (hr.mono (by decide)) (pl_cons (pd_ix (px_var 0 rfl) px_int rfl) (pl_cons (pd_ix (px_var 1 rfl) px_int rfl) pl_nil)) ⟨_, _, _, _, rfl, hp.x, hq.x, by omega, rfl⟩) (pl_cons (pd_call G_minus (hr.mono (by decide)) (pl_cons (pd_ix (px_var 0 rfl) px_int rfl) (pl_cons (pd_ix (px_var 1 rfl) px_int rfl) pl_nil)) ⟨_, _, _, _, rfl, hp.y, hq.y, by omega, rfl⟩) pl_nil))) rfl
theorem ok_dot_of (F : Fun K "dot_of" "dot_of" s_dot_of f fd) (T : Txt K mg) (G_plus : Gd P w K mg base "plus" 2 [] (R2Q K plusQ)) (G_times : Gd P w K mg base "times" 2 [] (R2Q K timesQ)) : FnOk P w K mg base CX0 3 f fd ["one", "other"] (spT (R2CQ K dotC)) := by
  refine fn_mk F sc_dot_of (fun ts A ⟨a, b, n, m, e, _⟩ => by rw [e]; rfl) fun cdv Ar outer s H E hr ts B hR => ?_
  obtain ⟨p, q, n, m, rfl, hp, hq, hn, rfl⟩ := hR
  exact sd_ret (pd_call G_plus (hr.mono (by decide)) (pl_cons (pd_call G_times (hr.mono (by decide)) (pl_cons (pd_ix (px_var 0 rfl) px_int rfl) (pl_cons (pd_ix (px_var 1 rfl) px_int rfl) pl_nil)) ⟨_, _, _, _, rfl, hp.x, hq.x, by omega, rfl⟩) (pl_cons (pd_call G_times (hr.mono (by decide)) (pl_cons (pd_ix (px_var 0 rfl) px_int rfl) (pl_cons (pd_ix (px_var 1 rfl) px_int rfl) pl_nil)) ⟨_, _, _, _, rfl, hp.y, hq.y, by omega, rfl⟩) pl_nil)) ⟨_, _, _, _, rfl, (sm_times hp.x hq.x), (sm_times hp.y hq.y), by omega, rfl⟩) rfl
theorem ok_cross_of (F : Fun K "cross_of" "cross_of" s_cross_of f fd) (T : Txt K mg) (G_minus : Gd P w K mg base "minus" 2 [] (R2Q K minusQ)) (G_times : Gd P w K mg base "times" 2 [] (R2Q K timesQ)) : FnOk P w K mg base CX0 3 f fd ["one", "other"] (spT (R2CQ K crossC)) := by
  refine fn_mk F sc_cross_of (fun ts A ⟨a, b, n, m, e, _⟩ => by rw [e]; rfl) fun cdv Ar outer s H E hr ts B hR => ?_
  obtain ⟨p, q, n, m, rfl, hp, hq, hn, rfl⟩ := hR
  exact sd_ret (pd_call G_minus (hr.mono (by decide)) (pl_cons (pd_call G_times (hr.mono (by decide)) (pl_cons (pd_ix (px_var 0 rfl) px_int rfl) (pl_cons (pd_ix (px_var 1 rfl) px_int rfl) pl_nil)) ⟨_, _, _, _, rfl, hp.x, hq.y, by omega, rfl⟩) (pl_cons (pd_call G_times (hr.mono (by decide)) (pl_cons (pd_ix (px_var 0 rfl) px_int rfl) (pl_cons (pd_ix (px_var 1 rfl) px_int rfl) pl_nil)) ⟨_, _, _, _, rfl, hp.y, hq.x, by omega, rfl⟩) pl_nil)) ⟨_, _, _, _, rfl, (sm_times hp.x hq.y), (sm_times hp.y hq.x), by omega, rfl⟩) rfl
theorem ok_quarter_left (F : Fun K "quarter_left" "quarter_left" s_quarter_left f fd) (T : Txt K mg) (G_negative : Gd P w K mg base "negative" 1 [] (RNeg K)) : FnOk P w K mg base CX0 2 f fd ["one"] (spT (RQuar K)) := by
  refine fn_mk F sc_quarter_left (fun ts A ⟨a, e, _⟩ => by rw [e]; rfl) fun cdv Ar outer s H E hr ts B hR => ?_
  obtain ⟨p, rfl, rfl⟩ := hR
  exact sd_ret (pd_tup (ds := [_, _]) (pl_cons (pd_call G_negative (hr.mono (by decide)) (pl_cons (pd_ix (px_var 0 rfl) px_int rfl) pl_nil) ⟨_, rfl, rfl⟩) (pl_cons (pd_ix (px_var 0 rfl) px_int rfl) pl_nil))) rfl
theorem ok__law_gcd (F : Fun K "_law_gcd" "_law_gcd" s__law_gcd f fd) (T : Txt K mg) : FnOk P w K mg base CX0 1 f fd ["_law_one", "_law_other"] (spT (RGcd K)) := by
  refine fn_mk F sc__law_gcd (fun ts A ⟨a, b, e, _⟩ => by rw [e]; rfl) fun cdv Ar outer s H E hr ts B hR => ?_
  obtain ⟨i, j, rfl, rfl⟩ := hR
  refine sd_asg 0 (pd_abs T.z_abs (px_var 0 rfl)) ?_ sc__law_gcd.nd
  refine sd_asg 1 (pd_abs T.z_abs (px_var 1 rfl)) ?_ sc__law_gcd.nd
  have ab : ∀ x : Int, (if x < 0 then -x else x) = (x.natAbs : Int) := fun x => by split <;> omega
  rw [ab, ab]
  refine sd_while (fun m Δ' => ∃ (x y : Nat) (s2 : Sl), Δ' = [.th (dat K (.int (x : Int))), .th (dat K (.int (y : Int))), s2] ∧ m = y ∧ Nat.gcd x y = Nat.gcd i.natAbs j.natAbs) ⟨j.natAbs, i.natAbs, j.natAbs, .no, rfl, rfl, rfl⟩ ?_
  rintro m Δ' ⟨x, y, s2, rfl, rfl, hg⟩
  refine ⟨decide (0 < (m : Int)), pb_cmp ct_gt (px_var 1 rfl) px_int (nomark _), fun hk => ?_, fun hk => ?_⟩
  · have hy : 0 < (m : Int) := of_decide_eq_true hk
    refine sd_asg 2 (pd_mod (pd_int T.z_int (px_var 0 rfl)) (px_var 1 rfl) (by omega)) ?_ sc__law_gcd.nd
    refine sd_asg 0 (px_var 1 rfl) ?_ sc__law_gcd.nd
    refine sd_asg 1 (px_var 2 rfl) ?_ sc__law_gcd.nd
    refine sd_nil ?_
    show ∃ m', m' < m ∧ ∃ (x' y' : Nat) (s2' : Sl), _ = [Sl.th (dat K (.int (x' : Int))), .th (dat K (.int (y' : Int))), s2'] ∧ m' = y' ∧ Nat.gcd x' y' = Nat.gcd i.natAbs j.natAbs
    refine ⟨x % m, Nat.mod_lt _ (by omega), m, x % m, .th (dat K (.int ((x : Int).fmod (m : Int)))), ?_, rfl, ?_⟩
    · rw [show ((x % m : Nat) : Int) = (x : Int).fmod (m : Int) from by rw [Int.fmod_eq_emod_of_nonneg _ (by omega)]; rfl]
      rfl
    · rw [← hg, Nat.gcd_comm x m, Nat.gcd_rec m x, Nat.gcd_comm]
  · have hy : m = 0 := by
      have := of_decide_eq_false hk
      omega
    subst hy
    rw [Nat.gcd_zero_right] at hg
    refine sd_ret (px_var 0 rfl) ?_
    show dat K (.int (x : Int)) = dat K (.int (gI i j))
    unfold gI
    rw [hg]
theorem ok__law_ratio (F : Fun K "_law_ratio" "_law_ratio" s__law_ratio f fd) (T : Txt K mg) (G__law_gcd : Gd P w K mg base "_law_gcd" 1 [] (RGcd K)) : FnOk P w K mg base CX0 2 f fd ["_law_top", "_law_bottom"] (spT (RLow K)) := by
  refine fn_mk F sc__law_ratio (fun ts A ⟨i, j, n, e, _⟩ => by rw [e]; rfl) fun cdv Ar outer s H E hr ts B hR => ?_
  obtain ⟨i, j, n, rfl, hj, hb, hn, rfl⟩ := hR
  refine sd_asg 2 (pd_call G__law_gcd (hr.mono (by decide)) (pl_cons (px_var 0 rfl) (pl_cons (px_var 1 rfl) pl_nil)) ⟨_, _, rfl, rfl⟩) ?_ sc__law_ratio.nd
  have hd := okD (i := i) hj hb hn
  by_cases hlt : j < 0
  · have e : sgI i j = -gI i j := if_pos hlt
    rw [e] at hd
    refine sd_ifT ((pb_cmp ct_lt (px_var 1 rfl) px_int (nomark _)).is (decide_eq_true hlt)) (sd_asg 2 (pd_neg (px_var 2 rfl)) (sd_nil ?_) sc__law_ratio.nd)
    refine sd_ret (pd_tup (ds := [_, _]) (pl_cons (pd_fdiv (px_var 0 rfl) (px_var 2 rfl) (hd _)) (pl_cons (pd_fdiv (px_var 1 rfl) (px_var 2 rfl) (hd _)) pl_nil))) ?_
    show dat K (.tuple [.int (i.fdiv (-gI i j)), .int (j.fdiv (-gI i j))]) = dat K (rD (lowQ i j))
    unfold lowQ
    rw [e]
    rfl
  · have e : sgI i j = gI i j := if_neg hlt
    rw [e] at hd
    refine sd_skip ((pb_cmp ct_lt (px_var 1 rfl) px_int (nomark _)).is (decide_eq_false hlt)) ?_
    refine sd_ret (pd_tup (ds := [_, _]) (pl_cons (pd_fdiv (px_var 0 rfl) (px_var 2 rfl) (hd _)) (pl_cons (pd_fdiv (px_var 1 rfl) (px_var 2 rfl) (hd _)) pl_nil))) ?_
    show dat K (.tuple [.int (i.fdiv (gI i j)), .int (j.fdiv (gI i j))]) = dat K (rD (lowQ i j))
    unfold lowQ
    rw [e]
    rfl
theorem ok__law_plus (F : Fun K "_law_plus" "_law_plus" s__law_plus f fd) (T : Txt K mg) (G__law_ratio : Gd P w K mg base "_law_ratio" 2 [] (RLow K)) : FnOk P w K mg base CX0 3 f fd ["_law_one", "_law_other"] (spT (R2Q K plusQ)) := by
  refine fn_mk F sc__law_plus (fun ts A ⟨a, b, n, m, e, _⟩ => by rw [e]; rfl) fun cdv Ar outer s H E hr ts B hR => ?_
  obtain ⟨a, b, n, m, rfl, ha, hb, hn, rfl⟩ := hR
  exact sd_ret (pd_call G__law_ratio (hr.mono (by decide)) (pl_cons (pd_add (pd_mul (pd_ix (px_var 0 rfl) px_int rfl) (pd_ix (px_var 1 rfl) px_int rfl) (okM ha.t hb.b (by omega))) (pd_mul (pd_ix (px_var 1 rfl) px_int rfl) (pd_ix (px_var 0 rfl) px_int rfl) (okM hb.t ha.b (by omega)))) (pl_cons (pd_mul (pd_ix (px_var 0 rfl) px_int rfl) (pd_ix (px_var 1 rfl) px_int rfl) (okM ha.b hb.b (by omega))) pl_nil)) ⟨_, _, n + m, rfl, sm_bot ha hb, mul_ab ha.b hb.b, by omega, rfl⟩) rfl
theorem ok__law_minus (F : Fun K "_law_minus" "_law_minus" s__law_minus f fd) (T : Txt K mg) (G__law_ratio : Gd P w K mg base "_law_ratio" 2 [] (RLow K)) : FnOk P w K mg base CX0 3 f fd ["_law_one", "_law_other"] (spT (R2Q K minusQ)) := by
  refine fn_mk F sc__law_minus (fun ts A ⟨a, b, n, m, e, _⟩ => by rw [e]; rfl) fun cdv Ar outer s H E hr ts B hR => ?_
  obtain ⟨a, b, n, m, rfl, ha, hb, hn, rfl⟩ := hR
  exact sd_ret (pd_call G__law_ratio (hr.mono (by decide)) (pl_cons (pd_sub (pd_mul (pd_ix (px_var 0 rfl) px_int rfl) (pd_ix (px_var 1 rfl) px_int rfl) (okM ha.t hb.b (by omega))) (pd_mul (pd_ix (px_var 1 rfl) px_int rfl) (pd_ix (px_var 0 rfl) px_int rfl) (okM hb.t ha.b (by omega)))) (pl_cons (pd_mul (pd_ix (px_var 0 rfl) px_int rfl) (pd_ix (px_var 1 rfl) px_int rfl) (okM ha.b hb.b (by omega))) pl_nil)) ⟨_, _, n + m, rfl, sm_bot ha hb, mul_ab ha.b hb.b, by omega, rfl⟩) rfl
theorem ok__law_times (F : Fun K "_law_times" "_law_times" s__law_times f fd) (T : Txt K mg) (G__law_ratio : Gd P w K mg base "_law_ratio" 2 [] (RLow K)) : FnOk P w K mg base CX0 3 f fd ["_law_one", "_law_other"] (spT (R2Q K timesQ)) := by
  refine fn_mk F sc__law_times (fun ts A ⟨a, b, n, m, e, _⟩ => by rw [e]; rfl) fun cdv Ar outer s H E hr ts B hR => ?_
  obtain ⟨a, b, n, m, rfl, ha, hb, hn, rfl⟩ := hR
  exact sd_ret (pd_call G__law_ratio (hr.mono (by decide)) (pl_cons (pd_mul (pd_ix (px_var 0 rfl) px_int rfl) (pd_ix (px_var 1 rfl) px_int rfl) (okM ha.t hb.t (by omega))) (pl_cons (pd_mul (pd_ix (px_var 0 rfl) px_int rfl) (pd_ix (px_var 1 rfl) px_int rfl) (okM ha.b hb.b (by omega))) pl_nil)) ⟨_, _, n + m, rfl, sm_bot ha hb, mul_ab ha.b hb.b, by omega, rfl⟩) rfl
theorem ok__law_add (F : Fun K "_law_add" "_law_add" s__law_add f fd) (T : Txt K mg) (G__law_plus : Gd P w K mg base "_law_plus" 3 [] (R2Q K plusQ)) : FnOk P w K mg base CX0 4 f fd ["_law_one", "_law_other"] (spT (R2C K addC)) := by
  refine fn_mk F sc__law_add (fun ts A ⟨a, b, n, m, e, _⟩ => by rw [e]; rfl) fun cdv Ar outer s H E hr ts B hR => ?_
  obtain ⟨p, q, n, m, rfl, hp, hq, hn, rfl⟩ := hR
  exact sd_ret (pd_tup (ds := [_, _]) (pl_cons (pd_call G__law_plus (hr.mono (by decide)) (pl_cons (pd_ix (px_var 0 rfl) px_int rfl) (pl_cons (pd_ix (px_var 1 rfl) px_int rfl) pl_nil)) ⟨_, _, _, _, rfl, hp.x, hq.x, by omega, rfl⟩) (pl_cons (pd_call G__law_plus (hr.mono (by decide)) (pl_cons (pd_ix (px_var 0 rfl) px_int rfl) (pl_cons (pd_ix (px_var 1 rfl) px_int rfl) pl_nil)) ⟨_, _, _, _, rfl, hp.y, hq.y, by omega, rfl⟩) pl_nil))) rfl
theorem ok__law_less (F : Fun K "_law_less" "_law_less" s__law_less f fd) (T : Txt K mg) (G__law_minus : Gd P w K mg base "_law_minus" 3 [] (R2Q K minusQ)) : FnOk P w K mg base CX0 4 f fd ["_law_one", "_law_other"] (spT (R2C K lessC)) := by
  refine fn_mk F sc__law_less (fun ts A ⟨a, b, n, m, e, _⟩ => by rw [e]; rfl) fun cdv Ar outer s H E hr ts B hR => ?_
  obtain ⟨p, q, n, m, rfl, hp, hq, hn, rfl⟩ := hR
  exact sd_ret (pd_tup (ds := [_, _]) (pl_cons (pd_call G__law_minus (hr.mono (by decide)) (pl_cons (pd_ix (px_var 0 rfl) px_int rfl) (pl_cons (pd_ix (px_var 1 rfl) px_int rfl) pl_nil)) ⟨_, _, _, _, rfl, hp.x, hq.x, by omega, rfl⟩) (pl_cons (pd_call G__law_minus (hr.mono (by decide)) (pl_cons (pd_ix (px_var 0 rfl) px_int rfl) (pl_cons (pd_ix (px_var 1 rfl) px_int rfl) pl_nil)) ⟨_, _, _, _, rfl, hp.y, hq.y, by omega, rfl⟩) pl_nil))) rfl
theorem ok__law_scaled (F : Fun K "_law_scaled" "_law_scaled" s__law_scaled f fd) (T : Txt K mg) (G__law_times : Gd P w K mg base "_law_times" 3 [] (R2Q K timesQ)) : FnOk P w K mg base CX0 4 f fd ["_law_one", "_law_by"] (spT (RSc K)) := by
  refine fn_mk F sc__law_scaled (fun ts A ⟨a, b, n, m, e, _⟩ => by rw [e]; rfl) fun cdv Ar outer s H E hr ts B hR => ?_
  obtain ⟨p, q, n, m, rfl, hp, hq, hn, rfl⟩ := hR
  exact sd_ret (pd_tup (ds := [_, _]) (pl_cons (pd_call G__law_times (hr.mono (by decide)) (pl_cons (pd_ix (px_var 0 rfl) px_int rfl) (pl_cons (px_var 1 rfl) pl_nil)) ⟨_, _, _, _, rfl, hp.x, hq, by omega, rfl⟩) (pl_cons (pd_call G__law_times (hr.mono (by decide)) (pl_cons (pd_ix (px_var 0 rfl) px_int rfl) (pl_cons (px_var 1 rfl) pl_nil)) ⟨_, _, _, _, rfl, hp.y, hq, by omega, rfl⟩) pl_nil))) rfl
theorem ok_sign_of (F : Fun K "sign_of" "sign_of" s_sign_of f fd) (T : Txt K mg) (G_sign_of_whole : Gd P w K mg base "sign_of_whole" 1 [] (RSign K)) : FnOk P w K mg base CX0 2 f fd ["one"] (spT (RSignOf K)) := by
  refine fn_mk F sc_sign_of (fun ts A ⟨a, e, _⟩ => by rw [e]; rfl) fun cdv Ar outer s H E hr ts B hR => ?_
  obtain ⟨a, rfl, rfl⟩ := hR
  exact sd_ret (pd_call G_sign_of_whole (hr.mono (by decide)) (pl_cons (pd_ix (px_var 0 rfl) px_int rfl) pl_nil) ⟨_, rfl, rfl⟩) rfl
theorem ok__law_compare (F : Fun K "_law_compare" "_law_compare" s__law_compare f fd) (T : Txt K mg) : FnOk P w K mg base CX0 1 f fd ["_law_one", "_law_other"] (spT (RCmp K)) := by
  refine fn_mk F sc__law_compare (fun ts A ⟨a, b, n, m, e, _⟩ => by rw [e]; rfl) fun cdv Ar outer s H E hr ts B hR => ?_
  obtain ⟨a, b, n, m, rfl, ha, hb, hn, rfl⟩ := hR
  refine sd_asg 2 (pd_mul (pd_ix (px_var 0 rfl) px_int rfl) (pd_ix (px_var 1 rfl) px_int rfl) (okM ha.t hb.b (by omega))) ?_ sc__law_compare.nd
  refine sd_asg 3 (pd_mul (pd_ix (px_var 1 rfl) px_int rfl) (pd_ix (px_var 0 rfl) px_int rfl) (okM hb.t ha.b (by omega))) ?_ sc__law_compare.nd
  by_cases h1 : a.1 * b.2 < b.1 * a.2
  · refine sd_ret (px_ifT ((pb_cmp ct_lt (px_var 2 rfl) (px_var 3 rfl) (nomark _)).is (decide_eq_true h1)) (pd_neg px_int)) ?_
    show dat K (.int (-1)) = dat K (.int (cmpQ a b))
    have e : cmpQ a b = -1 := by unfold cmpQ signI; rw [if_neg (by omega), if_neg (by omega)]
    rw [e]
  · by_cases h2 : b.1 * a.2 < a.1 * b.2
    · refine sd_ret (px_ifF ((pb_cmp ct_lt (px_var 2 rfl) (px_var 3 rfl) (nomark _)).is (decide_eq_false h1)) (px_ifT ((pb_cmp ct_gt (px_var 2 rfl) (px_var 3 rfl) (nomark _)).is (decide_eq_true h2)) px_int)) ?_
      show dat K (.int 1) = dat K (.int (cmpQ a b))
      have e : cmpQ a b = 1 := by unfold cmpQ signI; rw [if_neg (by omega), if_pos (by omega)]
      rw [e]
    · refine sd_ret (px_ifF ((pb_cmp ct_lt (px_var 2 rfl) (px_var 3 rfl) (nomark _)).is (decide_eq_false h1)) (px_ifF ((pb_cmp ct_gt (px_var 2 rfl) (px_var 3 rfl) (nomark _)).is (decide_eq_false h2)) px_int)) ?_
      show dat K (.int 0) = dat K (.int (cmpQ a b))
      have e : cmpQ a b = 0 := by unfold cmpQ signI; rw [if_pos (by omega)]
      rw [e]
theorem ok_is_sequenceA (F : Fun K "is_sequence" "is_sequence" s_is_sequence f fd) (T : Txt K mg) : FnOk P w K mg base CX0 1 f fd ["thing"] (spT (RSeqA K)) := by
  refine fn_mk F sc_is_sequence (fun ts A ⟨_, _, e, _⟩ => by rw [e]; rfl) fun cdv Ar outer s H E hr ts B hR => ?_
  obtain ⟨t, b, rfl, h, rfl⟩ := hR
  rcases h with ⟨x, rfl, rfl⟩ | ⟨⟨us, rfl | rfl⟩, rfl⟩
  · match x with
    | none => exact sd_ret (PD.is (pd_isi2A (x := none) (n1 := "list") (n2 := "tuple") T.z_isinstance (px_var 0 rfl) T.z_list T.z_tuple rfl rfl) rfl) rfl
    | some d => cases d <;> exact sd_ret (PD.is (pd_isi2 (n1 := "list") (n2 := "tuple") T.z_isinstance (px_var 0 rfl) T.z_list T.z_tuple rfl rfl) rfl) rfl
  · exact sd_ret (PD.is (pd_isi2T (n1 := "list") (n2 := "tuple") (fun _ _ => lst_ty) T.z_isinstance (px_var 0 rfl) T.z_list T.z_tuple rfl rfl) rfl) rfl
  · exact sd_ret (PD.is (pd_isi2T (n1 := "list") (n2 := "tuple") (fun _ _ => tup_ty) T.z_isinstance (px_var 0 rfl) T.z_list T.z_tuple rfl rfl) rfl) rfl
end
end K03
set_option Elab.async false
set_option linter.all false
set_option maxRecDepth 100000
/-! Works seen otherwise: shifted, turned, mirrored, grown, begun at another corner. -/
namespace DL
open PySem PySem.Spec PyProof.Rows L2
inductive Lead where
  | sh (p : Cp)
  | tu
  | mi
  | gr (q : Q)
  | be (k : Nat)
def mirC (p : Cp) : Cp := (negQ p.1, p.2)
def ldP : Lead → Cp → Cp
  | .sh p, x => addC x p
  | .tu, x => quarC x
  | .mi, x => mirC x
  | .gr q, x => scC x q
  | .be _, x => x
def mirL (cs : List Cp) : List Cp := cs.take 1 ++ (cs.drop 1).reverse
def ld : Lead → List Cp → List Cp
  | .mi, cs => (mirL cs).map mirC
  | .be k, cs => cs.drop k ++ cs.take k
  | L, cs => cs.map (ldP L)
def ldS (n : Nat) : Lead → Stp → Stp
  | .mi, s => (n - 1 - s.1, minusQ (1, 1) s.2)
  | .be k, s => ((s.1 + n - k) % n, s.2)
  | _, s => s
def ixL (n : Nat) : Lead → Nat → Nat
  | .mi, i => if i = 0 then 0 else n - i
  | .be k, i => (i + k) % n
  | _, i => i
/-- what a lead asks -/
def LOk (n : Nat) : Lead → Prop
  | .sh p => Cl p ∧ CSm 25 p
  | .gr q => Low q ∧ 0 < q.1 ∧ Sm 6 q
  | .be k => k < n
  | _ => True
theorem mirL_len (cs : List Cp) : (mirL cs).length = cs.length := by
  unfold mirL
  cases cs with
  | nil => rfl
  | cons a l => simp
theorem ld_len {L : Lead} {cs : List Cp} (h : LOk cs.length L) : (ld L cs).length = cs.length := by
  cases L with
  | mi => show ((mirL cs).map mirC).length = _; rw [List.length_map, mirL_len]
  | be k =>
    have hk : k < cs.length := h
    show (cs.drop k ++ cs.take k).length = _
    rw [List.length_append, List.length_drop, List.length_take]
    omega
  | sh p => exact List.length_map _
  | tu => exact List.length_map _
  | gr q => exact List.length_map _
theorem at_map {f : Cp → Cp} {cs : List Cp} {i : Nat} (h : i < cs.length) : at_ (cs.map f) i = f (at_ cs i) := by
  have e : (cs.map f)[i]? = some (f (at_ cs i)) := by rw [List.getElem?_map, at_get h]; rfl
  have e2 := at_get (cs := cs.map f) (k := i) (by rw [List.length_map]; exact h)
  exact Option.some.inj (e2.symm.trans e)
theorem at_eq {cs ds : List Cp} {i j : Nat} (hi : i < cs.length) (hj : j < ds.length) (h : cs[i]? = ds[j]?) : at_ cs i = at_ ds j := Option.some.inj ((at_get hi).symm.trans (h.trans (at_get hj)))
theorem at_mir {cs : List Cp} {i : Nat} (h : i < cs.length) : at_ (mirL cs) i = at_ cs (if i = 0 then 0 else cs.length - i) := by
  cases cs with
  | nil => cases h
  | cons a l =>
    have h' : i < l.length + 1 := h
    by_cases z : i = 0
    · subst z
      rfl
    · rw [if_neg z]
      have hl : (a :: l).length = l.length + 1 := rfl
      refine at_eq (by rw [mirL_len]; exact h) (by rw [hl]; omega) ?_
      show ([a] ++ l.reverse)[i]? = (a :: l)[(a :: l).length - i]?
      rw [hl, List.getElem?_append_right (by show 1 ≤ i; omega)]
      show l.reverse[i - 1]? = _
      rw [List.getElem?_reverse (by omega), show l.length + 1 - i = (l.length - 1 - (i - 1)) + 1 by omega, List.getElem?_cons_succ]
theorem at_rot {cs : List Cp} {i k : Nat} (hk : k < cs.length) (h : i < cs.length) : at_ (cs.drop k ++ cs.take k) i = at_ cs ((i + k) % cs.length) := by
  have hm : (i + k) % cs.length < cs.length := Nat.mod_lt _ (by omega)
  refine at_eq (by rw [List.length_append, List.length_drop, List.length_take]; omega) hm ?_
  by_cases z : i < cs.length - k
  · rw [List.getElem?_append_left (by rw [List.length_drop]; exact z), List.getElem?_drop, Nat.mod_eq_of_lt (by omega), Nat.add_comm]
  · rw [List.getElem?_append_right (by rw [List.length_drop]; omega), List.length_drop, List.getElem?_take, if_pos (by omega), Nat.mod_eq_sub_mod (by omega), Nat.mod_eq_of_lt (by omega)]
    congr 1
    omega
theorem ix_lt {n i : Nat} {L : Lead} (hi : i < n) : ixL n L i < n := by
  cases L with
  | mi => show (if i = 0 then 0 else n - i) < n; split <;> omega
  | be k => exact Nat.mod_lt _ (by omega)
  | sh p => exact hi
  | tu => exact hi
  | gr q => exact hi
theorem at_ld {L : Lead} {cs : List Cp} {i : Nat} (h : LOk cs.length L) (hi : i < cs.length) : at_ (ld L cs) i = ldP L (at_ cs (ixL cs.length L i)) := by
  cases L with
  | mi => show at_ ((mirL cs).map mirC) i = _; rw [at_map (by rw [mirL_len]; exact hi), at_mir hi]; rfl
  | be k => exact at_rot h hi
  | sh p => exact at_map hi
  | tu => exact at_map hi
  | gr q => exact at_map hi
theorem cl_mir {p : Cp} (h : Cl p) : Cl (mirC p) := ⟨(cl_quar (p := (p.2, p.1)) ⟨h.y, h.x⟩).x, h.y⟩
theorem rp_mir {p : Cp} : rp (mirC p) = (-(rp p).1, (rp p).2) := Prod.ext vR_neg rfl
theorem cl_ldP {n : Nat} {L : Lead} {x : Cp} (h : LOk n L) (hx : Cl x) : Cl (ldP L x) := by
  cases L with
  | sh p => exact cl_add hx h.1
  | tu => exact cl_quar hx
  | mi => exact cl_mir hx
  | gr q => exact cl_scP hx h.1.2
  | be k => exact hx
def sgL : Lead → Rat
  | .mi => -1
  | .gr q => vR q * vR q
  | _ => 1
theorem cq_ld {n : Nat} {L : Lead} {a b c : Cp} (h : LOk n L) (ha : Cl a) (hb : Cl b) (hc : Cl c) : HU.cq (rp (ldP L a)) (rp (ldP L b)) (rp (ldP L c)) = sgL L * HU.cq (rp a) (rp b) (rp c) := by
  cases L with
  | sh p =>
    show HU.cq (rp (addC a p)) (rp (addC b p)) (rp (addC c p)) = 1 * _
    rw [rp_add ha h.1, rp_add hb h.1, rp_add hc h.1]
    unfold HU.cq
    grind
  | tu =>
    show HU.cq (rp (quarC a)) (rp (quarC b)) (rp (quarC c)) = 1 * _
    rw [rp_quar, rp_quar, rp_quar]
    unfold HU.cq
    grind
  | mi =>
    show HU.cq (rp (mirC a)) (rp (mirC b)) (rp (mirC c)) = -1 * _
    rw [rp_mir, rp_mir, rp_mir]
    unfold HU.cq
    grind
  | gr q =>
    show HU.cq (rp (scC a q)) (rp (scC b q)) (rp (scC c q)) = vR q * vR q * _
    rw [rp_sc ha h.1.2, rp_sc hb h.1.2, rp_sc hc h.1.2]
    unfold HU.cq
    grind
  | be k => show _ = 1 * _; rw [Rat.one_mul]; rfl
theorem vR_pos {q : Q} (h : 0 < q.2) (g : 0 < q.1) : 0 < vR q := (sign_pos h).mp (by unfold signI; rw [if_neg (by omega), if_pos g]; decide)
theorem lead_wk {N : Nat} {L : Lead} {cs : List Cp} (h : WkN N cs) (g : LOk cs.length L) : WkN (N + 26) (ld L cs) := by
  have mem : ∀ c ∈ ld L cs, ∃ i, i < cs.length ∧ c = ldP L (at_ cs (ixL cs.length L i)) := fun c hc => by
    obtain ⟨i, hi⟩ := List.getElem?_of_mem hc
    have hl := (List.getElem?_eq_some_iff.mp hi).1
    rw [ld_len g] at hl
    exact ⟨i, hl, by rw [← at_ld g hl]; exact Option.some.inj (hi.symm.trans (at_get (by rw [ld_len g]; exact hl)))⟩
  refine ⟨fun c hc => ?_, fun c hc => ?_, by rw [ld_len g]; exact h.lo, by rw [ld_len g]; exact h.hi, ?_⟩
  · obtain ⟨i, hi, rfl⟩ := mem c hc
    exact cl_ldP g (h.cl _ (at_mem (ix_lt hi)))
  · obtain ⟨i, hi, rfl⟩ := mem c hc
    have s := h.sm _ (at_mem (ix_lt (L := L) hi))
    cases L with
    | sh p => exact (csm_add s g.2).up (by omega)
    | tu => exact (csm_quar s).up (by omega)
    | mi => exact ⟨((csm_quar (p := ((at_ cs (ixL cs.length .mi i)).2, (at_ cs (ixL cs.length .mi i)).1)) ⟨s.y, s.x⟩).x).up (by omega), s.y.up (by omega)⟩
    | gr q => exact (csm_sc s g.2.2).up (by omega)
    | be k => exact ⟨s.x.up (by omega), s.y.up (by omega)⟩
  · rw [ld_len g]
    intro i j k hi hj hk
    have cl : ∀ {i : Nat}, i < cs.length → Cl (at_ cs i) := fun hi => h.cl _ (at_mem hi)
    have i' := ix_lt (L := L) (show i < cs.length by omega)
    have j' := ix_lt (L := L) (show j < cs.length by omega)
    have k' := ix_lt (L := L) hk
    show 0 < HU.cq (rp (at_ (ld L cs) i)) (rp (at_ (ld L cs) j)) (rp (at_ (ld L cs) k))
    rw [at_ld g (show i < cs.length by omega), at_ld g (show j < cs.length by omega), at_ld g hk, cq_ld g (cl i') (cl j') (cl k')]
    have F : ∀ {a b c : Nat}, a < b → b < c → c < cs.length → 0 < HU.cq (rp (at_ cs a)) (rp (at_ cs b)) (rp (at_ cs c)) := fun x y z => h.cf _ _ _ x y z
    cases L with
    | sh p => show 0 < 1 * _; rw [Rat.one_mul]; exact F hi hj hk
    | tu => show 0 < 1 * _; rw [Rat.one_mul]; exact F hi hj hk
    | gr q =>
      have v := vR_pos g.1.2 g.2.1
      exact Rat.mul_pos (Rat.mul_pos v v) (F hi hj hk)
    | mi =>
      show 0 < -1 * HU.cq (rp (at_ cs (if i = 0 then 0 else cs.length - i))) (rp (at_ cs (if j = 0 then 0 else cs.length - j))) (rp (at_ cs (if k = 0 then 0 else cs.length - k)))
      rw [if_neg (show j ≠ 0 by omega), if_neg (show k ≠ 0 by omega)]
      by_cases z : i = 0
      · rw [if_pos z]
        have f := F (a := 0) (b := cs.length - k) (c := cs.length - j) (by omega) (by omega) (by omega)
        unfold HU.cq at f ⊢
        grind
      · rw [if_neg z]
        have f := F (a := cs.length - k) (b := cs.length - j) (c := cs.length - i) (by omega) (by omega) (by omega)
        unfold HU.cq at f ⊢
        grind
    | be m =>
      have hm : m < cs.length := g
      show 0 < 1 * HU.cq (rp (at_ cs ((i + m) % cs.length))) (rp (at_ cs ((j + m) % cs.length))) (rp (at_ cs ((k + m) % cs.length)))
      rw [Rat.one_mul]
      have e : ∀ {x : Nat}, x < cs.length → (x + m) % cs.length = if x + m < cs.length then x + m else x + m - cs.length := fun {x} hx => by
        by_cases z : x + m < cs.length
        · rw [if_pos z, Nat.mod_eq_of_lt z]
        · rw [if_neg z, Nat.mod_eq_sub_mod (by omega), Nat.mod_eq_of_lt (by omega)]
      rw [e (show i < cs.length by omega), e (show j < cs.length by omega), e hk]
      by_cases z1 : i + m < cs.length
      · rw [if_pos z1]
        by_cases z2 : j + m < cs.length
        · rw [if_pos z2]
          by_cases z3 : k + m < cs.length
          · rw [if_pos z3]; exact F (by omega) (by omega) z3
          · rw [if_neg z3, ← HU.cq_rot, ← HU.cq_rot]; exact F (by omega) (by omega) z2
        · rw [if_neg z2, if_neg (show ¬ k + m < cs.length by omega), ← HU.cq_rot]; exact F (by omega) (by omega) z1
      · rw [if_neg z1, if_neg (show ¬ j + m < cs.length by omega), if_neg (show ¬ k + m < cs.length by omega)]; exact F (by omega) (by omega) (by omega)
/-! places -/
theorem ldS_ok {n m : Nat} {L : Lead} {s : Stp} (h : LOk n L) (g : GS n m s) : GS n (m + 3) (ldS n L s) := by
  have hn := g.k
  cases L with
  | mi =>
    refine ⟨?_, ?_⟩
    · show n - 1 - s.1 < n; omega
    · obtain ⟨v0, v1⟩ := g.q.v
      have s1 : Sm 1 ((1, 1) : Q) := ⟨by decide, by decide, by decide⟩
      have vm : vR (minusQ (1, 1) s.2) = 1 - vR s.2 := by rw [vR_minus s1.p g.q.lo.2, vR_one]
      exact in_of ((sm_minus s1 g.q.sm).up (by omega)) (low_minus s1.p g.q.lo.2) (by show 0 < vR (minusQ (1, 1) s.2); rw [vm]; grind) (by show vR (minusQ (1, 1) s.2) < 1; rw [vm]; grind)
  | be k => exact ⟨Nat.mod_lt _ (by omega), g.q.up (by omega)⟩
  | sh p => exact g.up (by omega)
  | tu => exact g.up (by omega)
  | gr q => exact g.up (by omega)
theorem place_val {N : Nat} {cs : List Cp} {k : Nat} {q : Q} (h : WkN N cs) (hk : k < cs.length) (hq : 0 < q.2) : rp (placeS cs (k, q)) = ((rp (at_ cs k)).1 + ((rp (at_ cs (HU.nx cs.length k))).1 - (rp (at_ cs k)).1) * vR q, (rp (at_ cs k)).2 + ((rp (at_ cs (HU.nx cs.length k))).2 - (rp (at_ cs k)).2) * vR q) := place_rp h hk hq
theorem place_led {N m : Nat} {L : Lead} {cs : List Cp} {s : Stp} (h : WkN N cs) (g : LOk cs.length L) (hs : GS cs.length m s) : placeS (ld L cs) (ldS cs.length L s) = ldP L (placeS cs s) := by
  have hw := lead_wk h g
  have gs := ldS_ok g hs
  have hl := ld_len g
  obtain ⟨k, q⟩ := s
  have hk : k < cs.length := hs.k
  have hq := hs.q.lo.2
  have hnx := HU.nx_lt h.n0 k
  have c1 := h.cl _ (at_mem hk)
  have c2 := h.cl _ (at_mem hnx)
  have cp : Cl (placeS cs (k, q)) := place_cl h hk hq
  have gk : (ldS cs.length L (k, q)).1 < (ld L cs).length := by rw [hl]; exact gs.k
  refine rp_inj (place_cl hw gk gs.q.lo.2) (cl_ldP g cp) ?_
  have pv := place_val (q := (ldS cs.length L (k, q)).2) hw gk gs.q.lo.2
  rw [show ((ldS cs.length L (k, q)).1, (ldS cs.length L (k, q)).2) = ldS cs.length L (k, q) from rfl, hl] at pv
  rw [pv, at_ld g gs.k, at_ld g (HU.nx_lt h.n0 _)]
  have pq := place_val h hk hq
  cases L with
  | sh p =>
    show ((rp (addC (at_ cs k) p)).1 + ((rp (addC (at_ cs (HU.nx cs.length k)) p)).1 - (rp (addC (at_ cs k) p)).1) * vR q, (rp (addC (at_ cs k) p)).2 + ((rp (addC (at_ cs (HU.nx cs.length k)) p)).2 - (rp (addC (at_ cs k) p)).2) * vR q) = rp (addC (placeS cs (k, q)) p)
    rw [rp_add cp g.1, rp_add c1 g.1, rp_add c2 g.1, pq]
    exact Prod.ext (by grind) (by grind)
  | tu =>
    show ((rp (quarC (at_ cs k))).1 + ((rp (quarC (at_ cs (HU.nx cs.length k)))).1 - (rp (quarC (at_ cs k))).1) * vR q, (rp (quarC (at_ cs k))).2 + ((rp (quarC (at_ cs (HU.nx cs.length k)))).2 - (rp (quarC (at_ cs k))).2) * vR q) = rp (quarC (placeS cs (k, q)))
    rw [rp_quar, rp_quar, rp_quar, pq]
    exact Prod.ext (by grind) (by grind)
  | gr r =>
    show ((rp (scC (at_ cs k) r)).1 + ((rp (scC (at_ cs (HU.nx cs.length k)) r)).1 - (rp (scC (at_ cs k) r)).1) * vR q, (rp (scC (at_ cs k) r)).2 + ((rp (scC (at_ cs (HU.nx cs.length k)) r)).2 - (rp (scC (at_ cs k) r)).2) * vR q) = rp (scC (placeS cs (k, q)) r)
    rw [rp_sc cp g.1.2, rp_sc c1 g.1.2, rp_sc c2 g.1.2, pq]
    exact Prod.ext (by grind) (by grind)
  | be j =>
    have hj : j < cs.length := g
    have e1 : ((k + cs.length - j) % cs.length + j) % cs.length = k := by
      rw [Nat.mod_add_mod, show k + cs.length - j + j = k + cs.length by omega, Nat.add_mod_right, Nat.mod_eq_of_lt hk]
    have e2 : (HU.nx cs.length ((k + cs.length - j) % cs.length) + j) % cs.length = HU.nx cs.length k := by
      unfold HU.nx
      rw [Nat.mod_add_mod, Nat.add_right_comm, Nat.add_mod, e1, Nat.add_mod k 1, Nat.mod_eq_of_lt hk]
    show ((rp (at_ cs (((k + cs.length - j) % cs.length + j) % cs.length))).1 + ((rp (at_ cs ((HU.nx cs.length ((k + cs.length - j) % cs.length) + j) % cs.length))).1 - (rp (at_ cs (((k + cs.length - j) % cs.length + j) % cs.length))).1) * vR q, (rp (at_ cs (((k + cs.length - j) % cs.length + j) % cs.length))).2 + ((rp (at_ cs ((HU.nx cs.length ((k + cs.length - j) % cs.length) + j) % cs.length))).2 - (rp (at_ cs (((k + cs.length - j) % cs.length + j) % cs.length))).2) * vR q) = rp (placeS cs (k, q))
    rw [e1, e2, pq]
  | mi =>
    have s1 : Sm 1 ((1, 1) : Q) := ⟨by decide, by decide, by decide⟩
    have vm : vR (minusQ (1, 1) q) = 1 - vR q := by rw [vR_minus s1.p hq, vR_one]
    have e1 : ixL cs.length .mi (cs.length - 1 - k) = HU.nx cs.length k := by
      rw [HU.nx_of hk]
      show (if cs.length - 1 - k = 0 then 0 else cs.length - (cs.length - 1 - k)) = _
      split <;> split <;> omega
    have e2 : ixL cs.length .mi (HU.nx cs.length (cs.length - 1 - k)) = k := by
      rw [HU.nx_of (by omega)]
      by_cases z : cs.length - 1 - k + 1 < cs.length
      · rw [if_pos z]
        show (if cs.length - 1 - k + 1 = 0 then 0 else cs.length - (cs.length - 1 - k + 1)) = _
        rw [if_neg (by omega)]
        omega
      · rw [if_neg z]
        show 0 = k
        omega
    show ((rp (mirC (at_ cs (ixL cs.length .mi (cs.length - 1 - k))))).1 + ((rp (mirC (at_ cs (ixL cs.length .mi (HU.nx cs.length (cs.length - 1 - k)))))).1 - (rp (mirC (at_ cs (ixL cs.length .mi (cs.length - 1 - k))))).1) * vR (minusQ (1, 1) q), (rp (mirC (at_ cs (ixL cs.length .mi (cs.length - 1 - k))))).2 + ((rp (mirC (at_ cs (ixL cs.length .mi (HU.nx cs.length (cs.length - 1 - k)))))).2 - (rp (mirC (at_ cs (ixL cs.length .mi (cs.length - 1 - k))))).2) * vR (minusQ (1, 1) q)) = rp (mirC (placeS cs (k, q)))
    rw [e1, e2, rp_mir, rp_mir, rp_mir, pq, vm]
    exact Prod.ext (by grind) (by grind)
end DL
set_option Elab.async false
set_option linter.all false
set_option maxRecDepth 100000
/-! What the top says of a class that makes objects. -/
namespace DL
open PySem PySem.Spec PyProof.Rows L2
def CF (K : PySem.W.Frag) (x : Str) (C : Addr) : Prop := PySem.W.nsIn K mainGlobals x = some (some (.ref C)) ∧ Cls K C ∧ PySem.W.makesIn K C = true ∧ PySem.W.keepIn K (.ref C) = true
def InF (K : PySem.W.Frag) (C : Addr) (q : Str) (st : Stmt) : Prop := ∃ (f : Addr) (fd : FuncData), PySem.W.findIn K (.ref C) "__init__" = some (some (.ref f)) ∧ PySem.W.isFn K (.ref f) = true ∧ Fun K "__init__" q st f fd
def MF (K : PySem.W.Frag) (C : Addr) (m q : Str) (st : Stmt) : Prop := ∃ (f : Addr) (fd : FuncData), Meth K C m f ∧ Fun K m q st f fd
def PF (K : PySem.W.Frag) (C : Addr) (m q : Str) (st : Stmt) : Prop := ∃ (p f : Addr) (fd : FuncData), PropOf K C m p f ∧ Fun K m q st f fd
section
variable {K : PySem.W.Frag} {x m q : Str} {st : Stmt} {C f p : Addr} {oc : Value} {od an : Option Addr} {osl : Array (Option Value)} {kV doc pm cdv ct : Value} {rest : List Value}
theorem cf_mk (aC : PySem.W.nsIn K mainGlobals x = some (some (.ref C))) (pg : PySem.W.plainGet K C Str.empty = true) (hd : PySem.W.hasDictIn K C = true) (po : PySem.W.plainOver K C = true) (sa : PySem.W.findIn K (.ref C) "__setattr__" = some (some (.builtin "object.__setattr__"))) (mk : PySem.W.makesIn K C = true) (kc : PySem.W.keepIn K (.ref C) = true) : CF K x C :=
  ⟨aC, ⟨pg, hd, po, sa⟩, mk, kc⟩
theorem inf_mk (a1 : PySem.W.findIn K (.ref C) "__init__" = some (some (.ref f))) (i1 : PySem.W.isFn K (.ref f) = true) (l1 : K.lookup f = some ⟨oc, od, .func (PySem.W.fnOf "__init__" q (defArgs st) (defBody st) (defScope st) .none kV doc pm an cdv ct), osl⟩) (c1 : PySem.W.codeIn K cdv q = true) (k1 : PySem.W.keepIn K (.ref f) = true) : InF K C q st :=
  ⟨f, _, a1, i1, fun_mk l1 c1 k1⟩
theorem mf_mk (a1 : PySem.W.findIn K (.ref C) m = some (some (.ref f))) (i1 : PySem.W.isFn K (.ref f) = true) (l1 : K.lookup f = some ⟨oc, od, .func (PySem.W.fnOf m q (defArgs st) (defBody st) (defScope st) .none kV doc pm an cdv ct), osl⟩) (c1 : PySem.W.codeIn K cdv q = true) (k1 : PySem.W.keepIn K (.ref f) = true) : MF K C m q st :=
  ⟨f, _, ⟨a1, i1, k1⟩, fun_mk l1 c1 k1⟩
theorem pf_mk (a1 : PySem.W.findIn K (.ref C) m = some (some (.ref p))) (g1 : PySem.W.specialIn K (.ref p) "__get__" = some (some (.builtin "property.__get__"))) (t1 : PySem.W.takesIn K (.ref p) = some true) (r1 : PySem.W.recIn K p "property" = some (.ref f :: rest)) (l1 : K.lookup f = some ⟨oc, od, .func (PySem.W.fnOf m q (defArgs st) (defBody st) (defScope st) .none kV doc pm an cdv ct), osl⟩) (c1 : PySem.W.codeIn K cdv q = true) (k1 : PySem.W.keepIn K (.ref f) = true) : PF K C m q st :=
  ⟨p, f, _, ⟨a1, g1, t1, rest, r1⟩, fun_mk l1 c1 k1⟩
end
end DL
set_option Elab.async false
set_option linter.all false
set_option maxRecDepth 100000
/-! a == b, a != b by an own __eq__. -/
namespace DL
open PySem PySem.Spec PyProof.Rows L2 PySem.SeqAt
section
variable {M : Model} {prog : Program} {w : World} {A : Around} {E : Value → Shared → Prop} {s : Shared} {K : PySem.W.Frag} {x y C f : Addr} {ox : Obj} {od : Option Obj}
theorem ifBound_objNe {args : List Value} {Q : Option Value → Shared → Prop} (X : K.In s.heap) (I : PySem.W.InstAt s.heap x ox C od) (hs : PySem.W.findIn K (.ref C) "__ne__" = some (some (.builtin "object.__ne__")))
    (h : wpAny M A (call (.builtin "object.__ne__") (.ref x :: args)) (fun v => Q (some v)) E s) : wpAny M A (callSpecialIfBound? (.ref x) "__ne__" args) Q E s := by
  simp only [callSpecialIfBound?, bindSpecialIfBound?]
  refine wpAny_holding (wpAny_bind (wpAny_bind (wpAny_bind (I.type.here ((PySem.W.looks_findIn X hs).here ?_)))))
  refine wpAny_bind (wpAny_askSetting (wpAny_ite ?_))
  have fin : wpAny M A (call (.builtin "object.__ne__") ([.ref x] ++ args) >>= fun v => pure (some v)) Q E s := wpAny_bind (wpAny_mono h (fun v s' h' => wpAny_pure h') fun _ _ h' => h')
  split
  · exact wpAny_bind (wpAny_of_eq (F.cmp_object.ne.bind _) (wpAny_pure (by exact fin)))
  · exact wpAny_tryCatch (wpAny_bind (wpAny_of_eq (F.cmp_object.ne.bind _) (wpAny_pure (by exact fin))))
theorem entry_ne {Q : Fin → Shared → Prop} (hu : A.units < cLine) (X : K.In s.heap) (I : PySem.W.InstAt s.heap x ox C od) (hs : PySem.W.findIn K (.ref C) "__eq__" = some (some (.ref f))) (hf : PySem.W.isFn K (.ref f) = true)
    (h : wpAny (model prog w) A (call (.ref f) [.ref x, .ref y]) (fun v s' => ∃ b, v = .bool b ∧ Q (.done (.ret (.bool (!b)))) s') E s) : wpAny (model prog w) A (Builtin.«object.__ne__» ⟨[.ref x, .ref y], []⟩) Q E s := by
  unfold Builtin.«object.__ne__»
  repeat (first
    | with_reducible refine wpAny_cRoomFor hu ?_
    | (refine wpAny_bind (m := callSpecialIfBound? (.ref x) (Str.ofString "__eq__") [.ref y])
        (PySem.W.ifBound_K X I hs hf (wpAny_mono h (fun r s' hr => by
          obtain ⟨b, rfl, hq⟩ := hr
          repeat (first | exact hq | exact wpAny_pure hq | exact wpAny_truthy_bool hq | (refine wpAny_bind (m := truthy (.bool _)) (wpAny_truthy_bool ?_)) | wp_step)) fun _ _ e => e)))
    | wp_step)
theorem rich_ne {Q : Value → Shared → Prop} {oy : Obj} {oe : Option Obj} (hu : A.units + 1 < cLine) (X : K.In s.heap) (I : PySem.W.InstAt s.heap x ox C od) (J : PySem.W.InstAt s.heap y oy C oe) (hm : PySem.W.mroIn K C (.type "object") = some true) (hn : PySem.W.findIn K (.ref C) "__ne__" = some (some (.builtin "object.__ne__"))) (hs : PySem.W.findIn K (.ref C) "__eq__" = some (some (.ref f))) (hf : PySem.W.isFn K (.ref f) = true)
    (h : wpAny (model prog w) A.in1 (call (.ref f) [.ref x, .ref y]) (fun v s' => ∃ b, v = .bool b ∧ Q (.bool (!b)) s') E s) : wpAny (model prog w) A (richCompare .NotEq (.ref x) (.ref y)) Q E s := by
  have one : wpAny (model prog w) A (tryCompare (.ref x) "__ne__" (.ref y)) (fun r s' => ∃ v, r = some v ∧ Q v s') E s := by
    unfold tryCompare
    refine wpAny_bind (ifBound_objNe X I hn (wpAny_call (codeAny_call_builtin F.cmp_object.ne.plain F.cmpEntry_ne (PySem.W.check_slot F.cmpKind_ne F.cmpSplit_ne (I.type.andThen (PySem.W.looks_mroIn X hm)) (F.cmpArgs_ne _ _) (entry_ne (A := A.in1) hu X I hs hf (wpAny_mono h (fun v s' hv => ?_) fun _ _ e => e))))))
    obtain ⟨b, rfl, hq⟩ := hv
    exact ⟨b, rfl, wpAny_pure ⟨_, rfl, hq⟩⟩
  unfold richCompare
  simp only [oneThing_ref]
  refine wpAny_holding (wpAny_bind (wpAny_cRoomFor (Nat.lt_of_succ_lt hu) ?_))
  rw [cmpInfo_NotEq]
  dsimp only
  refine wpAny_bind (I.type.here (wpAny_bind (J.type.here ?_)))
  rw [show (Value.ref C != Value.ref C) = false from by simp]
  simp only [Bool.false_eq_true, if_false]
  refine wpAny_bind (wpAny_pure ?_)
  simp only [Bool.false_eq_true, if_false]
  refine wpAny_bind (wpAny_mono one (fun r s' z => ?_) fun _ _ e => e)
  obtain ⟨v, rfl, hq⟩ := z
  exact wpAny_pure hq
end
def rEqO (C : Addr) (sp : Sp) (g : Bool → Bool) : R2 := fun v u H Q => ∃ a b dx dy kvs kus, v = .ref a ∧ u = .ref b ∧ H a = some (.ins C dx kvs) ∧ H b = some (.ins C dy kus) ∧ sp [.ref a, .ref b] H (fun y H' => ∃ r : Bool, y = .bl r ∧ Q (.bl (g r)) H') E0
theorem op_eqO {X : Cx} {C f : Addr} {k : Nat} {fd : FuncData} {ps : List Str} {sp : Sp} (hM : Meth X.K C "__eq__" f) (hb : Binds X.K fd ps []) (F : FnOk X.prog X.w X.K X.mg X.base CX0 k f fd ps sp) (hr : Room k X.A) : OpR X (compareOp .Eq) (rEqO C sp id) := by
  intro pins s σ H v x u ux Q I rv rx h
  obtain ⟨a, b, dx, dy, kvs, kus, rfl, rfl, ea, eb, hq⟩ := h
  obtain rfl : ux = Value.ref b := rx
  obtain rfl : u = Value.ref a := rv
  obtain ⟨mA, O, _⟩ := ins_get I.hok ea
  obtain ⟨mB, O', _⟩ := ins_get I.hok eb
  obtain ⟨od, J, _⟩ := O.look
  obtain ⟨od', J', _⟩ := O'.look
  obtain ⟨m, fr⟩ := I.fr
  show wpAny (model X.prog X.w) X.A (richCompare .Eq (.ref a) (.ref b)) _ X.xe s
  refine PySem.W.cmp_K (op := .Eq) (tb := .ref C) hr.units0 fr I.ok.mod.kin J J'.type (by simp [PySem.W.notFirst]) hM.at_ hM.fn ?_
  have hq' : sp ([V.ref a, V.ref b] ++ []) H (fun y H' => ∃ b : Bool, y = .bl b ∧ Q (.bl (id b)) H') E0 := by rw [List.append_nil]; exact hq
  refine wpAny_mono (run_fn (E := E0) F hr hb .nil pass0 I (.cons (show RelV (.ref a) (.ref a) from rfl) (.cons (show RelV (.ref b) (.ref b) from rfl) .nil)) hq') (fun r s' hs => ?_) fun _ _ z => z
  obtain ⟨y, H', I', ry, b, rfl, q⟩ := hs
  obtain rfl : r = Value.bool b := ry
  exact ⟨.bl b, H', I', rfl, q⟩
theorem run_fn1 {X : Cx} {k : Nat} {f : Addr} {fd : FuncData} {ps : List Str} {sp : Sp} {pins : List (Addr × Obj)} {σ : L2.St} {H : Hp} {s : Shared} {Q : VK} {us : List Value} {vs : List V} (F : FnOk X.prog X.w X.K X.mg X.base CX0 k f fd ps sp) (hr : Room k X.A.in1) (hb : Binds X.K fd ps [])
    (I : Inv X pins σ H s) (r : Vals vs us) (h : sp vs H Q E0) : wpAny (model X.prog X.w) X.A.in1 (call (.ref f) us) (EP X pins σ Q) X.xe s := by
  have hl : us.length = ps.length := by rw [← r.length]; exact F.len _ _ _ _ h
  have hbs := hb s us I.kIn (by rw [List.append_nil]; exact hl)
  rw [List.append_nil] at hbs
  refine wpAny_call (codeAny_mono (F.run X.A.in1 X.stack s H ⟨us, []⟩ us vs Q E0 hr I.env0.in1 hbs r h) fun r s' hq => ?_)
  cases r with
  | error e => exact pass0 (X := X) pins σ H s e s' I hq
  | ok fl =>
    cases fl with
    | ret u => exact I.after hq
    | next => exact False.elim hq
    | brk => exact False.elim hq
    | cont => exact False.elim hq
theorem op_neO {X : Cx} {C f : Addr} {k : Nat} {fd : FuncData} {ps : List Str} {sp : Sp} (hM : Meth X.K C "__eq__" f) (hn : PySem.W.findIn X.K (.ref C) "__ne__" = some (some (.builtin "object.__ne__"))) (hm : PySem.W.mroIn X.K C (.type "object") = some true) (hb : Binds X.K fd ps []) (F : FnOk X.prog X.w X.K X.mg X.base CX0 k f fd ps sp) (hr : Room (k + 1) X.A) : OpR X (compareOp .NotEq) (rEqO C sp not) := by
  intro pins s σ H v x u ux Q I rv rx h
  obtain ⟨a, b, dx, dy, kvs, kus, rfl, rfl, ea, eb, hq⟩ := h
  obtain rfl : ux = Value.ref b := rx
  obtain rfl : u = Value.ref a := rv
  obtain ⟨mA, O, _⟩ := ins_get I.hok ea
  obtain ⟨mB, O', _⟩ := ins_get I.hok eb
  obtain ⟨od, J, _⟩ := O.look
  obtain ⟨od', J', _⟩ := O'.look
  show wpAny (model X.prog X.w) X.A (richCompare .NotEq (.ref a) (.ref b)) _ X.xe s
  refine rich_ne (Nat.lt_of_le_of_lt (Nat.le_refl _) hr.in1.units0) I.kIn J J' hm hn hM.at_ hM.fn ?_
  refine wpAny_mono (run_fn1 F hr.in1 hb I (.cons (show RelV (.ref a) (.ref a) from rfl) (.cons (show RelV (.ref b) (.ref b) from rfl) .nil)) hq) (fun r s' hs => ?_) fun _ _ z => z
  obtain ⟨y, H', I', ry, b, rfl, q⟩ := hs
  obtain rfl : r = Value.bool b := ry
  exact ⟨b, rfl, .bl (!b), H', I', rfl, q⟩
section
variable {X : Cx} {Δ : List Sl} {e a b c o : Expr} {pos : Pos} {C : Addr} {fs gs : List (Str × Th)} {k : Nat}
theorem pd_eqO {R : Cn} {r : Bool} (M : Mth X.prog X.w X.K X.mg X.base C "__eq__" k R) (hr : Room k X.A) (ha : PD X Δ a (objT C fs)) (hb : PD X Δ b (objT C gs)) (h : R [objT C fs, objT C gs] (· = dat X.K (.bool r))) (hm : behindInMarks .Eq b = false := by rfl) :
    PD X Δ (.Compare a [.Eq] [b] pos) (dat X.K (.bool r)) := by
  obtain ⟨f, fd, ps, hM, hB, F⟩ := M.ex
  refine px_two (fun _ _ pa pb => pe_cmpR (op_eqO hM hB F hr) pa pb hm) ha hb fun S H x' y' v w dom hx hy rx ry Q q => ?_
  subst hx; subst hy
  obtain ⟨p, dx, kvs, rfl, h2, h3, h4⟩ := id rx
  obtain ⟨p', dx', kvs', rfl, h2', h3', h4'⟩ := id ry
  refine ⟨p, p', dx, dx', kvs, kvs', rfl, rfl, hide_le _ _ h2, hide_le _ _ h2', S, [objT C fs, objT C gs], _, dom, ⟨rx, ry, trivial⟩, h, fun t' v' H' ht e' r' => ?_⟩
  subst ht
  have r2 : Dp X.K (hide S H') v' (.bool r) := r'
  have := dp_bool r2
  subst this
  exact ⟨r, rfl, q _ _ H' rfl e' (Dp.bl r)⟩
theorem pd_neO {R : Cn} {r : Bool} (M : Mth X.prog X.w X.K X.mg X.base C "__eq__" k R) (hn : PySem.W.findIn X.K (.ref C) "__ne__" = some (some (.builtin "object.__ne__"))) (hmro : PySem.W.mroIn X.K C (.type "object") = some true) (hr : Room (k + 1) X.A) (ha : PD X Δ a (objT C fs)) (hb : PD X Δ b (objT C gs)) (h : R [objT C fs, objT C gs] (· = dat X.K (.bool r))) (hm : behindInMarks .NotEq b = false := by rfl) :
    PD X Δ (.Compare a [.NotEq] [b] pos) (dat X.K (.bool (!r))) := by
  obtain ⟨f, fd, ps, hM, hB, F⟩ := M.ex
  refine px_two (fun _ _ pa pb => pe_cmpR (op_neO hM hn hmro hB F hr) pa pb hm) ha hb fun S H x' y' v w dom hx hy rx ry Q q => ?_
  subst hx; subst hy
  obtain ⟨p, dx, kvs, rfl, h2, h3, h4⟩ := id rx
  obtain ⟨p', dx', kvs', rfl, h2', h3', h4'⟩ := id ry
  refine ⟨p, p', dx, dx', kvs, kvs', rfl, rfl, hide_le _ _ h2, hide_le _ _ h2', S, [objT C fs, objT C gs], _, dom, ⟨rx, ry, trivial⟩, h, fun t' v' H' ht e' r' => ?_⟩
  subst ht
  have r2 : Dp X.K (hide S H') v' (.bool r) := r'
  have := dp_bool r2
  subst this
  exact ⟨r, rfl, q _ _ H' rfl e' (Dp.bl (!r))⟩
end
end DL
set_option Elab.async false
set_option linter.all false
set_option maxRecDepth 100000
/-! Methods without arguments; isinstance of an own object. -/
namespace DL
open PySem PySem.Spec PyProof.Rows L2
/-- what isinstance asks of the class at C -/
structure IsI (K : PySem.W.Frag) (C : Addr) : Prop where
  ha : PySem.W.findIn K (.ref C) "__class__" = some (some (.builtin "object.__class__"))
  hn : PySem.W.specialIn K (.builtin "object.__class__") "__get__" = some (some (.builtin "getset_descriptor.__get__"))
  htk : PySem.W.takesIn K (.builtin "object.__class__") = some true
  hm : PySem.W.mroIn K C (.type "object") = some true
  one : PySem.W.kitOne K (.ref C) (.ref C) = some true
section
variable {X : Cx} {Δ : List Sl} {e a b c o : Expr} {pos apos : Pos} {C : Addr} {fs : List (Str × Th)} {k : Nat}
theorem pd_meth0 {m : Str} {R : Cn} {t : Th} (M : Mth X.prog X.w X.K X.mg X.base C m k R) (c : Cls X.K C) (hr : Room k X.A) (ho : PD X Δ o (objT C fs)) (hm : fs.lookup m = none) (h : R [objT C fs] (· = t)) {pl : Sem Bool}
    (ht : eval (.Call (.Attribute o m apos) [] [] pos) X.env = (do
      let ov ← eval o X.env
      standAt apos.atName
      let (f, first) ← holding [ov] (getMethod ov m pl)
      callWith pos f first (backTo pos (starEach [] X.env)) (backToKw pos (keywordEach [] X.env))) := by rfl) : PD X Δ (.Call (.Attribute o m apos) [] [] pos) t := by
  obtain ⟨f, fd, ps, hM, hb, F⟩ := M.ex
  obtain ⟨te, pe, fe⟩ := ho
  refine ⟨_, pe_meth0 (E := E0) (dvs := []) pe c hM F hr hb .nil pass0 ht, fun S0 M0 H0 σ H S hA Q q => fe S0 M0 H0 σ H S hA _ fun th v H1 hth e1 r => ?_⟩
  subst hth
  obtain ⟨a, dx, kvs, rfl, h2, h3, h4⟩ := id r
  refine ⟨a, dx, kvs, rfl, hide_le _ _ h2, h3 m hm, ?_⟩
  show spT R (.ref a :: ([] ++ [])) H1 Q E0
  exact ⟨S, [objT C fs], _, (hA.up e1).dom, ⟨r, trivial⟩, h, fun t v H3 ht e3 r3 => q t v H3 ht (e1.trans e3) r3⟩
theorem pd_isO {p : Pos} (I : IsI X.K C) (c : Cls X.K C) (hm : X.mg "isinstance" = none) (ha : PD X Δ a (objT C fs)) (hb : PD X Δ b (clsT (.ref C))) (hg : Gl X "isinstance" := by rfl)
    (he1 : starEach [b] X.env = (false, eval b X.env) :: starEach [] X.env := by rfl) (he : starEach [a, b] X.env = (false, eval a X.env) :: starEach [b] X.env := by rfl) (hpl : (backTo pos (starEach [b] X.env)).any (·.1) = false := by rfl) :
    PD X Δ (.Call (.Name "isinstance" p) [a, b] [] pos) (dat X.K (.bool true)) :=
  px_blt call_isi hm (pl_cons ha (pl_cons hb pl_nil he1) he) (fun S H ts vs _ hB r Q q => by
    subst hB
    obtain ⟨v, w, rfl, r0, r2⟩ := all2 r
    obtain ⟨p, dx, kvs, rfl, h2, h3, h4⟩ := id r0
    have r' : ClsV w (.ref C) := r2
    exact ⟨_, w, _, _, true, rfl, r', .base (.ins (hide_le _ _ h2) c I.ha I.hn I.htk I.hm), I.one, q _ _ H rfl (Ex.refl H) (Dp.bl true)⟩) (by decide +kernel) hg (by decide) (by decide) he hpl
end
end DL
set_option Elab.async false
set_option linter.all false
set_option maxRecDepth 100000
set_option maxHeartbeats 4000000
/-! Tuples of data: slices, + and [:0:-1]. -/
namespace DL
open PySem PySem.Spec PyProof.Rows L2
section
variable {prog : Program} {w : World} {A : Around} {E : Value → Shared → Prop} {s : Shared}
theorem adjust_rev (n : Nat) : Builtin.Slice.sliceAdjust none (some 0) (-1) (n : Int) = ((n : Int) - 1, min 0 ((n : Int) - 1)) := by
  unfold Builtin.Slice.sliceAdjust
  simp
theorem places_rev (n : Nat) : Builtin.Slice.slicePlaces ((n : Int) - 1) (min 0 ((n : Int) - 1)) (-1) = n - 1 := by
  unfold Builtin.Slice.slicePlaces
  have h1 : ¬ ((-1 : Int) > 0) := by decide
  simp only [h1, if_false]
  by_cases h : (n : Int) - 1 > 0
  · rw [show min 0 ((n : Int) - 1) = 0 by omega, if_pos h]
    rw [show (- -1 : Int) = 1 by decide, Int.ediv_one]
    omega
  · split <;> omega
theorem slicePart_1 {v : Value} {i : Int} {Q : Option Int → Shared → Prop} (p : IsPart v (some i)) (h : Q (some i) s) : wpAny (model prog w) A (Builtin.Slice.slicePartIndex v) Q E s := HT.slicePart_ p h
theorem sliceApplied_rev {sl : Addr} {vl vu vs : Value} {n : Nat} {Q : Int × Int × Nat → Shared → Prop} (hs : s.heap.IsSliceOf sl vl vu vs) (pl : IsPart vl none) (pu : IsPart vu (some 0)) (ps : IsPart vs (some (-1)))
    (h : Q ((n : Int) - 1, -1, n - 1) s) : wpAny (model prog w) A (Builtin.Slice.sliceApplied (.ref sl) (pure (n : Int))) Q E s := by
  obtain ⟨os, hos, hcs, hds⟩ := id hs
  unfold Builtin.Slice.sliceApplied Builtin.Slice.sliceFields
  refine wpAny_bind (wpAny_bind (wpAny_field hos hds (x := vl) rfl (wpAny_bind (wpAny_field hos hds (x := vu) rfl (wpAny_bind (wpAny_field hos hds (x := vs) rfl (wpAny_pure ?_)))))))
  refine wpAny_bind (slicePart_1 ps ?_)
  show wpAny _ _ (if ((-1 : Int) == 0) = true then _ else _) _ _ s
  rw [if_neg (by decide)]
  refine wpAny_bind (HT.slicePart_ pl (wpAny_bind (HT.slicePart_ pu (wpAny_bind (wpAny_pure ?_)))))
  show wpAny _ _ (match Builtin.Slice.sliceAdjust none (some 0) (-1) (n : Int) with | (lo, hi) => pure (lo, (-1 : Int), Builtin.Slice.slicePlaces lo hi (-1))) _ _ s
  rw [adjust_rev n]
  show wpAny _ _ (pure ((n : Int) - 1, (-1 : Int), Builtin.Slice.slicePlaces ((n : Int) - 1) (min 0 ((n : Int) - 1)) (-1))) _ _ s
  rw [places_rev]
  exact wpAny_pure h
theorem pick_rev (xs : Array Value) : ((List.range (xs.size - 1)).filterMap fun (m : Nat) => xs[((xs.size : Int) - 1 + (m : Int) * -1).toNat]?).toArray = (xs.toList.drop 1).reverse.toArray := by
  congr 1
  have key : ∀ k, k ≤ xs.size - 1 → ((List.range k).filterMap fun (m : Nat) => xs[((xs.size : Int) - 1 + (m : Int) * -1).toNat]?) = (xs.toList.drop 1).reverse.take k := by
    intro k
    induction k with
    | zero => intro _; rfl
    | succ k ih =>
      intro hk
      rw [List.range_succ, List.filterMap_append, ih (by omega)]
      have e : ((xs.size : Int) - 1 + (k : Int) * -1).toNat = xs.size - 1 - k := by omega
      have g : (xs.toList.drop 1).reverse[k]? = xs[xs.size - 1 - k]? := by
        rw [List.getElem?_reverse (by rw [List.length_drop, Array.length_toList]; omega), List.getElem?_drop, List.length_drop, Array.length_toList, Array.getElem?_toList]
        congr 1
        omega
      have hx : xs[xs.size - 1 - k]? = some (xs[xs.size - 1 - k]'(by omega)) := Array.getElem?_eq_getElem _
      rw [List.take_add_one, g]
      congr 1
      show List.filterMap (fun (m : Nat) => xs[((xs.size : Int) - 1 + (m : Int) * -1).toNat]?) [k] = _
      rw [List.filterMap_cons, e, hx]
      rfl
  rw [key _ (Nat.le_refl _), List.take_of_length_le (by rw [List.length_reverse, List.length_drop, Array.length_toList]; exact Nat.le_refl _)]
theorem getItem_tuple_rev {t sl : Addr} {items : Array Value} {vl vu vs : Value} {Q : Value → Shared → Prop} (ht : IsTup s.heap t items) (hs : s.heap.IsSliceOf sl vl vu vs) (pl : IsPart vl none) (pu : IsPart vu (some 0)) (ps : IsPart vs (some (-1)))
    (h : Q (.ref s.heap.objs.size) { s with heap := s.heap.push { cls := .type "tuple", data := .seq (items.toList.drop 1).reverse.toArray } })
    (hsz : items.size ≤ sizeLine) : wpAny (model prog w) A (getItem (.ref t) (.ref sl)) Q E s := by
  have htake : sizeOk (.seq (items.toList.drop 1).reverse.toArray) := by
    show (items.toList.drop 1).reverse.toArray.size ≤ sizeLine
    rw [List.size_toArray, List.length_reverse, List.length_drop, Array.length_toList]
    omega
  obtain ⟨os, hos, hcs, hds⟩ := id hs
  have hTs : s.TypeIs (.ref sl) "slice" := ⟨os, hos, hcs⟩
  unfold getItem
  try with_reducible refine wpAny_holding ?_
  first | refine wpAny_bind (wpAny_pure ?_) | skip
  refine wpAny_bind (wpAny_sequenceKey ht.typeIs (by decide) ?_)
  refine wpAny_bind (wpAny_callSpecial?_slot (name := Str.ofString "__getitem__") ht.typeIs PyProof.Rows.slot_tuple_getitem
    (wpAny_call_entry PyProof.Rows.slot_tuple_getitem ht.typeIs entry_tuple_getitem ?_ (args_tuple_getitem _ _)))
  show wpAny _ _ (Builtin.Tuple.tupleItemsOf (.ref t) >>= _) _ _ s
  refine wpAny_bind (tupleItemsOf_ ht ?_)
  refine wpAny_bind (wpAny_typeOf hTs ?_)
  rw [if_pos (by decide)]
  refine wpAny_bind (sliceApplied_rev hs pl pu ps ?_)
  have hno : ¬ ((((items.size : Int) - 1) == 0 && (-1 : Int) == 1 && (items.size - 1) == items.size) = true) := by
    intro q
    rw [Bool.and_eq_true, Bool.and_eq_true] at q
    exact absurd q.1.2 (by decide)
  show wpAny _ _ (if (((items.size : Int) - 1) == 0 && (-1 : Int) == 1 && (items.size - 1) == items.size) = true then _ else _) _ _ s
  rw [if_neg hno, pick_rev]
  first
    | exact wpAny_bind (m := Builtin.Tuple.tupleExact _) (wpAny_newObj_type (wpAny_pure ⟨_, rfl, wpAny_pure h⟩) htake)
    | exact wpAny_bind (m := Builtin.Tuple.tupleExact _) (wpAny_newObj_type (wpAny_bind (wpAny_pure (wpAny_pure ⟨_, rfl, wpAny_pure h⟩))) htake)
    | exact wpAny_bind (wpAny_bind (m := Builtin.Tuple.tupleExact _) (wpAny_newObj_type (wpAny_pure (wpAny_pure ⟨_, rfl, wpAny_pure h⟩)) htake))
    | exact wpAny_bind (wpAny_bind (m := Builtin.Tuple.tupleExact _) (wpAny_newObj_type (wpAny_pure ⟨_, rfl, wpAny_pure h⟩) htake))
end
section
variable {X : Cx} {Δ : List Sl} {e a b : Expr} {pos : Pos}
def tRevT (K : PySem.W.Frag) (te : TE) : TE := fun σ H Q => te σ H fun x H1 => ∃ a xs, x = .ref a ∧ SqT K H1 a xs ∧ ∀ p, H1 p = none → Q (.ref p) (upd H1 p (.tup (xs.drop 1).reverse))
theorem pe_revT {te : TE} {k k0 : Nat} {p0 p1 p2 p3 : Pos} (he : PE X e te) : PE X (.Subscript e (.Slice none (some (.Constant (.int 0) k0 p0)) (some (.UnaryOp .USub (.Constant (.int 1) k p1) p2)) p3) pos) (tRevT X.K te) := by
  refine ⟨fun pins s σ H Q I h => ?_⟩
  refine Subscript_ (thn (he.run pins s σ H _ I h) fun v s1 ⟨x, H1, I1, r1, q1⟩ => ?_)
  obtain ⟨a, xs, ex, hx, q⟩ := q1
  subst ex
  cases r1
  have hup : PO X (some (.Constant (.int 0) k0 p0)) (tPart (tC (.int 0))) := po_some pe_int
  have hst : PO X (some (.UnaryOp .USub (.Constant (.int 1) k p1) p2)) (tPart (tUn (rU fun i => .int (-i)) (tC (.int 1)))) := po_some (pe_un un_neg pe_int)
  refine wpAny_Slice (thn (po_none.run pins s1 σ H1 (fun o H2 => o = none ∧ H2 = H1) I1 ⟨rfl, rfl⟩) fun vl s2 ⟨l, H2, I2, pl, el, e2⟩ => ?_)
  subst el e2
  refine thn (hup.run pins s2 σ H2 (fun o H3 => o = some 0 ∧ H3 = H2) I2 ⟨0, rfl, rfl, rfl⟩) fun vu s3 ⟨u, H3, I3, pu, eu, e3⟩ => ?_
  subst eu e3
  refine thn (hst.run pins s3 σ H3 (fun o H4 => o = some (-1) ∧ H4 = H3) I3 ⟨1, rfl, -1, rfl, rfl, rfl⟩) fun vs s4 ⟨o, H4, I4, ps, eo, e4⟩ => ?_
  subst eo e4
  have I5 : Inv X pins σ H4 { s4 with heap := s4.heap.push { cls := .type "slice", data := .fields #[vl, vu, vs] } } := I4.kept (t' := s4.toks) fun b ob q => Heap.get?_push_of_some _ q
  obtain ⟨its, r, ht, hz⟩ := I5.tuple hx
  have hlen : its.toArray.size = xs.length := by rw [List.size_toArray]; exact r.length.symm
  show wpAny (model X.prog X.w) X.A (subscriptTail e (.Slice none (some (.Constant (.int 0) k0 p0)) (some (.UnaryOp .USub (.Constant (.int 1) k p1) p2)) p3) (.ref a) (.ref s4.heap.objs.size)) (EP X pins σ Q) X.xe { s4 with heap := s4.heap.push { cls := .type "slice", data := .fields #[vl, vu, vs] } }
  refine tail_any (ops := [.ref a, .ref s4.heap.objs.size]) ht.typeIs (PyProof.Rows.slot_tuple_getitem.lookup) ?_ (by with_unfolding_all rfl)
  refine getItem_tuple_rev ht (Heap.IsSliceOf.new _ vl vu vs) pl pu ps ?_ (by rw [hlen]; exact hz)
  refine ⟨.ref _, _, I5.laid (t' := s4.toks) (o := .tup (xs.drop 1).reverse) (fun b ob q => Heap.get?_push_of_some _ q) (Nat.le_refl _) ?_, rfl, q _ (I5.hok.fresh (Nat.le_refl _))⟩
  exact ⟨by rw [List.length_reverse, List.length_drop]; omega, _, (r.drop 1).reverse, IsTup.new _ _⟩
/-- e[:0:-1], e a tuple of data -/
theorem pd_revT {ds : List PyData} {k k0 : Nat} {p0 p1 p2 p3 : Pos} (he : PD X Δ e (dat X.K (.tuple ds))) : PD X Δ (.Subscript e (.Slice none (some (.Constant (.int 0) k0 p0)) (some (.UnaryOp .USub (.Constant (.int 1) k p1) p2)) p3) pos) (dat X.K (.tuple (ds.drop 1).reverse)) := by
  obtain ⟨te, pe, fe⟩ := he
  refine ⟨_, pe_revT pe, fun S0 M0 H0 σ H S hA Q q => fe S0 M0 H0 σ H S hA _ fun th v H1 hth e1 r => ?_⟩
  subst hth
  obtain ⟨a, xs, rfl, hq, hd⟩ := dp_tup r
  refine ⟨a, xs, rfl, ex_t hide_le hq, fun p hp => q _ _ _ rfl (e1.trans (Ex.new hp)) (Dp.tup (SqT.of ?_) (dpa_up (hide_ex (Ex.new hp)) (dpa_rev (dpa_drop 1 hd))))⟩
  rw [hide_out ((hA.up e1).dom.new hp)]
  exact upd_same
/-- e[lo:hi], e a tuple of data -/
theorem pd_sliceT {ds : List PyData} {lo hi : Option Expr} {l u : Option Int} {p2 : Pos} (he : PD X Δ e (dat X.K (.tuple ds))) (hl : PBd X Δ lo l) (hu : PBd X Δ hi u) : PD X Δ (.Subscript e (.Slice lo hi none p2) pos) (dat X.K (.tuple (cutD ds l u))) := by
  obtain ⟨te, pe, fe⟩ := he
  obtain ⟨tl, pl, fl⟩ := hl
  obtain ⟨tu, pu, fu⟩ := hu
  refine ⟨_, pe_slice sl_tupA pe pl pu, fun S0 M0 H0 σ H S hA Q q => ?_⟩
  refine fe S0 M0 H0 σ H S hA _ fun th v H1 hth e1 r => fl S0 M0 H0 σ H1 S (hA.up e1) _ fun H2 e2 => fu S0 M0 H0 σ H2 S ((hA.up e1).up e2) _ fun H3 e3 => ?_
  subst hth
  obtain ⟨a, xs, rfl, hq, hd⟩ := dp_tup r
  have e23 := e2.trans e3
  refine ⟨a, xs, rfl, ex_t (hide_le.trans e23) hq, fun hw => ?_, fun hw p hp => q _ _ _ rfl ((e1.trans e23).trans (Ex.new hp)) (Dp.tup (SqT.of ?_) (dpa_up (hide_ex (e23.trans (Ex.new hp))) (dpa_cut hd l u)))⟩
  · have hl := dpa_len hd
    have ec : cutD ds l u = ds := by
      unfold cutD
      rw [← hl, hw.1, hw.2, List.drop_zero, Nat.sub_zero, hl, List.take_length]
    refine q _ _ _ rfl (e1.trans e23) ?_
    rw [ec]
    exact dp_up (hide_ex e23) r
  · rw [hide_out ((hA.up (e1.trans e23)).dom.new hp)]
    exact upd_same
/-- a + b, tuples of data -/
theorem pd_catD {ds es : List PyData} (ha : PD X Δ a (dat X.K (.tuple ds))) (hb : PD X Δ b (dat X.K (.tuple es))) (hz : ds.length + es.length ≤ 100000) : PD X Δ (.BinOp a .Add b pos) (dat X.K (.tuple (ds ++ es))) := by
  refine px_two (fun _ _ pa pb => pe_op op_catA pa pb) ha hb fun S H x' y' v w dom hx hy rx ry Q q => ?_
  subst hx; subst hy
  obtain ⟨a, xs, rfl, hq, hd⟩ := dp_tup rx
  obtain ⟨b, ys, rfl, hq2, hd2⟩ := dp_tup ry
  have h1 := dpa_len hd
  have h2 := dpa_len hd2
  refine ⟨a, b, xs, ys, rfl, rfl, ex_t hide_le hq, ex_t hide_le hq2, sz_of (by rw [h1, h2]; exact hz), fun hx => ?_, fun hx hy => ?_, fun hx hy p hp => ?_⟩
  · subst hx
    cases ds with
    | nil => exact q _ _ H rfl (Ex.refl H) ry
    | cons _ _ => cases h1
  · subst hy
    cases es with
    | nil => refine q _ _ H rfl (Ex.refl H) ?_; rw [List.append_nil]; exact rx
    | cons _ _ => cases h2
  · refine q _ _ _ rfl (Ex.new hp) (Dp.tup (SqT.of ?_) (dpa_up (hide_ex (Ex.new hp)) (dpa_app hd hd2)))
    rw [hide_out (dom.new hp)]
    exact upd_same
end
end DL
set_option Elab.async false
set_option linter.all false
set_option maxRecDepth 100000
/-! The law's own defs on stops. -/
namespace DL
open PySem PySem.Spec PyProof.Rows L2
def resD (d : PyData) : Option (Nat × Str) → PyData
  | some (k, w) => errD k w
  | none => d
theorem due_res {n : Nat} {xs : List AD} : dueD n xs = resD (.tuple (xs.map stopA)) (dueA n xs) := by
  unfold dueD
  cases dueA n xs <;> rfl
def RLTold (K : PySem.W.Frag) (C : Addr) : Cn := fun ts A => ∃ (cs : List Cp) (t : Th) (r : Option (Nat × Str)) (xs : List AD), ts = [wkT K C cs, t] ∧ Wk cs ∧ RowOf K cs.length t r xs ∧ A = (· = dat K (resD (.tuple (xs.map stopA)) r))
def RLTold1 (K : PySem.W.Frag) (C : Addr) : Cn := fun ts A => ∃ (cs : List Cp) (x : AD), ts = [wkT K C cs, anyT K x] ∧ Wk cs ∧ A = (· = dat K (oneD cs.length x))
def RLPlS (K : PySem.W.Frag) (C : Addr) : Cn := fun ts A => ∃ (cs : List Cp) (t : Th) (r : Option (Nat × Str)) (xs : List AD) (ss : List Stp), ts = [wkT K C cs, t] ∧ Wk cs ∧ RowOf K cs.length t r xs ∧ (r = none → xs.map stopA = ss.map sD ∧ ∀ s ∈ ss, GS cs.length 4100 s) ∧ A = (· = dat K (resD (.tuple ((ss.map (placeS cs)).map cD)) r))
def RLWord (K : PySem.W.Frag) : Cn := fun ts A => ∃ (n : Nat) (x : AD), ts = [dat K (.int (n : Nat)), anyT K x] ∧ A = (· = dat K (optW (wordA n x)))
def RLDue (K : PySem.W.Frag) : Cn := fun ts A => ∃ (n : Nat) (xs : List AD), ts = [dat K (.int (n : Nat)), rowT K xs] ∧ xs.length ≤ 20 ∧ A = (· = dat K (dueD n xs))
def RLSpoilt (K : PySem.W.Frag) : Cn := fun ts A => ∃ (n : Nat) (xs : List AD), ts = [handT, dat K (.int (n : Nat)), rowT K xs] ∧ 0 < n ∧ n ≤ 8 ∧ xs.length ≤ 20 ∧ (∀ x ∈ xs, GA x) ∧ A = (fun t => ∃ ys, t = rowT K ys ∧ ys.length = xs.length ∧ ∀ y ∈ ys, GA y)
def RLPlaces (K : PySem.W.Frag) : Cn := fun ts A => ∃ cs : List Cp, ts = [handT, dat K (.list (cs.map cD))] ∧ Wk cs ∧ A = (fun t => ∃ ps : List Cp, t = dat K (.list (ps.map cD)) ∧ (∀ p ∈ ps, GP7 p) ∧ ps.length ≤ 14)
theorem one_res {n : Nat} {x : AD} : oneD n x = resD (stopA x) ((wordA n x).map fun w => (0, w)) := by
  unfold oneD
  cases wordA n x <;> rfl
theorem outW_res {K : PySem.W.Frag} {S : Addr} {d : PyData} : ∀ {o : Option Str}, outW K S 0 d o = outD K S d (o.map fun w => (0, w))
  | some w => rfl
  | none => rfl
def isII : PyData → Bool
  | .int _ => true
  | .bool _ => true
  | _ => false
def isBB : PyData → Bool
  | .bool _ => true
  | _ => false
theorem wh_ii {d : PyData} {lo hi : Option Int} (h : isII d = false) : isWh d lo hi = false := by
  cases d with
  | int i => cases h
  | _ => rfl
theorem wh_bb {d : PyData} {lo hi : Option Int} (h : isBB d = true) : isWh d lo hi = false := by
  cases d with
  | bool b => rfl
  | _ => cases h
theorem ii_int {d : PyData} (h : isII d = true) (g : isBB d = false) : ∃ i, d = .int i := by
  cases d with
  | int i => exact ⟨i, rfl⟩
  | bool b => cases g
  | _ => cases h
theorem wordP_side {n : Nat} {a b : PyData} (h : isWh a (some 0) (some ((n : Int) - 1)) = false) : wordP n a b = some ("side" : Str) := by
  unfold wordP
  rw [if_pos h]
theorem wordP_spot {n : Nat} {a b : PyData} (h : isWh a (some 0) (some ((n : Int) - 1)) = true) (g : innerD b = false) : wordP n a b = some ("spot" : Str) := by
  unfold wordP
  rw [if_neg (show ¬isWh a (some 0) (some ((n : Int) - 1)) = false by rw [h]; decide), if_pos g]
theorem wordP_ok {n : Nat} {a b : PyData} (h : isWh a (some 0) (some ((n : Int) - 1)) = true) (g : innerD b = true) : wordP n a b = none := by
  unfold wordP
  rw [if_neg (show ¬isWh a (some 0) (some ((n : Int) - 1)) = false by rw [h]; decide), if_neg (show ¬innerD b = false by rw [g]; decide)]
theorem wh_no {n : Nat} {k : Int} (z : (decide (k < 0) || decide ((n : Int) ≤ k)) = true) : isWh (.int k) (some 0) (some ((n : Int) - 1)) = false := by
  show (decide (0 ≤ k) && decide (k ≤ (n : Int) - 1)) = false
  rw [Bool.or_eq_true] at z
  rw [Bool.and_eq_false_iff]
  rcases z with z | z
  · exact Or.inl (decide_eq_false (by have := of_decide_eq_true z; omega))
  · exact Or.inr (decide_eq_false (by have := of_decide_eq_true z; omega))
theorem wh_yes {n : Nat} {k : Int} (z : (decide (k < 0) || decide ((n : Int) ≤ k)) = false) : isWh (.int k) (some 0) (some ((n : Int) - 1)) = true := by
  show (decide (0 ≤ k) && decide (k ≤ (n : Int) - 1)) = true
  rw [Bool.or_eq_false_iff] at z
  have h1 := of_decide_eq_false z.1
  have h2 := of_decide_eq_false z.2
  rw [decide_eq_true (show 0 ≤ k by omega), decide_eq_true (show k ≤ (n : Int) - 1 by omega)]
  rfl
theorem inner_no {d : PyData} (h : isRat d = false) : innerD d = false := by
  unfold innerD
  split
  · rw [h]; rfl
  · rfl
theorem inner_no2 {i j : Int} (z : (decide (i ≤ 0) || decide (j ≤ i)) = true) : innerD (.tuple [.int i, .int j]) = false := by
  show (isRat (.tuple [.int i, .int j]) && (decide (0 < i) && decide (i < j))) = false
  rw [Bool.or_eq_true] at z
  rw [Bool.and_eq_false_iff, Bool.and_eq_false_iff]
  rcases z with z | z
  · exact Or.inr (Or.inl (decide_eq_false (by have := of_decide_eq_true z; omega)))
  · exact Or.inr (Or.inr (decide_eq_false (by have := of_decide_eq_true z; omega)))
theorem inner_yes {i j : Int} (h : isRat (.tuple [.int i, .int j]) = true) (z : (decide (i ≤ 0) || decide (j ≤ i)) = false) : innerD (.tuple [.int i, .int j]) = true := by
  show (isRat (.tuple [.int i, .int j]) && (decide (0 < i) && decide (i < j))) = true
  rw [Bool.or_eq_false_iff] at z
  have h1 := of_decide_eq_false z.1
  have h2 := of_decide_eq_false z.2
  rw [h, decide_eq_true (show 0 < i by omega), decide_eq_true (show i < j by omega)]
  rfl
end DL
set_option Elab.async false
set_option linter.all false
set_option maxRecDepth 100000
/-! Rows of things: their truth; a choice that is not known; small numbers. -/
namespace DL
open PySem PySem.Spec PyProof.Rows L2
section
variable {X : Cx} {Δ : List Sl} {e a b c o : Expr} {es : List Expr} {A B C : Th → Prop} {pos : Pos} {P : Post} {rest body els sts : List Stmt} {st : Stmt} {W : WX}
theorem pb_lstT {ts : List Th} (h : PD X Δ e (lstT X.K ts)) (he : ∀ whole, isTrue e X.env whole = (do let v ← whole; standAt e.pos; holding [v] (truthy v)) := by intro _; rfl) : PB X Δ e (!ts.isEmpty) := by
  obtain ⟨t, p, f⟩ := h
  refine ⟨_, pt_truth p he, fun S0 M0 H0 σ H S hA Q q => f S0 M0 H0 σ H S hA _ fun th v H2 ht e2 r => ?_⟩
  subst ht
  obtain ⟨a, xs, rfl, hq, hx⟩ := r
  refine ⟨_, Or.inl ⟨xs, ex_l hide_le hq, rfl⟩, ?_⟩
  rw [show (!xs.isEmpty) = !ts.isEmpty by
    have := hx.len
    cases xs <;> cases ts <;> first | rfl | (simp at this)]
  exact q H2 e2
theorem px_ifE (hc : PBE X Δ c) (ha : PX X Δ a A) (hb : PX X Δ b A) : PX X Δ (.IfExp c a b pos) A := by
  obtain ⟨t, p, f⟩ := hc
  obtain ⟨ta, pa, fa⟩ := ha
  obtain ⟨tb, pb, fb⟩ := hb
  refine ⟨_, pe_ifExp p pa pb, fun S0 M0 H0 σ H S hA Q q => f S0 M0 H0 σ H S hA _ fun k H1 e1 => ?_⟩
  cases k with
  | true => exact fa S0 M0 H0 σ H1 S (hA.up e1) _ fun y w H2 hy e2 r2 => q y w H2 hy (e1.trans e2) r2
  | false => exact fb S0 M0 H0 σ H1 S (hA.up e1) _ fun y w H2 hy e2 r2 => q y w H2 hy (e1.trans e2) r2
end
/-- what is a couple of numbers is one of small ones -/
def SB (b : PyData) : Prop := ∀ q : Q, b = rD q → Sm 4100 q ∨ ¬ 0 < q.2
theorem sb_int {i j : Int} (h : i.natAbs < 2 ^ 3) (g : j.natAbs < 2 ^ 3) : SB (.tuple [.int i, .int j]) := fun q hq => by
  by_cases h0 : 0 < q.2
  · refine Or.inl ?_
    have hq' : PyData.tuple [.int i, .int j] = .tuple [.int q.1, .int q.2] := hq
    injection hq' with e
    injection e with e1 e2
    injection e1 with e1
    injection e2 with e2 _
    injection e2 with e2
    have : Sm 3 q := ⟨by rw [← e1]; exact h, by rw [← e2]; exact g, h0⟩
    exact this.up (by decide)
  · exact Or.inr h0
theorem ga_pair {a b : PyData} (h : SB b) : GA (some (.tuple [a, b])) := fun k q hp => by
  have e : (a, b) = (PyData.int k, rD q) := Option.some.inj hp
  exact h q (Prod.mk.inj e).2
theorem ga_none {x : AD} (h : pairA x = none) : GA x := fun k q hp => by rw [h] at hp; cases hp
theorem ga_list {a b : PyData} (h : GA (some (.tuple [a, b]))) : GA (some (.list [a, b])) := fun k q hp => h k q hp
def spotsD : List PyData := [.tuple [.int 0, .int 1], .tuple [.int 1, .int 1], .tuple [.int 5, .int 4], .tuple [.int (-1), .int 3], .tuple [.int 2, .int 4], .int 1, .list [.int 1, .int 2], .tuple [.bool true, .int 2], .none]
theorem sb_spots : ∀ d ∈ spotsD, SB d := by
  intro d hd
  simp only [spotsD, List.mem_cons, List.not_mem_nil, or_false] at hd
  rcases hd with rfl | rfl | rfl | rfl | rfl | rfl | rfl | rfl | rfl
  · exact sb_int (by decide) (by decide)
  · exact sb_int (by decide) (by decide)
  · exact sb_int (by decide) (by decide)
  · exact sb_int (by decide) (by decide)
  · exact sb_int (by decide) (by decide)
  · intro q h; cases h
  · intro q h; cases h
  · intro q h
    have h' : PyData.tuple [.bool true, .int 2] = .tuple [.int q.1, .int q.2] := h
    injection h' with e
    injection e with e1 _
    cases e1
  · intro q h; cases h
theorem ga_stop {n m : Nat} {s : Stp} (h : GS n m s) (hm : m ≤ 4100) : GA (some (sD s)) := ga_pair fun q hq => by
  have e : s.2 = q := by
    have h' : PyData.tuple [.int s.2.1, .int s.2.2] = .tuple [.int q.1, .int q.2] := hq
    injection h' with e
    injection e with e1 e2
    injection e1 with e1
    injection e2 with e2 _
    injection e2 with e2
    exact Prod.ext e1 e2
  rw [← e]
  exact Or.inl (h.q.sm.up hm)
end DL
set_option Elab.async false
set_option linter.all false
set_option maxRecDepth 100000
/-! What the defs that lead works and stops ask and give. -/
namespace DL
open PySem PySem.Spec PyProof.Rows L2
section
variable {X : Cx} {Δ : List Sl} {e a b c : Expr} {pos : Pos}
theorem ext_of {α : Type} {xs : List α} {g : α → PyData} {es : List PyData} (h2 : es.length = xs.length) (h3 : ∀ (i : Nat) (w : PyData), es[i]? = some w → ∃ a, xs[i]? = some a ∧ w = g a) : es = xs.map g := by
  refine List.ext_getElem? fun i => ?_
  rw [List.getElem?_map]
  cases q : es[i]? with
  | none =>
    rw [List.getElem?_eq_none (by rw [← h2]; exact List.getElem?_eq_none_iff.mp q)]
    rfl
  | some w =>
    obtain ⟨x, e1, e2⟩ := h3 i w q
    rw [e1, e2]
    rfl
/-- [elt for x in e], e a list or tuple of data -/
theorem pd_lcU {α : Type} {x : Str} {px : Pos} {elt : Expr} {scope : Scope} (j : Nat) {xs : List α} {d : PyData} (u g : α → PyData) (he : PD X Δ e (dat X.K d)) (hd : d = .tuple (xs.map u) ∨ d = .list (xs.map u)) (hz : xs.length ≤ 40000)
    (ht : ∀ z, z ∈ xs → ∀ (s : Shared) (H : Hp) (C : Addr) (cl : List (Str × Addr)) (fp : List Addr), PD (X.blk s H scope (compEnvC scope cl C X.env) fp) ((wipeΔ Δ [j]).set j (.th (dat X.K (u z)))) elt (dat X.K (g z)))
    (hN : X.N.Nodup) (ok : BlkOk X.N X.env.scope scope [(x, j)])
    (hg : ∀ (s : Shared) (H : Hp) (C : Addr) (cl : List (Str × Addr)) (fp : List Addr), PG (X.blk s H scope (compEnvC scope cl C X.env) fp) (.Name x px) (gName j))
    (hc : X.calm = true := by rfl) (hs : ∀ x, foldedSetIterable e X.env x = pure x := by intro _; rfl) :
    PD X Δ (.ListComp elt [⟨.Name x px, e, [], 0⟩] scope pos) (dat X.K (.list (xs.map g))) :=
  (px_lcD j (fun (i : Nat) (w : PyData) => ∃ z, xs[i]? = some z ∧ w = g z) he hd (by rw [List.length_map]; exact hz) (fun i z hi s H C cl fp => by
    rw [List.getElem?_map] at hi
    obtain ⟨y, hy, rfl⟩ := Option.map_eq_some_iff.mp hi
    exact (ht y (List.mem_of_getElem? hy) s H C cl fp).imp fun t h => ⟨g y, h, y, hy, rfl⟩) hN ok hg hc hs).imp fun t ⟨es, h1, h2, h3⟩ => by
    rw [List.length_map] at h2
    rw [h1, ext_of h2 h3]
/-- the same over any row -/
theorem pd_lcV {α : Type} {tg it elt : Expr} {scope : Scope} {own : List (Str × Nat)} {xs : List α} {u : α → Th} (g : α → PyData) {Z : Th → (List Sl → List Sl) → Prop} (hi : PIt X Δ tg it (xs.map u)) (hz : xs.length ≤ 40000) (hg : PTb X scope tg (own.map (·.2)) Z)
    (ht : ∀ z, z ∈ xs → ∃ v, Z (u z) v ∧ ∀ (s : Shared) (H : Hp) (C : Addr) (cl : List (Str × Addr)) (fp : List Addr), PD (X.blk s H scope (compEnvC scope cl C X.env) fp) (v (wipeΔ Δ (own.map (·.2)))) elt (dat X.K (g z)))
    (hN : X.N.Nodup) (ok : BlkOk X.N X.env.scope scope own) (hc : X.calm = true := by rfl) (hs : ∀ x, foldedSetIterable it X.env x = pure x := by intro _; rfl) :
    PD X Δ (.ListComp elt [⟨tg, it, [], 0⟩] scope pos) (dat X.K (.list (xs.map g))) :=
  (px_lcI (fun (i : Nat) (w : PyData) => ∃ z, xs[i]? = some z ∧ w = g z) hi (by rw [List.length_map]; exact hz) hg (fun i z hi => by
    rw [List.getElem?_map] at hi
    obtain ⟨y, hy, rfl⟩ := Option.map_eq_some_iff.mp hi
    obtain ⟨v, hv, hp⟩ := ht y (List.mem_of_getElem? hy)
    exact ⟨v, hv, fun s H C cl fp => (hp s H C cl fp).imp fun t h => ⟨g y, h, y, hy, rfl⟩⟩) hN ok hc hs).imp fun t ⟨es, h1, h2, h3⟩ => by
    rw [List.length_map] at h2
    rw [h1, ext_of h2 h3]
end
/-! the way back -/
def invL (n : Nat) : Lead → Lead
  | .sh p => .sh (scC p (-1, 1))
  | .gr q => .gr (q.2, q.1)
  | .be k => .be ((n - k) % n)
  | L => L
theorem vR_m1 : vR ((-1, 1) : Q) = -1 := by unfold vR; rfl
theorem sm_m1 : Sm 1 ((-1, 1) : Q) := ⟨by decide, by decide, by decide⟩
theorem low_flip {q : Q} (h : Low q) (g : 0 < q.1) : Low ((q.2, q.1) : Q) := ⟨by show Nat.gcd q.2.natAbs q.1.natAbs = 1; rw [Nat.gcd_comm]; exact h.1, g⟩
/-- a shift as the law draws it -/
def LOk' (n : Nat) : Lead → Prop
  | .sh p => Cl p ∧ CSm 24 p
  | L => LOk n L
theorem LOk'.k {n : Nat} {L : Lead} (h : LOk' n L) : LOk n L := by
  cases L with
  | sh p => exact ⟨h.1, ⟨h.2.x.up (by decide), h.2.y.up (by decide)⟩⟩
  | tu => exact h
  | mi => exact h
  | gr q => exact h
  | be k => exact h
theorem inv_ok {n : Nat} {L : Lead} (h : LOk' n L) (hn : 0 < n) : LOk n (invL n L) := by
  cases L with
  | sh p => exact ⟨cl_scP h.1 (by decide), csm_sc h.2 sm_m1⟩
  | tu => exact h
  | mi => exact h
  | gr q => exact ⟨low_flip h.1 h.2.1, h.1.2, ⟨h.2.2.b, h.2.2.t, h.2.1⟩⟩
  | be k => exact Nat.mod_lt _ hn
theorem map_id' {f : Cp → Cp} {cs : List Cp} (h : ∀ c ∈ cs, f c = c) : cs.map f = cs := by
  rw [List.map_congr_left (g := id) h, List.map_id]
theorem mirL_map {f : Cp → Cp} {cs : List Cp} : mirL (cs.map f) = (mirL cs).map f := by
  unfold mirL
  rw [List.map_append, List.map_take, List.map_reverse, List.map_drop]
theorem mirL_mirL (cs : List Cp) : mirL (mirL cs) = cs := by
  cases cs with
  | nil => rfl
  | cons a l => show [a] ++ (l.reverse).reverse = a :: l; rw [List.reverse_reverse]; rfl
theorem neg_neg (q : Q) : negQ (negQ q) = q := by
  unfold negQ
  exact Prod.ext (Int.neg_neg _) rfl
theorem vR_flip {q : Q} (h : Low q) (g : 0 < q.1) : vR q * vR ((q.2, q.1) : Q) = 1 := by
  have d1 := vR_den h.2
  have d2 := vR_den (low_flip h g).2
  have h1 : (0 : Rat) < (q.1 : Rat) := by exact_mod_cast g
  have h2 : (0 : Rat) < (q.2 : Rat) := by exact_mod_cast h.2
  have e : vR q * vR ((q.2, q.1) : Q) * ((q.1 : Rat) * (q.2 : Rat)) = 1 * ((q.1 : Rat) * (q.2 : Rat)) := by
    show vR q * vR ((q.2, q.1) : Q) * ((q.1 : Rat) * (q.2 : Rat)) = 1 * ((q.1 : Rat) * (q.2 : Rat))
    have a : vR q * (q.2 : Rat) = (q.1 : Rat) := d1
    have b : vR ((q.2, q.1) : Q) * (q.1 : Rat) = (q.2 : Rat) := d2
    calc vR q * vR ((q.2, q.1) : Q) * ((q.1 : Rat) * (q.2 : Rat)) = (vR q * (q.2 : Rat)) * (vR ((q.2, q.1) : Q) * (q.1 : Rat)) := by grind
      _ = (q.1 : Rat) * (q.2 : Rat) := by rw [a, b]
      _ = _ := by rw [Rat.one_mul]
  have h3 : (q.1 : Rat) * (q.2 : Rat) ≠ 0 := by
    have := Rat.mul_pos h1 h2
    intro z
    rw [z] at this
    exact absurd this (by decide)
  have i := Rat.mul_inv_cancel _ h3
  calc vR q * vR ((q.2, q.1) : Q) = vR q * vR ((q.2, q.1) : Q) * ((q.1 : Rat) * (q.2 : Rat)) * ((q.1 : Rat) * (q.2 : Rat))⁻¹ := by rw [Rat.mul_assoc, i, Rat.mul_one]
    _ = 1 * ((q.1 : Rat) * (q.2 : Rat)) * ((q.1 : Rat) * (q.2 : Rat))⁻¹ := by rw [e]
    _ = 1 := by rw [Rat.one_mul, i]
theorem ld_back {N : Nat} {L : Lead} {cs : List Cp} (h : WkN N cs) (g : LOk cs.length L) (hL : L ≠ .tu) : ld (invL cs.length L) (ld L cs) = cs := by
  cases L with
  | tu => exact absurd rfl hL
  | sh p =>
    show (cs.map (ldP (.sh p))).map (ldP (.sh (scC p (-1, 1)))) = cs
    rw [List.map_map]
    refine map_id' fun c hc => ?_
    have cl := h.cl c hc
    have clm : Cl (scC p (-1, 1)) := cl_scP g.1 (by decide)
    show addC (addC c p) (scC p (-1, 1)) = c
    refine rp_inj (cl_add (cl_add cl g.1) clm) cl ?_
    rw [rp_add (cl_add cl g.1) clm, rp_add cl g.1, rp_sc g.1 (by decide), vR_m1]
    exact Prod.ext (by grind) (by grind)
  | mi =>
    show (mirL ((mirL cs).map mirC)).map mirC = cs
    rw [mirL_map, mirL_mirL, List.map_map]
    exact map_id' fun c hc => Prod.ext (neg_neg _) rfl
  | gr q =>
    show (cs.map (ldP (.gr q))).map (ldP (.gr (q.2, q.1))) = cs
    rw [List.map_map]
    refine map_id' fun c hc => ?_
    have cl := h.cl c hc
    show scC (scC c q) (q.2, q.1) = c
    have f := vR_flip g.1 g.2.1
    refine rp_inj (cl_scP (cl_scP cl g.1.2) g.2.1) cl ?_
    rw [rp_sc (cl_scP cl g.1.2) g.2.1, rp_sc cl g.1.2]
    exact Prod.ext (by show (rp c).1 * vR q * vR (q.2, q.1) = _; rw [Rat.mul_assoc, f, Rat.mul_one]) (by show (rp c).2 * vR q * vR (q.2, q.1) = _; rw [Rat.mul_assoc, f, Rat.mul_one])
  | be k =>
    have hk : k < cs.length := g
    show (cs.drop k ++ cs.take k).drop ((cs.length - k) % cs.length) ++ (cs.drop k ++ cs.take k).take ((cs.length - k) % cs.length) = cs
    by_cases z : k = 0
    · subst z
      rw [Nat.sub_zero, Nat.mod_self]
      simp
    · rw [Nat.mod_eq_of_lt (by omega), List.drop_left' (by rw [List.length_drop]), List.take_left' (by rw [List.length_drop]), List.take_append_drop]
theorem tu4 (cs : List Cp) : ld .tu (ld .tu (ld .tu (ld .tu cs))) = cs := by
  show (((cs.map quarC).map quarC).map quarC).map quarC = cs
  rw [List.map_map, List.map_map, List.map_map]
  refine map_id' fun c hc => ?_
  show quarC (quarC (quarC (quarC c))) = c
  exact Prod.ext (neg_neg _) (neg_neg _)
/-! contracts -/
def RShift (K : PySem.W.Frag) (C B : Addr) : CnX := fun ts o => ∃ (cs : List Cp) (d : PyData), ts = [wkT K C cs, dat K d] ∧ WkN 70 cs ∧ ((∃ p, (d = cD p ∨ d = cL p) ∧ LOk 0 (.sh p) ∧ o = .val (· = wkT K C (ld (.sh p) cs))) ∨ ((seqD d).length ≤ 40000 ∧ isRow d 2 = false ∧ o = .exc B []))
def RTurn (K : PySem.W.Frag) (C : Addr) (L : Lead) : Cn := fun ts A => ∃ cs : List Cp, ts = [wkT K C cs] ∧ WkN 70 cs ∧ A = (· = wkT K C (ld L cs))
def RGrow (K : PySem.W.Frag) (C Z : Addr) : CnX := fun ts o => ∃ (cs : List Cp) (d : PyData), ts = [wkT K C cs, dat K d] ∧ WkN 70 cs ∧ ((∃ q, d = rD q ∧ LOk 0 (.gr q) ∧ o = .val (· = wkT K C (ld (.gr q) cs))) ∨ ((isRat d = false ∨ ∃ q, d = rD q ∧ q.1 ≤ 0) ∧ o = .exc Z []))
def RBegin (K : PySem.W.Frag) (C N : Addr) : CnX := fun ts o => ∃ (cs : List Cp) (d : PyData), ts = [wkT K C cs, dat K d] ∧ WkN 70 cs ∧ ((∃ k : Nat, d = .int k ∧ k < cs.length ∧ o = .val (· = wkT K C (ld (.be k) cs))) ∨ (isWh d (some 0) (some ((cs.length : Int) - 1)) = false ∧ o = .exc N [("side", dat K d)]))
def REqW (K : PySem.W.Frag) (C : Addr) : Cn := fun ts A => ∃ cs ds : List Cp, ts = [wkT K C cs, wkT K C ds] ∧ A = (· = dat K (.bool (PyData.eqv (.tuple (cs.map cD)) (.tuple (ds.map cD)))))
def StsOf (K : PySem.W.Frag) (n : Nat) (t : Th) (r : Option (Nat × Str)) (ss : List Stp) : Prop := ∃ xs : List AD, RowOf K n t r xs ∧ (r = none → xs.map stopA = ss.map sD ∧ ∀ s ∈ ss, GS n 4200 s)
def RMirS (K : PySem.W.Frag) (C S : Addr) : CnX := fun ts o => ∃ (cs : List Cp) (t : Th) (r : Option (Nat × Str)) (ss : List Stp), ts = [wkT K C cs, t] ∧ Wk cs ∧ StsOf K cs.length t r ss ∧ o = outD K S (.tuple ((ss.map (ldS cs.length .mi)).map sD)) r
def RBegS (K : PySem.W.Frag) (C S N : Addr) : CnX := fun ts o => ∃ (cs : List Cp) (t : Th) (r : Option (Nat × Str)) (ss : List Stp) (d : PyData), ts = [wkT K C cs, t, dat K d] ∧ Wk cs ∧ StsOf K cs.length t r ss ∧
  ((∃ p, r = some p ∧ o = outD K S .none r) ∨ (r = none ∧ ∃ k : Nat, d = .int k ∧ k < cs.length ∧ o = .val (· = dat K (.tuple ((ss.map (ldS cs.length (.be k))).map sD)))) ∨ (r = none ∧ isWh d (some 0) (some ((cs.length : Int) - 1)) = false ∧ o = .exc N [("side", dat K d)]))
/-- a way and its value -/
def LD (how : Nat) (d : PyData) (L : Lead) : Prop :=
  (how = 0 ∧ ∃ p, d = cD p ∧ L = .sh p) ∨ (how = 1 ∧ L = .tu) ∨ (how = 2 ∧ L = .mi) ∨ (how = 3 ∧ ∃ q, d = rD q ∧ L = .gr q) ∨ (how = 4 ∧ ∃ k : Nat, d = .int k ∧ L = .be k)
/-- a value that is refused -/
def Bad (K : PySem.W.Frag) (B Z N : Addr) (n how : Nat) (d : PyData) (o : Out) : Prop :=
  (how = 0 ∧ (seqD d).length ≤ 40000 ∧ isRow d 2 = false ∧ o = .exc B []) ∨ (how = 3 ∧ (isRat d = false ∨ ∃ q, d = rD q ∧ q.1 ≤ 0) ∧ o = .exc Z []) ∨ (how = 4 ∧ isWh d (some 0) (some ((n : Int) - 1)) = false ∧ o = .exc N [("side", dat K d)])
def RLSeen (K : PySem.W.Frag) : Cn := fun ts A => ∃ (cs : List Cp) (ss : List Stp) (how : Nat) (d : PyData) (L : Lead), ts = [dat K (.list (cs.map cD)), dat K (.list (ss.map sD)), dat K (.int how), dat K d] ∧ WkN 70 cs ∧ ss.length ≤ 20 ∧ (∀ s ∈ ss, GS cs.length 4200 s) ∧ LD how d L ∧ LOk' cs.length L ∧
  A = (· = dat K (.tuple [.list ((ld L cs).map cD), .list ((ss.map (ldS cs.length L)).map sD)]))
def RLLed (K : PySem.W.Frag) (C B Z N : Addr) : CnX := fun ts o => ∃ (cs : List Cp) (how : Nat) (d : PyData), ts = [wkT K C cs, dat K (.int how), dat K d] ∧ WkN 70 cs ∧ ((∃ L, (LD how d L ∨ (how = 0 ∧ ∃ p, d = cL p ∧ L = .sh p)) ∧ LOk cs.length L ∧ o = .val (· = wkT K C (ld L cs))) ∨ Bad K B Z N cs.length how d o)
def RLStops (K : PySem.W.Frag) (C : Addr) : Cn := fun ts A => ∃ (cs : List Cp) (ss : List Stp) (how : Nat) (d : PyData) (L : Lead), ts = [wkT K C cs, dat K (.list (ss.map sD)), dat K (.int how), dat K d] ∧ Wk cs ∧ ss.length ≤ 8 ∧ (∀ s ∈ ss, GS cs.length 4100 s) ∧ LD how d L ∧ LOk' cs.length L ∧ A = (· = dat K (.tuple ((ss.map (ldS cs.length L)).map sD)))
def RLPlLed (K : PySem.W.Frag) : Cn := fun ts A => ∃ (p : Cp) (m how n : Nat) (d : PyData) (L : Lead), ts = [dat K (cD p), dat K (.int how), dat K d] ∧ CSm m p ∧ m ≤ 6900 ∧ LD how d L ∧ LOk' n L ∧ A = (· = dat K (cD (ldP L p)))
def RLBack (K : PySem.W.Frag) (C : Addr) : Cn := fun ts A => ∃ (cs : List Cp) (how : Nat) (d : PyData) (L : Lead), ts = [wkT K C (ld L cs), dat K (.int how), dat K d, dat K (.int (cs.length : Nat))] ∧ W4 cs ∧ LD how d L ∧ LOk' cs.length L ∧ A = (· = wkT K C cs)
def badW (how : Nat) (d : PyData) : PyData := if how = 0 then .str "place" else if how = 3 then .str "size" else .list [.str "side", d]
def RLWord5 (K : PySem.W.Frag) (C B Z N : Addr) : Cn := fun ts A => ∃ (cs : List Cp) (how : Nat) (d : PyData) (o : Out), ts = [wkT K C cs, dat K (.int how), dat K d] ∧ WkN 70 cs ∧ Bad K B Z N cs.length how d o ∧ A = (· = dat K (badW how d))
def RLBy (K : PySem.W.Frag) : Cn := fun ts A => ∃ (n how : Nat), ts = [handT, dat K (.int n), dat K (.int how)] ∧ 3 ≤ n ∧ n ≤ 8 ∧ how < 5 ∧ A = (fun t => ∃ d L, t = dat K d ∧ LD how d L ∧ LOk' n L)
def RLRef (K : PySem.W.Frag) (C : Addr) : Cn := fun ts A => ∃ cs : List Cp, ts = [wkT K C cs, dat K (.int (cs.length : Nat))] ∧ W4 cs ∧ A = (· = dat K (.bool true))
end DL
set_option Elab.async false
set_option linter.all false
set_option maxRecDepth 100000
/-! Left turns everywhere: as many rounds by rises as by least corners. -/
namespace HU
def upS (s : PR) : Bool := decide (0 < s.2)
def lexN (s : PR) : Bool := decide (s.1 < 0 ∨ (s.1 = 0 ∧ s.2 < 0))
def lexP (s : PR) : Bool := decide (0 < s.1 ∨ (s.1 = 0 ∧ 0 < s.2))
def isD (s : PR) : Bool := decide (0 < s.1 ∧ s.2 ≤ 0)
def b2i (b : Bool) : Int := if b then 1 else 0
theorem mnp {x y : Rat} (a : x ≤ 0) (b : 0 ≤ y) : x * y ≤ 0 := by
  have := Rat.mul_nonneg (show 0 ≤ -x by grind) b
  grind
theorem mnn {x y : Rat} (a : x ≤ 0) (b : y ≤ 0) : 0 ≤ x * y := by
  have := Rat.mul_nonneg (show 0 ≤ -x by grind) (show 0 ≤ -y by grind)
  grind
/-- one turn to the left: rises less least corners is what leaves the last quarter less what enters it -/
theorem turn_step {p r : PR} (h : 0 < p.1 * r.2 - p.2 * r.1) : b2i (upS r && !upS p) - b2i (lexN p && lexP r) = b2i (isD p) - b2i (isD r) := by
  have np : ¬ (p.1 = 0 ∧ p.2 = 0) := fun ⟨a, b⟩ => by rw [a, b] at h; grind
  have nr : ¬ (r.1 = 0 ∧ r.2 = 0) := fun ⟨a, b⟩ => by rw [a, b] at h; grind
  obtain ⟨px, py⟩ := p
  obtain ⟨rx, ry⟩ := r
  simp only at h np nr
  have f1 : ¬ (0 ≤ px ∧ 0 < py ∧ 0 < rx ∧ ry ≤ 0) := fun ⟨a, b, c, d⟩ => by
    have u := Rat.mul_nonneg a (show 0 ≤ -ry by grind)
    have v := Rat.mul_pos b c
    grind
  have f2 : ¬ (px < 0 ∧ 0 < py ∧ 0 ≤ rx ∧ 0 < ry) := fun ⟨a, b, c, d⟩ => by
    have u := Rat.mul_pos (show 0 < -px by grind) d
    have v := Rat.mul_nonneg (Rat.le_of_lt b) c
    grind
  have f3 : ¬ (px ≤ 0 ∧ py ≤ 0 ∧ rx < 0 ∧ 0 < ry) := fun ⟨a, b, c, d⟩ => by
    have u := mnp a (Rat.le_of_lt d)
    have v := mnn b (Rat.le_of_lt c)
    grind
  have f4 : ¬ (0 < px ∧ py ≤ 0 ∧ rx ≤ 0 ∧ ry ≤ 0) := fun ⟨a, b, c, d⟩ => by
    have u := mnp d (Rat.le_of_lt a)
    have v := mnn b c
    grind
  have tri : ∀ x : Rat, x < 0 ∨ x = 0 ∨ 0 < x := fun x => by
    by_cases a : x < 0
    · exact Or.inl a
    · by_cases b : x = 0
      · exact Or.inr (Or.inl b)
      · exact Or.inr (Or.inr (by grind))
  unfold upS lexN lexP isD b2i
  simp only
  rcases tri px with a | a | a <;> rcases tri py with b | b | b <;> rcases tri rx with c | c | c <;> rcases tri ry with d | d | d <;>
    first
    | (exfalso; exact f1 ⟨by grind, by grind, by grind, by grind⟩)
    | (exfalso; exact f2 ⟨by grind, by grind, by grind, by grind⟩)
    | (exfalso; exact f3 ⟨by grind, by grind, by grind, by grind⟩)
    | (exfalso; exact f4 ⟨by grind, by grind, by grind, by grind⟩)
    | (exfalso; exact np ⟨a, b⟩)
    | (exfalso; exact nr ⟨c, d⟩)
    | (have e1 : decide (0 < ry) = (decide (0 < ry)) := rfl
       simp only [decide_eq_true_eq, Bool.and_eq_true, Bool.not_eq_true', decide_eq_false_iff_not]
       grind)
theorem len_filter (p : Nat → Bool) : ∀ l : List Nat, ((l.filter p).length : Int) = (l.map fun k => b2i (p k)).sum
  | [] => rfl
  | k :: l => by
    have ih := len_filter p l
    rw [List.filter_cons, List.map_cons, List.sum_cons]
    unfold b2i
    cases p k with
    | true => rw [if_pos rfl, if_pos rfl, List.length_cons]; unfold b2i at ih; omega
    | false => rw [if_neg (by decide), if_neg (by decide)]; unfold b2i at ih; omega
theorem sum_sub (f g : Nat → Int) : ∀ l : List Nat, (l.map fun k => f k - g k).sum = (l.map f).sum - (l.map g).sum
  | [] => rfl
  | k :: l => by
    have ih := sum_sub f g l
    rw [List.map_cons, List.sum_cons, List.map_cons, List.sum_cons, List.map_cons, List.sum_cons, ih]
    omega
theorem sum_app' : ∀ (l m : List Int), (l ++ m).sum = l.sum + m.sum
  | [], m => by simp
  | a :: l, m => by rw [List.cons_append, List.sum_cons, List.sum_cons, sum_app' l m]; omega
theorem sum_pv (g : Nat → Int) {n : Nat} (hn : 0 < n) : ((List.range n).map fun k => g (pv n k)).sum = ((List.range n).map g).sum := by
  obtain ⟨m, rfl⟩ : ∃ m, n = m + 1 := ⟨n - 1, by omega⟩
  have e1 : (List.range (m + 1)).map (fun k => g (pv (m + 1) k)) = g m :: (List.range m).map g := by
    rw [List.range_succ_eq_map, List.map_cons, List.map_map]
    congr 1
    · show g (pv (m + 1) 0) = g m
      rw [pv_of (by omega), if_pos rfl]
      rfl
    · refine List.map_congr_left fun k hk => ?_
      have hk := List.mem_range.mp hk
      show g (pv (m + 1) (k + 1)) = g k
      rw [pv_of (by omega), if_neg (by omega)]
      rfl
  rw [e1, List.sum_cons, List.range_succ, List.map_append, sum_app']
  simp
  omega
/-- left turns everywhere: as many rises as least corners -/
theorem minima_rounds {n : Nat} {f : Nat → PR} (hn : 0 < n) (h : ∀ k, k < n → 0 < (f (pv n k)).1 * (f k).2 - (f (pv n k)).2 * (f k).1) :
    ((List.range n).filter fun k => lexN (f (pv n k)) && lexP (f k)).length = ((List.range n).filter fun k => upS (f k) && !upS (f (pv n k))).length := by
  have a := len_filter (fun k => lexN (f (pv n k)) && lexP (f k)) (List.range n)
  have b := len_filter (fun k => upS (f k) && !upS (f (pv n k))) (List.range n)
  have c := sum_sub (fun k => b2i (upS (f k) && !upS (f (pv n k)))) (fun k => b2i (lexN (f (pv n k)) && lexP (f k))) (List.range n)
  have d : (List.range n).map (fun k => b2i (upS (f k) && !upS (f (pv n k))) - b2i (lexN (f (pv n k)) && lexP (f k))) = (List.range n).map (fun k => b2i (isD (f (pv n k))) - b2i (isD (f k))) :=
    List.map_congr_left fun k hk => turn_step (h k (List.mem_range.mp hk))
  rw [d, sum_sub (fun k => b2i (isD (f (pv n k)))) (fun k => b2i (isD (f k))), sum_pv (fun k => b2i (isD (f k))) hn] at c
  omega
end HU
set_option Elab.async false
set_option linter.all false
set_option maxRecDepth 100000
/-! Rows of corners that need not be a work: which fault comes first. -/
namespace DL
open PySem PySem.Spec PyProof.Rows L2
structure RoN (N : Nat) (cs : List Cp) : Prop where
  cl : ∀ c ∈ cs, Cl c
  sm : ∀ c ∈ cs, CSm N c
  lo : 3 ≤ cs.length
  hi : cs.length ≤ 8
theorem WkN.ro {N : Nat} {cs : List Cp} (h : WkN N cs) : RoN N cs := ⟨h.cl, h.sm, h.lo, h.hi⟩
theorem RoN.n0 {N : Nat} {cs : List Cp} (h : RoN N cs) : 0 < cs.length := by have := h.lo; omega
theorem ro_side {N : Nat} {cs : List Cp} (h : RoN N cs) {k : Nat} (hk : k < cs.length) : Cl (sideC cs k) ∧ CSm (N + N + 1) (sideC cs k) := by
  have h1 := at_mem (HU.nx_lt h.n0 k)
  have h2 := at_mem hk
  have c1 := h.cl _ h1
  have c2 := h.cl _ h2
  exact ⟨⟨low_minus c1.x.2 c2.x.2, low_minus c1.y.2 c2.y.2⟩, csm_less (h.sm _ h1) (h.sm _ h2)⟩
/-- no turn to the left at k -/
def badT (cs : List Cp) (k : Nat) : Bool := decide (signI (crossC (sideC cs (HU.pv cs.length k)) (sideC cs k)).1 ≤ 0)
/-- a row of data and its couples -/
structure RowC (ds : List PyData) (cs : List Cp) : Prop where
  len : ds.length = cs.length
  at_ : ∀ i, i < cs.length → ds[i]? = some (cD (at_ cs i)) ∨ ds[i]? = some (cL (at_ cs i))
theorem couple_is {d : PyData} (h : isRow d 2 = true) : ∃ c : Cp, (d = cD c ∨ d = cL c) ∧ Cl c := by
  have two : ∀ (l : List PyData), l.length = 2 → l.all isRat = true → ∃ c : Cp, l = [rD c.1, rD c.2] ∧ Cl c := by
    intro l hl ha
    match l, hl with
    | [a, b], _ =>
      have ha' : isRat a = true ∧ isRat b = true := by simpa using ha
      obtain ⟨i, j, rfl⟩ := rat_is ha'.1
      obtain ⟨i', j', rfl⟩ := rat_is ha'.2
      exact ⟨((i, j), (i', j')), rfl, ⟨rat_low ha'.1, rat_low ha'.2⟩⟩
  cases d with
  | tuple l =>
    have q : ((l.length : Nat) : Int) = 2 ∧ ∀ x, x ∈ l → isRat x = true := by simpa [isRow, isSeq, seqD] using h
    obtain ⟨c, e, hc⟩ := two l (by omega) (List.all_eq_true.mpr q.2)
    exact ⟨c, Or.inl (by rw [e]; rfl), hc⟩
  | list l =>
    have q : ((l.length : Nat) : Int) = 2 ∧ ∀ x, x ∈ l → isRat x = true := by simpa [isRow, isSeq, seqD] using h
    obtain ⟨c, e, hc⟩ := two l (by omega) (List.all_eq_true.mpr q.2)
    exact ⟨c, Or.inr (by rw [e]; rfl), hc⟩
  | _ => cases h
def valW (K : PySem.W.Frag) (cs : List Cp) : List (Str × Th) := [("normals", dat K (.tuple ((normsC cs).map cD))), ("corners", dat K (.tuple (cs.map cD)))]
/-- how the check of corners ends: the corners, or the fault's place and word -/
def ChkE (K : PySem.W.Frag) (t : Th) (r : List Cp ⊕ (Nat × Str)) : Prop :=
  (∃ x : AD, t = anyT K x ∧ isSeqA x = false ∧ r = .inr (0, ("many" : Str))) ∨
  (∃ ds : List PyData, (t = dat K (.tuple ds) ∨ t = dat K (.list ds)) ∧ ds.length ≤ 40000 ∧
    ((¬ (3 ≤ ds.length ∧ ds.length ≤ 8) ∧ r = .inr (0, ("many" : Str))) ∨
     (3 ≤ ds.length ∧ ds.length ≤ 8 ∧ (∀ d ∈ ds, (seqD d).length ≤ 40000) ∧ ∃ (j : Nat) (dj : PyData), ds[j]? = some dj ∧ isRow dj 2 = false ∧ (∀ (i : Nat) d, i < j → ds[i]? = some d → isRow d 2 = true) ∧ r = .inr (j, ("corner" : Str))) ∨
     (∃ cs : List Cp, RowC ds cs ∧ RoN 400 cs ∧
       ((∃ k, k < cs.length ∧ badT cs k = true ∧ (∀ i, i < k → badT cs i = false) ∧ r = .inr (k, ("turn" : Str))) ∨
        ((∀ i, i < cs.length → badT cs i = false) ∧ ((roundsN (sidesC cs) ≠ 1 ∧ r = .inr (0, ("round" : Str))) ∨ (roundsN (sidesC cs) = 1 ∧ r = .inl cs)))))))
def outE (K : PySem.W.Frag) (W : Addr) : List Cp ⊕ (Nat × Str) → Out
  | .inl cs => .val (· = dat K (.tuple (cs.map cD)))
  | .inr (k, w) => .exc W (badS K k w)
def outEN (K : PySem.W.Frag) (W : Addr) : List Cp ⊕ (Nat × Str) → OutN
  | .inl cs => .val (valW K cs)
  | .inr (k, w) => .exc W (badS K k w)
def RSidesR (K : PySem.W.Frag) : Cn := fun ts A => ∃ cs : List Cp, ts = [dat K (.tuple (cs.map cD))] ∧ RoN 400 cs ∧ A = (· = dat K (.list ((sidesC cs).map cD)))
def RChkG (K : PySem.W.Frag) (W : Addr) : CnX := fun ts o => ∃ (t : Th) (r : List Cp ⊕ (Nat × Str)), ts = [t] ∧ ChkE K t r ∧ o = outE K W r
def RMkG (K : PySem.W.Frag) (W : Addr) : List Th → OutN → Prop := fun ts o => ∃ (t : Th) (r : List Cp ⊕ (Nat × Str)), ts = [t] ∧ ChkE K t r ∧ o = outEN K W r
theorem chk_ro {K : PySem.W.Frag} {t : Th} {cs : List Cp} (h : ChkE K t (.inl cs)) : RoN 400 cs := by
  rcases h with ⟨_, _, _, h⟩ | ⟨ds, _, _, ⟨_, h⟩ | ⟨_, _, _, _, _, _, _, _, h⟩ | ⟨cs', _, hr, ⟨_, _, _, _, h⟩ | ⟨_, ⟨_, h⟩ | ⟨_, h⟩⟩⟩⟩
  all_goals first | (cases h; assumption) | cases h
/-- left turns everywhere, one least corner: the law's own look at couples -/
def before (a b : Cp) : Bool := decide (cmpQ a.1 b.1 < 0) || (decide (cmpQ a.1 b.1 = 0) && decide (cmpQ a.2 b.2 < 0))
section
variable {X : Cx} {Δ : List Sl} {e : Expr} {pos : Pos}
theorem pit_enumD {tg : List Expr} {kk : Nat} {tp p : Pos} {d : PyData} {ds : List PyData} (hd : d = .tuple ds ∨ d = .list ds) (hm : X.mg "enumerate" = none) (he : PD X Δ e (dat X.K d)) (hg : Gl X "enumerate" := by rfl) (hs : starEach [e] X.env = [(false, eval e X.env)] := by rfl) (hse : starEach [e] X.env = (false, eval e X.env) :: starEach [] X.env := by rfl) :
    PIt X Δ (.Tuple tg kk tp) (.Call (.Name "enumerate" p) [e] [] pos) (enumT X.K (ds.map (dat X.K))) := by
  rcases hd with rfl | rfl
  · exact pit_enumT hm (PD.is he dat_tup) hg hs hse
  · exact pit_enum hm (PD.is he dat_lst) hg hs hse
end
end DL
set_option Elab.async false
set_option linter.all false
set_option maxRecDepth 100000
set_option maxHeartbeats 4000000
namespace K03
open PySem PySem.Spec PyProof.Rows L2 DL
section
variable {P : Program} {w : World} {K : PySem.W.Frag} {mg : Str → Option Value} {base : Heap} {f : Addr} {fd : FuncData}
theorem ok_sides_between (F : Fun K "sides_between" "sides_between" s_sides_between f fd) (T : Txt K mg) (G_place_minus : Gd P w K mg base "place_minus" 3 [] (R2CL K lessC)) : FnOk P w K mg base CX0 4 f fd ["corners"] (spT (RSidesR K)) := by
  refine fn_mk F sc_sides_between (fun ts A ⟨_, e, _⟩ => by rw [e]; rfl) fun cdv Ar outer s H E hr ts B hR => ?_
  obtain ⟨cs, rfl, hw, rfl⟩ := hR
  refine sd_retX (px_lcI (own := [("at", 1), ("corner", 2)]) (ts := enumT K (cs.map fun c => dat K (cD c))) (fun i w => i < cs.length ∧ w = cD (sideC cs i)) (pit_enumT T.z_enumerate (PD.is (px_var 0 rfl) (by rw [dat_tup, List.map_map]; rfl))) (by unfold enumT; rw [List.length_map, List.length_zipIdx, List.length_map]; have := hw.hi; omega) (ptb_names [1, 2] (fun _ _ _ _ _ => pg_tup rfl (pgs_cons (pg_name (i := 1) sc_sides_between.nd rfl (Or.inl rfl)) (pgs_cons (pg_name (i := 2) sc_sides_between.nd rfl (Or.inl rfl)) pgs_nil)))) (fun i z hz => ?_) sc_sides_between.nd (blkOk_by (own := [("at", 1), ("corner", 2)]) (N := ["corners", "at", "corner"]) (sc := defScope s_sides_between) (by decide +kernel))) (fun t ⟨es, h1, h2, h3⟩ => ?_)
  · unfold enumT at hz
    rw [List.getElem?_map, List.getElem?_zipIdx, List.getElem?_map] at hz
    by_cases hi : i < cs.length
    · rw [at_get hi] at hz
      have hz' : z = tupT K [dat K (.int (i : Nat)), dat K (cD (at_ cs i))] := by
        have := Option.some.inj hz
        rw [← this]
        simp
      subst hz'
      refine ⟨_, ⟨[dat K (.int (i : Nat)), dat K (cD (at_ cs i))], rfl, rfl, rfl⟩, fun _ _ _ _ _ => ?_⟩
      have hn := hw.n0
      refine (pd_call G_place_minus hr (pl_cons (pd_ix (D := .tuple (cs.map cD)) (px_var 0 rfl) (PD.is (pd_mod (pd_add (px_var 1 rfl) px_int) (pd_len (n := cs.length) T.z_len (px_var 0 rfl) (by show some (cs.map cD).length = _; rw [List.length_map])) (by omega)) (by rw [fmod_nat]; rfl)) (ix_at (HU.nx_lt hn i)).1) (pl_cons (px_var 2 rfl) pl_nil)) ⟨_, _, _, 400, 400, rfl, Or.inl rfl, hw.sm _ (at_mem (HU.nx_lt hn i)), hw.sm _ (at_mem hi), by decide, rfl⟩).imp fun t ht => ⟨_, ht, hi, rfl⟩
    · rw [List.getElem?_eq_none (by omega)] at hz
      cases hz
  · rw [h1]
    congr 2
    unfold enumT at h2
    rw [List.length_map, List.length_zipIdx, List.length_map] at h2
    refine List.ext_getElem? fun i => ?_
    unfold sidesC
    rw [List.map_map, List.getElem?_map]
    cases q : es[i]? with
    | none =>
      have : cs.length ≤ i := by rw [← h2]; exact List.getElem?_eq_none_iff.mp q
      rw [List.getElem?_eq_none (by rw [List.length_range]; exact this)]
      rfl
    | some w =>
      obtain ⟨e1, e2⟩ := h3 i w q
      rw [List.getElem?_range e1, e2]
      rfl
theorem ok_rounds_of (F : Fun K "rounds_of" "rounds_of" s_rounds_of f fd) (T : Txt K mg) (G_sign_of : Gd P w K mg base "sign_of" 2 [] (RSignOf K)) : FnOk P w K mg base CX0 3 f fd ["sides"] (spT (RRounds K)) := by
  refine fn_mk F sc_rounds_of (fun ts A ⟨_, e, _⟩ => by rw [e]; rfl) fun cdv Ar outer s H E hr ts B hR => ?_
  obtain ⟨ss, rfl, hl, rfl⟩ := hR
  refine sd_asgX 1 (px_lcD 2 (d := .list (ss.map cD)) (fun i w => i < ss.length ∧ w = .bool (upB ss i)) (px_var 0 rfl) (Or.inr rfl) (by rw [List.length_map]; omega) (fun i z hz _ _ _ _ _ => ?_) sc_rounds_of.nd (blkOk_by (own := [("side", 2)]) (N := ["sides", "ups", "side", "at", "up"]) (sc := defScope s_rounds_of) (by decide +kernel)) (fun _ _ _ _ _ => pg_name (i := 2) sc_rounds_of.nd rfl (Or.inl rfl))) (fun t ⟨es, h1, h2, h3⟩ => ?_) sc_rounds_of.nd
  · rw [List.getElem?_map] at hz
    by_cases hi : i < ss.length
    · rw [at_get hi] at hz
      have hz' := (Option.some.inj hz).symm
      subst hz'
      exact (pd_cmp ct_gt (pd_call G_sign_of hr (pl_cons (pd_ix (D := cD (at_ ss i)) (d := rD (at_ ss i).2) (px_var 2 rfl) px_int rfl) pl_nil) ⟨_, rfl, rfl⟩) px_int (nomark _)).imp fun t ht => ⟨_, ht, hi, rfl⟩
    · rw [List.getElem?_eq_none (by omega)] at hz
      cases hz
  · rw [List.length_map] at h2
    have hes : es = (List.range ss.length).map fun i => .bool (upB ss i) := by
      refine List.ext_getElem? fun i => ?_
      rw [List.getElem?_map]
      cases q : es[i]? with
      | none =>
        have : ss.length ≤ i := by rw [← h2]; exact List.getElem?_eq_none_iff.mp q
        rw [List.getElem?_eq_none (by rw [List.length_range]; exact this)]
        rfl
      | some w =>
        obtain ⟨e1, e2⟩ := h3 i w q
        rw [List.getElem?_range e1, e2]
        rfl
    subst hes
    subst h1
    have gl : ∀ {i : Nat}, i < ss.length → ((List.range ss.length).map fun i => PyData.bool (upB ss i))[i]? = some (.bool (upB ss i)) := fun {i} hi => by rw [List.getElem?_map, List.getElem?_range hi]; rfl
    have hlen : (enumT K (((List.range ss.length).map fun i => PyData.bool (upB ss i)).map (dat K))).length = ss.length := by unfold enumT; rw [List.length_map, List.length_zipIdx, List.length_map, List.length_map, List.length_range]
    refine sd_ret (PD.is (pd_len (n := roundsN ss) T.z_len (PD.is (t' := dat K (.list ((List.range ss.length).filterMap (roundPick ss)))) (pd_lcF (own := [("at", 3), ("up", 4)]) (ts := enumT K (((List.range ss.length).map fun i => PyData.bool (upB ss i)).map (dat K))) (roundPick ss) (pit_enum T.z_enumerate (PD.is (px_var 1 rfl) (by rw [dat_lst]; rfl))) (by rw [hlen]; omega) (ptb_names [3, 4] (fun _ _ _ _ _ => pg_tup rfl (pgs_cons (pg_name (i := 3) sc_rounds_of.nd rfl (Or.inl rfl)) (pgs_cons (pg_name (i := 4) sc_rounds_of.nd rfl (Or.inl rfl)) pgs_nil)))) (fun i z hz => ?_) sc_rounds_of.nd (blkOk_by (own := [("at", 3), ("up", 4)]) (N := ["sides", "ups", "side", "at", "up"]) (sc := defScope s_rounds_of) (by decide +kernel))) (by rw [hlen]; rfl)) rfl) rfl) rfl
    unfold enumT at hz
    rw [List.getElem?_map, List.getElem?_zipIdx, List.getElem?_map] at hz
    by_cases hi : i < ss.length
    · rw [gl hi] at hz
      have hz' : z = tupT K [dat K (.int (i : Nat)), dat K (.bool (upB ss i))] := by
        have := Option.some.inj hz
        rw [← this]
        simp
      subst hz'
      have hp := HU.pv_lt (n := ss.length) (by omega) i
      refine ⟨_, ⟨[dat K (.int (i : Nat)), dat K (.bool (upB ss i))], rfl, rfl, rfl⟩, fun _ _ _ _ _ => ⟨PB.is (PBW.pb (pwa (pb_val (px_var 4 rfl)) (pw1a (pb_not (pb_val (pd_ix (D := .list ((List.range ss.length).map fun i => PyData.bool (upB ss i))) (d := .bool (upB ss (HU.pv ss.length i))) (px_var 1 rfl) (pd_sub (px_var 3 rfl) px_int) (ix_prev (by rw [List.length_map, List.length_range]; exact hi) (by rw [List.length_map, List.length_range]; exact gl hp)))))))) ?_, fun w hw => ?_⟩⟩
      · unfold roundPick
        split <;> rename_i h
        · rw [h]; rfl
        · rw [Bool.not_eq_true] at h; rw [h]; rfl
      · unfold roundPick at hw
        split at hw
        · have e := Option.some.inj hw
          rw [← e]
          exact px_var 3 rfl
        · cases hw
    · rw [List.getElem?_eq_none (by rw [List.length_map, List.length_range]; omega)] at hz
      cases hz
theorem place_in {p : Cp} {d : PyData} (hd : d = cD p ∨ d = cL p) (hp : Cl p) : isRow d 2 = true ∧ seqD d = [rD p.1, rD p.2] ∧ (seqD d).length ≤ 40000 := by
  have h1 := isRat_rD hp.x
  have h2 := isRat_rD hp.y
  rcases hd with rfl | rfl
  · exact ⟨isRow_cD hp, rfl, by show 2 ≤ 40000; decide⟩
  · exact ⟨by simp [isRow, isSeq, seqD, cL, h1, h2], rfl, by show 2 ≤ 40000; decide⟩

theorem ok_checked_corners (F : Fun K "checked_corners" "checked_corners" s_checked_corners f fd) (T : Txt K mg) {W : Addr} (xW : ExF2 P w K mg base "BadWork" W "index" "what") (G_is_sequence : Gd P w K mg base "is_sequence" 1 [] (RSeqA K)) (G_is_couple : Gd P w K mg base "is_couple" 4 [] (RPred K (fun d => isRow d 2))) (G_sides_between : Gd P w K mg base "sides_between" 4 [] (RSidesR K)) (G_sign_of : Gd P w K mg base "sign_of" 2 [] (RSignOf K)) (G_cross_of : Gd P w K mg base "cross_of" 3 [] (R2CQ K crossC)) (G_rounds_of : Gd P w K mg base "rounds_of" 3 [] (RRounds K)) : FnOk P w K mg base (L2.CX P w) 5 f fd ["corners"] (spX (RChkG K W)) := by
  refine fnX_mk F sc_checked_corners (fun ts A ⟨_, _, e, _⟩ => by rw [e]; rfl) fun cdv Ar outer s H E hr ts o hR => ?_
  obtain ⟨t, r, rfl, hch, rfl⟩ := hR
  rcases hch with ⟨x, rfl, hx, rfl⟩ | ⟨ds, hd0, hz, hcase⟩
  · exact sd_ifT (PBW.pb (pwo_t (PB.is (pb_not (pb_val (pd_call G_is_sequence (hr.mono (by decide)) (pl_cons (px_var 0 rfl) pl_nil) ⟨_, _, rfl, Or.inl ⟨x, rfl, rfl⟩, rfl⟩))) (by rw [hx]; rfl)) never_w)) (sd_raise2 xW (hr.mono (by decide)) px_int px_str (takes_of rfl rfl rfl rfl) ⟨rfl, rfl⟩)
  obtain ⟨d, rfl, hd⟩ : ∃ d, t = dat K d ∧ (d = .tuple ds ∨ d = .list ds) := by
    rcases hd0 with rfl | rfl
    · exact ⟨_, rfl, Or.inl rfl⟩
    · exact ⟨_, rfl, Or.inr rfl⟩
  have hsq : RSeqA K [dat K d] (· = dat K (.bool true)) := by
    rcases hd with rfl | rfl
    · exact ⟨_, _, rfl, Or.inl ⟨some (.tuple ds), rfl, rfl⟩, rfl⟩
    · exact ⟨_, _, rfl, Or.inl ⟨some (.list ds), rfl, rfl⟩, rfl⟩
  have skip1 : 3 ≤ ds.length → ds.length ≤ 8 → (false || !(decide ((3 : Int) ≤ (ds.length : Int)) && decide ((ds.length : Int) ≤ 8))) = false := fun a b => by
    rw [decide_eq_true (show (3 : Int) ≤ (ds.length : Int) by omega), decide_eq_true (show (ds.length : Int) ≤ 8 by omega)]
    rfl
  have el : (enumT K (ds.map (dat K))).length = ds.length := by unfold enumT; rw [List.length_map, List.length_zipIdx, List.length_map]
  have ez : ∀ {i : Nat} {z : Th}, (enumT K (ds.map (dat K)))[i]? = some z → ∃ di, ds[i]? = some di ∧ z = tupT K [dat K (.int (i : Nat)), dat K di] := fun {i z} h => by
    unfold enumT at h
    rw [List.getElem?_map, List.getElem?_zipIdx, List.getElem?_map] at h
    cases q : ds[i]? with
    | none => rw [q] at h; cases h
    | some di =>
      rw [q] at h
      have := Option.some.inj h
      exact ⟨di, rfl, by rw [← this]; simp⟩
  rcases hcase with ⟨hn, rfl⟩ | ⟨h3, h8, hsz, j, dj, hj, hbad, hfirst, rfl⟩ | ⟨cs, hrc, hro, hout⟩
  · refine sd_ifT (PB.is (PBW.pb (pwo (PB.is (k' := false) (pb_not (pb_val (pd_call G_is_sequence (hr.mono (by decide)) (pl_cons (px_var 0 rfl) pl_nil) hsq))) rfl) (pw1o (pb_not (pb_chain ct_le ct_le px_int (pd_len (n := ds.length) T.z_len (px_var 0 rfl) (by rcases hd with rfl | rfl <;> rfl)) px_int (fun _ _ _ _ _ ho ho' pa pb pc => pt_chain ho ho' pa pb pc)))))) (by
      rw [Bool.false_or, Bool.not_eq_true', Bool.and_eq_false_iff]
      by_cases h3 : 3 ≤ ds.length
      · exact Or.inr (decide_eq_false (by omega))
      · exact Or.inl (decide_eq_false (by omega)))) (sd_raise2 xW (hr.mono (by decide)) px_int px_str (takes_of rfl rfl rfl rfl) ⟨rfl, rfl⟩)
  · have hjl : j < ds.length := (List.getElem?_eq_some_iff.mp hj).1
    refine sd_skip (PB.is (PBW.pb (pwo (PB.is (k' := false) (pb_not (pb_val (pd_call G_is_sequence (hr.mono (by decide)) (pl_cons (px_var 0 rfl) pl_nil) hsq))) rfl) (pw1o (pb_not (pb_chain ct_le ct_le px_int (pd_len (n := ds.length) T.z_len (px_var 0 rfl) (by rcases hd with rfl | rfl <;> rfl)) px_int (fun _ _ _ _ _ ho ho' pa pb pc => pt_chain ho ho' pa pb pc)))))) (skip1 h3 h8)) ?_
    refine sd_forI (ts := enumT K (ds.map (dat K))) (fun i Δ' => i ≤ j ∧ ∃ s1 s2, Δ' = [.th (dat K d), s1, s2, .no, .no, .no]) (hp := passes_of rfl) (pit_enumD hd T.z_enumerate (px_var 0 rfl)) (ptg_names [1, 2] (pgs_cons (pg_name (i := 1) sc_checked_corners.nd rfl (Or.inl rfl) (.inr rfl)) (pgs_cons (pg_name (i := 2) sc_checked_corners.nd rfl (Or.inl rfl) (.inr rfl)) pgs_nil))) ⟨Nat.zero_le _, _, _, rfl⟩ ?_ ?_
    · rintro i z Δ' hz ⟨hij, s1, s2, rfl⟩
      obtain ⟨di, hi, rfl⟩ := ez hz
      refine ⟨_, ⟨[dat K (.int (i : Nat)), dat K di], rfl, rfl, rfl⟩, ?_⟩
      have hdz := hsz di (List.mem_of_getElem? hi)
      by_cases e : i = j
      · subst e
        rw [hj] at hi
        cases hi
        exact sd_ifT (PB.is (pb_not (pb_val (pd_call G_is_couple (hr.mono (by decide)) (pl_cons (px_var 2 rfl) pl_nil) ⟨_, rfl, hdz, rfl⟩))) (by show (!isRow dj 2) = true; rw [hbad]; rfl)) (sd_raise2 xW (hr.mono (by decide)) (px_var 1 rfl) px_str (takes_of rfl rfl rfl rfl) ⟨rfl, rfl⟩)
      · exact sd_skip (PB.is (pb_not (pb_val (pd_call G_is_couple (hr.mono (by decide)) (pl_cons (px_var 2 rfl) pl_nil) ⟨_, rfl, hdz, rfl⟩))) (by show (!isRow di 2) = false; rw [hfirst i di (by omega) hi]; rfl)) (sd_nil ⟨by omega, _, _, rfl⟩)
    · rintro Δ' ⟨hij, s1, s2, rfl⟩
      rw [el] at hij
      exact absurd hij (by omega)
  have hlen := hrc.len
  have hlo := hro.lo
  have hhi := hro.hi
  have dis : ∀ {i : Nat} {di : PyData}, ds[i]? = some di → i < cs.length ∧ (di = cD (at_ cs i) ∨ di = cL (at_ cs i)) := fun {i di} h => by
    have hl := (List.getElem?_eq_some_iff.mp h).1
    refine ⟨by omega, ?_⟩
    rcases hrc.at_ i (by omega) with q | q <;> rw [q] at h <;> cases h
    · exact Or.inl rfl
    · exact Or.inr rfl
  refine sd_skip (PB.is (PBW.pb (pwo (PB.is (k' := false) (pb_not (pb_val (pd_call G_is_sequence (hr.mono (by decide)) (pl_cons (px_var 0 rfl) pl_nil) hsq))) rfl) (pw1o (pb_not (pb_chain ct_le ct_le px_int (pd_len (n := ds.length) T.z_len (px_var 0 rfl) (by rcases hd with rfl | rfl <;> rfl)) px_int (fun _ _ _ _ _ ho ho' pa pb pc => pt_chain ho ho' pa pb pc)))))) (skip1 (by omega) (by omega))) ?_
  refine sd_forI (ts := enumT K (ds.map (dat K))) (fun i Δ' => ∃ s1 s2, Δ' = [.th (dat K d), s1, s2, .no, .no, .no]) (hp := passes_of rfl) (pit_enumD hd T.z_enumerate (px_var 0 rfl)) (ptg_names [1, 2] (pgs_cons (pg_name (i := 1) sc_checked_corners.nd rfl (Or.inl rfl) (.inr rfl)) (pgs_cons (pg_name (i := 2) sc_checked_corners.nd rfl (Or.inl rfl) (.inr rfl)) pgs_nil))) ⟨_, _, rfl⟩ ?_ ?_
  · rintro i z Δ' hz ⟨s1, s2, rfl⟩
    obtain ⟨di, hi, rfl⟩ := ez hz
    obtain ⟨hil, hdi⟩ := dis hi
    obtain ⟨q1, q2, q3⟩ := place_in hdi (hro.cl _ (at_mem hil))
    refine ⟨_, ⟨[dat K (.int (i : Nat)), dat K di], rfl, rfl, rfl⟩, ?_⟩
    exact sd_skip (PB.is (pb_not (pb_val (pd_call G_is_couple (hr.mono (by decide)) (pl_cons (px_var 2 rfl) pl_nil) ⟨_, rfl, q3, rfl⟩))) (by show (!isRow di 2) = false; rw [q1]; rfl)) (sd_nil ⟨_, _, rfl⟩)
  rintro Δ' ⟨s1, s2, rfl⟩
  refine sd_asg 3 (t := dat K (.tuple (cs.map cD))) (pd_tuple T.z_tuple (Or.inl (PX.imp (px_lcD 2 (fun i w => i < cs.length ∧ w = cD (at_ cs i)) (px_var 0 rfl) hd (by omega) (fun i z hz _ _ _ _ _ => ?_) sc_checked_corners.nd (blkOk_by (own := [("corner", 2)]) (N := ["corners", "at", "corner", "kept", "sides", "side"]) (sc := defScope s_checked_corners) (by decide +kernel)) (fun _ _ _ _ _ => pg_name (i := 2) sc_checked_corners.nd rfl (Or.inl rfl))) (B := (· = dat K (.list (cs.map cD)))) (fun t ⟨es, h1, h2, h3⟩ => ?_)))) ?_ sc_checked_corners.nd
  · obtain ⟨hil, hdi⟩ := dis hz
    rcases hdi with rfl | rfl
    · exact (pd_tuple (es := [rD (at_ cs i).1, rD (at_ cs i).2]) T.z_tuple (Or.inr (px_var 2 rfl))).imp fun t ht => ⟨_, ht, hil, rfl⟩
    · exact (pd_tuple (es := [rD (at_ cs i).1, rD (at_ cs i).2]) T.z_tuple (Or.inl (px_var 2 rfl))).imp fun t ht => ⟨_, ht, hil, rfl⟩
  · rw [h1]
    congr 2
    refine List.ext_getElem? fun i => ?_
    rw [List.getElem?_map]
    cases q : es[i]? with
    | none =>
      have : cs.length ≤ i := by rw [← hlen, ← h2]; exact List.getElem?_eq_none_iff.mp q
      rw [List.getElem?_eq_none this]
      rfl
    | some w =>
      obtain ⟨e1, e2⟩ := h3 i w q
      rw [at_get e1, e2]
      rfl
  refine sd_asg 4 (pd_call G_sides_between (hr.mono (by decide)) (pl_cons (px_var 3 rfl) pl_nil) ⟨_, rfl, hro, rfl⟩) ?_ sc_checked_corners.nd
  have hsl := @sides_len cs
  have sz : ∀ {i : Nat} {z : Th}, (enumT K ((sidesC cs).map fun c => dat K (cD c)))[i]? = some z → i < cs.length ∧ z = tupT K [dat K (.int (i : Nat)), dat K (cD (at_ (sidesC cs) i))] := fun {i z} hz => by
    unfold enumT at hz
    rw [List.getElem?_map, List.getElem?_zipIdx, List.getElem?_map] at hz
    by_cases hi : i < cs.length
    · rw [at_get (by rw [hsl]; exact hi)] at hz
      have := Option.some.inj hz
      exact ⟨hi, by rw [← this]; simp⟩
    · rw [List.getElem?_eq_none (by rw [hsl]; omega)] at hz
      cases hz
  refine sd_forI (ts := enumT K ((sidesC cs).map fun c => dat K (cD c))) (fun i Δ' => (∀ k, k < i → badT cs k = false) ∧ ∃ s1 s2 s3, Δ' = [.th (dat K d), s1, s2, .th (dat K (.tuple (cs.map cD))), .th (dat K (.list ((sidesC cs).map cD))), s3]) (hp := passes_of rfl) (pit_enum T.z_enumerate (PD.is (px_var 4 rfl) (by rw [dat_lst, List.map_map]; rfl))) (ptg_names [1, 5] (pgs_cons (pg_name (i := 1) sc_checked_corners.nd rfl (Or.inl rfl) (.inr rfl)) (pgs_cons (pg_name (i := 5) sc_checked_corners.nd rfl (Or.inl rfl) (.inr rfl)) pgs_nil))) ⟨fun k hk => absurd hk (by omega), _, _, _, rfl⟩ ?_ ?_
  · rintro i z Δ' hz ⟨hbef, s1, s2, s3, rfl⟩
    obtain ⟨hi, rfl⟩ := sz hz
    refine ⟨_, ⟨[dat K (.int (i : Nat)), dat K (cD (at_ (sidesC cs) i))], rfl, rfl, rfl⟩, ?_⟩
    have hp := HU.pv_lt hro.n0 i
    have ep : at_ (sidesC cs) (HU.pv (sidesC cs).length i) = sideC cs (HU.pv cs.length i) := by rw [hsl, sides_at hp]
    have ei : at_ (sidesC cs) i = sideC cs i := sides_at hi
    have hi' : i < (sidesC cs).length := by rw [hsl]; exact hi
    refine sd_if (k := badT cs i) (PB.is (pb_cmp ct_le (pd_call G_sign_of (hr.mono (by decide)) (pl_cons (pd_call G_cross_of (hr.mono (by decide)) (pl_cons (pd_ix (D := .list ((sidesC cs).map cD)) (d := cD (at_ (sidesC cs) (HU.pv (sidesC cs).length i))) (px_var 4 rfl) (pd_sub (px_var 1 rfl) px_int) (ix_prev (l := (sidesC cs).map cD) (i := i) (by rw [List.length_map]; exact hi') (by rw [List.length_map, List.getElem?_map, at_get (by rw [hsl]; exact hp)]; rfl))) (pl_cons (px_var 5 rfl) pl_nil)) ⟨_, _, 801, 801, rfl, by rw [ep]; exact (ro_side hro hp).2, by rw [ei]; exact (ro_side hro hi).2, by decide, rfl⟩) pl_nil) ⟨_, rfl, rfl⟩) px_int (nomark _)) (by rw [ep, ei]; rfl)) (fun hb => ?_) (fun hb => ?_)
    · rcases hout with ⟨k, hk, hbk, hkf, rfl⟩ | ⟨hall, _⟩
      · have e : k = i := by
          by_cases a : k < i
          · rw [hbef k a] at hbk; cases hbk
          · by_cases b : i < k
            · rw [hkf i b] at hb; cases hb
            · omega
        subst e
        exact (sd_raise2 xW (hr.mono (by decide)) (px_var 1 rfl) px_str (takes_of rfl rfl rfl rfl) ⟨rfl, rfl⟩)
      · rw [hall i hi] at hb; cases hb
    · exact sd_nil (sd_nil ⟨fun k hk => by
        by_cases e : k = i
        · rw [e]; exact hb
        · exact hbef k (by omega), _, _, _, rfl⟩)
  · rintro Δ' ⟨hbef, s1, s2, s3, rfl⟩
    have es : (enumT K ((sidesC cs).map fun c => dat K (cD c))).length = cs.length := by unfold enumT; rw [List.length_map, List.length_zipIdx, List.length_map, hsl]
    rw [es] at hbef
    rcases hout with ⟨k, hk, hbk, _, _⟩ | ⟨_, ⟨hr1, rfl⟩ | ⟨hr1, rfl⟩⟩
    · rw [hbef k hk] at hbk; cases hbk
    · exact sd_ifT (PB.is (pb_cmp (ct_ne hr.units rfl rfl) (pd_call G_rounds_of (hr.mono (by decide)) (pl_cons (px_var 4 rfl) pl_nil) ⟨_, rfl, by rw [hsl]; omega, rfl⟩) px_int (nomark _)) (by show (!(((roundsN (sidesC cs) : Nat) : Int) == 1)) = true; rw [Bool.not_eq_true', beq_eq_false_iff_ne]; omega)) (sd_raise2 xW (hr.mono (by decide)) px_int px_str (takes_of rfl rfl rfl rfl) ⟨rfl, rfl⟩)
    · refine sd_skip (PB.is (pb_cmp (ct_ne hr.units rfl rfl) (pd_call G_rounds_of (hr.mono (by decide)) (pl_cons (px_var 4 rfl) pl_nil) ⟨_, rfl, by rw [hsl]; omega, rfl⟩) px_int (nomark _)) (by rw [hr1]; rfl)) ?_
      exact sd_ret (px_var 3 rfl) rfl
abbrev w___init__ : Stmt := inClass (top 29) 0
theorem scw___init__ : FnScope ["self", "corners", "side"] ["self", "corners"] (defScope w___init__) := ⟨rfl, rfl, rfl, by decide +kernel, rfl, by decide +kernel, by decide +kernel⟩
theorem okw_init (F : Fun K "__init__" "Work.__init__" w___init__ f fd) (T : Txt K mg) {C W : Addr} (c : Cls K C) (n1 : NoAttr K C "corners") (n2 : NoAttr K C "normals") (G_checked_corners : GdX P w K mg base "checked_corners" 5 (RChkG K W)) (G_sides_between : Gd P w K mg base "sides_between" 4 [] (RSidesR K)) (G_quarter_left : Gd P w K mg base "quarter_left" 2 [] (RQuar K)) : FnOk P w K mg base (L2.CX P w) 6 f fd ["self", "corners"] (spNew C (RMkG K W)) := by
  refine ini_two F scw___init__ c n1 n2 (by decide) (fun ts o ⟨_, _, e, _⟩ => by rw [e]; rfl) rfl fun cdv Ar outer s H E hr ts o hR => ?_
  obtain ⟨t, r, rfl, hch, rfl⟩ := hR
  refine ⟨pv 0, pv 0, rfl, rfl, ?_⟩
  cases r with
  | inr p =>
    obtain ⟨k, wd⟩ := p
    exact pr_call (takes_of rfl rfl rfl rfl) G_checked_corners hr (pl_cons (px_var 1 rfl) pl_nil) (fun ts hts => ⟨t, _, hts, hch, rfl⟩)
  | inl cs =>
  have hw := chk_ro hch
  refine ⟨dat K (.tuple (cs.map cD)), dat K (.tuple ((normsC cs).map cD)), ?_, ?_, off_dat, rfl⟩
  · exact pd_callV G_checked_corners hr (pl_cons (px_var 1 rfl) pl_nil) ⟨t, _, rfl, hch, rfl⟩
  · have hsl := @sides_len cs
    have hhi := hw.hi
    refine pd_tuple T.z_tuple (Or.inl (PX.imp (px_lcD 2 (d := .list ((sidesC cs).map cD)) (fun i z => i < cs.length ∧ z = cD (normC cs i)) (pd_call G_sides_between (hr.mono (by decide)) (pl_cons (pd_fld c n1 (px_var 0 rfl) rfl) pl_nil) ⟨cs, rfl, hw, rfl⟩) (Or.inr rfl) (by rw [List.length_map, hsl]; omega) (fun i z hz _ _ _ _ _ => ?_) scw___init__.nd (blkOk_by (own := [("side", 2)]) (N := ["self", "corners", "side"]) (sc := defScope w___init__) (by decide +kernel)) (fun _ _ _ _ _ => pg_name (i := 2) scw___init__.nd rfl (Or.inl rfl))) (B := (· = dat K (.list ((normsC cs).map cD)))) (fun t ⟨es, h1, h2, h3⟩ => ?_)))
    · rw [List.getElem?_map] at hz
      by_cases hi : i < cs.length
      · rw [at_get (by rw [hsl]; exact hi), sides_at hi] at hz
        have hz' := (Option.some.inj hz).symm
        subst hz'
        exact (pd_call G_quarter_left (hr.mono (by decide)) (pl_cons (px_var 2 rfl) pl_nil) ⟨_, rfl, rfl⟩).imp fun t ht => ⟨_, ht, hi, rfl⟩
      · rw [List.getElem?_eq_none (by rw [hsl]; omega)] at hz
        cases hz
    · rw [h1]
      congr 2
      rw [List.length_map, hsl] at h2
      refine List.ext_getElem? fun i => ?_
      rw [List.getElem?_map]
      cases q : es[i]? with
      | none =>
        have : cs.length ≤ i := by rw [← h2]; exact List.getElem?_eq_none_iff.mp q
        rw [List.getElem?_eq_none (by rw [norms_len]; exact this)]
        rfl
      | some z =>
        obtain ⟨e1, e2⟩ := h3 i z q
        rw [norms_at e1, e2]
        rfl

end
end K03
set_option Elab.async false
set_option linter.all false
set_option maxRecDepth 100000
/-! The law's own look at couples: as many least corners as rounds. -/
namespace DL
open PySem PySem.Spec PyProof.Rows L2
theorem cmp_den {a b : Q} (ha : 0 < a.2) (hb : 0 < b.2) : ((cmpQ a b < 0) ↔ vR a < vR b) ∧ ((cmpQ a b = 0) ↔ vR a = vR b) := by
  have da := vR_den ha
  have db := vR_den hb
  have pa : (0 : Rat) < (a.2 : Rat) := by exact_mod_cast ha
  have pb : (0 : Rat) < (b.2 : Rat) := by exact_mod_cast hb
  have pab := Rat.mul_pos pa pb
  have key : ((a.1 * b.2 - b.1 * a.2 : Int) : Rat) = (vR a - vR b) * ((a.2 : Rat) * (b.2 : Rat)) := by
    rw [Rat.intCast_sub, Rat.intCast_mul, Rat.intCast_mul, ← da, ← db]
    grind
  have s : ∀ z : Int, (signI z < 0 ↔ z < 0) ∧ (signI z = 0 ↔ z = 0) := fun z => by
    unfold signI
    by_cases h0 : z = 0
    · subst h0; simp
    · rw [if_neg h0]
      by_cases h1 : 0 < z
      · rw [if_pos h1]; omega
      · rw [if_neg h1]; omega
  unfold cmpQ
  constructor
  · rw [(s _).1]
    constructor
    · intro h
      have h' : ((a.1 * b.2 - b.1 * a.2 : Int) : Rat) < 0 := by exact_mod_cast h
      rw [key] at h'
      by_cases z : vR a < vR b
      · exact z
      · have := Rat.mul_nonneg (show 0 ≤ vR a - vR b by grind) (Rat.le_of_lt pab)
        grind
    · intro h
      have := Rat.mul_pos (show 0 < vR b - vR a by grind) pab
      have h' : ((a.1 * b.2 - b.1 * a.2 : Int) : Rat) < 0 := by rw [key]; grind
      exact_mod_cast h'
  · rw [(s _).2]
    constructor
    · intro h
      rw [h] at key
      by_cases z : vR a = vR b
      · exact z
      · have ne : (vR a - vR b) * ((a.2 : Rat) * (b.2 : Rat)) ≠ 0 := fun e => by
          rcases Rat.mul_eq_zero.mp e with q | q
          · exact z (by grind)
          · rw [q] at pab; exact absurd pab (by decide)
        exact absurd key.symm ne
    · intro h
      have h' : ((a.1 * b.2 - b.1 * a.2 : Int) : Rat) = 0 := by rw [key, h]; grind
      exact_mod_cast h'
/-- least corners, counted by the law -/
def leastN (cs : List Cp) : Nat := ((List.range cs.length).filter fun k => before (at_ cs k) (at_ cs (HU.pv cs.length k)) && before (at_ cs k) (at_ cs (HU.nx cs.length k))).length
section
variable {N : Nat} {cs : List Cp}
theorem before_iff {a b : Cp} (ha : Cl a) (hb : Cl b) : before a b = decide ((rp a).1 < (rp b).1 ∨ ((rp a).1 = (rp b).1 ∧ (rp a).2 < (rp b).2)) := by
  have x := cmp_den ha.x.2 hb.x.2
  have y := cmp_den ha.y.2 hb.y.2
  unfold before
  rw [Bool.eq_iff_iff]
  simp only [Bool.or_eq_true, Bool.and_eq_true, decide_eq_true_eq]
  rw [x.1, x.2, y.1]
  rfl
theorem ro_side_rp (h : RoN N cs) {k : Nat} (hk : k < cs.length) : rp (sideC cs k) = ((rp (at_ cs (HU.nx cs.length k))).1 - (rp (at_ cs k)).1, (rp (at_ cs (HU.nx cs.length k))).2 - (rp (at_ cs k)).2) := rp_less (h.cl _ (at_mem (HU.nx_lt h.n0 k))) (h.cl _ (at_mem hk))
theorem least_rounds (h : RoN N cs) (ht : ∀ k, k < cs.length → badT cs k = false) : leastN cs = roundsN (sidesC cs) := by
  have cl : ∀ {k}, k < cs.length → Cl (at_ cs k) := fun hk => h.cl _ (at_mem hk)
  have turn : ∀ k, k < cs.length → 0 < (rp (sideC cs (HU.pv cs.length k))).1 * (rp (sideC cs k)).2 - (rp (sideC cs (HU.pv cs.length k))).2 * (rp (sideC cs k)).1 := fun k hk => by
    have hp := HU.pv_lt h.n0 k
    obtain ⟨l, e⟩ := low_cross (ro_side h hp).1 (ro_side h hk).1
    have b := of_decide_eq_false (show decide (signI (crossC (sideC cs (HU.pv cs.length k)) (sideC cs k)).1 ≤ 0) = false from ht k hk)
    have q := (sign_pos l.2).mp (by omega)
    rw [e] at q
    exact q
  have m := HU.minima_rounds (f := fun k => rp (sideC cs k)) h.n0 turn
  have e1 : leastN cs = ((List.range cs.length).filter fun k => HU.lexN (rp (sideC cs (HU.pv cs.length k))) && HU.lexP (rp (sideC cs k))).length := by
    unfold leastN
    congr 1
    refine List.filter_congr fun k hk => ?_
    have hk := List.mem_range.mp hk
    have hp := HU.pv_lt h.n0 k
    rw [before_iff (cl hk) (cl hp), before_iff (cl hk) (cl (HU.nx_lt h.n0 k))]
    have s1 := ro_side_rp h hp
    rw [HU.nx_pv hk] at s1
    have s2 := ro_side_rp h hk
    unfold HU.lexN HU.lexP
    rw [s1, s2]
    congr 1
    · refine decide_eq_decide.mpr ?_
      show _ ↔ ((rp (at_ cs k)).1 - (rp (at_ cs (HU.pv cs.length k))).1 < 0 ∨ ((rp (at_ cs k)).1 - (rp (at_ cs (HU.pv cs.length k))).1 = 0 ∧ (rp (at_ cs k)).2 - (rp (at_ cs (HU.pv cs.length k))).2 < 0))
      grind
    · refine decide_eq_decide.mpr ?_
      show _ ↔ (0 < (rp (at_ cs (HU.nx cs.length k))).1 - (rp (at_ cs k)).1 ∨ ((rp (at_ cs (HU.nx cs.length k))).1 - (rp (at_ cs k)).1 = 0 ∧ 0 < (rp (at_ cs (HU.nx cs.length k))).2 - (rp (at_ cs k)).2))
      grind
  rw [e1, m]
  unfold roundsN
  rw [sides_len]
  have up : ∀ {k}, k < cs.length → HU.upS (rp (sideC cs k)) = upB (sidesC cs) k := fun {k} hk => by
    unfold HU.upS upB
    rw [sides_at hk]
    exact decide_eq_decide.mpr (sign_pos (ro_side h hk).1.y.2).symm
  have key : ∀ l : List Nat, (∀ k ∈ l, k < cs.length) → (l.filter fun k => HU.upS (rp (sideC cs k)) && !HU.upS (rp (sideC cs (HU.pv cs.length k)))).length = (l.filterMap (roundPick (sidesC cs))).length := by
    intro l
    induction l with
    | nil => intro _; rfl
    | cons k l ih =>
      intro hl
      have hk := hl k List.mem_cons_self
      have ih' := ih fun j hj => hl j (List.mem_cons_of_mem _ hj)
      have e3 : roundPick (sidesC cs) k = if (HU.upS (rp (sideC cs k)) && !HU.upS (rp (sideC cs (HU.pv cs.length k)))) = true then some (.int (k : Int)) else none := by
        unfold roundPick
        rw [sides_len, up hk, up (HU.pv_lt h.n0 k)]
      rw [List.filterMap_cons, List.filter_cons, e3]
      split
      · rw [List.length_cons]
        exact congrArg (· + 1) ih'
      · exact ih'
  exact key _ fun k hk => List.mem_range.mp hk
end
end DL
set_option Elab.async false
set_option linter.all false
set_option maxRecDepth 100000
set_option maxHeartbeats 4000000
namespace K03
open PySem PySem.Spec PyProof.Rows L2 DL
section
variable {P : Program} {w : World} {K : PySem.W.Frag} {mg : Str → Option Value} {base : Heap} {f : Addr} {fd : FuncData}

theorem ok__law_cross (F : Fun K "_law_cross" "_law_cross" s__law_cross f fd) (T : Txt K mg) (G__law_minus : Gd P w K mg base "_law_minus" 3 [] (R2Q K minusQ)) (G__law_times : Gd P w K mg base "_law_times" 3 [] (R2Q K timesQ)) : FnOk P w K mg base CX0 4 f fd ["_law_one", "_law_other"] (spT (R2CQ K crossC)) := by
  refine fn_mk F sc__law_cross (fun ts A ⟨_, _, _, _, e, _⟩ => by rw [e]; rfl) fun cdv Ar outer s H E hr ts B hR => ?_
  obtain ⟨p, q, n, m, rfl, hp, hq, hnm, rfl⟩ := hR
  exact sd_ret (pd_call G__law_minus hr (pl_cons (pd_call G__law_times hr (pl_cons (pd_ix (D := cD p) (d := rD p.1) (px_var 0 rfl) px_int rfl) (pl_cons (pd_ix (D := cD q) (d := rD q.2) (px_var 1 rfl) px_int rfl) pl_nil)) ⟨p.1, q.2, n, m, rfl, hp.x, hq.y, by omega, rfl⟩) (pl_cons (pd_call G__law_times hr (pl_cons (pd_ix (D := cD p) (d := rD p.2) (px_var 0 rfl) px_int rfl) (pl_cons (pd_ix (D := cD q) (d := rD q.1) (px_var 1 rfl) px_int rfl) pl_nil)) ⟨p.2, q.1, n, m, rfl, hp.y, hq.x, by omega, rfl⟩) pl_nil)) ⟨_, _, _, _, rfl, sm_times hp.x hq.y, sm_times hp.y hq.x, by omega, rfl⟩) rfl
def RLBef (K : PySem.W.Frag) : Cn := fun ts A => ∃ (p q : Cp) (n m : Nat), ts = [dat K (cD p), dat K (cD q)] ∧ CSm n p ∧ CSm m q ∧ n + m ≤ 8000 ∧ A = (· = dat K (.bool (before p q)))
theorem ok__law_before (F : Fun K "_law_before" "_law_before" s__law_before f fd) (T : Txt K mg) (G__law_compare : Gd P w K mg base "_law_compare" 1 [] (RCmp K)) : FnOk P w K mg base CX0 2 f fd ["_law_one", "_law_other"] (spT (RLBef K)) := by
  refine fn_mk F sc__law_before (fun ts A ⟨_, _, _, _, e, _⟩ => by rw [e]; rfl) fun cdv Ar outer s H E hr ts B hR => ?_
  obtain ⟨p, q, n, m, rfl, hp, hq, hnm, rfl⟩ := hR
  refine sd_asg 2 (pd_call G__law_compare hr (pl_cons (pd_ix (D := cD p) (d := rD p.1) (px_var 0 rfl) px_int rfl) (pl_cons (pd_ix (D := cD q) (d := rD q.1) (px_var 1 rfl) px_int rfl) pl_nil)) ⟨p.1, q.1, n, m, rfl, hp.x, hq.x, hnm, rfl⟩) ?_ sc__law_before.nd
  exact sd_ret (PD.is (t' := dat K (.bool (before p q))) (pd_or (pd_cmp ct_lt (px_var 2 rfl) px_int (nomark _)) (pd_one (pd_and (pd_cmp (ct_eq hr.units rfl rfl) (px_var 2 rfl) px_int (nomark _)) (pd_one (pd_cmp ct_lt (pd_call G__law_compare hr (pl_cons (pd_ix (D := cD p) (d := rD p.2) (px_var 0 rfl) px_int rfl) (pl_cons (pd_ix (D := cD q) (d := rD q.2) (px_var 1 rfl) px_int rfl) pl_nil)) ⟨p.2, q.2, n, m, rfl, hp.y, hq.y, hnm, rfl⟩) px_int (nomark _)))))) (by
    unfold before
    rfl)) rfl

end
end K03
set_option Elab.async false
set_option linter.all false
set_option maxRecDepth 100000
namespace DL
open PySem PySem.Spec PyProof.Rows L2
section
variable {X : Cx} {C : Addr} {fs gs : List (Str × Th)} {k : Nat}
theorem ct_eqO {R : Cn} {r : Bool} (M : Mth X.prog X.w X.K X.mg X.base C "__eq__" k R) (hr : Room k X.A) (h : R [objT C fs, objT C gs] (· = dat X.K (.bool r))) : CmpT X .Eq (objT C fs) (objT C gs) r := by
  obtain ⟨f, fd, ps, hM, hB, F⟩ := M.ex
  refine ⟨_, op_eqO hM hB F hr, fun S H v w dom rx ry Q q => ?_⟩
  obtain ⟨p, dx, kvs, rfl, h2, h3, h4⟩ := id rx
  obtain ⟨p', dx', kvs', rfl, h2', h3', h4'⟩ := id ry
  refine ⟨p, p', dx, dx', kvs, kvs', rfl, rfl, hide_le _ _ h2, hide_le _ _ h2', S, [objT C fs, objT C gs], _, dom, ⟨rx, ry, trivial⟩, h, fun t' v' H' ht e' r' => ?_⟩
  subst ht
  have r2 : Dp X.K (hide S H') v' (.bool r) := r'
  have := dp_bool r2
  subst this
  exact ⟨r, rfl, q H' e'⟩
theorem ct_neO {R : Cn} {r : Bool} (M : Mth X.prog X.w X.K X.mg X.base C "__eq__" k R) (hn : PySem.W.findIn X.K (.ref C) "__ne__" = some (some (.builtin "object.__ne__"))) (hmro : PySem.W.mroIn X.K C (.type "object") = some true) (hr : Room (k + 1) X.A) (h : R [objT C fs, objT C gs] (· = dat X.K (.bool r))) : CmpT X .NotEq (objT C fs) (objT C gs) (!r) := by
  obtain ⟨f, fd, ps, hM, hB, F⟩ := M.ex
  refine ⟨_, op_neO hM hn hmro hB F hr, fun S H v w dom rx ry Q q => ?_⟩
  obtain ⟨p, dx, kvs, rfl, h2, h3, h4⟩ := id rx
  obtain ⟨p', dx', kvs', rfl, h2', h3', h4'⟩ := id ry
  refine ⟨p, p', dx, dx', kvs, kvs', rfl, rfl, hide_le _ _ h2, hide_le _ _ h2', S, [objT C fs, objT C gs], _, dom, ⟨rx, ry, trivial⟩, h, fun t' v' H' ht e' r' => ?_⟩
  subst ht
  have r2 : Dp X.K (hide S H') v' (.bool r) := r'
  have := dp_bool r2
  subst this
  exact ⟨r, rfl, q H' e'⟩
end
end DL
set_option Elab.async false
set_option linter.all false
set_option maxRecDepth 100000
/-! C(e, ..) whose __init__ raises, wished for at the caller's slots. -/
namespace DL
open PySem PySem.Spec PyProof.Rows L2
section
variable {X : Cx} {CX : CXT} {k : Nat} {C f : Addr} {fd : FuncData} {ps : List Str} {sp : Sp} {E : L2.St → XK} {x : Str} {p pos : Pos} {e : Expr} {es : List Expr} {t : TA}
theorem run_makeS {pins : List (Addr × Obj)} {σ : L2.St} {H : Hp} {s : Shared} {Q : VK} {us : List Value} {vs : List V} (M : Mk X.K C f) (F : FnOk X.prog X.w X.K X.mg X.base CX k f fd ps sp) (hr : Room (k + 1) X.A) (hb : Binds X.K fd ps [])
    (hx : PassesAt CX X σ (E σ)) (I : Inv X pins σ H s) (r : Vals vs us)
    (h : ∀ x dx, H x = none → H dx = none → dx ≠ x → sp (.ref x :: (vs ++ [])) (upd (upd H dx (.own x)) x (.ins C dx [])) (fun v H2 => v = .non ∧ Q (.ref x) H2) (E σ)) :
    wpAny (model X.prog X.w) X.A (call (.ref C) us) (EP X pins σ Q) X.xe s := by
  have hq := h (s.heap.objs.size + 1) s.heap.objs.size (I.hok.fresh (Nat.le_succ _)) (I.hok.fresh (Nat.le_refl _)) (Nat.ne_of_lt (Nat.lt_succ_self _))
  have I2 := Inv.made (C := C) I
  have r2 : Vals (V.ref (s.heap.objs.size + 1) :: (vs ++ [])) (Value.ref (s.heap.objs.size + 1) :: (us ++ [])) := .cons rfl (r.append .nil)
  have hl : (Value.ref (s.heap.objs.size + 1) :: us ++ []).length = ps.length := by
    have e := r2.length
    rw [F.len _ _ _ _ hq] at e
    exact e.symm
  refine wpAny_call (make_map (f := f) I.kIn M.makes M.init (beq_iff_eq.mp M.fn) (codeAny_mono (F.run _ X.stack _ _ ⟨Value.ref (s.heap.objs.size + 1) :: us, []⟩ (Value.ref (s.heap.objs.size + 1) :: (us ++ [])) _ _ (E σ) (hr.make C us [])
    (I2.env0.make C us []) (by simpa using hb { heap := (s.heap.push PySem.W.emptyDict).push (PySem.W.instObj C s.heap.objs.size), gens := s.gens, drawn := s.drawn, toks := s.toks, os := s.os } (Value.ref (s.heap.objs.size + 1) :: us) I2.kIn hl) r2 hq) fun r s' hq' => ?_))
  cases r with
  | error e => exact hx pins _ _ e s' I2 hq'
  | ok fl =>
    cases fl with
    | ret u =>
      obtain ⟨v, H', I3, rv, ev, q3⟩ := I2.after hq'
      subst ev
      exact ⟨rv, ⟨V.ref (s.heap.objs.size + 1), H', I3, rfl, q3⟩⟩
    | next => exact False.elim hq'
    | brk => exact False.elim hq'
    | cont => exact False.elim hq'
def tMakeS (C : Addr) (sp : Sp) (E : L2.St → XK) (t : TA) : TE := fun σ H Q => t σ H fun vs H1 => ∀ x dx, H1 x = none → H1 dx = none → dx ≠ x → sp (.ref x :: (vs ++ [])) (upd (upd H1 dx (.own x)) x (.ins C dx [])) (fun v H2 => v = .non ∧ Q (.ref x) H2) (E σ)
theorem pe_makeS (M : Mk X.K C f) (F : FnOk X.prog X.w X.K X.mg X.base CX k f fd ps sp) (hr : Room (k + 1) X.A) (hg : Gl X x) (hm : X.mg x = some (.ref C)) (hb : Binds X.K fd ps []) (hx : ∀ σ, PassesAt CX X σ (E σ))
    (ha : PA X (e :: es) t) (hdb : (x == ("__debug__" : Str)) = false := by decide) (he : starEach (e :: es) X.env = (false, eval e X.env) :: starEach es X.env := by rfl) (hpl : (backTo pos (starEach es X.env)).any (·.1) = false := by rfl) :
    PE X (.Call (.Name x p) (e :: es) [] pos) (tMakeS C sp E t) := by
  refine ⟨fun pins s σ H Q I h => ?_⟩
  refine wpAny_Call_Name_kw (ld_glob I hg hm ?_ hdb)
  refine PySem.W.callWith_K (h₀ := X.base) I.ok.mod.kin M.kp (thn (ha.run pos pins s σ H _ I h) fun us s1 ⟨vs, H1, I1, r, q⟩ => ⟨I1.kIn, ?_⟩) he hpl
  exact run_makeS M F hr hb (hx σ) I1 r q
end
section
variable {X : Cx} {Δ : List Sl} {e : Expr} {es : List Expr} {pos : Pos} {W : WX} {C : Addr} {k : Nat}
/-- C(e, ..), which raises -/
theorem pr_makeS {x : Str} {p : Pos} {R : List Th → OutN → Prop} {Bt : List Th → Prop} {Cc : Addr} {xs : List (Str × Th)} (tk : Takes X W) (M : Mkr X.prog X.w X.K X.mg X.base x C k R) (hr : Room (k + 1) X.A) (ha : PL X Δ (e :: es) Bt) (h : ∀ ts, Bt ts → R ts (.exc Cc xs))
    (hg : Gl X x := by rfl) (hdb : (x == ("__debug__" : Str)) = false := by decide) (he : starEach (e :: es) X.env = (false, eval e X.env) :: starEach es X.env := by rfl) (hpl : (backTo pos (starEach es X.env)).any (·.1) = false := by rfl) :
    PR X W Δ (.Call (.Name x p) (e :: es) [] pos) Cc xs := by
  obtain ⟨f, fd, ps, hM, hb, F⟩ := M.ex
  obtain ⟨ta, pa, fa⟩ := ha
  refine ⟨_, pe_makeS (E := fun σ => fun cls d H' => W cls d σ H') hM F hr hg M.gC hb (fun σ => passAt tk σ) pa hdb he hpl, fun S0 M0 H0 σ H S hA w Q => ?_⟩
  refine fa S0 M0 H0 σ H S hA _ fun ths vs H1 hB e1 r => ?_
  intro x dx hx hdx hne
  have dm := (hA.up e1).dom
  have xS := dm.new hx
  have dS := dm.new hdx
  have e2 : Ex H1 (upd (upd H1 dx (.own x)) x (.ins C dx [])) := (Ex.new hdx).trans (Ex.new (by rw [upd_ne (Ne.symm hne)]; exact hx))
  rw [List.append_nil]
  refine ⟨S, ths, .exc Cc xs, x, dx, vs, rfl, xS, dS, hne, upd_same, ?_, dm.up e2, r.up ?_, h ths hB, fun d H' e3 h3 h4 => ?_⟩
  · rw [upd_ne hne, upd_same]
    exact fun z => nomatch z
  · intro a o ha
    have n0 : a ∉ S := fun z => by rw [hide_in z] at ha; cases ha
    rw [hide_out n0] at ha
    have n1 := ne_of_none ha hx
    have n2 := ne_of_none ha hdx
    rw [hide_out (by simp [n0, n1, n2])]
    exact e2 a o ha
  · refine w H' d (e1.trans fun a o ha => e3 a o ?_) (h3.up (hide_sub fun a ha => List.mem_cons_of_mem _ (List.mem_cons_of_mem _ ha))) fun a ha z => h4 a ha (List.mem_cons_of_mem _ (List.mem_cons_of_mem _ z))
    rw [hide_out (by simp [ne_of_none ha hx])]
    exact e2 a o ha
end
end DL
set_option Elab.async false
set_option linter.all false
set_option maxRecDepth 100000
set_option maxHeartbeats 4000000
namespace K03
open PySem PySem.Spec PyProof.Rows L2 DL
section
variable {P : Program} {w : World} {K : PySem.W.Frag} {mg : Str → Option Value} {base : Heap} {f : Addr} {fd : FuncData}

def madeT (K : PySem.W.Frag) (C : Addr) : List Cp ⊕ (Nat × Str) → Th
  | .inl cs => wkT K C cs
  | .inr (k, w) => dat K (errD k w)
def RLMade (K : PySem.W.Frag) (C : Addr) : Cn := fun ts A => ∃ (t : Th) (r : List Cp ⊕ (Nat × Str)), ts = [t] ∧ ChkE K t r ∧ A = (· = madeT K C r)
theorem ok__law_made (F : Fun K "_law_made" "_law_made" s__law_made f fd) (T : Txt K mg) {C W : Addr} (gW : mg "BadWork" = some (.ref W)) (xfW : XfC K W) (hnoI : PySem.W.findIn K (.ref W) "index" = some none) (hnoW : PySem.W.findIn K (.ref W) "what" = some none) (cmW : PySem.W.exmOne K (.ref W) (.ref W) = some true) (MW : Mkr P w K mg base "Work" C 6 (RMkG K W)) : FnOk P w K mg base CX0 8 f fd ["_law_corners"] (spT (RLMade K C)) := by
  refine fn_mk F sc__law_made (fun ts A ⟨_, _, e, _⟩ => by rw [e]; rfl) fun cdv Ar outer s H E hr ts B hR => ?_
  obtain ⟨t, r, rfl, hch, rfl⟩ := hR
  refine sd_tryF 2 (cv := .ref W) (Wout := fun _ _ _ _ => False) (fun C' fs Δ' => ∃ (k : Nat) (wd : Str), r = .inr (k, wd) ∧ C' = W ∧ fs = badS K k wd ∧ Δ' = startΔ ["_law_corners", "_law_found", "e"] [t]) sc__law_made.nd rfl rfl ⟨rfl, by decide, Or.inl gW⟩ takes0 ?_ ?_ ?_ ?_
  · intro Wx pn xe tk hp
    cases hr0 : r with
    | inr p =>
      obtain ⟨k, wd⟩ := p
      exact sd_asgR 1 (pr_makeS tk MW (hr.mono (by decide)) (pl_cons (px_var 0 rfl) pl_nil) (fun ts h => ⟨t, r, h, hch, by rw [hr0]; rfl⟩)) ⟨k, wd, rfl, rfl, rfl, rfl⟩ sc__law_made.nd
    | inl cs =>
      exact sd_asg 1 (t := wkT K C cs) (pd_make MW (hr.mono (by decide)) (pl_cons (px_var 0 rfl) pl_nil) ⟨t, r, rfl, hch, by rw [hr0]; rfl⟩) (sd_nil (sd_ret (px_var 1 rfl) rfl)) sc__law_made.nd
  · rintro C' fs Δ' ⟨k, wd, _, rfl, rfl, rfl⟩
    exact cmW
  · rintro C' fs Δ' ⟨k, wd, hk, rfl, rfl, rfl⟩ a oe d0 pn hz hf hn
    rw [hk]
    exact sd_ret (pd_lst (ds := [.int (k : Nat), .str wd]) (pl_cons (pd_xf (t := dat K (.int (k : Nat))) xfW hnoI hz hf (px_var 2 rfl) (by unfold badS; rw [lookup_th2, if_neg (by decide), if_pos rfl])) (pl_cons (pd_xf (t := dat K (.str wd)) xfW hnoW hz hf (px_var 2 rfl) (by simp [List.lookup, badS])) pl_nil))) rfl
  · rintro C' fs Δ' ⟨_, _, _, _, _, rfl⟩ ts h
    cases h

end
end K03
set_option Elab.async false
set_option linter.all false
set_option maxRecDepth 100000
set_option maxHeartbeats 4000000
namespace K03
open PySem PySem.Spec PyProof.Rows L2 DL
section
variable {P : Program} {w : World} {K : PySem.W.Frag} {mg : Str → Option Value} {base : Heap} {f : Addr} {fd : FuncData}

def intB : PyData → Bool
  | .int _ => true
  | .bool _ => true
  | _ => false
def booB : PyData → Bool
  | .bool _ => true
  | _ => false
theorem kit_int (x : PyData) : kitB (tyD x) "int" = some (intB x) := by cases x <;> rfl
theorem kit_boo (x : PyData) : kitB (tyD x) "bool" = some (booB x) := by cases x <;> rfl
def cplBody : List Stmt := match (defBody s__law_couple).getD 1 (.Pass ⟨0, 0, 0, 0⟩) with
  | .For _ _ b _ _ => b
  | _ => []
theorem cpl_entry {cdv : Value} {Ar : Around} {outer : List Env} {s : Shared} {H : Hp} {E : XK} {Po : Post} {d : PyData} (hr : Room 1 (Ar.deeper (envOfC "_law_couple" (defScope s__law_couple) s.heap.objs.size f cdv))) (T : Txt K mg) (e : PyData) (G__law_gcd : Gd P w K mg base "_law_gcd" 1 [] (RGcd K))
    (hf : isRat e = false → Po.rt (dat K (.bool false))) (ht : isRat e = true → Po.nx [.th (dat K d), .th (dat K e)]) :
    SD (cxOf CX0 P w K mg base ["_law_thing", "_law_one"] "_law_couple" (defScope s__law_couple) f cdv Ar outer s H E).nox (fun _ _ _ _ => False) cplBody Po [.th (dat K d), .th (dat K e)] := by
  have no : ∀ {a b : PyData}, intB a = false ∨ intB b = false → isRat (.tuple [a, b]) = false := fun {a b} h => by
    rcases h with h | h <;> cases a <;> cases b <;> first | rfl | cases h | (simp [isRat, isWh])
  by_cases h2 : ∃ a b, e = .tuple [a, b]
  · obtain ⟨a, b, rfl⟩ := h2
    have ta := kit_int a
    have tb := kit_int b
    refine sd_if (k := (!intB a || !intB b)) (PB.is (PBW.pb (pwo (PB.is (k' := false) (pb_not (pb_val (pd_isi (d := .tuple [a, b]) (n := "tuple") T.z_isinstance (px_var 1 rfl) (pd_tyN (n := "tuple") T.z_tuple) rfl))) rfl) (pwo (PB.is (k' := false) (pb_cmp (ct_ne hr.units rfl rfl) (pd_len (n := 2) T.z_len (px_var 1 rfl) rfl) px_int (nomark _)) rfl) (pwo (pb_not (pb_val (pd_isi (d := a) (n := "int") T.z_isinstance (pd_ix (D := .tuple [a, b]) (d := a) (px_var 1 rfl) px_int rfl) (pd_tyN (n := "int") T.z_int) ta))) (pw1o (pb_not (pb_val (pd_isi (d := b) (n := "int") T.z_isinstance (pd_ix (D := .tuple [a, b]) (d := b) (px_var 1 rfl) px_int rfl) (pd_tyN (n := "int") T.z_int) tb)))))))) rfl) (fun h => ?_) (fun h => ?_)
    · refine sd_ret (px_bool (k := false)) (hf (no ?_))
      cases q : intB a with
      | false => exact Or.inl rfl
      | true => cases q2 : intB b with
        | false => exact Or.inr rfl
        | true => rw [q, q2] at h; cases h
    · refine sd_nil ?_
      match a, b, h with
      | .bool x, b, _ =>
        exact sd_ifT (PBW.pb (pwo_t (pb_val (pd_isi (d := .bool x) (n := "bool") T.z_isinstance (pd_ix (D := .tuple [.bool x, b]) (px_var 1 rfl) px_int rfl) (pd_tyN (n := "bool") T.z_bool) rfl)) never_w)) (sd_ret (px_bool (k := false)) (hf (by cases b <;> rfl)))
      | .int i, .bool y, _ =>
        exact sd_ifT (PBW.pb (pwo (PB.is (k' := false) (pb_val (pd_isi (d := .int i) (n := "bool") T.z_isinstance (pd_ix (d := .int i) (px_var 1 rfl) px_int rfl) (pd_tyN (n := "bool") T.z_bool) rfl)) rfl) (pwo_t (pb_val (pd_isi (d := .bool y) (n := "bool") T.z_isinstance (pd_ix (D := .tuple [.int i, .bool y]) (px_var 1 rfl) px_int rfl) (pd_tyN (n := "bool") T.z_bool) rfl)) never_w))) (sd_ret (px_bool (k := false)) (hf rfl))
      | .int i, .int j, _ =>
        by_cases hj : j < 1
        · refine sd_ifT (PB.is (PBW.pb (pwo (PB.is (k' := false) (pb_val (pd_isi (d := .int i) (n := "bool") T.z_isinstance (pd_ix (d := .int i) (px_var 1 rfl) px_int rfl) (pd_tyN (n := "bool") T.z_bool) rfl)) rfl) (pwo (PB.is (k' := false) (pb_val (pd_isi (d := .int j) (n := "bool") T.z_isinstance (pd_ix (d := .int j) (px_var 1 rfl) px_int rfl) (pd_tyN (n := "bool") T.z_bool) rfl)) rfl) (pwo_t (PB.is (k' := true) (pb_cmp ct_lt (pd_ix (D := .tuple [.int i, .int j]) (d := .int j) (px_var 1 rfl) px_int rfl) px_int (nomark _)) (decide_eq_true hj)) never_w)))) rfl) (sd_ret (px_bool (k := false)) (hf ?_))
          show (true && ((decide ((1 : Int) ≤ j) && true) && gOne (.int i) (.int j))) = false
          rw [decide_eq_false (show ¬ (1 : Int) ≤ j by omega)]
          rfl
        · refine sd_if (k := !(gI i j == 1)) (PB.is (PBW.pb (pwo (PB.is (k' := false) (pb_val (pd_isi (d := .int i) (n := "bool") T.z_isinstance (pd_ix (d := .int i) (px_var 1 rfl) px_int rfl) (pd_tyN (n := "bool") T.z_bool) rfl)) rfl) (pwo (PB.is (k' := false) (pb_val (pd_isi (d := .int j) (n := "bool") T.z_isinstance (pd_ix (d := .int j) (px_var 1 rfl) px_int rfl) (pd_tyN (n := "bool") T.z_bool) rfl)) rfl) (pwo (PB.is (k' := false) (pb_cmp ct_lt (pd_ix (D := .tuple [.int i, .int j]) (d := .int j) (px_var 1 rfl) px_int rfl) px_int (nomark _)) (decide_eq_false hj)) (pw1o (pb_cmp (ct_ne hr.units rfl rfl) (pd_call G__law_gcd hr (pl_cons (pd_ix (D := .tuple [.int i, .int j]) (d := .int i) (px_var 1 rfl) px_int rfl) (pl_cons (pd_ix (D := .tuple [.int i, .int j]) (d := .int j) (px_var 1 rfl) px_int rfl) pl_nil)) ⟨i, j, rfl, rfl⟩) px_int (nomark _))))))) rfl) (fun h => ?_) (fun h => ?_)
          · refine sd_ret (px_bool (k := false)) (hf ?_)
            show (true && ((decide ((1 : Int) ≤ j) && true) && gOne (.int i) (.int j))) = false
            rw [show gOne (.int i) (.int j) = false from by simpa [gOne] using h, Bool.and_false, Bool.and_false]
          · refine sd_nil (sd_nil (ht ?_))
            show (true && ((decide ((1 : Int) ≤ j) && true) && gOne (.int i) (.int j))) = true
            rw [show gOne (.int i) (.int j) = true from by simpa [gOne] using h, decide_eq_true (show (1 : Int) ≤ j by omega)]
            rfl
      | .none, _, h => cases h
      | .dict _, _, h => cases h
      | .int _, .dict _, h => cases h
      | .str _, _, h => cases h
      | .list _, _, h => cases h
      | .tuple _, _, h => cases h
      | .int _, .none, h => cases h
      | .int _, .str _, h => cases h
      | .int _, .list _, h => cases h
      | .int _, .tuple _, h => cases h
  · have hn : isRat e = false := by
      match e, h2 with
      | .tuple [a, b], h2 => exact absurd ⟨a, b, rfl⟩ h2
      | .tuple [], _ => rfl
      | .tuple [_], _ => rfl
      | .tuple (_ :: _ :: _ :: _), _ => rfl
      | .none, _ => rfl
      | .dict _, _ => rfl
      | .bool _, _ => rfl
      | .int _, _ => rfl
      | .str _, _ => rfl
      | .list _, _ => rfl
    by_cases ht2 : ∃ l, e = .tuple l
    · obtain ⟨l, rfl⟩ := ht2
      have hl : l.length ≠ 2 := fun q => by
        match l, q with
        | [a, b], _ => exact h2 ⟨a, b, rfl⟩
      exact sd_ifT (PBW.pb (pwo (PB.is (k' := false) (pb_not (pb_val (pd_isi (d := .tuple l) (n := "tuple") T.z_isinstance (px_var 1 rfl) (pd_tyN (n := "tuple") T.z_tuple) rfl))) rfl) (pwo_t (PB.is (k' := true) (pb_cmp (ct_ne hr.units rfl rfl) (pd_len (n := l.length) T.z_len (px_var 1 rfl) rfl) px_int (nomark _)) (by show (!(((l.length : Nat) : Int) == 2)) = true; rw [Bool.not_eq_true', beq_eq_false_iff_ne]; omega)) never_w))) (sd_ret (px_bool (k := false)) (hf hn))
    · have kt : kitB (tyD e) "tuple" = some false := by
        cases e <;> first | rfl | exact absurd ⟨_, rfl⟩ ht2
      exact sd_ifT (PBW.pb (pwo_t (PB.is (k' := true) (pb_not (pb_val (pd_isi (d := e) (n := "tuple") T.z_isinstance (px_var 1 rfl) (pd_tyN (n := "tuple") T.z_tuple) kt))) rfl) never_w)) (sd_ret (px_bool (k := false)) (hf hn))

theorem ok__law_couple (F : Fun K "_law_couple" "_law_couple" s__law_couple f fd) (T : Txt K mg) (G__law_gcd : Gd P w K mg base "_law_gcd" 1 [] (RGcd K)) : FnOk P w K mg base CX0 2 f fd ["_law_thing"] (spT (RPred0 K (fun d => isRow d 2))) := by
  refine fn_mk F sc__law_couple (fun ts A ⟨_, e, _⟩ => by rw [e]; rfl) fun cdv Ar outer s H E hr ts B hR => ?_
  obtain ⟨d, rfl, rfl⟩ := hR
  have cpl_entry := fun {Po : Post} {d : PyData} (hr : _) (T : Txt K mg) (e : PyData) => @cpl_entry P w K mg base f cdv Ar outer s H E Po d hr T e G__law_gcd
  match d with
  | .dict x => exact sd_ifT (PBW.pb (pwo_t (PB.is (k' := true) (pb_not (pb_val (pd_isi2 (d := .dict x) (n1 := "list") (n2 := "tuple") T.z_isinstance (px_var 0 rfl) T.z_list T.z_tuple rfl rfl))) rfl) never_w)) (sd_ret (px_bool (k := false)) rfl)
  | .none => exact sd_ifT (PBW.pb (pwo_t (PB.is (k' := true) (pb_not (pb_val (pd_isi2 (d := .none) (n1 := "list") (n2 := "tuple") T.z_isinstance (px_var 0 rfl) T.z_list T.z_tuple rfl rfl))) rfl) never_w)) (sd_ret (px_bool (k := false)) rfl)
  | .bool x => exact sd_ifT (PBW.pb (pwo_t (PB.is (k' := true) (pb_not (pb_val (pd_isi2 (d := .bool x) (n1 := "list") (n2 := "tuple") T.z_isinstance (px_var 0 rfl) T.z_list T.z_tuple rfl rfl))) rfl) never_w)) (sd_ret (px_bool (k := false)) rfl)
  | .int x => exact sd_ifT (PBW.pb (pwo_t (PB.is (k' := true) (pb_not (pb_val (pd_isi2 (d := .int x) (n1 := "list") (n2 := "tuple") T.z_isinstance (px_var 0 rfl) T.z_list T.z_tuple rfl rfl))) rfl) never_w)) (sd_ret (px_bool (k := false)) rfl)
  | .str x => exact sd_ifT (PBW.pb (pwo_t (PB.is (k' := true) (pb_not (pb_val (pd_isi2 (d := .str x) (n1 := "list") (n2 := "tuple") T.z_isinstance (px_var 0 rfl) T.z_list T.z_tuple rfl rfl))) rfl) never_w)) (sd_ret (px_bool (k := false)) rfl)
  | .tuple l =>
    by_cases hl : l.length = 2
    · refine sd_skip (PB.is (PBW.pb (pwo (PB.is (k' := false) (pb_not (pb_val (pd_isi2 (d := .tuple l) (n1 := "list") (n2 := "tuple") T.z_isinstance (px_var 0 rfl) T.z_list T.z_tuple rfl rfl))) rfl) (pw1o (pb_cmp (ct_ne hr.units rfl rfl) (pd_len (n := l.length) T.z_len (px_var 0 rfl) rfl) px_int (nomark _))))) (by rw [hl]; rfl)) ?_
      refine sd_forT 1 (ts := l.map (dat K)) (fun i Δ' => (∀ k e, k < i → l[k]? = some e → isRat e = true) ∧ ∃ s1 : Sl, Δ' = [.th (dat K (.tuple l)), s1]) (px_var 0 rfl) (Or.inl dat_tup) ⟨fun k e hk => absurd hk (by omega), _, rfl⟩ ?_ ?_ sc__law_couple.nd
      · rintro i z Δ' hz ⟨hb, s1, rfl⟩
        rw [List.getElem?_map] at hz
        obtain ⟨e, he, rfl⟩ := Option.map_eq_some_iff.mp hz
        have bad : isRat e = false → isRow (.tuple l) 2 = false := fun h => by
          show (true && ((((l.length : Nat) : Int) == 2) && l.all isRat)) = false
          have : l.all isRat = false := by
            rw [List.all_eq_false]
            exact ⟨e, List.mem_of_getElem? he, by rw [h]; decide⟩
          rw [this, Bool.and_false, Bool.and_false]
        refine cpl_entry hr T e (fun h => ?_) (fun h => ?_)
        · show dat K (.bool false) = dat K (.bool (isRow (.tuple l) 2))
          rw [bad h]
        · refine ⟨fun k e2 hk h2 => ?_, _, rfl⟩
          by_cases q : k = i
          · subst q; rw [he] at h2; cases h2; exact h
          · exact hb k e2 (by omega) h2
      · rintro Δ' ⟨hb, s1, rfl⟩
        have e : isRow (.tuple l) 2 = true := by
          show (true && ((((l.length : Nat) : Int) == 2) && l.all isRat)) = true
          have h1 : l.all isRat = true := List.all_eq_true.mpr fun x hx => by
            obtain ⟨k, hk⟩ := List.getElem?_of_mem hx
            exact hb k x (by rw [List.length_map]; exact (List.getElem?_eq_some_iff.mp hk).1) hk
          rw [h1, hl]
          rfl
        exact sd_ret (px_bool (k := true)) (by show dat K (.bool true) = dat K (.bool (isRow (.tuple l) 2)); rw [e])
    · refine sd_ifT (PB.is (PBW.pb (pwo (PB.is (k' := false) (pb_not (pb_val (pd_isi2 (d := .tuple l) (n1 := "list") (n2 := "tuple") T.z_isinstance (px_var 0 rfl) T.z_list T.z_tuple rfl rfl))) rfl) (pw1o (pb_cmp (ct_ne hr.units rfl rfl) (pd_len (n := l.length) T.z_len (px_var 0 rfl) rfl) px_int (nomark _))))) (by show (false || !(((l.length : Nat) : Int) == 2)) = true; rw [Bool.false_or, Bool.not_eq_true', beq_eq_false_iff_ne]; omega)) (sd_ret (px_bool (k := false)) ?_)
      show dat K (.bool false) = dat K (.bool (true && ((((l.length : Nat) : Int) == 2) && l.all isRat)))
      rw [show (((l.length : Nat) : Int) == 2) = false from beq_eq_false_iff_ne.mpr (by omega)]
      rfl
  | .list l =>
    by_cases hl : l.length = 2
    · refine sd_skip (PB.is (PBW.pb (pwo (PB.is (k' := false) (pb_not (pb_val (pd_isi2 (d := .list l) (n1 := "list") (n2 := "tuple") T.z_isinstance (px_var 0 rfl) T.z_list T.z_tuple rfl rfl))) rfl) (pw1o (pb_cmp (ct_ne hr.units rfl rfl) (pd_len (n := l.length) T.z_len (px_var 0 rfl) rfl) px_int (nomark _))))) (by rw [hl]; rfl)) ?_
      refine sd_forT 1 (ts := l.map (dat K)) (fun i Δ' => (∀ k e, k < i → l[k]? = some e → isRat e = true) ∧ ∃ s1 : Sl, Δ' = [.th (dat K (.list l)), s1]) (px_var 0 rfl) (Or.inr dat_lst) ⟨fun k e hk => absurd hk (by omega), _, rfl⟩ ?_ ?_ sc__law_couple.nd
      · rintro i z Δ' hz ⟨hb, s1, rfl⟩
        rw [List.getElem?_map] at hz
        obtain ⟨e, he, rfl⟩ := Option.map_eq_some_iff.mp hz
        have bad : isRat e = false → isRow (.list l) 2 = false := fun h => by
          show (true && ((((l.length : Nat) : Int) == 2) && l.all isRat)) = false
          have : l.all isRat = false := by
            rw [List.all_eq_false]
            exact ⟨e, List.mem_of_getElem? he, by rw [h]; decide⟩
          rw [this, Bool.and_false, Bool.and_false]
        refine cpl_entry hr T e (fun h => ?_) (fun h => ?_)
        · show dat K (.bool false) = dat K (.bool (isRow (.list l) 2))
          rw [bad h]
        · refine ⟨fun k e2 hk h2 => ?_, _, rfl⟩
          by_cases q : k = i
          · subst q; rw [he] at h2; cases h2; exact h
          · exact hb k e2 (by omega) h2
      · rintro Δ' ⟨hb, s1, rfl⟩
        have e : isRow (.list l) 2 = true := by
          show (true && ((((l.length : Nat) : Int) == 2) && l.all isRat)) = true
          have h1 : l.all isRat = true := List.all_eq_true.mpr fun x hx => by
            obtain ⟨k, hk⟩ := List.getElem?_of_mem hx
            exact hb k x (by rw [List.length_map]; exact (List.getElem?_eq_some_iff.mp hk).1) hk
          rw [h1, hl]
          rfl
        exact sd_ret (px_bool (k := true)) (by show dat K (.bool true) = dat K (.bool (isRow (.list l) 2)); rw [e])
    · refine sd_ifT (PB.is (PBW.pb (pwo (PB.is (k' := false) (pb_not (pb_val (pd_isi2 (d := .list l) (n1 := "list") (n2 := "tuple") T.z_isinstance (px_var 0 rfl) T.z_list T.z_tuple rfl rfl))) rfl) (pw1o (pb_cmp (ct_ne hr.units rfl rfl) (pd_len (n := l.length) T.z_len (px_var 0 rfl) rfl) px_int (nomark _))))) (by show (false || !(((l.length : Nat) : Int) == 2)) = true; rw [Bool.false_or, Bool.not_eq_true', beq_eq_false_iff_ne]; omega)) (sd_ret (px_bool (k := false)) ?_)
      show dat K (.bool false) = dat K (.bool (true && ((((l.length : Nat) : Int) == 2) && l.all isRat)))
      rw [show (((l.length : Nat) : Int) == 2) = false from beq_eq_false_iff_ne.mpr (by omega)]
      rfl

end
end K03
set_option Elab.async false
set_option linter.all false
set_option maxRecDepth 100000
set_option maxHeartbeats 4000000
namespace K03
open PySem PySem.Spec PyProof.Rows L2 DL
section
variable {P : Program} {w : World} {K : PySem.W.Frag} {mg : Str → Option Value} {base : Heap} {f : Addr} {fd : FuncData}

def faultT : List Cp ⊕ (Nat × Str) → PyData
  | .inl _ => .none
  | .inr (k, w) => .tuple [.int (k : Nat), .str w]
/-- a row of data as the law draws it: couples are tuples -/
def ChkL (ds : List PyData) (r : List Cp ⊕ (Nat × Str)) : Prop :=
  (¬ (3 ≤ ds.length ∧ ds.length ≤ 8) ∧ r = .inr (0, ("many" : Str))) ∨
  (3 ≤ ds.length ∧ ds.length ≤ 8 ∧ (∀ d ∈ ds, (seqD d).length ≤ 40000) ∧ ∃ (j : Nat) (dj : PyData), ds[j]? = some dj ∧ isRow dj 2 = false ∧ (∀ (i : Nat) d, i < j → ds[i]? = some d → isRow d 2 = true) ∧ r = .inr (j, ("corner" : Str))) ∨
  (∃ cs : List Cp, ds = cs.map cD ∧ RoN 400 cs ∧
    ((∃ k, k < cs.length ∧ badT cs k = true ∧ (∀ i, i < k → badT cs i = false) ∧ r = .inr (k, ("turn" : Str))) ∨
     ((∀ i, i < cs.length → badT cs i = false) ∧ ((roundsN (sidesC cs) ≠ 1 ∧ r = .inr (0, ("round" : Str))) ∨ (roundsN (sidesC cs) = 1 ∧ r = .inl cs)))))
theorem chk_of {K : PySem.W.Frag} {t : Th} {ds : List PyData} {r : List Cp ⊕ (Nat × Str)} (h : ChkL ds r) (hl : ds.length ≤ 40000) (ht : t = dat K (.tuple ds) ∨ t = dat K (.list ds)) : ChkE K t r := by
  refine Or.inr ⟨ds, ht, hl, ?_⟩
  rcases h with h | h | ⟨cs, rfl, h1, h2⟩
  · exact Or.inl h
  · exact Or.inr (Or.inl h)
  · refine Or.inr (Or.inr ⟨cs, ⟨by rw [List.length_map], fun i hi => Or.inl (by rw [List.getElem?_map, at_get hi]; rfl)⟩, h1, h2⟩)
def RLFault (K : PySem.W.Frag) : Cn := fun ts A => ∃ (ds : List PyData) (r : List Cp ⊕ (Nat × Str)), ts = [dat K (.list ds)] ∧ ds.length ≤ 40000 ∧ ChkL ds r ∧ A = (· = dat K (faultT r))
def cnt (cs : List Cp) (i : Nat) : Nat := ((List.range i).filter fun k => before (at_ cs k) (at_ cs (HU.pv cs.length k)) && before (at_ cs k) (at_ cs (HU.nx cs.length k))).length
theorem cnt_succ (cs : List Cp) (i : Nat) : cnt cs (i + 1) = cnt cs i + (if (before (at_ cs i) (at_ cs (HU.pv cs.length i)) && before (at_ cs i) (at_ cs (HU.nx cs.length i))) = true then 1 else 0) := by
  unfold cnt
  rw [List.range_succ, List.filter_append, List.length_append, List.filter_cons]
  split <;> rfl
theorem ok__law_fault (F : Fun K "_law_fault" "_law_fault" s__law_fault f fd) (T : Txt K mg) (G__law_couple : Gd P w K mg base "_law_couple" 2 [] (RPred0 K (fun d => isRow d 2))) (G__law_cross : Gd P w K mg base "_law_cross" 4 [] (R2CQ K crossC)) (G__law_less : Gd P w K mg base "_law_less" 4 [] (R2C K lessC)) (G__law_before : Gd P w K mg base "_law_before" 2 [] (RLBef K)) : FnOk P w K mg base CX0 5 f fd ["_law_corners"] (spT (RLFault K)) := by
  refine fn_mk F sc__law_fault (fun ts A ⟨_, _, e, _⟩ => by rw [e]; rfl) fun cdv Ar outer s H E hr ts B hR => ?_
  obtain ⟨ds, r, rfl, hz, hch, rfl⟩ := hR
  have skip1 : 3 ≤ ds.length → ds.length ≤ 8 → (false || (decide ((ds.length : Int) < 3) || decide ((8 : Int) < (ds.length : Int)))) = false := fun a b => by
    rw [decide_eq_false (show ¬ (ds.length : Int) < 3 by omega), decide_eq_false (show ¬ (8 : Int) < (ds.length : Int) by omega)]
    rfl
  rcases hch with ⟨hn, rfl⟩ | ⟨h3, h8, hsz, j, dj, hj, hbad, hfirst, rfl⟩ | ⟨cs, hds, hro, hout⟩
  · refine sd_ifT (PB.is (PBW.pb (pwo (PB.is (k' := false) (pb_not (pb_val (pd_isi2 (d := .list ds) (n1 := "list") (n2 := "tuple") T.z_isinstance (px_var 0 rfl) T.z_list T.z_tuple rfl rfl))) rfl) (pwo (pb_cmp ct_lt (pd_len (n := ds.length) T.z_len (px_var 0 rfl) rfl) px_int (nomark _)) (pw1o (pb_cmp ct_gt (pd_len (n := ds.length) T.z_len (px_var 0 rfl) rfl) px_int (nomark _)))))) (by
      rw [Bool.false_or, Bool.or_eq_true]
      by_cases h3 : 3 ≤ ds.length
      · exact Or.inr (decide_eq_true (by omega))
      · exact Or.inl (decide_eq_true (by omega)))) (sd_ret (pd_tup (ds := [.int (0 : Nat), .str "many"]) (pl_cons px_int (pl_cons px_str pl_nil))) rfl)
  · have hjl : j < ds.length := (List.getElem?_eq_some_iff.mp hj).1
    refine sd_skip (PB.is (PBW.pb (pwo (PB.is (k' := false) (pb_not (pb_val (pd_isi2 (d := .list ds) (n1 := "list") (n2 := "tuple") T.z_isinstance (px_var 0 rfl) T.z_list T.z_tuple rfl rfl))) rfl) (pwo (pb_cmp ct_lt (pd_len (n := ds.length) T.z_len (px_var 0 rfl) rfl) px_int (nomark _)) (pw1o (pb_cmp ct_gt (pd_len (n := ds.length) T.z_len (px_var 0 rfl) rfl) px_int (nomark _)))))) (skip1 h3 h8)) ?_
    refine sd_asg 1 (pd_len (n := ds.length) T.z_len (px_var 0 rfl) rfl) ?_ sc__law_fault.nd
    refine sd_forR 2 (n := ((ds.length : Nat) : Int)) (fun i Δ' => i ≤ j ∧ ∃ s2 : Sl, Δ' = [.th (dat K (.list ds)), .th (dat K (.int (ds.length : Nat))), s2, .no, .no, .no, .no]) T.z_range (px_var 1 rfl) (by omega) (by omega) ⟨Nat.zero_le _, _, rfl⟩ ?_ ?_ sc__law_fault.nd
    · rintro i Δ' hi ⟨hij, s2, rfl⟩
      obtain ⟨di, hdi⟩ : ∃ di, ds[i]? = some di := ⟨_, List.getElem?_eq_getElem (by omega)⟩
      by_cases e : i = j
      · subst e
        rw [hj] at hdi
        cases hdi
        have hdi := hj
        exact sd_ifT (PB.is (k' := true) (pb_not (pb_val (pd_call G__law_couple (hr.mono (by decide)) (pl_cons (pd_ix (D := .list ds) (d := dj) (px_var 0 rfl) (px_var 2 rfl) (atI_nat hdi)) pl_nil) ⟨_, rfl, rfl⟩))) (by show (!isRow dj 2) = true; rw [hbad]; rfl)) (sd_ret (pd_tup (ds := [.int (i : Nat), .str "corner"]) (pl_cons (px_var 2 rfl) (pl_cons px_str pl_nil))) rfl)
      · exact sd_skip (PB.is (k' := false) (pb_not (pb_val (pd_call G__law_couple (hr.mono (by decide)) (pl_cons (pd_ix (D := .list ds) (d := di) (px_var 0 rfl) (px_var 2 rfl) (atI_nat hdi)) pl_nil) ⟨_, rfl, rfl⟩))) (by show (!isRow di 2) = false; rw [hfirst i di (by omega) hdi]; rfl)) (sd_nil ⟨by omega, _, rfl⟩)
    · rintro Δ' ⟨hij, s2, rfl⟩
      exact absurd hij (by omega)
  have hlen : ds.length = cs.length := by rw [hds, List.length_map]
  have hlo := hro.lo
  have hhi := hro.hi
  have hat : ∀ {i : Nat}, i < cs.length → ds[i]? = some (cD (at_ cs i)) := fun hi => by rw [hds, List.getElem?_map, at_get hi]; rfl
  have csm : ∀ {i : Nat}, i < cs.length → CSm 400 (at_ cs i) := fun hi => hro.sm _ (at_mem hi)
  refine sd_skip (PB.is (PBW.pb (pwo (PB.is (k' := false) (pb_not (pb_val (pd_isi2 (d := .list ds) (n1 := "list") (n2 := "tuple") T.z_isinstance (px_var 0 rfl) T.z_list T.z_tuple rfl rfl))) rfl) (pwo (pb_cmp ct_lt (pd_len (n := ds.length) T.z_len (px_var 0 rfl) rfl) px_int (nomark _)) (pw1o (pb_cmp ct_gt (pd_len (n := ds.length) T.z_len (px_var 0 rfl) rfl) px_int (nomark _)))))) (skip1 (by omega) (by omega))) ?_
  refine sd_asg 1 (pd_len (n := ds.length) T.z_len (px_var 0 rfl) rfl) ?_ sc__law_fault.nd
  refine sd_forR 2 (n := ((ds.length : Nat) : Int)) (fun i Δ' => ∃ s2 : Sl, Δ' = [.th (dat K (.list ds)), .th (dat K (.int (ds.length : Nat))), s2, .no, .no, .no, .no]) T.z_range (px_var 1 rfl) (by omega) (by omega) ⟨_, rfl⟩ ?_ ?_ sc__law_fault.nd
  · rintro i Δ' hi ⟨s2, rfl⟩
    have hil : i < cs.length := by omega
    obtain ⟨di, hdi, hde⟩ : ∃ di, ds[i]? = some di ∧ di = cD (at_ cs i) := ⟨_, hat hil, rfl⟩
    exact sd_skip (PB.is (k' := false) (pb_not (pb_val (pd_call G__law_couple (hr.mono (by decide)) (pl_cons (pd_ix (D := .list ds) (d := di) (px_var 0 rfl) (px_var 2 rfl) (atI_nat hdi)) pl_nil) ⟨_, rfl, rfl⟩))) (by show (!isRow di 2) = false; rw [hde, isRow_cD (hro.cl _ (at_mem hil))]; rfl)) (sd_nil ⟨_, rfl⟩)
  rintro Δ' ⟨s2, rfl⟩
  refine sd_asg 3 px_int ?_ sc__law_fault.nd
  refine sd_forR 2 (n := ((ds.length : Nat) : Int)) (fun i Δ' => (∀ k, k < i → badT cs k = false) ∧ ∃ s2 s4 s5 s6 : Sl, Δ' = [.th (dat K (.list ds)), .th (dat K (.int (ds.length : Nat))), s2, .th (dat K (.int (cnt cs i : Nat))), s4, s5, s6]) T.z_range (px_var 1 rfl) (by omega) (by omega) ⟨fun k hk => absurd hk (by omega), _, _, _, _, rfl⟩ ?_ ?_ sc__law_fault.nd
  · rintro i Δ' hi ⟨hbef, s2, s4, s5, s6, rfl⟩
    have hil : i < cs.length := by omega
    have hp := HU.pv_lt hro.n0 i
    have hn := HU.nx_lt hro.n0 i
    refine sd_asg 4 (t := dat K (cD (at_ cs i))) (pd_tup (ds := [rD (at_ cs i).1, rD (at_ cs i).2]) (pl_cons (pd_ix (D := cD (at_ cs i)) (pd_ix (D := .list ds) (d := cD (at_ cs i)) (px_var 0 rfl) (px_var 2 rfl) (atI_nat (hat hil))) px_int rfl) (pl_cons (pd_ix (D := cD (at_ cs i)) (pd_ix (D := .list ds) (d := cD (at_ cs i)) (px_var 0 rfl) (px_var 2 rfl) (atI_nat (hat hil))) px_int rfl) pl_nil))) ?_ sc__law_fault.nd
    refine sd_asg 5 (pd_ix (D := .list ds) (d := cD (at_ cs (HU.pv cs.length i))) (px_var 0 rfl) (pd_sub (px_var 2 rfl) px_int) (ix_prev (l := ds) (i := i) (by omega) (by rw [hlen]; exact hat hp))) ?_ sc__law_fault.nd
    refine sd_asg 6 (pd_ix (D := .list ds) (d := cD (at_ cs (HU.nx cs.length i))) (px_var 0 rfl) (PD.is (t' := dat K (.int (HU.nx cs.length i : Nat))) (pd_mod (pd_int T.z_int (pd_add (px_var 2 rfl) px_int)) (px_var 1 rfl) (by omega)) (by rw [fmod_nat, hlen]; rfl)) (atI_nat (hat hn))) ?_ sc__law_fault.nd
    have e1 : lessC (at_ cs i) (at_ cs (HU.pv cs.length i)) = sideC cs (HU.pv cs.length i) := by unfold sideC; rw [HU.nx_pv hil]
    have e2 : lessC (at_ cs (HU.nx cs.length i)) (at_ cs i) = sideC cs i := rfl
    have m1 := csm_less (csm hil) (csm hp)
    have m2 := csm_less (csm hn) (csm hil)
    have lc := low_cross (ro_side hro hp).1 (ro_side hro hil).1
    refine sd_if (k := badT cs i) (PB.is (pb_cmp ct_le (pd_ix (D := rD (crossC (sideC cs (HU.pv cs.length i)) (sideC cs i))) (d := .int (crossC (sideC cs (HU.pv cs.length i)) (sideC cs i)).1) (PD.is (t' := dat K (rD (crossC (sideC cs (HU.pv cs.length i)) (sideC cs i)))) (pd_call G__law_cross (hr.mono (by decide)) (pl_cons (pd_call G__law_less (hr.mono (by decide)) (pl_cons (px_var 4 rfl) (pl_cons (px_var 5 rfl) pl_nil)) ⟨_, _, 400, 400, rfl, csm hil, csm hp, by decide, rfl⟩) (pl_cons (pd_call G__law_less (hr.mono (by decide)) (pl_cons (px_var 6 rfl) (pl_cons (px_var 4 rfl) pl_nil)) ⟨_, _, 400, 400, rfl, csm hn, csm hil, by decide, rfl⟩) pl_nil)) ⟨_, _, 801, 801, rfl, m1, m2, by decide, rfl⟩) (by rw [e1, e2])) px_int rfl) px_int (nomark _)) (by
      unfold badT
      refine decide_eq_decide.mpr ?_
      unfold signI
      split
      · omega
      · split <;> omega)) (fun hb => ?_) (fun hb => ?_)
    · rcases hout with ⟨k, hk, hbk, hkf, rfl⟩ | ⟨hall, _⟩
      · have e : k = i := by
          by_cases a : k < i
          · rw [hbef k a] at hbk; cases hbk
          · by_cases b : i < k
            · rw [hkf i b] at hb; cases hb
            · omega
        subst e
        exact (sd_ret (pd_tup (ds := [.int (k : Nat), .str "turn"]) (pl_cons (px_var 2 rfl) (pl_cons px_str pl_nil))) rfl)
      · rw [hall i hil] at hb; cases hb
    · refine sd_nil ?_
      have hbef' : ∀ k, k < i + 1 → badT cs k = false := fun k hk => by
        by_cases e : k = i
        · rw [e]; exact hb
        · exact hbef k (by omega)
      have cs1 := cnt_succ cs i
      refine sd_when (k := (before (at_ cs i) (at_ cs (HU.pv cs.length i)) && before (at_ cs i) (at_ cs (HU.nx cs.length i)))) (PBW.pb (pwa (pb_val (pd_call G__law_before (hr.mono (by decide)) (pl_cons (px_var 4 rfl) (pl_cons (px_var 5 rfl) pl_nil)) ⟨_, _, 400, 400, rfl, csm hil, csm hp, by decide, rfl⟩)) (pw1a (pb_val (pd_call G__law_before (hr.mono (by decide)) (pl_cons (px_var 4 rfl) (pl_cons (px_var 6 rfl) pl_nil)) ⟨_, _, 400, 400, rfl, csm hil, csm hn, by decide, rfl⟩))))) (fun z => ?_) (fun z => ?_)
      · rw [if_pos z] at cs1
        refine sd_asg 3 (t := dat K (.int (cnt cs (i + 1) : Nat))) (PD.is (pd_add (px_var 3 rfl) px_int) (by rw [cs1]; rfl)) (sd_nil (sd_nil ?_)) sc__law_fault.nd
        exact ⟨hbef', _, _, _, _, rfl⟩
      · rw [if_neg (by rw [z]; decide)] at cs1
        refine sd_nil ⟨hbef', .th (dat K (.int (i : Int))), .th (dat K (cD (at_ cs i))), .th (dat K (cD (at_ cs (HU.pv cs.length i)))), .th (dat K (cD (at_ cs (HU.nx cs.length i)))), ?_⟩
        rw [cs1]
        rfl
  · rintro Δ' ⟨hbef, s2, s4, s5, s6, rfl⟩
    have e0 : (((ds.length : Nat) : Int)).toNat = cs.length := by omega
    rw [e0] at hbef ⊢
    have hlr : cnt cs cs.length = roundsN (sidesC cs) := least_rounds hro hbef
    rw [hlr]
    rcases hout with ⟨k, hk, hbk, _, _⟩ | ⟨_, ⟨hr1, rfl⟩ | ⟨hr1, rfl⟩⟩
    · rw [hbef k hk] at hbk; cases hbk
    · exact sd_retX (px_ifF (PB.is (k' := false) (pb_cmp (ct_eq hr.units rfl rfl) (px_var 3 rfl) px_int (nomark _)) (by show (((roundsN (sidesC cs) : Nat) : Int) == 1) = false; rw [beq_eq_false_iff_ne]; omega)) (pd_tup (ds := [.int ((0 : Nat) : Int), .str "round"]) (pl_cons px_int (pl_cons px_str pl_nil)))) (fun t h => h)
    · exact sd_retX (px_ifT (PB.is (k' := true) (pb_cmp (ct_eq hr.units rfl rfl) (px_var 3 rfl) px_int (nomark _)) (by rw [hr1]; rfl)) px_none) (fun t h => h)

end
end K03
set_option Elab.async false
set_option linter.all false
set_option maxRecDepth 100000
/-! A place stands on the inner part of one side at most. -/
namespace DL
open PySem PySem.Spec PyProof.Rows L2
theorem vR_over {a b : Q} (ha : 0 < a.2) (hb : 0 < b.2) (h : b.1 ≠ 0) : vR (overQ a b) * vR b = vR a := by
  have hne : a.2 * b.1 ≠ 0 := Int.mul_ne_zero (by omega) h
  unfold overQ
  rw [vR_low hne]
  unfold vR
  rw [Rat.divInt_mul_divInt]
  have : a.1 * b.2 * b.1 = (b.2 * b.1) * a.1 := by grind
  rw [this, show a.2 * b.1 * b.2 = (b.2 * b.1) * a.2 by grind, Rat.divInt_mul_left (Int.mul_ne_zero (by omega) h)]
theorem low_pos {q : Q} (h : Low q) : 0 < q.2 := h.2
theorem nz_rat {q : Q} (h : 0 < q.2) (g : 0 < q.1) : 0 < vR q := by
  refine (sign_pos h).mp ?_
  unfold signI
  rw [if_neg (by omega), if_pos g]
  decide
/-- a place that stands on side k lies between its corners -/
theorem on_rp {cs : List Cp} (h : Wk cs) {k : Nat} (hk : k < cs.length) {p : Cp} (hp : Cl p) (ho : onS cs k p = true) : ∃ t : Rat, 0 < t ∧ t < 1 ∧
    (rp p).1 = (rp (at_ cs k)).1 + t * ((rp (at_ cs (HU.nx cs.length k))).1 - (rp (at_ cs k)).1) ∧ (rp p).2 = (rp (at_ cs k)).2 + t * ((rp (at_ cs (HU.nx cs.length k))).2 - (rp (at_ cs k)).2) := by
  unfold onS at ho
  rw [Bool.and_eq_true, Bool.and_eq_true] at ho
  have o1 := of_decide_eq_true ho.1
  have o2 := of_decide_eq_true ho.2.1
  have o3 := of_decide_eq_true ho.2.2
  obtain ⟨lv, ev⟩ := val_rp h hk hp
  have v0 : vR (valC cs k p) = 0 := by unfold vR; rw [o1, Rat.zero_divInt]
  have c0 := h.cl _ (at_mem hk)
  have sl := (side_val h hk).1
  obtain ⟨l1, e1⟩ := low_dotR (cl_less hp c0) sl
  obtain ⟨l2, e2⟩ := low_dotR sl sl
  have nz := side_nz h hk
  have lo : 0 < (spotC cs k p).2 := by omega
  have inn := (in_vR lo).mp ⟨o2, o3⟩
  have et := vR_over (a := dotC (lessC p (at_ cs k)) (sideC cs k)) (b := dotC (sideC cs k) (sideC cs k)) l1.2 l2.2 (by omega)
  have pos := nz_rat l2.2 nz
  refine ⟨vR (spotC cs k p), inn.1, inn.2, ?_⟩
  have et' : vR (spotC cs k p) * vR (dotC (sideC cs k) (sideC cs k)) = vR (dotC (lessC p (at_ cs k)) (sideC cs k)) := et
  rw [ev] at v0
  rw [e1, e2, rp_less hp c0, side_rp h hk] at et'
  rw [e2, side_rp h hk] at pos
  unfold HU.cq at v0
  generalize (rp (at_ cs (HU.nx cs.length k))).1 - (rp (at_ cs k)).1 = dx at *
  generalize (rp (at_ cs (HU.nx cs.length k))).2 - (rp (at_ cs k)).2 = dy at *
  generalize hux : (rp p).1 - (rp (at_ cs k)).1 = ux at *
  generalize huy : (rp p).2 - (rp (at_ cs k)).2 = uy at *
  generalize vR (spotC cs k p) = t at *
  have et2 : t * (dx * dx + dy * dy) = ux * dx + uy * dy := et'
  have p2 : 0 < dx * dx + dy * dy := pos
  have kx : (dx * dx + dy * dy) * (ux - t * dx) = 0 := by grind
  have ky : (dx * dx + dy * dy) * (uy - t * dy) = 0 := by grind
  have ne : dx * dx + dy * dy ≠ 0 := fun z => by rw [z] at p2; exact absurd p2 (by decide)
  have x0 : ux - t * dx = 0 := by
    rcases Rat.mul_eq_zero.mp kx with z | z
    · exact absurd z ne
    · exact z
  have y0 : uy - t * dy = 0 := by
    rcases Rat.mul_eq_zero.mp ky with z | z
    · exact absurd z ne
    · exact z
  constructor <;> grind
theorem nx_inj {n j k : Nat} (hj : j < n) (hk : k < n) (h : HU.nx n j = HU.nx n k) : j = k := by
  rw [HU.nx_of hj, HU.nx_of hk] at h
  split at h <;> split at h <;> omega
theorem nx_nx {n j : Nat} (hn : 3 ≤ n) (hj : j < n) : HU.nx n (HU.nx n j) ≠ j := by
  rw [HU.nx_of (HU.nx_lt (by omega) j), HU.nx_of hj]
  split <;> split <;> omega
theorem on_one {cs : List Cp} (h : Wk cs) {j k : Nat} (hj : j < cs.length) (hk : k < cs.length) {p : Cp} (hp : Cl p) (oj : onS cs j p = true) (ok : onS cs k p = true) : j = k := by
  by_cases e : j = k
  · exact e
  · exfalso
    obtain ⟨t, t0, t1, ex, ey⟩ := on_rp h hk hp ok
    unfold onS at oj
    rw [Bool.and_eq_true] at oj
    have o1 := of_decide_eq_true oj.1
    obtain ⟨lv, ev⟩ := val_rp h hj hp
    have v0 : vR (valC cs j p) = 0 := by unfold vR; rw [o1, Rat.zero_divInt]
    rw [ev] at v0
    have nn : ∀ i, i < cs.length → 0 ≤ HU.cq (rp (at_ cs j)) (rp (at_ cs (HU.nx cs.length j))) (rp (at_ cs i)) := fun i hi => by
      by_cases z1 : i = j
      · rw [z1]; unfold HU.cq; grind
      · by_cases z2 : i = HU.nx cs.length j
        · rw [z2]; unfold HU.cq; grind
        · exact Rat.le_of_lt (HU.side_left h.cf hj hi z1 z2)
    have hnk := HU.nx_lt h.n0 k
    have a := nn k hk
    have b := nn _ hnk
    have ab : 0 < HU.cq (rp (at_ cs j)) (rp (at_ cs (HU.nx cs.length j))) (rp (at_ cs k)) ∨ 0 < HU.cq (rp (at_ cs j)) (rp (at_ cs (HU.nx cs.length j))) (rp (at_ cs (HU.nx cs.length k))) := by
      by_cases z : k = HU.nx cs.length j
      · refine Or.inr (HU.side_left h.cf hj hnk ?_ fun w => e (nx_inj hj hk w.symm))
        rw [z]
        exact nx_nx h.lo hj
      · exact Or.inl (HU.side_left h.cf hj hk (fun w => e w.symm) z)
    have lin : HU.cq (rp (at_ cs j)) (rp (at_ cs (HU.nx cs.length j))) (rp p) = (1 - t) * HU.cq (rp (at_ cs j)) (rp (at_ cs (HU.nx cs.length j))) (rp (at_ cs k)) + t * HU.cq (rp (at_ cs j)) (rp (at_ cs (HU.nx cs.length j))) (rp (at_ cs (HU.nx cs.length k))) := by
      unfold HU.cq
      rw [ex, ey]
      grind
    rw [lin] at v0
    have t1' : 0 < 1 - t := by grind
    rcases ab with z | z
    · have h1 := Rat.mul_pos t1' z
      have h2 := Rat.mul_nonneg (Rat.le_of_lt t0) b
      grind
    · have h1 := Rat.mul_pos t0 z
      have h2 := Rat.mul_nonneg (Rat.le_of_lt t1') a
      grind
/-- the last side on which the place stands -/
def lastS (cs : List Cp) (p : Cp) : Nat → PyData
  | 0 => .none
  | k + 1 => if onS cs k p = true then sD (k, spotC cs k p) else lastS cs p k
theorem found_none {cs : List Cp} {p : Cp} : ∀ {m i : Nat}, (∀ k, i ≤ k → k < i + m → onS cs k p = false) → foundS cs p i m = .none
  | 0, i, _ => rfl
  | m + 1, i, h => by
    unfold foundS
    rw [if_neg (by rw [h i (by omega) (by omega)]; decide)]
    exact found_none fun k h1 h2 => h k (by omega) (by omega)
theorem found_at {cs : List Cp} {p : Cp} {k : Nat} (ok : onS cs k p = true) : ∀ {m i : Nat}, i ≤ k → k < i + m → (∀ j, i ≤ j → j < k → onS cs j p = false) → foundS cs p i m = sD (k, spotC cs k p)
  | 0, i, h1, h2, _ => by omega
  | m + 1, i, h1, h2, h3 => by
    unfold foundS
    by_cases e : i = k
    · rw [e, if_pos ok]
    · rw [if_neg (by rw [h3 i (by omega) (by omega)]; decide)]
      exact found_at ok (by omega) (by omega) fun j a b => h3 j (by omega) b
theorem last_none {cs : List Cp} {p : Cp} : ∀ {n : Nat}, (∀ k, k < n → onS cs k p = false) → lastS cs p n = .none
  | 0, _ => rfl
  | n + 1, h => by
    unfold lastS
    rw [if_neg (by rw [h n (by omega)]; decide)]
    exact last_none fun k hk => h k (by omega)
theorem last_at {cs : List Cp} {p : Cp} {k : Nat} (ok : onS cs k p = true) : ∀ {n : Nat}, k < n → (∀ j, k < j → j < n → onS cs j p = false) → lastS cs p n = sD (k, spotC cs k p)
  | 0, h, _ => by omega
  | n + 1, h, h3 => by
    unfold lastS
    by_cases e : n = k
    · rw [e, if_pos ok]
    · rw [if_neg (by rw [h3 n (by omega) (by omega)]; decide)]
      exact last_at ok (by omega) fun j a b => h3 j a (by omega)
theorem last_found {cs : List Cp} (h : Wk cs) {p : Cp} (hp : Cl p) : lastS cs p cs.length = foundS cs p 0 cs.length := by
  by_cases e : ∃ k, k < cs.length ∧ onS cs k p = true
  · obtain ⟨k, hk, ok⟩ := e
    have no : ∀ j, j < cs.length → j ≠ k → onS cs j p = false := fun j hj ne => by
      cases q : onS cs j p with
      | false => rfl
      | true => exact absurd (on_one h hj hk hp q ok) ne
    rw [last_at ok hk fun j a b => no j b (by omega), found_at ok (Nat.zero_le _) (by omega) fun j _ b => no j (by omega) (by omega)]
  · have no : ∀ k, k < cs.length → onS cs k p = false := fun k hk => by
      cases q : onS cs k p with
      | false => rfl
      | true => exact absurd ⟨k, hk, q⟩ e
    rw [last_none no, found_none fun k _ b => no k (by omega)]
theorem dot_comm (p q : Cp) : dotC p q = dotC q p := by
  unfold dotC timesQ
  rw [Int.mul_comm p.1.1, Int.mul_comm p.1.2, Int.mul_comm p.2.1, Int.mul_comm p.2.2]
theorem spot_law (cs : List Cp) (k : Nat) (p : Cp) : overQ (dotC (sideC cs k) (lessC p (at_ cs k))) (dotC (sideC cs k) (sideC cs k)) = spotC cs k p := by
  unfold spotC
  rw [dot_comm]
theorem low_0 {q : Q} (h : Low q) : decide (q = (0, 1)) = decide (q.1 = 0) := by
  by_cases e : q.1 = 0
  · have g := h.1
    rw [e] at g
    have : q.2.natAbs = 1 := by simpa using g
    have p := h.2
    rw [decide_eq_true e, decide_eq_true (Prod.ext e (show q.2 = 1 by omega))]
  · rw [decide_eq_false e, decide_eq_false fun z => e (by rw [z])]
end DL
set_option Elab.async false
set_option linter.all false
set_option maxRecDepth 100000
/-! try .. except X; rows passed on; what is due has a shape. -/
namespace DL
open PySem PySem.Spec PyProof.Rows L2
section
variable {X : Cx} {Δ : List Sl} {e a b c o : Expr} {es : List Expr} {A B C : Th → Prop} {pos : Pos} {P : Post} {rest body els sts : List Stmt} {st : Stmt} {W : WX}
/-- try: body except x: suite -/
theorem sd_tryO {x : Str} {cv : Value} {b0 : Stmt} {suite : List Stmt} {np pos' : Pos} {Wout : WX} (XC : Addr → List (Str × Th) → List Sl → Prop) (hc : Names X x cv) (tk : Takes X Wout)
    (hb : ∀ (W : WX) (pn : List (Addr × Obj)) (xe : Value → Shared → Prop), Takes (X.tr pn xe) W → PassesOwn (model X.prog X.w) X.A X.env xe → SD (X.tr pn xe) W body { P with nx := fun Δ' => SD X Wout rest P Δ', xc := XC } Δ)
    (hcls : ∀ C fs Δ', XC C fs Δ' → PySem.W.exmOne X.K (.ref C) cv = some true)
    (hsu : ∀ C fs Δ', XC C fs Δ' → ∀ (a : Addr) (oe : Obj) (d : Option Addr) (pn : List (Addr × Obj)), Zc (.ref C) d oe → (∃ vs, oe.data = .fields vs) →
      SD (X.suite a ((a, oe) :: pn)) (fun _ _ _ _ => False) (b0 :: suite) { nx := fun Δ2 => SD X Wout rest P Δ2, rt := P.rt, bk := P.bk, ct := P.ct } Δ')
    (hs : X.stack = X.env :: X.outer := by rfl) (hf : X.env.frame = some X.env.locals := by rfl) :
    SD X Wout (.Try body [.ExceptHandler (some (.Name x np)) none (b0 :: suite) pos'] [] [] pos :: rest) P Δ := by
  refine sd_cons ?_
  have pb : ∀ (W : WX) (pn : List (Addr × Obj)) (xe : Value → Shared → Prop), Takes (X.tr pn xe) W → PassesOwn (model X.prog X.w) X.A X.env xe → PSs (X.tr pn xe) body (fun D σ H => ∀ (pn : List (Addr × Obj)) (xe : Value → Shared → Prop), Takes (X.tr pn xe) W → PassesOwn (model X.prog X.w) X.A X.env xe → ∃ t, PSs (X.tr pn xe) body t ∧ t D σ H) :=
    fun W pn xe tk hp => ⟨fun pins s σ H D I h => by
      obtain ⟨t, p, ht⟩ := h pn xe tk hp
      exact p.run pins s σ H D I ht⟩
  have ps : ∀ (a : Addr) (oe : Obj) (cls : Value) (d : Option Addr) (pn : List (Addr × Obj)), Zc cls d oe → (∃ vs, oe.data = .fields vs) → PSs (X.suite a ((a, oe) :: pn)) (b0 :: suite) (fun D σ H => ∀ (oe : Obj) (pn : List (Addr × Obj)), Zc cls d oe → (∃ vs, oe.data = .fields vs) → ∃ t, PSs (X.suite a ((a, oe) :: pn)) (b0 :: suite) t ∧ t D σ H) :=
    fun a oe cls d pn hz hfl => ⟨fun pins s σ H D I h => by
      obtain ⟨t, p, ht⟩ := h oe pn hz hfl
      exact p.run pins s σ H D I ht⟩
  refine ⟨_, ps_try_only (ts := fun a cls d => fun D σ H => ∀ (oe : Obj) (pn : List (Addr × Obj)), Zc cls d oe → (∃ vs, oe.data = .fields vs) → ∃ t, PSs (X.suite a ((a, oe) :: pn)) (b0 :: suite) t ∧ t D σ H) hs hf hc tk pb ps, fun S0 M0 H0 σ H S hA D le xw => ?_⟩
  intro pn xe tk2 hp2
  obtain ⟨t, p, f⟩ := hb _ pn xe tk2 hp2
  refine ⟨t, p, f S0 M0 H0 σ H S hA D ⟨le.nx, le.rt, le.bk, le.ct⟩ ⟨fun σ1 H1 C fs d Δ1 S1 hxc hA1 r nd => ?_, xw.2⟩⟩
  refine ⟨true, hcls C fs Δ1 hxc, fun _ a na oe pn hz hfl => ?_, fun z => nomatch z⟩
  obtain ⟨u, pu, fu⟩ := hsu C fs Δ1 hxc a oe d pn hz hfl
  exact ⟨u, pu, fu S0 M0 H0 _ H1 S1 hA1 _ ⟨le.nx, le.rt, le.bk, le.ct⟩ ⟨fun _ _ _ _ _ _ _ p => p.elim, fun z => nomatch z⟩⟩
/-- a + b, b a list that is not known -/
theorem px_catY {ds : List PyData} {Ad : List PyData → Prop} (ha : PD X Δ a (dat X.K (.list ds))) (hb : PX X Δ b (fun t => ∃ es, t = dat X.K (.list es) ∧ Ad es)) (hz : ∀ es, Ad es → ds.length + es.length ≤ 100000) : PX X Δ (.BinOp a .Add b pos) (fun t => ∃ es, t = dat X.K (.list (ds ++ es)) ∧ Ad es) :=
  px_two (fun _ _ pa pb => pe_op op_catL pa pb) ha hb fun S H x' y' v w dom hx hy rx ry Q q => by
    obtain ⟨es, rfl, had⟩ := hy
    subst hx
    obtain ⟨l, xs, rfl, hq, hd⟩ := dp_lst rx
    obtain ⟨b, zs, rfl, hq2, hd2⟩ := dp_lst ry
    refine ⟨l, b, xs, zs, rfl, rfl, ex_l hide_le hq, ex_l hide_le hq2, by rw [dpa_len hd, dpa_len hd2]; exact Nat.le_trans (hz es had) (by decide), fun p hp => q _ _ _ ⟨es, rfl, had⟩ (Ex.new hp) (Dp.lst (SqL.of ?_) (dpa_up (hide_ex (Ex.new hp)) (dpa_app hd hd2)))⟩
    rw [hide_out (dom.new hp)]
    exact upd_same
end
/-- the same stop, maybe as a list -/
def Alike (x y : AD) : Prop := y = x ∨ ∃ l, x = some (.tuple l) ∧ y = some (.list l)
theorem alike_pair {x y : AD} (h : Alike x y) : pairA y = pairA x := by
  rcases h with rfl | ⟨l, rfl, rfl⟩
  · rfl
  · match l with
    | [] => rfl
    | [a] => rfl
    | [a, b] => rfl
    | a :: b :: c :: r => rfl
theorem alike_word {n : Nat} {x y : AD} (h : Alike x y) : wordA n y = wordA n x := by unfold wordA; rw [alike_pair h]
theorem alike_stop {x y : AD} (h : Alike x y) : stopA y = stopA x := by unfold stopA; rw [alike_pair h]
theorem alike_ga {x y : AD} (h : Alike x y) (g : GA x) : GA y := fun k q hp => g k q (by rw [← alike_pair h]; exact hp)
inductive Rows : List AD → List AD → Prop where
  | nil : Rows [] []
  | cons {x y : AD} {xs ys : List AD} (h : Alike x y) (t : Rows xs ys) : Rows (x :: xs) (y :: ys)
theorem Rows.len {xs ys : List AD} (h : Rows xs ys) : ys.length = xs.length := by
  induction h with
  | nil => rfl
  | cons _ _ ih => rw [List.length_cons, List.length_cons, ih]
theorem Rows.first {n : Nat} {xs ys : List AD} (h : Rows xs ys) : ∀ i, firstA n ys i = firstA n xs i := by
  induction h with
  | nil => intro i; rfl
  | cons h t ih =>
    intro i
    unfold firstA
    rw [alike_word h, ih]
theorem Rows.due {n : Nat} {xs ys : List AD} (h : Rows xs ys) : dueA n ys = dueA n xs := by
  unfold dueA
  rw [h.len, h.first]
theorem Rows.stops {xs ys : List AD} (h : Rows xs ys) : ys.map stopA = xs.map stopA := by
  induction h with
  | nil => rfl
  | cons h t ih => rw [List.map_cons, List.map_cons, alike_stop h, ih]
theorem rows_of {K : PySem.W.Frag} : ∀ {xs : List AD} {us : List Th}, us.length = xs.length → (∀ (i : Nat) t, us[i]? = some t → ∃ x y, xs[i]? = some x ∧ t = anyT K y ∧ Alike x y) → ∃ ys, us = ys.map (anyT K) ∧ Rows xs ys
  | [], [], _, _ => ⟨[], rfl, .nil⟩
  | [], _ :: _, h, _ => by simp at h
  | _ :: _, [], h, _ => by simp at h
  | x :: xs, u :: us, h, g => by
    obtain ⟨x', y, e1, e2, e3⟩ := g 0 u rfl
    have e1' : x = x' := Option.some.inj e1
    subst e1'
    obtain ⟨ys, h1, h2⟩ := rows_of (xs := xs) (us := us) (by simpa using h) fun i t ht => g (i + 1) t (by simpa using ht)
    exact ⟨y :: ys, by rw [List.map_cons, ← e2, ← h1], .cons e3 h2⟩
/-! shapes -/
theorem shaped_err {k : Nat} {w : Str} (h : w = "stop" ∨ w = "side" ∨ w = "spot" ∨ w = "many") : SeqAt.shaped (errD k w) = true := by
  rcases h with rfl | rfl | rfl | rfl <;> simp [SeqAt.shaped, errD, PyData.canLay0, PyData.canLayAll0, PyData.depth, PyData.depthAll] <;> decide +kernel
theorem eqv_err (k : Nat) (w : Str) : PyData.eqv (errD k w) (errD k w) = true := by simp [errD, PyData.eqv, PyData.eqvAll]
theorem shaped_sD (s : Stp) : SeqAt.shaped (sD s) = true := by simp [SeqAt.shaped, sD, rD, PyData.canLay0, PyData.canLayAll0, PyData.depth, PyData.depthAll]
theorem eqv_sD (s : Stp) : PyData.eqv (sD s) (sD s) = true := by simp [sD, rD, PyData.eqv, PyData.eqvAll]
theorem lay_ss : ∀ ss : List Stp, PyData.canLayAll0 (ss.map sD) = true
  | [] => rfl
  | s :: ss => by simp [sD, rD, PyData.canLay0, PyData.canLayAll0, lay_ss ss]
theorem depth_ss : ∀ ss : List Stp, PyData.depthAll (ss.map sD) ≤ 4
  | [] => by simp [PyData.depthAll]
  | s :: ss => by
    have := depth_ss ss
    simp [sD, rD, PyData.depth, PyData.depthAll]
    omega
theorem shaped_ss (ss : List Stp) : SeqAt.shaped (.tuple (ss.map sD)) = true := by
  have h1 := lay_ss ss
  have h2 := depth_ss ss
  simp [SeqAt.shaped, PyData.canLay0, PyData.depth, h1]
  omega
theorem eqv_ssA : ∀ ss : List Stp, PyData.eqvAll (ss.map sD) (ss.map sD) = true
  | [] => by simp [PyData.eqvAll]
  | s :: ss => by rw [List.map_cons]; simp [PyData.eqvAll, eqv_sD, eqv_ssA ss]
theorem eqv_ss (ss : List Stp) : PyData.eqv (.tuple (ss.map sD)) (.tuple (ss.map sD)) = true := by
  have := eqv_ssA ss
  simp [PyData.eqv, this]
/-- what is due: an error, or the stops -/
theorem due_is {n : Nat} {xs : List AD} (g : ∀ x ∈ xs, GA x) : (∃ k w, dueA n xs = some (k, w) ∧ (w = "stop" ∨ w = "side" ∨ w = "spot" ∨ w = "many")) ∨ (dueA n xs = none ∧ xs.length ≤ 8 ∧ (∀ x ∈ xs, wordA n x = none) ∧ ∃ ss : List Stp, xs.map stopA = ss.map sD ∧ ss.length = xs.length ∧ ∀ s ∈ ss, GS n 4100 s) := by
  by_cases h8 : 8 < xs.length
  · exact Or.inl ⟨0, "many", if_pos h8, Or.inr (Or.inr (Or.inr rfl))⟩
  · have e : dueA n xs = firstA n xs 0 := if_neg h8
    cases hf : firstA n xs 0 with
    | some p =>
      obtain ⟨k, w⟩ := p
      obtain ⟨h1, _⟩ := first_in hf
      refine Or.inl ⟨k, w, by rw [e, hf], ?_⟩
      rcases h1 with h | h | h
      · exact Or.inl h
      · exact Or.inr (Or.inl h)
      · exact Or.inr (Or.inr (Or.inl h))
    | none =>
      have hall := first_none hf
      exact Or.inr ⟨by rw [e, hf], by omega, hall, stops_of hall g⟩
theorem word_stop {n : Nat} {s : Stp} {m : Nat} (h : GS n m s) : wordA n (some (sD s)) = none := by
  have h1 : isWh (.int (s.1 : Nat)) (some 0) (some ((n : Int) - 1)) = true := isWh_k h.k
  have h2 : innerD (rD s.2) = true := by
    show (isRat (rD s.2) && (decide (0 < s.2.1) && decide (s.2.1 < s.2.2))) = true
    rw [isRat_rD h.q.lo, decide_eq_true h.q.p, decide_eq_true h.q.l]
    rfl
  exact wordP_ok h1 h2
theorem due_stops {n m : Nat} {ss : List Stp} (hl : ss.length ≤ 8) (h : ∀ s ∈ ss, GS n m s) : dueA n ((ss.map sD).map some) = none ∧ ((ss.map sD).map some).map stopA = ss.map sD := by
  constructor
  · unfold dueA
    rw [if_neg (by rw [List.length_map, List.length_map]; omega)]
    refine first_all fun x hx => ?_
    rw [List.map_map] at hx
    obtain ⟨s, hs, rfl⟩ := List.mem_map.mp hx
    exact word_stop (h s hs)
  · rw [List.map_map, List.map_map]
    rfl
theorem eqv_none : PyData.eqv .none .none = true := by simp [PyData.eqv]
theorem found_shape (cs : List Cp) (p : Cp) : ∀ (m i : Nat), SeqAt.shaped (foundS cs p i m) = true ∧ PyData.eqv (foundS cs p i m) (foundS cs p i m) = true
  | 0, i => ⟨rfl, eqv_none⟩
  | m + 1, i => by
    unfold foundS
    split
    · exact ⟨shaped_sD _, eqv_sD _⟩
    · exact found_shape cs p m (i + 1)
end DL
namespace DL
open PySem PySem.Spec PyProof.Rows L2
def RowD (K : PySem.W.Frag) (t : Th) : Prop := ∃ xs : List AD, t = rowT K xs ∧ xs.length ≤ 10 ∧ ∀ x ∈ xs, GA x
def RowG (K : PySem.W.Frag) (n : Nat) (ts : List Th) : Prop := ts.length ≤ n ∧ ∀ t ∈ ts, RowD K t
theorem rowG_nil {K : PySem.W.Frag} : RowG K 0 [] := ⟨Nat.le_refl _, fun t h => by cases h⟩
theorem rowG_cons {K : PySem.W.Frag} {n : Nat} {t : Th} {ts : List Th} (h : RowD K t) (g : RowG K n ts) : RowG K (n + 1) (t :: ts) :=
  ⟨by rw [List.length_cons]; have := g.1; omega, fun u hu => by
    rcases List.mem_cons.mp hu with e | e
    · rw [e]; exact h
    · exact g.2 u e⟩
theorem no_pick {α : Type} (l : List Nat) : l.filterMap (fun _ => (none : Option α)) = [] := by
  induction l with
  | nil => rfl
  | cons a l ih => rw [List.filterMap_cons]; exact ih
theorem eqv_b (b : Bool) : PyData.eqv (.bool b) (.bool b) = true := by simp [PyData.eqv]
theorem eqv_t0 : PyData.eqv (.tuple []) (.tuple []) = true := by simp [PyData.eqv, PyData.eqvAll]
theorem shaped_t0 : SeqAt.shaped (.tuple []) = true := by simp [SeqAt.shaped, PyData.canLay0, PyData.canLayAll0, PyData.depth, PyData.depthAll]
theorem stops_any {K : PySem.W.Frag} {ss : List Stp} : dat K (.tuple (ss.map sD)) = tupT K (((ss.map sD).map some).map (anyT K)) := by
  rw [dat_tup, List.map_map, List.map_map, List.map_map]
  rfl
end DL
set_option Elab.async false
set_option linter.all false
set_option maxRecDepth 100000
/-! Slices to a bound that is not known; one thing put into a list; == of an own object and a tuple. -/
namespace DL
open PySem PySem.Spec PyProof.Rows L2
theorem cut_toD (l : List PyData) (m : Nat) : cutD l none (some (m : Int)) = l.take m := by
  unfold cutD
  rw [HT.sIx_none, HT.sIx_nat]
  simp only [List.drop_zero, Nat.sub_zero]
  rw [List.take_eq_take_iff]
  omega
theorem cut_fromD (l : List PyData) (n : Nat) : cutD l (some (n : Int)) none = l.drop n := by
  unfold cutD
  rw [HT.sIx_none, HT.sIx_nat]
  by_cases h : n ≤ l.length
  · rw [Nat.min_eq_left h, List.take_of_length_le (by rw [List.length_drop]; omega)]
  · rw [Nat.min_eq_right (by omega), List.drop_of_length_le (Nat.le_refl _), List.drop_of_length_le (by omega), List.take_nil]
section
variable {X : Cx} {Δ : List Sl} {e e2 a b x hi lo : Expr} {pos p1 p2 p3 p4 p5 : Pos}
/-- e[:hi], hi not known -/
theorem px_takeX {ds : List PyData} {Pi : Int → Prop} (he : PD X Δ e (dat X.K (.list ds))) (hu : PX X Δ hi (isI X.K Pi)) : PX X Δ (.Subscript e (.Slice none (some hi) none p2) pos) (fun t => ∃ es, t = dat X.K (.list es) ∧ ∃ i, Pi i ∧ es = cutD ds none (some i)) := by
  obtain ⟨te, pe, fe⟩ := he
  obtain ⟨tu, pu, fu⟩ := hu
  refine ⟨_, pe_slice sl_list pe po_none (po_some pu), fun S0 M0 H0 σ H S hA Q q => ?_⟩
  refine fe S0 M0 H0 σ H S hA _ fun th v H1 hth e1 r => fu S0 M0 H0 σ H1 S (hA.up e1) _ fun th2 v2 H3 hth2 e3 r2 => ?_
  subst hth
  obtain ⟨i, rfl, hi⟩ := hth2
  have := dp_int r2
  subst this
  obtain ⟨a, xs, rfl, hq, hd⟩ := dp_lst r
  refine ⟨i, rfl, a, xs, rfl, ex_l (hide_le.trans e3) hq, fun p hp => q _ _ _ ⟨_, rfl, i, hi, rfl⟩ ((e1.trans e3).trans (Ex.new hp)) (Dp.lst (SqL.of ?_) (dpa_up (hide_ex (e3.trans (Ex.new hp))) (dpa_cut hd none (some i))))⟩
  rw [hide_out (((hA.up e1).up e3).dom.new hp)]
  exact upd_same
/-- e[:n] + [x] + e2[m:] -/
theorem px_insX {ds : List PyData} {n m : Nat} {Dp : PyData → Prop} (he : PD X Δ e (dat X.K (.list ds))) (hn : PD X Δ hi (dat X.K (.int (n : Nat)))) (hx : PX X Δ x (fun t => ∃ d, t = dat X.K d ∧ Dp d)) (he2 : PD X Δ e2 (dat X.K (.list ds))) (hm : PD X Δ lo (dat X.K (.int (m : Nat)))) (hl : ds.length ≤ 40000)
    (hs : starEach [x] X.env = (false, eval x X.env) :: starEach [] X.env := by rfl) :
    PX X Δ (.BinOp (.BinOp (.Subscript e (.Slice none (some hi) none p1) p2) .Add (.List [x] p3) p4) .Add (.Subscript e2 (.Slice (some lo) none none p5) pos) p) (fun t => ∃ es, t = dat X.K (.list es) ∧ ∃ d, Dp d ∧ es = ds.take n ++ [d] ++ ds.drop m) := by
  have h1 : PX X Δ (.BinOp (.Subscript e (.Slice none (some hi) none p1) p2) .Add (.List [x] p3) p4) (fun t => ∃ es, t = dat X.K (.list (ds.take n ++ es)) ∧ ∃ d, Dp d ∧ es = [d]) :=
    px_catY (Ad := fun es => ∃ d, Dp d ∧ es = [d]) (PD.is (pd_slice he pb_none (pb_some hn)) (by rw [cut_toD]))
      (px_lstX (Bt := fun ts => ∃ d, ts = [dat X.K d] ∧ Dp d) (pl_consA hx pl_nil (fun t ts ⟨d, h1, h2⟩ h3 => ⟨d, by rw [h1, h3], h2⟩) hs) (fun ts ⟨d, h1, h2⟩ => ⟨[d], h1, (by show 1 ≤ 1000; decide), d, h2, rfl⟩))
      (fun es ⟨d, _, h⟩ => by rw [h, List.length_take]; show min n ds.length + 1 ≤ 100000; omega)
  refine (px_catX (es := ds.drop m) (Ad := fun es => ∃ d, Dp d ∧ es = ds.take n ++ [d]) (h1.imp fun t ⟨es, h1, d, h2, h3⟩ => ⟨ds.take n ++ es, h1, d, h2, by rw [h3]⟩) (PD.is (pd_slice he2 (pb_some hm) pb_none) (by rw [cut_fromD])) (fun es ⟨d, _, h⟩ => by rw [h, List.length_append, List.length_take, List.length_drop]; show min n ds.length + 1 + (ds.length - m) ≤ 100000; omega)).imp fun t ⟨es, h1, d, h2, h3⟩ => ⟨_, h1, d, h2, by rw [h3]⟩
end
/-! == of an own object and a tuple -/
theorem sqt_obj {X : Cx} {pins : List (Addr × Obj)} {σ : L2.St} {H : Hp} {s : Shared} {a : Addr} {xs : List V} (I : Inv X pins σ H s) (h : SqT X.K H a xs) : ∃ o, s.heap.get? a = some o ∧ o.cls = .type "tuple" := by
  rcases h with (h | ⟨o, h⟩) | h
  · obtain ⟨_, _, _, o, h1, h2, _⟩ := (show ObjOk X.prog X.w H s.heap a (.tup xs) from I.hok a _ h)
    exact ⟨o, h1, h2⟩
  · obtain ⟨_, _, _, _, o, h1, h2, _⟩ := (show ObjOk X.prog X.w H s.heap a (.frz o (.tup xs)) from I.hok a _ h)
    exact ⟨o, h1, h2⟩
  · obtain ⟨o, its, n, e, c, _⟩ := h
    exact ⟨o, I.kIn a o e, c⟩
def rEqT (K : PySem.W.Frag) (C : Addr) (sp : Sp) : R2 := fun v u H Q => ∃ a b dx kvs xs, v = .ref a ∧ u = .ref b ∧ H a = some (.ins C dx kvs) ∧ SqT K H b xs ∧ sp [.ref a, .ref b] H (fun y H' => ∃ r : Bool, y = .bl r ∧ Q (.bl r) H') E0
theorem op_eqT {X : Cx} {C f : Addr} {k : Nat} {fd : FuncData} {ps : List Str} {sp : Sp} (hM : Meth X.K C "__eq__" f) (hb : Binds X.K fd ps []) (F : FnOk X.prog X.w X.K X.mg X.base CX0 k f fd ps sp) (hr : Room k X.A) : OpR X (compareOp .Eq) (rEqT X.K C sp) := by
  intro pins s σ H v x u ux Q I rv rx h
  obtain ⟨a, b, dx, kvs, xs, rfl, rfl, ea, eb, hq⟩ := h
  obtain rfl : ux = Value.ref b := rx
  obtain rfl : u = Value.ref a := rv
  obtain ⟨mA, O, _⟩ := ins_get I.hok ea
  obtain ⟨od, J, _⟩ := O.look
  obtain ⟨ob, h1, h2⟩ := sqt_obj I eb
  obtain ⟨m, fr⟩ := I.fr
  have L : PySem.W.Looks (model X.prog X.w) s.heap (typeOf (.ref b)) (.type "tuple") := by
    have z : PySem.W.Looks (model X.prog X.w) s.heap (typeOf (.ref b)) ob.cls := (PySem.W.Looks.ld h1).andThen .now
    rw [h2] at z
    exact z
  show wpAny (model X.prog X.w) X.A (richCompare .Eq (.ref a) (.ref b)) _ X.xe s
  refine PySem.W.cmp_K (op := .Eq) (tb := .type "tuple") hr.units0 fr I.ok.mod.kin J L (by simp [PySem.W.notFirst]; rfl) hM.at_ hM.fn ?_
  have hq' : sp ([V.ref a, V.ref b] ++ []) H (fun y H' => ∃ b : Bool, y = .bl b ∧ Q (.bl b) H') E0 := by rw [List.append_nil]; exact hq
  refine wpAny_mono (run_fn (E := E0) F hr hb .nil pass0 I (.cons (show RelV (.ref a) (.ref a) from rfl) (.cons (show RelV (.ref b) (.ref b) from rfl) .nil)) hq') (fun r s' hs => ?_) fun _ _ z => z
  obtain ⟨y, H', I', ry, b, rfl, q⟩ := hs
  obtain rfl : r = Value.bool b := ry
  exact ⟨.bl b, H', I', rfl, q⟩
section
variable {X : Cx} {Δ : List Sl} {a b : Expr} {pos : Pos} {C : Addr} {fs : List (Str × Th)} {k : Nat}
theorem ct_eqT {R : Cn} {r : Bool} {ds : List PyData} (M : Mth X.prog X.w X.K X.mg X.base C "__eq__" k R) (hr : Room k X.A) (h : R [objT C fs, dat X.K (.tuple ds)] (· = dat X.K (.bool r))) : CmpT X .Eq (objT C fs) (dat X.K (.tuple ds)) r := by
  obtain ⟨f, fd, ps, hM, hB, F⟩ := M.ex
  refine ⟨_, op_eqT hM hB F hr, fun S H v w dom rx ry Q q => ?_⟩
  obtain ⟨p, dx, kvs, rfl, h2, h3, h4⟩ := id rx
  obtain ⟨p', xs, rfl, hq, hd⟩ := dp_tup ry
  refine ⟨p, p', dx, kvs, xs, rfl, rfl, hide_le _ _ h2, ex_t hide_le hq, S, [objT C fs, dat X.K (.tuple ds)], _, dom, ⟨rx, ry, trivial⟩, h, fun t' v' H' ht e' r' => ?_⟩
  subst ht
  have r2 : Dp X.K (hide S H') v' (.bool r) := r'
  have := dp_bool r2
  subst this
  exact ⟨r, rfl, q H' e'⟩
theorem pd_isC {p : Pos} {d : PyData} {r : Bool} (hk : PySem.W.kitOne X.K (.type (tyD d)) (.ref C) = some r) (hm : X.mg "isinstance" = none) (ha : PD X Δ a (dat X.K d)) (hb : PD X Δ b (clsT (.ref C))) (hg : Gl X "isinstance" := by rfl)
    (he1 : starEach [b] X.env = (false, eval b X.env) :: starEach [] X.env := by rfl) (he : starEach [a, b] X.env = (false, eval a X.env) :: starEach [b] X.env := by rfl) (hpl : (backTo pos (starEach [b] X.env)).any (·.1) = false := by rfl) :
    PD X Δ (.Call (.Name "isinstance" p) [a, b] [] pos) (dat X.K (.bool r)) :=
  px_blt call_isi hm (pl_cons ha (pl_cons hb pl_nil he1) he) (fun S H ts vs _ hB r' Q q => by
    subst hB
    obtain ⟨v, w, rfl, r0, r2⟩ := all2 r'
    have r3 : ClsV w (.ref C) := r2
    exact ⟨_, w, _, _, r, rfl, r3, dp_ty (dp_up hide_le r0), hk, q _ _ H rfl (Ex.refl H) (Dp.bl r)⟩) (by decide +kernel) hg (by decide) (by decide) he hpl
end
end DL
set_option Elab.async false
set_option linter.all false
set_option maxRecDepth 100000
set_option maxHeartbeats 4000000
namespace K03
open PySem PySem.Spec PyProof.Rows L2 DL
section
variable {P : Program} {w : World} {K : PySem.W.Frag} {mg : Str → Option Value} {base : Heap} {f : Addr} {fd : FuncData}

def thingsD : List PyData := [.none, .int 3, .tuple [.int 1, .int 2], .tuple [.tuple [.int 1, .int 1]], .tuple [.tuple [.int 2, .int 4], .tuple [.int 0, .int 1]], .tuple [.tuple [.int 1, .int 1], .tuple [.int 0, .int 1], .tuple [.int 0, .int 1]], .str "ab", .tuple [.list [.int 1, .int 1], .tuple [.int 0, .int 1]], .tuple [.tuple [.bool true, .int 1], .tuple [.int 0, .int 1]], .tuple [.tuple [.int 1, .int (-1)], .tuple [.int 0, .int 1]]]
theorem things_no : ∀ d ∈ thingsD, isRow d 2 = false := by
  have h : thingsD.all (fun d => !isRow d 2) = true := by decide +kernel
  intro d hd
  simpa using List.all_eq_true.mp h d hd
theorem things_sz : ∀ d ∈ thingsD, (seqD d).length ≤ 40000 := by
  have h : thingsD.all (fun d => decide ((seqD d).length ≤ 40000)) = true := by decide +kernel
  intro d hd
  simpa using List.all_eq_true.mp h d hd
/-- an entry of a row that may be spoilt -/
def Ent (N : Nat) (d : PyData) : Prop := (∃ c : Cp, d = cD c ∧ Cl c ∧ CSm N c) ∨ d ∈ thingsD
theorem ent_up {N M : Nat} {d : PyData} (h : Ent N d) (l : N ≤ M) : Ent M d := by
  rcases h with ⟨c, e, hc, hs⟩ | h
  · exact Or.inl ⟨c, e, hc, hs.x.up l, hs.y.up l⟩
  · exact Or.inr h
theorem ent_row {N : Nat} {d : PyData} (h : Ent N d) (hr : isRow d 2 = true) : ∃ c : Cp, d = cD c ∧ Cl c ∧ CSm N c := by
  rcases h with h | h
  · exact h
  · rw [things_no d h] at hr; cases hr
structure RowE (N L : Nat) (ds : List PyData) : Prop where
  len : ds.length ≤ L
  ent : ∀ d ∈ ds, Ent N d
theorem row_ins {M L n m : Nat} {ds : List PyData} {d : PyData} (hl : ds.length + 1 ≤ L) (hu : ∀ d ∈ ds, Ent M d) (hd : Ent M d) (hnm : n ≤ m) : RowE M L (ds.take n ++ [d] ++ ds.drop m) := by
  refine ⟨?_, fun z hz => ?_⟩
  · rw [List.length_append, List.length_append, List.length_take, List.length_drop]
    show min n ds.length + 1 + (ds.length - m) ≤ L
    omega
  · rcases List.mem_append.mp hz with q | q
    · rcases List.mem_append.mp q with q | q
      · exact hu z (List.mem_of_mem_take q)
      · rw [List.mem_singleton.mp q]; exact hd
    · exact hu z (List.mem_of_mem_drop q)
def RLSpo (K : PySem.W.Frag) : Cn := fun ts A => ∃ (ds : List PyData) (N L : Nat), ts = [handT, dat K (.list ds)] ∧ RowE N L ds ∧ 8 ≤ L ∧ L ≤ 16 ∧ 40 ≤ N ∧ N ≤ 130 ∧ A = (fun t => ∃ es, t = dat K (.list es) ∧ RowE (3 * N + 5) (2 * L) es)
theorem low2 {q : Q} (h : Low q) : 0 < q.2 := h.2
theorem ok__law_spoilt (F : Fun K "_law_spoilt" "_law_spoilt" s__law_spoilt f fd) (T : Txt K mg) (G__law_draw : Gd P w K mg base "_law_draw" 2 [] (RDraw K)) (G__law_ratio : Gd P w K mg base "_law_ratio" 2 [] (RLow K)) (G__law_add : Gd P w K mg base "_law_add" 4 [] (R2C K addC)) (G__law_scaled : Gd P w K mg base "_law_scaled" 4 [] (RSc K)) (G__law_less : Gd P w K mg base "_law_less" 4 [] (R2C K lessC)) (G__law_couple : Gd P w K mg base "_law_couple" 2 [] (RPred0 K (fun d => isRow d 2))) : FnOk P w K mg base CX0 5 f fd ["_law_hand_here", "_law_corners"] (spT (RLSpo K)) := by
  refine fn_mk F sc__law_spoilt (fun ts A ⟨_, _, _, e, _⟩ => by rw [e]; rfl) fun cdv Ar outer s H E hr ts B hR => ?_
  obtain ⟨ds, N, L, rfl, hrow, hL8, hL16, hN40, hN130, rfl⟩ := hR
  have hlen := hrow.len
  have up : ∀ d ∈ ds, Ent (3 * N + 5) d := fun d h => ent_up (hrow.ent d h) (by omega)
  have same : RowE (3 * N + 5) (2 * L) ds := ⟨by omega, up⟩
  refine sd_asgX 2 (px_draw (i := 0) G__law_draw (hr.mono (by decide)) rfl (pi_of px_int) (fun m hm => by subst hm; decide)) (fun t ⟨kd, ht, _⟩ => ?_) sc__law_spoilt.nd
  subst ht
  have main : ∀ at' : Nat, (ds = [] ∨ at' < ds.length) → SD (cxOf CX0 P w K mg base ["_law_hand_here", "_law_corners", "_law_kind", "_law_at", "_law_share", "_law_put", "_law_step", "_law_things", "_law_k"] "_law_spoilt" (defScope s__law_spoilt) f cdv Ar outer s H E).nox (fun _ _ _ _ => False) ((defBody s__law_spoilt).drop 2) (retOf K fun t => ∃ es, t = dat K (.list es) ∧ RowE (3 * N + 5) (2 * L) es) [.th handT, .th (dat K (.list ds)), .th (dat K (.int kd)), .th (dat K (.int (at' : Nat))), .no, .no, .no, .no, .no] := fun at' hat => by
    have one : ∀ {i j : Int} {c k : Int}, i = c → (∃ m, m = k ∧ 0 ≤ j ∧ j < m) → c ≤ i + j ∧ i + j < c + k := fun h ⟨m, hm, h0, h1⟩ => by omega
    have nil_of : ∀ {b : Bool}, (b && !ds.isEmpty) = true → at' < ds.length := fun {b} h => by
      rcases hat with h0 | h0
      · rw [h0, Bool.and_eq_true] at h; exact absurd h.2 (by decide)
      · exact h0
    have got : ∀ h : at' < ds.length, ds[at']? = some ds[at'] := fun h => List.getElem?_eq_getElem h
    have r8 : ∀ s4 s5 s6 s7 s8, SD (cxOf CX0 P w K mg base ["_law_hand_here", "_law_corners", "_law_kind", "_law_at", "_law_share", "_law_put", "_law_step", "_law_things", "_law_k"] "_law_spoilt" (defScope s__law_spoilt) f cdv Ar outer s H E).nox (fun _ _ _ _ => False) ((defBody s__law_spoilt).drop 8) (retOf K fun t => ∃ es, t = dat K (.list es) ∧ RowE (3 * N + 5) (2 * L) es) [.th handT, .th (dat K (.list ds)), .th (dat K (.int kd)), .th (dat K (.int (at' : Nat))), s4, s5, s6, s7, s8] := fun s4 s5 s6 s7 s8 => by
      refine sd_if (pb_cmp (ct_eq hr.units rfl rfl) (px_var 2 rfl) px_int (nomark _)) (fun _ => sd_retX (px_takeX (px_var 1 rfl) (px_draw (i := 0) G__law_draw (hr.mono (by decide)) rfl (pi_of px_int) (fun m hm => by subst hm; decide))) (fun t ⟨es, h1, i, ⟨m, hm, h0, h2⟩, h3⟩ => ⟨es, h1, ?_⟩)) (fun _ => sd_nil ?_)
      · obtain ⟨j, rfl⟩ : ∃ j : Nat, i = (j : Int) := ⟨i.toNat, by omega⟩
        rw [h3, cut_toD]
        exact ⟨by rw [List.length_take]; omega, fun d hd => up d (List.mem_of_mem_take hd)⟩
      refine sd_if (PBW.pb (pwa (pb_cmp (ct_eq hr.units rfl rfl) (px_var 2 rfl) px_int (nomark _)) (pw1a (pb_list (px_var 1 rfl) (Or.inl rfl))))) (fun h => ?_) (fun _ => sd_nil ?_)
      · have ha := nil_of h
        refine sd_retX (px_catY (Ad := fun es => es.length ≤ 6 ∧ ∀ d ∈ es, d ∈ ds) (px_var 1 rfl) ((px_lcR 8 (Nn := fun n => 0 ≤ n ∧ n < 6) (L := 6) (fun _ d => d ∈ ds) T.z_range ((px_draw (i := 0) G__law_draw (hr.mono (by decide)) rfl (pi_of px_int) (fun m hm => by subst hm; decide)).imp fun t ⟨i, h1, m, hm, h2, h3⟩ => ⟨i, h1, by omega⟩) (fun n h => by omega) (by decide) (fun k hk _ _ _ _ _ => (pd_ix (D := .list ds) (d := ds[at']) (px_var 1 rfl) (px_var 3 rfl) (atI_nat (got ha))).imp fun t ht => ⟨_, ht, List.getElem_mem ha⟩) sc__law_spoilt.nd (blkOk_by (own := [("_law_k", 8)]) (N := ["_law_hand_here", "_law_corners", "_law_kind", "_law_at", "_law_share", "_law_put", "_law_step", "_law_things", "_law_k"]) (by rfl)) (fun _ _ _ _ _ => pg_name (i := 8) sc__law_spoilt.nd rfl (Or.inl rfl))).imp fun t ⟨es, n, h1, h2, h3, h4⟩ => ⟨es, h1, by omega, fun d hd => ?_⟩) (fun es h => by have := h.1; omega)) (fun t ⟨es, h1, h2, h3⟩ => ⟨ds ++ es, h1, by rw [List.length_append]; omega, fun d hd => ?_⟩)
        · obtain ⟨k, hk⟩ := List.getElem?_of_mem hd
          exact h4 k d hk
        · rcases List.mem_append.mp hd with q | q
          · exact up d q
          · exact up d (h3 d q)
      refine sd_if (pb_cmp (ct_eq hr.units rfl rfl) (px_var 2 rfl) px_int (nomark _)) (fun _ => ?_) (fun _ => sd_nil (sd_retX (px_var 1 rfl) (fun t ht => ⟨ds, ht, same⟩)))
      refine sd_retX (px_lcR 8 (Nn := fun n => 3 ≤ n ∧ n < 9) (L := 9) (fun _ d => ∃ c : Cp, d = cD c ∧ Cl c ∧ CSm 3 c) T.z_range ((px_opI0 op_add (R := fun z => 3 ≤ z ∧ z < 9) (pi_of px_int) (px_draw (i := 0) G__law_draw (hr.mono (by decide)) rfl (pi_of px_int) (fun m hm => by subst hm; decide)) (fun i j hi hj => by have := one (c := 3) (k := 6) hi hj; exact ⟨this.1, by omega⟩))) (fun n h => by omega) (by decide) (fun k hk _ _ _ _ _ => ((px_tup2 (Ad := fun d => ∃ q, d = rD q ∧ Sm 3 q ∧ Low q) (Bd := fun d => ∃ q, d = rD q ∧ Sm 3 q ∧ Low q) ((px_ratio (n := 3) G__law_ratio (hr.mono (by decide)) (by decide) ((px_draw (i := 0) G__law_draw (hr.mono (by decide)) rfl (pi_of px_int) (fun m hm => by subst hm; decide)).imp fun t ⟨i, h1, m, hm, h2, h3⟩ => ⟨i, h1, by show i.natAbs < 8; omega⟩) (px_int.imp fun t h => ⟨_, h, by decide⟩)).imp fun t ⟨q, h1, h2, h3⟩ => ⟨_, h1, q, rfl, h2, h3⟩) ((px_ratio (n := 3) G__law_ratio (hr.mono (by decide)) (by decide) ((px_draw (i := 0) G__law_draw (hr.mono (by decide)) rfl (pi_of px_int) (fun m hm => by subst hm; decide)).imp fun t ⟨i, h1, m, hm, h2, h3⟩ => ⟨i, h1, by show i.natAbs < 8; omega⟩) (px_int.imp fun t h => ⟨_, h, by decide⟩)).imp fun t ⟨q, h1, h2, h3⟩ => ⟨_, h1, q, rfl, h2, h3⟩)).imp fun t ⟨d, d', ht, ⟨q, h1, h2, h3⟩, ⟨q', h1', h2', h3'⟩⟩ => ⟨_, ht, (q, q'), by rw [h1, h1']; rfl, ⟨h3, h3'⟩, ⟨h2, h2'⟩⟩)) sc__law_spoilt.nd (blkOk_by (own := [("_law_k", 8)]) (N := ["_law_hand_here", "_law_corners", "_law_kind", "_law_at", "_law_share", "_law_put", "_law_step", "_law_things", "_law_k"]) (by rfl)) (fun _ _ _ _ _ => pg_name (i := 8) sc__law_spoilt.nd rfl (Or.inl rfl))) (fun t ⟨es, n, h1, h2, h3, h4⟩ => ⟨es, h1, by omega, fun d hd => ?_⟩)
      obtain ⟨k, hk⟩ := List.getElem?_of_mem hd
      obtain ⟨c, e, hc, hs⟩ := h4 k d hk
      exact Or.inl ⟨c, e, hc, hs.x.up (by omega), hs.y.up (by omega)⟩
    have r4 : ∀ s4 s5 s6 s7 s8, SD (cxOf CX0 P w K mg base ["_law_hand_here", "_law_corners", "_law_kind", "_law_at", "_law_share", "_law_put", "_law_step", "_law_things", "_law_k"] "_law_spoilt" (defScope s__law_spoilt) f cdv Ar outer s H E).nox (fun _ _ _ _ => False) ((defBody s__law_spoilt).drop 4) (retOf K fun t => ∃ es, t = dat K (.list es) ∧ RowE (3 * N + 5) (2 * L) es) [.th handT, .th (dat K (.list ds)), .th (dat K (.int kd)), .th (dat K (.int (at' : Nat))), s4, s5, s6, s7, s8] := fun s4 s5 s6 s7 s8 => by
      refine sd_if (PBW.pb (pwa (pb_cmp (ct_eq hr.units rfl rfl) (px_var 2 rfl) px_int (nomark _)) (pw1a (pb_list (px_var 1 rfl) (Or.inl rfl))))) (fun h => ?_) (fun _ => sd_nil ?_)
      · have ha := nil_of h
        exact sd_retX (px_insX (ds := ds) (n := at') (m := at') (Dp := fun d => d ∈ ds) (px_var 1 rfl) (px_var 3 rfl) ((pd_ix (D := .list ds) (d := ds[at']) (px_var 1 rfl) (px_var 3 rfl) (atI_nat (got ha))).imp fun t ht => ⟨_, ht, List.getElem_mem ha⟩) (px_var 1 rfl) (px_var 3 rfl) (by omega)) (fun t ⟨es, h1, d, h2, h3⟩ => ⟨es, h1, by rw [h3]; exact row_ins (by omega) up (up d h2) (Nat.le_refl _)⟩)
      refine sd_if (pb_cmp (ct_eq hr.units rfl rfl) (px_var 2 rfl) px_int (nomark _)) (fun _ => sd_retX (pd_catL (px_var 1 rfl) (px_var 1 rfl) (by omega)) (fun t ht => ⟨ds ++ ds, ht, by rw [List.length_append]; omega, fun d hd => by rcases List.mem_append.mp hd with q | q <;> exact up d q⟩)) (fun _ => sd_nil ?_)
      refine sd_if (PBW.pb (pwa (pb_cmp (ct_eq hr.units rfl rfl) (px_var 2 rfl) px_int (nomark _)) (pw1a (pb_list (px_var 1 rfl) (Or.inl rfl))))) (fun h => ?_) (fun _ => sd_nil ?_)
      · have ha := nil_of h
        refine sd_asgX 6 (px_opI0 op_add (R := fun z => 2 ≤ z ∧ z < 4) (pi_of px_int) (px_draw (i := 0) G__law_draw (hr.mono (by decide)) rfl (pi_of px_int) (fun m hm => by subst hm; decide)) (fun i j hi hj => by have := one (c := 2) (k := 2) hi hj; exact ⟨this.1, by omega⟩)) (fun t ⟨st, ht, hs0, hs1⟩ => ?_) sc__law_spoilt.nd
        subst ht
        refine sd_retX (px_lcR 8 (Nn := fun n => n = ((ds.length : Nat) : Int)) (L := ds.length) (fun _ d => d ∈ ds) T.z_range (pi_of (pd_len (n := ds.length) T.z_len (px_var 1 rfl) rfl)) (fun n h => by omega) (by omega) (fun k hk _ _ _ _ _ => ?_) sc__law_spoilt.nd (blkOk_by (own := [("_law_k", 8)]) (N := ["_law_hand_here", "_law_corners", "_law_kind", "_law_at", "_law_share", "_law_put", "_law_step", "_law_things", "_law_k"]) (by rfl)) (fun _ _ _ _ _ => pg_name (i := 8) sc__law_spoilt.nd rfl (Or.inl rfl))) (fun t ⟨es, n, h1, h2, h3, h4⟩ => ⟨es, h1, by omega, fun d hd => ?_⟩)
        · obtain ⟨st', rfl⟩ : ∃ j : Nat, st = (j : Int) := ⟨st.toNat, by omega⟩
          have hlt : k * st' % ds.length < ds.length := Nat.mod_lt _ (by omega)
          have e : ((k : Int) * (st' : Int)).fmod ((ds.length : Nat) : Int) = ((k * st' % ds.length : Nat) : Int) := by
            rw [Int.fmod_eq_emod_of_nonneg _ (by omega)]
            push_cast
            rfl
          exact (pd_ix (D := .list ds) (d := ds[k * st' % ds.length]) (px_var 1 rfl) (PD.is (pd_mod (pd_int T.z_int (pd_mul (px_var 8 rfl) (px_var 6 rfl) (okM (n := 30) (m := 30) (by omega) (by omega) (by decide)))) (pd_len (n := ds.length) T.z_len (px_var 1 rfl) rfl) (by omega)) (by rw [e])) (atI_nat (List.getElem?_eq_getElem hlt))).imp fun t ht => ⟨_, ht, List.getElem_mem hlt⟩
        · obtain ⟨k, hk⟩ := List.getElem?_of_mem hd
          exact up d (h4 k d hk)
      refine sd_if (PBW.pb (pwa (pb_cmp (ct_eq hr.units rfl rfl) (px_var 2 rfl) px_int (nomark _)) (pw1a (pb_list (px_var 1 rfl) (Or.inl rfl))))) (fun h => ?_) (fun _ => sd_nil (r8 _ _ _ _ _))
      have ha := nil_of h
      refine sd_asg 7 (pd_lst (ds := thingsD) (pl_cons px_none (pl_cons px_int (pl_cons (pd_tup (ds := [.int 1, .int 2]) (pl_cons px_int (pl_cons px_int pl_nil))) (pl_cons (pd_tup (ds := [.tuple [.int 1, .int 1]]) (pl_cons (pd_tup (ds := [.int 1, .int 1]) (pl_cons px_int (pl_cons px_int pl_nil))) pl_nil)) (pl_cons (pd_tup (ds := [.tuple [.int 2, .int 4], .tuple [.int 0, .int 1]]) (pl_cons (pd_tup (ds := [.int 2, .int 4]) (pl_cons px_int (pl_cons px_int pl_nil))) (pl_cons (pd_tup (ds := [.int 0, .int 1]) (pl_cons px_int (pl_cons px_int pl_nil))) pl_nil))) (pl_cons (pd_tup (ds := [.tuple [.int 1, .int 1], .tuple [.int 0, .int 1], .tuple [.int 0, .int 1]]) (pl_cons (pd_tup (ds := [.int 1, .int 1]) (pl_cons px_int (pl_cons px_int pl_nil))) (pl_cons (pd_tup (ds := [.int 0, .int 1]) (pl_cons px_int (pl_cons px_int pl_nil))) (pl_cons (pd_tup (ds := [.int 0, .int 1]) (pl_cons px_int (pl_cons px_int pl_nil))) pl_nil)))) (pl_cons px_str (pl_cons (pd_tup (ds := [.list [.int 1, .int 1], .tuple [.int 0, .int 1]]) (pl_cons (pd_lst (ds := [.int 1, .int 1]) (pl_cons px_int (pl_cons px_int pl_nil))) (pl_cons (pd_tup (ds := [.int 0, .int 1]) (pl_cons px_int (pl_cons px_int pl_nil))) pl_nil))) (pl_cons (pd_tup (ds := [.tuple [.bool true, .int 1], .tuple [.int 0, .int 1]]) (pl_cons (pd_tup (ds := [.bool true, .int 1]) (pl_cons px_bool (pl_cons px_int pl_nil))) (pl_cons (pd_tup (ds := [.int 0, .int 1]) (pl_cons px_int (pl_cons px_int pl_nil))) pl_nil))) (pl_cons (pd_tup (ds := [.tuple [.int 1, .int (-1)], .tuple [.int 0, .int 1]]) (pl_cons (pd_tup (ds := [.int 1, .int (-1)]) (pl_cons px_int (pl_cons (pd_neg px_int) pl_nil))) (pl_cons (pd_tup (ds := [.int 0, .int 1]) (pl_cons px_int (pl_cons px_int pl_nil))) pl_nil))) pl_nil))))))))))) ?_ sc__law_spoilt.nd
      refine sd_retX (px_insX (ds := ds) (n := at') (m := at' + 1) (Dp := fun d => d ∈ thingsD) (px_var 1 rfl) (px_var 3 rfl) (px_ixX (D := .list thingsD) (C := fun t => ∃ d, t = dat K d ∧ d ∈ thingsD) (px_var 7 rfl) (px_draw (i := 0) G__law_draw (hr.mono (by decide)) rfl (pi_of px_int) (fun m hm => by subst hm; decide)) (fun i ⟨m, hm, h0, h1⟩ => ?_)) (px_var 1 rfl) (PD.is (pd_add (px_var 3 rfl) px_int) rfl) (by omega)) (fun t ⟨es, h1, d, h2, h3⟩ => ⟨es, h1, by rw [h3]; exact row_ins (by omega) up (Or.inr h2) (by omega)⟩)
      obtain ⟨j, rfl⟩ : ∃ j : Nat, i = (j : Int) := ⟨i.toNat, by omega⟩
      have hj : j < thingsD.length := by show j < 10; omega
      exact ⟨thingsD[j], atI_nat (List.getElem?_eq_getElem hj), _, rfl, List.getElem_mem hj⟩
    refine sd_if (pb_cmp (ct_eq hr.units rfl rfl) (px_var 2 rfl) px_int (nomark _)) (fun _ => sd_retX (pd_rev (px_var 1 rfl)) (fun t ht => ⟨ds.reverse, ht, by rw [List.length_reverse]; omega, fun d hd => up d (List.mem_reverse.mp hd)⟩)) (fun _ => sd_nil ?_)
    by_cases hk : kd = 1
    · subst hk
      by_cases hl : 1 < ds.length
      · have ha : at' < ds.length := by
          rcases hat with h0 | h0
          · rw [h0] at hl; exact absurd hl (by decide)
          · exact h0
        have hp : HU.pv ds.length at' < ds.length := HU.pv_lt (by omega) at'
        have gp : ds[HU.pv ds.length at']? = some ds[HU.pv ds.length at'] := List.getElem?_eq_getElem hp
        refine sd_if (k := (isRow ds[at'] 2 && isRow ds[HU.pv ds.length at'] 2)) (PB.is (PBW.pb (pwa (PB.is (k' := true) (pb_cmp (ct_eq hr.units rfl rfl) (px_var 2 rfl) px_int (nomark _)) rfl) (pwa (PB.is (k' := true) (pb_cmp ct_gt (pd_len (n := ds.length) T.z_len (px_var 1 rfl) rfl) px_int (nomark _)) (decide_eq_true (by omega))) (pwa (pb_val (pd_call G__law_couple (hr.mono (by decide)) (pl_cons (pd_ix (D := .list ds) (d := ds[at']) (px_var 1 rfl) (px_var 3 rfl) (atI_nat (got ha))) pl_nil) ⟨_, rfl, rfl⟩)) (pw1a (pb_val (pd_call G__law_couple (hr.mono (by decide)) (pl_cons (pd_ix (D := .list ds) (d := ds[HU.pv ds.length at']) (px_var 1 rfl) (pd_sub (px_var 3 rfl) px_int) (ix_prev (l := ds) (i := at') ha gp)) pl_nil) ⟨_, rfl, rfl⟩))))))) (by rw [Bool.true_and, Bool.true_and])) (fun h => ?_) (fun _ => sd_nil (r4 _ _ _ _ _))
        rw [Bool.and_eq_true] at h
        obtain ⟨ca, ea, hca, hsa⟩ := ent_row (hrow.ent _ (List.getElem_mem ha)) h.1
        obtain ⟨cb, eb, hcb, hsb⟩ := ent_row (hrow.ent _ (List.getElem_mem hp)) h.2
        refine sd_asgX 4 (px_ratio (n := 3) G__law_ratio (hr.mono (by decide)) (by decide) (px_opI0 op_add (R := fun z => z.natAbs < 2 ^ 3) (pi_of px_int) (px_draw (i := 0) G__law_draw (hr.mono (by decide)) rfl (pi_of px_int) (fun m hm => by subst hm; decide)) (fun i j hi hj => by have := one (c := 1) (k := 3) hi hj; show (i + j).natAbs < 8; omega)) (px_int.imp fun t h => ⟨_, h, by decide⟩)) (fun t ⟨q, ht, hq, hql⟩ => ?_) sc__law_spoilt.nd
        subst ht
        have ga : ds[at']? = some (cD ca) := by rw [got ha, ea]
        have gb : ds[HU.pv ds.length at']? = some (cD cb) := by rw [gp, eb]
        have hput : CSm (3 * N + 5) (addC cb (scC (lessC ca cb) q)) := by
          have h1 := csm_add hsb (csm_sc (csm_less hsa hsb) hq)
          exact ⟨h1.x.up (by omega), h1.y.up (by omega)⟩
        refine sd_asg 5 (t := dat K (cD (addC cb (scC (lessC ca cb) q)))) (pd_call G__law_add (hr.mono (by decide)) (pl_cons (pd_ix (D := .list ds) (d := cD cb) (px_var 1 rfl) (pd_sub (px_var 3 rfl) px_int) (ix_prev (l := ds) (i := at') ha gb)) (pl_cons (pd_call G__law_scaled (hr.mono (by decide)) (pl_cons (pd_call G__law_less (hr.mono (by decide)) (pl_cons (pd_ix (D := .list ds) (d := cD ca) (px_var 1 rfl) (px_var 3 rfl) (atI_nat ga)) (pl_cons (pd_ix (D := .list ds) (d := cD cb) (px_var 1 rfl) (pd_sub (px_var 3 rfl) px_int) (ix_prev (l := ds) (i := at') ha gb)) pl_nil)) ⟨ca, cb, N, N, rfl, hsa, hsb, by omega, rfl⟩) (pl_cons (px_var 4 rfl) pl_nil)) ⟨lessC ca cb, q, N + N + 1, 3, rfl, csm_less hsa hsb, hq, by omega, rfl⟩) pl_nil)) ⟨cb, scC (lessC ca cb) q, N, N + N + 1 + 3, rfl, hsb, csm_sc (csm_less hsa hsb) hq, by omega, rfl⟩) ?_ sc__law_spoilt.nd
        exact sd_retX (px_insX (ds := ds) (n := at') (m := at') (Dp := fun d => d = cD (addC cb (scC (lessC ca cb) q))) (px_var 1 rfl) (px_var 3 rfl) ((px_var 5 rfl).imp fun t ht => ⟨_, ht, rfl⟩) (px_var 1 rfl) (px_var 3 rfl) (by omega)) (fun t ⟨es, h1, d, h2, h3⟩ => ⟨es, h1, by rw [h3, h2]; exact row_ins (by omega) up (Or.inl ⟨_, rfl, cl_add hcb (cl_scP (cl_less hca hcb) hql.2), hput⟩) (Nat.le_refl _)⟩)
      · exact sd_skip (PBW.pb (pwa (k := true) (PB.is (k' := true) (pb_cmp (ct_eq hr.units rfl rfl) (px_var 2 rfl) px_int (nomark _)) rfl) (pwa_f (PB.is (k' := false) (pb_cmp ct_gt (pd_len (n := ds.length) T.z_len (px_var 1 rfl) rfl) px_int (nomark _)) (decide_eq_false (by omega))) never_w))) (r4 _ _ _ _ _)
    · exact sd_skip (PBW.pb (pwa_f (PB.is (k' := false) (pb_cmp (ct_eq hr.units rfl rfl) (px_var 2 rfl) px_int (nomark _)) (by show (kd == 1) = false; simpa using hk)) never_w)) (r4 _ _ _ _ _)
  by_cases h0 : ds.length = 0
  · exact sd_asg 3 (px_ifF (PB.is (k' := false) (pb_cmp ct_gt (pd_len (n := ds.length) T.z_len (px_var 1 rfl) rfl) px_int (nomark _)) (decide_eq_false (by omega))) px_int) (main 0 (Or.inl (List.length_eq_zero_iff.mp h0))) sc__law_spoilt.nd
  · refine sd_asgX 3 (px_ifT (PB.is (k' := true) (pb_cmp ct_gt (pd_len (n := ds.length) T.z_len (px_var 1 rfl) rfl) px_int (nomark _)) (decide_eq_true (by omega))) (px_draw (i := 0) G__law_draw (hr.mono (by decide)) rfl (pi_of (pd_len (n := ds.length) T.z_len (px_var 1 rfl) rfl)) (fun m hm => by subst hm; omega))) (fun t ⟨a', ht, m, hm, h1, h2⟩ => ?_) sc__law_spoilt.nd
    subst ht
    subst hm
    obtain ⟨j, rfl⟩ : ∃ j : Nat, a' = (j : Int) := ⟨a'.toNat, by omega⟩
    exact main j (Or.inr (by omega))

end
end K03
set_option Elab.async false
set_option linter.all false
set_option maxRecDepth 100000
/-! Rows of corners in which the check finds no fault: begun elsewhere they are so too, and not the same. -/
namespace DL
open PySem PySem.Spec PyProof.Rows L2
structure Vd (cs : List Cp) : Prop where
  ro : RoN 400 cs
  tn : ∀ i, i < cs.length → badT cs i = false
  rd : roundsN (sidesC cs) = 1
def rot (cs : List Cp) : List Cp := cs.drop 1 ++ cs.take 1
theorem rot_len {cs : List Cp} (h : 1 ≤ cs.length) : (rot cs).length = cs.length := by
  unfold rot
  rw [List.length_append, List.length_drop, List.length_take]
  omega
theorem rot_mem {cs : List Cp} {c : Cp} (h : c ∈ rot cs) : c ∈ cs := by
  rcases List.mem_append.mp h with q | q
  · exact List.mem_of_mem_drop q
  · exact List.mem_of_mem_take q
theorem rot_at {cs : List Cp} (h : 1 < cs.length) {i : Nat} (hi : i < cs.length) : at_ (rot cs) i = at_ cs (HU.nx cs.length i) := at_rot (k := 1) h hi
theorem pv_nx3 {n k : Nat} (hn : 3 ≤ n) (hk : k < n) : HU.pv n (HU.nx n k) = k := by
  unfold HU.pv HU.nx
  by_cases e : k + 1 = n
  · rw [e, Nat.mod_self, Nat.zero_add, Nat.mod_eq_of_lt (by omega)]; omega
  · rw [Nat.mod_eq_of_lt (a := k + 1) (by omega), show k + 1 + n - 1 = k + n by omega, Nat.add_mod_right, Nat.mod_eq_of_lt hk]
theorem rot_side {cs : List Cp} (h : 3 ≤ cs.length) {i : Nat} (hi : i < cs.length) : sideC (rot cs) i = sideC cs (HU.nx cs.length i) := by
  have hn := HU.nx_lt (by omega : 0 < cs.length) i
  unfold sideC
  rw [rot_len (by omega), rot_at (by omega) hi, rot_at (by omega) hn]
theorem at_sides {cs : List Cp} {i : Nat} (hi : i < cs.length) : at_ (sidesC cs) i = sideC cs i := by
  unfold at_ sidesC
  rw [List.getD_eq_getElem?_getD, List.getElem?_map, List.getElem?_range hi]
  rfl
theorem sides_lenV (cs : List Cp) : (sidesC cs).length = cs.length := by
  unfold sidesC
  rw [List.length_map, List.length_range]
def pk (cs : List Cp) (k : Nat) : Bool := decide (0 < signI (sideC cs k).2.1) && !decide (0 < signI (sideC cs (HU.pv cs.length k)).2.1)
theorem rounds_cnt {cs : List Cp} (h : 0 < cs.length) : roundsN (sidesC cs) = (List.range cs.length).countP (pk cs) := by
  unfold roundsN
  rw [List.length_filterMap_eq_countP, sides_lenV]
  refine List.countP_congr fun k hk => ?_
  have hk' : k < cs.length := List.mem_range.mp hk
  have hp := HU.pv_lt h k
  unfold roundPick upB pk
  rw [sides_lenV, at_sides hk', at_sides hp]
  cases (decide (0 < signI (sideC cs k).2.1) && !decide (0 < signI (sideC cs (HU.pv cs.length k)).2.1)) <;> simp
theorem nx_perm {n : Nat} (h3 : 3 ≤ n) (h8 : n ≤ 8) : ((List.range n).map (HU.nx n)).Perm (List.range n) := by
  have : n = 3 ∨ n = 4 ∨ n = 5 ∨ n = 6 ∨ n = 7 ∨ n = 8 := by omega
  rcases this with rfl | rfl | rfl | rfl | rfl | rfl <;> decide
theorem rot_rounds {cs : List Cp} (h3 : 3 ≤ cs.length) (h8 : cs.length ≤ 8) : roundsN (sidesC (rot cs)) = roundsN (sidesC cs) := by
  have hl := rot_len (cs := cs) (by omega)
  rw [rounds_cnt (by omega), rounds_cnt (by omega), hl]
  rw [← (nx_perm h3 h8).countP_eq (pk cs), List.countP_map]
  refine List.countP_congr fun k hk => ?_
  have hk' : k < cs.length := List.mem_range.mp hk
  have hp := HU.pv_lt (by omega : 0 < cs.length) k
  show pk (rot cs) k = true ↔ pk cs (HU.nx cs.length k) = true
  unfold pk
  rw [hl, rot_side h3 hk', rot_side h3 hp, HU.nx_pv hk', pv_nx3 h3 hk']
theorem rot_bad {cs : List Cp} (h3 : 3 ≤ cs.length) {i : Nat} (hi : i < cs.length) : badT (rot cs) i = badT cs (HU.nx cs.length i) := by
  have hp := HU.pv_lt (by omega : 0 < cs.length) i
  unfold badT
  rw [rot_len (by omega), rot_side h3 hi, rot_side h3 hp, HU.nx_pv hi, pv_nx3 h3 hi]
theorem vd_rot {cs : List Cp} (h : Vd cs) : Vd (rot cs) := by
  have h3 := h.ro.lo
  have h8 := h.ro.hi
  have hl := rot_len (cs := cs) (by omega)
  exact ⟨⟨fun c hc => h.ro.cl c (rot_mem hc), fun c hc => h.ro.sm c (rot_mem hc), by omega, by omega⟩, fun i hi => by
    rw [rot_bad h3 (by omega)]
    exact h.tn _ (HU.nx_lt (by omega) i), by rw [rot_rounds h3 h8]; exact h.rd⟩
/-! equal data -/
theorem eqv_rD_iff {a b : Q} (h : PyData.eqv (rD a) (rD b) = true) : a = b := by
  obtain ⟨i, j⟩ := a
  obtain ⟨i', j'⟩ := b
  simp [rD, PyData.eqv, PyData.eqvAll] at h
  rw [Prod.mk.injEq]
  exact h
theorem eqv_cD_iff {a b : Cp} (h : PyData.eqv (cD a) (cD b) = true) : a = b := by
  obtain ⟨x, y⟩ := a
  obtain ⟨x', y'⟩ := b
  have h' : PyData.eqv (rD x) (rD x') = true ∧ PyData.eqv (rD y) (rD y') = true := by
    simpa [cD, PyData.eqv, PyData.eqvAll] using h
  rw [eqv_rD_iff h'.1, eqv_rD_iff h'.2]
theorem eqv_cDs_iff : ∀ {as bs : List Cp}, PyData.eqvAll (as.map cD) (bs.map cD) = true → as = bs
  | [], [], _ => rfl
  | [], _ :: _, h => by simp [PyData.eqvAll] at h
  | _ :: _, [], h => by simp [PyData.eqvAll] at h
  | a :: as, b :: bs, h => by
    have h' : PyData.eqv (cD a) (cD b) = true ∧ PyData.eqvAll (as.map cD) (bs.map cD) = true := by
      simpa [PyData.eqvAll] using h
    rw [eqv_cD_iff h'.1, eqv_cDs_iff h'.2]
theorem rot_ne {cs : List Cp} (h : Vd cs) : PyData.eqv (.tuple (cs.map cD)) (.tuple ((rot cs).map cD)) = false := by
  have h3 := h.ro.lo
  cases q : PyData.eqv (.tuple (cs.map cD)) (.tuple ((rot cs).map cD)) with
  | false => rfl
  | true =>
    have q' : PyData.eqvAll (cs.map cD) ((rot cs).map cD) = true := by simpa [PyData.eqv] using q
    have e := eqv_cDs_iff q'
    have all : ∀ i, i < cs.length → at_ cs (HU.nx cs.length i) = at_ cs i := fun i hi => by
      rw [← rot_at (by omega) hi, ← e]
    have c0 : ∀ i, i < cs.length → sideC cs i = lessC (at_ cs i) (at_ cs i) := fun i hi => by
      unfold sideC
      rw [all i hi]
    have b := h.tn 0 (by omega)
    unfold badT at b
    have hp := HU.pv_lt (by omega : 0 < cs.length) 0
    have cz : ∀ c : Cp, (lessC c c).1.1 = 0 ∧ (lessC c c).2.1 = 0 := fun c => by
      constructor
      · show (minusQ c.1 c.1).1 = 0
        unfold minusQ
        simp [lowQ]
      · show (minusQ c.2 c.2).1 = 0
        unfold minusQ
        simp [lowQ]
    rw [c0 0 (by omega), c0 _ hp] at b
    have z1 := (cz (at_ cs (HU.pv cs.length 0))).1
    have z2 := (cz (at_ cs (HU.pv cs.length 0))).2
    have e0 : (crossC (lessC (at_ cs (HU.pv cs.length 0)) (at_ cs (HU.pv cs.length 0))) (lessC (at_ cs 0) (at_ cs 0))).1 = 0 := by
      unfold crossC
      simp [minusQ, timesQ, lowQ, z1, z2]
    rw [e0] at b
    exact absurd b (by decide)
end DL
set_option Elab.async false
set_option linter.all false
set_option maxRecDepth 100000
namespace DL
open PySem PySem.Spec PyProof.Rows L2
section
variable {X : Cx} {Δ : List Sl} {e a b c : Expr} {es : List Expr} {A B C : Th → Prop} {pos : Pos} {P : Post} {W : WX}
/-- y = [elt for x in e], e data -/
theorem sd_lcU {α : Type} {x : Str} {px : Pos} {elt : Expr} {scope : Scope} (j : Nat) {xs : List α} {d : PyData} (u g : α → PyData) (he : PD X Δ e (dat X.K d)) (hd : d = .tuple (xs.map u) ∨ d = .list (xs.map u)) (hz : xs.length ≤ 40000)
    (ht : ∀ z, z ∈ xs → ∀ (s : Shared) (H : Hp) (C : Addr) (cl : List (Str × Addr)) (fp : List Addr), PD (X.blk s H scope (compEnvC scope cl C X.env) fp) ((wipeΔ Δ [j]).set j (.th (dat X.K (u z)))) elt (dat X.K (g z)))
    (hN : X.N.Nodup) (ok : BlkOk X.N X.env.scope scope [(x, j)])
    (hg : ∀ (s : Shared) (H : Hp) (C : Addr) (cl : List (Str × Addr)) (fp : List Addr), PG (X.blk s H scope (compEnvC scope cl C X.env) fp) (.Name x px) (gName j))
    (i0 : Nat) {y : Str} {py spos : Pos} {rest : List Stmt} (k0 : SD X W rest P (Δ.set i0 (.th (dat X.K (.list (xs.map g))))))
    (hy : X.N[i0]? = some y := by rfl) (hyl : X.env.scope.names.lookup y = some .local := by rfl) (hsw : swapsWith (.ListComp elt [⟨.Name x px, e, [], 0⟩] scope pos) (some (.Name y py)) spos.line X.env = pure true := by exact sw_true rfl rfl rfl (by decide +kernel))
    (hc : X.calm = true := by rfl) (hs : ∀ x, foldedSetIterable e X.env x = pure x := by intro _; rfl) :
    SD X W (.Assign [.Name y py] (.ListComp elt [⟨.Name x px, e, [], 0⟩] scope pos) spos :: rest) P Δ :=
  sd_lcD j (fun (i : Nat) (w : PyData) => ∃ z, xs[i]? = some z ∧ w = g z) he hd (by rw [List.length_map]; exact hz) (fun i z hi s H C cl fp => by
    rw [List.getElem?_map] at hi
    obtain ⟨y, hy, rfl⟩ := Option.map_eq_some_iff.mp hi
    exact (ht y (List.mem_of_getElem? hy) s H C cl fp).imp fun t h => ⟨g y, h, y, hy, rfl⟩) hN ok hg i0 (fun es h2 h3 => by
    rw [List.length_map] at h2
    rw [ext_of h2 h3]
    exact k0) hy hyl hsw hc hs
end
end DL
set_option Elab.async false
set_option linter.all false
set_option maxRecDepth 100000
set_option maxHeartbeats 4000000
namespace K03
open PySem PySem.Spec PyProof.Rows L2 DL
section
variable {P : Program} {w : World} {K : PySem.W.Frag} {mg : Str → Option Value} {base : Heap} {f : Addr} {fd : FuncData}
abbrev w___len__ : Stmt := inClass (top 29) 2
theorem scw___len__ : FnScope ["self"] ["self"] (defScope w___len__) := ⟨rfl, rfl, rfl, by decide +kernel, rfl, by decide +kernel, by decide +kernel⟩
abbrev w___eq__ : Stmt := inClass (top 29) 1
theorem scw___eq__ : FnScope ["self", "other"] ["self", "other"] (defScope w___eq__) := ⟨rfl, rfl, rfl, by decide +kernel, rfl, by decide +kernel, by decide +kernel⟩
abbrev w_check_side : Stmt := inClass (top 29) 5
theorem scw_check_side : FnScope ["self", "side"] ["self", "side"] (defScope w_check_side) := ⟨rfl, rfl, rfl, by decide +kernel, rfl, by decide +kernel, by decide +kernel⟩
abbrev w_begun_at : Stmt := inClass (top 29) 17
theorem scw_begun_at : FnScope ["self", "corner"] ["self", "corner"] (defScope w_begun_at) := ⟨rfl, rfl, rfl, by decide +kernel, rfl, by decide +kernel, by decide +kernel⟩

def RLenR (K : PySem.W.Frag) (C : Addr) : Cn := fun ts A => ∃ cs : List Cp, ts = [wkT K C cs] ∧ RoN 400 cs ∧ A = (· = dat K (.int (cs.length : Nat)))
def REqA (K : PySem.W.Frag) (C : Addr) : Cn := fun ts A => ∃ cs : List Cp, (∃ ds : List Cp, ts = [wkT K C cs, wkT K C ds] ∧ A = (· = dat K (.bool (PyData.eqv (.tuple (cs.map cD)) (.tuple (ds.map cD)))))) ∨ (∃ ds : List PyData, ts = [wkT K C cs, dat K (.tuple ds)] ∧ A = (· = dat K (.bool false)))
def RSdR (K : PySem.W.Frag) (C N : Addr) : CnX := fun ts o => ∃ (cs : List Cp) (d : PyData), ts = [wkT K C cs, dat K d] ∧ RoN 400 cs ∧ SdOf K N cs.length d o (fun _ => .none)
def RBegR (K : PySem.W.Frag) (C N : Addr) : CnX := fun ts o => ∃ (cs : List Cp) (d : PyData), ts = [wkT K C cs, dat K d] ∧ Vd cs ∧ ((d = .int 1 ∧ o = .val (· = wkT K C (rot cs))) ∨ (isWh d (some 0) (some ((cs.length : Int) - 1)) = false ∧ o = .exc N [("side", dat K d)]))
def RLSideR (K : PySem.W.Frag) (g : List Cp → Nat → Cp) : Cn := fun ts A => ∃ (cs : List Cp) (k : Nat), ts = [dat K (.tuple (cs.map cD)), dat K (.int k)] ∧ RoN 400 cs ∧ k < cs.length ∧ A = (· = dat K (cD (g cs k)))
def RLRight (K : PySem.W.Frag) (C : Addr) : Cn := fun ts A => ∃ cs : List Cp, ts = [wkT K C cs, dat K (.list (cs.map cD))] ∧ Vd cs ∧ A = (· = dat K (.bool true))
theorem fill_range {n : Nat} {g : Nat → PyData} {es : List PyData} (h2 : es.length = n) (h3 : ∀ (i : Nat) z, es[i]? = some z → i < n ∧ z = g i) : es = (List.range n).map g := by
  refine List.ext_getElem? fun i => ?_
  rw [List.getElem?_map]
  cases q : es[i]? with
  | none =>
    have : n ≤ i := by rw [← h2]; exact List.getElem?_eq_none_iff.mp q
    rw [List.getElem?_eq_none (by rw [List.length_range]; exact this)]
    rfl
  | some w =>
    obtain ⟨e1, e2⟩ := h3 i w q
    rw [List.getElem?_range e1, e2]
    rfl
theorem vd_chk {cs : List Cp} (h : Vd cs) : ChkL (cs.map cD) (.inl cs) := Or.inr (Or.inr ⟨cs, rfl, h.ro, Or.inr ⟨h.tn, Or.inr ⟨h.rd, rfl⟩⟩⟩)
theorem okw_len (F : Fun K "__len__" "Work.__len__" w___len__ f fd) (T : Txt K mg) {C : Addr} (c : Cls K C) (n1 : NoAttr K C "corners") (n2 : NoAttr K C "normals") : FnOk P w K mg base CX0 1 f fd ["self"] (spT (RLenR K C)) := by
  refine fn_mk F scw___len__ (fun ts A ⟨_, e, _⟩ => by rw [e]; rfl) fun cdv Ar outer s H E hr ts B hR => ?_
  obtain ⟨cs, rfl, hw, rfl⟩ := hR
  exact sd_ret (pd_len (n := cs.length) T.z_len (pd_fld c n1 (px_var 0 rfl) rfl) (by show some (cs.map cD).length = _; rw [List.length_map])) rfl
theorem okw_eq (F : Fun K "__eq__" "Work.__eq__" w___eq__ f fd) (T : Txt K mg) {C : Addr} (c : Cls K C) (n1 : NoAttr K C "corners") (n2 : NoAttr K C "normals") (gC : mg "Work" = some (.ref C)) (iC : IsI K C) (iT : PySem.W.kitOne K (.type "tuple") (.ref C) = some false) : FnOk P w K mg base CX0 2 f fd ["self", "other"] (spT (REqA K C)) := by
  refine fn_mk F scw___eq__ (fun ts A ⟨_, h⟩ => by rcases h with ⟨_, e, _⟩ | ⟨_, e, _⟩ <;> (rw [e]; rfl)) fun cdv Ar outer s H E hr ts B hR => ?_
  obtain ⟨cs, ⟨ds, rfl, rfl⟩ | ⟨ds, rfl, rfl⟩⟩ := hR
  · exact sd_ret (PD.is (pd_and (k := true) (pd_isO iC c T.z_isinstance (px_var 1 rfl) (pd_cls gC)) (pd_one (pd_cmp (ct_eq hr.units (shaped_cT cs) (shaped_cT ds)) (pd_fld c n1 (px_var 0 rfl) rfl) (pd_fld c n1 (px_var 1 rfl) rfl) (nomark _)))) (by rfl)) rfl
  · exact sd_ret (pd_and_f (pd_isC (d := .tuple ds) iT T.z_isinstance (px_var 1 rfl) (pd_cls gC))) rfl
theorem okw_check_side (F : Fun K "check_side" "Work.check_side" w_check_side f fd) (T : Txt K mg) {C N : Addr} (c : Cls K C) (n1 : NoAttr K C "corners") (n2 : NoAttr K C "normals") (xN : ExF1 P w K mg base "NoSide" N "side") (G_is_whole : Gd P w K mg base "is_whole" 1 [] (RWhole K)) : FnOk P w K mg base (L2.CX P w) 3 f fd ["self", "side"] (spX (RSdR K C N)) := by
  refine fnX_mk F scw_check_side (fun ts A ⟨_, _, e, _⟩ => by rw [e]; rfl) fun cdv Ar outer s H E hr ts o hR => ?_
  obtain ⟨cs, d, rfl, hw, h⟩ := hR
  rcases h with ⟨k, hk, rfl, rfl⟩ | ⟨hd, rfl⟩
  · exact sd_skip (PB.is (pb_not (pb_val (pd_call G_is_whole (hr.mono (by decide)) (pl_cons (px_var 1 rfl) (pl_cons px_int (pl_cons (pd_sub (pd_len (n := cs.length) T.z_len (pd_fld c n1 (px_var 0 rfl) rfl) (by show some (cs.map cD).length = _; rw [List.length_map])) px_int) pl_nil))) ⟨_, some 0, some _, rfl, rfl⟩))) (by rw [isWh_k hk]; rfl)) (sd_nil rfl)
  · exact sd_ifT (PB.is (pb_not (pb_val (pd_call G_is_whole (hr.mono (by decide)) (pl_cons (px_var 1 rfl) (pl_cons px_int (pl_cons (pd_sub (pd_len (n := cs.length) T.z_len (pd_fld c n1 (px_var 0 rfl) rfl) (by show some (cs.map cD).length = _; rw [List.length_map])) px_int) pl_nil))) ⟨_, some 0, some _, rfl, rfl⟩))) (by rw [hd]; rfl)) (sd_raise1 xN hr (px_var 1 rfl) (takes_of rfl rfl rfl rfl) ⟨rfl, rfl⟩)
theorem okw_begun_at (F : Fun K "begun_at" "Work.begun_at" w_begun_at f fd) (T : Txt K mg) {C N W : Addr} (c : Cls K C) (n1 : NoAttr K C "corners") (n2 : NoAttr K C "normals") (MW : Mkr P w K mg base "Work" C 6 (RMkG K W)) (M_check_side : MthX P w K mg base C "check_side" 3 (RSdR K C N)) : FnOk P w K mg base (L2.CX P w) 8 f fd ["self", "corner"] (spX (RBegR K C N)) := by
  refine fnX_mk F scw_begun_at (fun ts A ⟨_, _, e, _⟩ => by rw [e]; rfl) fun cdv Ar outer s H E hr ts o hR => ?_
  obtain ⟨cs, d, rfl, hv, h⟩ := hR
  have hlo := hv.ro.lo
  have hhi := hv.ro.hi
  rcases h with ⟨rfl, rfl⟩ | ⟨hd, rfl⟩
  · refine sd_expX (A := fun _ => True) (px_methV M_check_side c (hr.mono (by decide)) (px_var 0 rfl) rfl (pl_cons (px_var 1 rfl) pl_nil) (fun ts hts => ⟨(· = dat K .none), by rw [hts]; exact ⟨cs, _, rfl, hv.ro, Or.inl ⟨1, by omega, rfl, rfl⟩⟩, fun _ _ => trivial⟩)) ?_
    have hc : DL.cutD (cs.map cD) (some ((1 : Nat) : Int)) none ++ DL.cutD (cs.map cD) none (some ((1 : Nat) : Int)) = (rot cs).map cD := by
      rw [cut_fromD, cut_toD, show rot cs = cs.drop 1 ++ cs.take 1 from rfl, List.map_append, List.map_drop, List.map_take]
    have hl := rot_len (cs := cs) (by omega)
    refine sd_ret (pd_make MW (hr.mono (by decide)) (pl_cons (t := dat K (.tuple ((rot cs).map cD))) (PD.is (pd_catD (pd_sliceT (pd_fld c n1 (px_var 0 rfl) rfl) (pb_some (k := ((1 : Nat) : Int)) (px_var 1 rfl)) pb_none) (pd_sliceT (pd_fld c n1 (px_var 0 rfl) rfl) pb_none (pb_some (k := ((1 : Nat) : Int)) (px_var 1 rfl))) ?_) (by rw [hc]; rfl)) pl_nil) ⟨_, .inl (rot cs), rfl, chk_of (vd_chk (vd_rot hv)) (by rw [List.length_map]; omega) (Or.inl rfl), rfl⟩) rfl
    rw [← List.length_append, hc, List.length_map, hl]
    omega
  · exact sd_expR (pr_meth (takes_of rfl rfl rfl rfl) M_check_side c (hr.mono (by decide)) (px_var 0 rfl) rfl (pl_cons (px_var 1 rfl) pl_nil) (fun ts hts => by rw [hts]; exact ⟨cs, d, rfl, hv.ro, Or.inr ⟨hd, rfl⟩⟩)) ⟨rfl, rfl⟩
theorem ok__law_side (F : Fun K "_law_side" "_law_side" s__law_side f fd) (T : Txt K mg) (G__law_less : Gd P w K mg base "_law_less" 4 [] (R2C K lessC)) : FnOk P w K mg base CX0 5 f fd ["_law_corners", "_law_k"] (spT (RLSideR K sideC)) := by
  refine fn_mk F sc__law_side (fun ts A ⟨_, _, e, _⟩ => by rw [e]; rfl) fun cdv Ar outer s H E hr ts B hR => ?_
  obtain ⟨cs, k, rfl, hw, hk, rfl⟩ := hR
  have hn := HU.nx_lt hw.n0 k
  exact sd_ret (pd_call G__law_less hr (pl_cons (pd_ix (D := .tuple (cs.map cD)) (d := cD (at_ cs (HU.nx cs.length k))) (px_var 0 rfl) (PD.is (pd_mod (pd_int T.z_int (pd_add (px_var 1 rfl) px_int)) (pd_len (n := cs.length) T.z_len (px_var 0 rfl) (by show some (cs.map cD).length = _; rw [List.length_map])) (by omega)) (by rw [fmod_nat]; rfl)) (ix_at hn).1) (pl_cons (pd_ix (D := .tuple (cs.map cD)) (d := cD (at_ cs k)) (px_var 0 rfl) (px_var 1 rfl) (ix_at hk).1) pl_nil)) ⟨_, _, 400, 400, rfl, hw.sm _ (at_mem hn), hw.sm _ (at_mem hk), by decide, rfl⟩) rfl
theorem ok__law_normal (F : Fun K "_law_normal" "_law_normal" s__law_normal f fd) (T : Txt K mg) (G__law_side : Gd P w K mg base "_law_side" 5 [] (RLSideR K sideC)) : FnOk P w K mg base CX0 6 f fd ["_law_corners", "_law_k"] (spT (RLSideR K normC)) := by
  refine fn_mk F sc__law_normal (fun ts A ⟨_, _, e, _⟩ => by rw [e]; rfl) fun cdv Ar outer s H E hr ts B hR => ?_
  obtain ⟨cs, k, rfl, hw, hk, rfl⟩ := hR
  refine sd_asg 2 (pd_call G__law_side hr (pl_cons (px_var 0 rfl) (pl_cons (px_var 1 rfl) pl_nil)) ⟨cs, k, rfl, hw, hk, rfl⟩) ?_ sc__law_normal.nd
  refine sd_ret (pd_tup (ds := [rD (negQ (sideC cs k).2), rD (sideC cs k).1]) (pl_cons (pd_tup (ds := [.int (-(sideC cs k).2.1), .int (sideC cs k).2.2]) (pl_cons (pd_neg (pd_ix (D := rD (sideC cs k).2) (pd_ix (D := cD (sideC cs k)) (px_var 2 rfl) px_int rfl) px_int rfl)) (pl_cons (pd_ix (D := rD (sideC cs k).2) (pd_ix (D := cD (sideC cs k)) (px_var 2 rfl) px_int rfl) px_int rfl) pl_nil))) (pl_cons (pd_ix (D := cD (sideC cs k)) (px_var 2 rfl) px_int rfl) pl_nil))) rfl
theorem ok__law_work_right (F : Fun K "_law_work_right" "_law_work_right" s__law_work_right f fd) (T : Txt K mg) {C N W : Addr} (c : Cls K C) (n1 : NoAttr K C "corners") (n2 : NoAttr K C "normals") (MW : Mkr P w K mg base "Work" C 6 (RMkG K W)) (M___len__ : Mth P w K mg base C "__len__" 1 (RLenR K C)) (M___eq__ : Mth P w K mg base C "__eq__" 2 (REqA K C)) (M_begun_at : MthX P w K mg base C "begun_at" 8 (RBegR K C N)) (G__law_normal : Gd P w K mg base "_law_normal" 6 [] (RLSideR K normC)) : FnOk P w K mg base CX0 9 f fd ["_law_work_here", "_law_corners"] (spT (RLRight K C)) := by
  refine fn_mk F sc__law_work_right (fun ts A ⟨_, e, _⟩ => by rw [e]; rfl) fun cdv Ar outer s H E hr ts B hR => ?_
  obtain ⟨cs, rfl, hv, rfl⟩ := hR
  have hlo := hv.ro.lo
  have hhi := hv.ro.hi
  have hnl : (normsC cs).length = cs.length := by unfold normsC; rw [List.length_map]; exact sides_lenV cs
  refine sd_asg 3 (t := dat K (.tuple (cs.map cD))) (pd_tuple T.z_tuple (Or.inl (pd_lcU 2 (xs := cs) (d := .list (cs.map cD)) cD cD (px_var 1 rfl) (Or.inr rfl) (by omega) (fun z hz _ _ _ _ _ => pd_tup (ds := [rD z.1, rD z.2]) (pl_cons (pd_ix (D := cD z) (px_var 2 rfl) px_int rfl) (pl_cons (pd_ix (D := cD z) (px_var 2 rfl) px_int rfl) pl_nil))) sc__law_work_right.nd (blkOk_by (own := [("_law_corner", 2)]) (N := ["_law_work_here", "_law_corners", "_law_corner", "_law_due", "_law_other", "_law_begun", "_law_k"]) (by rfl)) (fun _ _ _ _ _ => pg_name (i := 2) sc__law_work_right.nd rfl (Or.inl rfl))))) ?_ sc__law_work_right.nd
  refine sd_skip (PB.is (PBW.pb (pwo (pb_cmp (ct_ne hr.units (shaped_cT cs) (shaped_cT cs)) (pd_fld c n1 (px_var 0 rfl) rfl) (px_var 3 rfl) (nomark _)) (pwo (pb_cmp (ct_ne hr.units rfl rfl) (pd_lenO (n := cs.length) M___len__ (hr.mono (by decide)) T.z_len (px_var 0 rfl) ⟨cs, rfl, hv.ro, rfl⟩ (by omega)) (pd_len (n := cs.length) T.z_len (px_var 3 rfl) (by show some (cs.map cD).length = _; rw [List.length_map])) (nomark _)) (pwo (pb_not (pb_val (pd_isi (d := .tuple (cs.map cD)) (n := "tuple") T.z_isinstance (pd_fld c n1 (px_var 0 rfl) rfl) (pd_tyN (n := "tuple") T.z_tuple) rfl))) (pw1o (pb_not (pb_val (pd_isi (d := .tuple ((normsC cs).map cD)) (n := "tuple") T.z_isinstance (pd_fld c n2 (px_var 0 rfl) rfl) (pd_tyN (n := "tuple") T.z_tuple) rfl)))))))) (by
    rw [eqv_cT]
    show (false || (!(((cs.length : Nat) : Int) == ((cs.length : Nat) : Int)) || (false || false))) = false
    rw [beq_self_eq_true]
    rfl)) ?_
  refine sd_skip (PB.is (pb_cmp (ct_ne hr.units (shaped_cT (normsC cs)) (shaped_cT (normsC cs))) (pd_fld c n2 (px_var 0 rfl) rfl) (pd_tuple T.z_tuple (Or.inl (PX.imp (B := (· = dat K (.list ((normsC cs).map cD)))) (px_lcR 6 (Nn := fun n => n = ((cs.length : Nat) : Int)) (L := cs.length) (fun (i : Nat) (z : PyData) => i < cs.length ∧ z = cD (normC cs i)) T.z_range (pi_of (pd_len (n := cs.length) T.z_len (px_var 3 rfl) (by show some (cs.map cD).length = _; rw [List.length_map]))) (fun n h => by omega) (by omega) (fun k hk _ _ _ _ _ => (pd_call G__law_normal (hr.mono (by decide)) (pl_cons (px_var 3 rfl) (pl_cons (px_var 6 rfl) pl_nil)) ⟨cs, k, rfl, hv.ro, hk, rfl⟩).imp fun t ht => ⟨_, ht, hk, rfl⟩) sc__law_work_right.nd (blkOk_by (own := [("_law_k", 6)]) (N := ["_law_work_here", "_law_corners", "_law_corner", "_law_due", "_law_other", "_law_begun", "_law_k"]) (by rfl)) (fun _ _ _ _ _ => pg_name (i := 6) sc__law_work_right.nd rfl (Or.inl rfl))) (fun t ⟨es, n, h1, h2, h3, h4⟩ => by
    rw [h1, fill_range (n := cs.length) (g := fun k => cD (normC cs k)) (by omega) h4, ← norms_map]; rfl)))) (nomark _)) (by rw [eqv_cT]; rfl)) ?_
  have done : ∀ s2 s4 s5 s6, SD (cxOf CX0 P w K mg base ["_law_work_here", "_law_corners", "_law_corner", "_law_due", "_law_other", "_law_begun", "_law_k"] "_law_work_right" (defScope s__law_work_right) f cdv Ar outer s H E).nox (fun _ _ _ _ => False) ((defBody s__law_work_right).drop 4) (retOf K (· = dat K (.bool true))) [.th (wkT K C cs), .th (dat K (.list (cs.map cD))), s2, .th (dat K (.tuple (cs.map cD))), s4, s5, s6] := fun s2 s4 s5 s6 => by
    refine sd_asg 4 (t := wkT K C cs) (pd_make MW (hr.mono (by decide)) (pl_cons (pd_list T.z_list (Or.inr (px_var 3 rfl))) pl_nil) ⟨_, .inl cs, rfl, chk_of (vd_chk hv) (by rw [List.length_map]; omega) (Or.inr rfl), rfl⟩) ?_ sc__law_work_right.nd
    have hc : DL.cutD (cs.map cD) (some ((1 : Nat) : Int)) none ++ DL.cutD (cs.map cD) none (some ((1 : Nat) : Int)) = (rot cs).map cD := by
      rw [cut_fromD, cut_toD, show rot cs = cs.drop 1 ++ cs.take 1 from rfl, List.map_append, List.map_drop, List.map_take]
    have hl := rot_len (cs := cs) (by omega)
    have hz : (DL.cutD (cs.map cD) (some ((1 : Nat) : Int)) none).length + (DL.cutD (cs.map cD) none (some ((1 : Nat) : Int))).length ≤ 100000 := by
      rw [← List.length_append, hc, List.length_map, hl]
      omega
    refine sd_asg 5 (t := wkT K C (rot cs)) (pd_make MW (hr.mono (by decide)) (pl_cons (t := dat K (.tuple ((rot cs).map cD))) (PD.is (pd_catD (pd_sliceT (px_var 3 rfl) (pb_some (k := ((1 : Nat) : Int)) px_int) pb_none) (pd_sliceT (px_var 3 rfl) pb_none (pb_some (k := ((1 : Nat) : Int)) px_int)) hz) (by rw [hc]; rfl)) pl_nil) ⟨_, .inl (rot cs), rfl, chk_of (vd_chk (vd_rot hv)) (by rw [List.length_map]; omega) (Or.inl rfl), rfl⟩) ?_ sc__law_work_right.nd
    exact sd_ret (PD.is (pd_and (k := true) (PD.is (pd_cmp (ct_eqO M___eq__ (hr.mono (by decide)) ⟨cs, Or.inl ⟨cs, rfl, rfl⟩⟩) (px_var 0 rfl) (px_var 4 rfl) rfl) (by rw [eqv_cT])) (pd_and (k := true) (PD.is (pd_not (pd_cmp (ct_eqO M___eq__ (hr.mono (by decide)) ⟨cs, Or.inl ⟨rot cs, rfl, rfl⟩⟩) (px_var 0 rfl) (px_var 5 rfl) rfl)) (by rw [rot_ne hv]; rfl)) (pd_and (k := true) (PD.is (pd_not (pd_cmp (ct_eqT M___eq__ (hr.mono (by decide)) ⟨cs, Or.inr ⟨cs.map cD, rfl, rfl⟩⟩) (px_var 0 rfl) (px_var 3 rfl) rfl)) rfl) (pd_one (PD.is (pd_cmp (ct_eqO M___eq__ (hr.mono (by decide)) ⟨rot cs, Or.inl ⟨rot cs, rfl, rfl⟩⟩) (px_methV (Ct := (· = wkT K C (rot cs))) M_begun_at c (hr.mono (by decide)) (px_var 0 rfl) rfl (pl_cons px_int pl_nil) (fun ts h => ⟨_, by rw [h]; exact ⟨cs, _, rfl, hv, Or.inl ⟨rfl, rfl⟩⟩, fun _ z => z⟩)) (px_var 5 rfl) rfl) (by rw [eqv_cT])))))) rfl) rfl
  refine sd_forT 2 (ts := (cs.map cD ++ (normsC cs).map cD).map (dat K)) (fun i Δ' => ∃ s2 : Sl, Δ' = [.th (wkT K C cs), .th (dat K (.list (cs.map cD))), s2, .th (dat K (.tuple (cs.map cD))), .no, .no, .no]) (pd_catD (pd_fld c n1 (px_var 0 rfl) rfl) (pd_fld c n2 (px_var 0 rfl) rfl) (by rw [List.length_map, List.length_map, hnl]; omega)) (Or.inl dat_tup) ⟨_, rfl⟩ ?_ ?_ sc__law_work_right.nd
  · rintro i z Δ' hz ⟨s2, rfl⟩
    rw [List.getElem?_map] at hz
    obtain ⟨e, he, rfl⟩ := Option.map_eq_some_iff.mp hz
    have hm := List.mem_of_getElem? he
    obtain ⟨q, rfl⟩ : ∃ q : Cp, e = cD q := by
      rcases List.mem_append.mp hm with h | h
      · obtain ⟨q, _, rfl⟩ := List.mem_map.mp h; exact ⟨q, rfl⟩
      · obtain ⟨q, _, rfl⟩ := List.mem_map.mp h; exact ⟨q, rfl⟩
    exact sd_skip (PB.is (k' := false) (pb_not (pb_val (pd_isi (d := cD q) (n := "tuple") T.z_isinstance (px_var 2 rfl) (pd_tyN (n := "tuple") T.z_tuple) rfl))) rfl) (sd_nil ⟨_, rfl⟩)
  · rintro Δ' ⟨s2, rfl⟩
    exact done _ _ _ _

end
end K03
set_option Elab.async false
set_option linter.all false
set_option maxRecDepth 100000
/-! Lists of this def made of a display or of list(..), read by calls that hand back what leans on no list; reverse. -/
namespace DL
open PySem PySem.Spec PyProof.Rows L2
theorem ex_fresh {S : List Addr} {H : Hp} {l : Addr} {o : HO} (hl : H l = none) : Ex (hide S H) (hide (l :: S) (upd H l o)) := fun a x h => by
  by_cases q : a ∈ S
  · rw [hide_in q] at h; cases h
  · rw [hide_out q] at h
    have ne : a ≠ l := ne_of_none h hl
    rw [hide_out (by simp [ne, q]), upd_ne ne]
    exact h
theorem all_rev {H : Hp} {ts : List Th} {xs : List V} (h : All H ts xs) : All H ts.reverse xs.reverse := by
  have app : ∀ {ts us : List Th} {xs ys : List V}, All H ts xs → All H us ys → All H (ts ++ us) (xs ++ ys) := fun {ts us} => by
    induction ts with
    | nil => intro xs ys h g; cases xs with
      | nil => exact g
      | cons _ _ => exact h.elim
    | cons t ts ih => intro xs ys h g; cases xs with
      | nil => exact h.elim
      | cons x xs => exact ⟨h.1, ih h.2 g⟩
  induction ts generalizing xs with
  | nil => cases xs with
    | nil => exact trivial
    | cons _ _ => exact h.elim
  | cons t ts ih => cases xs with
    | nil => exact h.elim
    | cons x xs =>
      rw [List.reverse_cons, List.reverse_cons]
      exact app (ih h.2) ⟨h.1, trivial⟩
/-- the expression gives a list that is new -/
def PFr (X : Cx) (Δ : List Sl) (e : Expr) (As : List Th → Prop) : Prop := ∃ t : TE, PE X e t ∧ ∀ S0 M0 H0 σ H S, At S0 M0 H0 Δ σ H S → ∀ Q : VK, (∀ us l xs H', As us → Ex H H' → H l = none → H' l = some (.lst xs) → All (hide (l :: S) H') us xs → Q (.ref l) H') → t σ H Q
theorem none_back {H H' : Hp} {l : Addr} (e : Ex H H') (h : H' l = none) : H l = none := by
  cases q : H l with
  | none => rfl
  | some o => rw [e l o q] at h; cases h
/-- what leans on no list -/
def NoL (t : Th) : Prop := ∀ (S : List Addr) (H : Hp) (v : V), Lsts S H → t.R H v → t.R (hide S H) v
theorem nol_dat {K : PySem.W.Frag} {d : PyData} (h : lf d = true) : NoL (dat K d) := fun S H v hS r => lf_hide hS h r
theorem nol_obj {C : Addr} {fs : List (Str × Th)} (h : ∀ f t, fs.lookup f = some t → NoL t) : NoL (objT C fs) := fun S H v hS r => by
  obtain ⟨a, dx, kvs, rfl, h2, h3, h4⟩ := r
  refine ⟨a, dx, kvs, rfl, ?_, h3, fun f t hf => let ⟨w, q1, q2⟩ := h4 f t hf; ⟨w, q1, h f t hf S H w hS q2⟩⟩
  rw [hide_out fun z => ?_]
  · exact h2
  · obtain ⟨xs, hx⟩ := hS a z
    rw [h2] at hx
    cases hx
section
variable {X : Cx} {Δ : List Sl} {e a b c : Expr} {es : List Expr} {A B C : Th → Prop} {pos : Pos} {P : Post} {rest body els sts : List Stmt} {st : Stmt} {W : WX}
theorem pf_lst {Bt : List Th → Prop} (h : PL X Δ es Bt) (hl : ∀ ts, Bt ts → ts.length ≤ 1000) : PFr X Δ (.List es pos) Bt := by
  obtain ⟨t, p, f⟩ := h
  refine ⟨_, pe_lst p, fun S0 M0 H0 σ H S hA Q q => f S0 M0 H0 σ H S hA _ fun ths vs H2 ht e2 r => ?_⟩
  exact ⟨sz_of (by rw [← r.len]; have := hl ths ht; omega), fun p hp => q ths p vs _ ht (e2.trans (Ex.new hp)) (none_back e2 hp) upd_same (r.up (ex_fresh hp))⟩
theorem pf_list {p : Pos} {ds : List PyData} (hm : X.mg "list" = none) (ha : PD X Δ a (dat X.K (.list ds))) (hg : Gl X "list" := by rfl) (na : starEach [a] X.env = (false, eval a X.env) :: starEach [] X.env := by rfl) (hpl : (backTo pos (starEach [] X.env)).any (·.1) = false := by rfl) :
    PFr X Δ (.Call (.Name "list" p) [a] [] pos) (· = ds.map (dat X.K)) := by
  obtain ⟨te, pe, fe⟩ := ha
  refine ⟨_, pe_callTy call_list_of hg hm (by decide +kernel) (pa_cons pe pa_nil na) (he := na) (hpl := hpl), fun S0 M0 H0 σ H S hA Q q => fe S0 M0 H0 σ H S hA _ fun th v H1 hth e1 r => ?_⟩
  subst hth
  obtain ⟨l0, xs, rfl, hq, hd⟩ := dp_lst r
  exact ⟨l0, xs, rfl, Or.inl (ex_l hide_le hq), fun l hl => q _ l xs _ rfl (e1.trans (Ex.new hl)) (none_back e1 hl) upd_same ((dpa_all hd).up (ex_fresh hl))⟩
/-- x = e, e a list that is new -/
theorem sd_asgU (i : Nat) {x : Str} {p : Pos} {As : List Th → Prop} (h : PFr X Δ e As) (kk : ∀ us, As us → SD X W rest P (Δ.set i (.ml us))) (hN : X.N.Nodup) (hi : X.N[i]? = some x := by rfl) (hx : Loc X.env.scope x := by first | exact Or.inl rfl | exact Or.inr rfl)
    (hs : swapsWith e (some (.Name x p)) pos.line X.env = pure false := by rfl) (hw : swappedStores [.Name x p] e X.env = pure none := by rfl)
    (hf : X.fn x = true ∨ X.env.scope.names.lookup x = some .local := by first | exact .inl rfl | exact .inr rfl) : SD X W (.Assign [.Name x p] e pos :: rest) P Δ := by
  obtain ⟨t, pe, f⟩ := h
  exact sd_cons ⟨_, ps_asg pe (pg_name hN hi hx hf) hs hw, fun S0 M0 H0 σ H S hA D le xw => f S0 M0 H0 σ H S hA _ fun us l xs H' ha e1 hl hH hx => le.nx _ _ ⟨_, l :: S, kk us ha, hA.fresh e1 hl hH hx⟩⟩
/-- x = a if c else b, b a list that is new -/
theorem sd_asgE (i : Nat) {x : Str} {p q : Pos} {As : List Th → Prop} (hc : PBE X Δ c) (ha : PX X Δ a A) (hb : PFr X Δ b As) (k1 : ∀ t, A t → SD X W rest P (Δ.set i (.th t))) (k2 : ∀ us, As us → SD X W rest P (Δ.set i (.ml us))) (hN : X.N.Nodup) (hi : X.N[i]? = some x := by rfl) (hx : Loc X.env.scope x := by first | exact Or.inl rfl | exact Or.inr rfl)
    (hs : swapsWith (.IfExp c a b q) (some (.Name x p)) pos.line X.env = pure false := by rfl) (hw : swappedStores [.Name x p] (.IfExp c a b q) X.env = pure none := by rfl)
    (hf : X.fn x = true ∨ X.env.scope.names.lookup x = some .local := by first | exact .inl rfl | exact .inr rfl) : SD X W (.Assign [.Name x p] (.IfExp c a b q) pos :: rest) P Δ := by
  obtain ⟨t, pc, f⟩ := hc
  obtain ⟨ta, pa, fa⟩ := ha
  obtain ⟨tb, pb, fb⟩ := hb
  refine sd_cons ⟨_, ps_asg (pe_ifExp pc pa pb) (pg_name hN hi hx hf) hs hw, fun S0 M0 H0 σ H S hA D le xw => f S0 M0 H0 σ H S hA _ fun k H1 e1 => ?_⟩
  have hA1 := hA.up e1
  cases k with
  | true => exact fa S0 M0 H0 σ H1 S hA1 _ fun y w H2 hy e2 r2 => le.nx _ _ ⟨_, S, k1 y hy, (hA1.up e2).set r2⟩
  | false => exact fb S0 M0 H0 σ H1 S hA1 _ fun us l xs H' ha e2 hl hH hx => le.nx _ _ ⟨_, l :: S, k2 us ha, hA1.fresh e2 hl hH hx⟩
/-- x[b], x a list of this def -/
theorem pd_ixM (i : Nat) {x : Str} {p : Pos} {ts : List Th} {t : Th} {j : Nat} (h : Δ[i]? = some (.ml ts)) (hpv : PE X (.Name x p) (tVar i)) (hb : PD X Δ b (dat X.K (.int (j : Nat)))) (ht : ts[j]? = some t) (hs : PlainIx b := by exact fun _ _ => rfl) : PD X Δ (.Subscript (.Name x p) b pos) t := by
  obtain ⟨tb, pb, fb⟩ := hb
  refine ⟨_, pe_ix ix_list hpv pb hs, fun S0 M0 H0 σ H S hA Q q => ?_⟩
  obtain ⟨o, e1, a, xs, e2, hm, hH, hx⟩ := hA.env.get h
  subst e2
  refine ⟨.ref a, e1, fb S0 M0 H0 σ H S hA _ fun th w H2 hth e2 r2 => ?_⟩
  subst hth
  have := dp_int r2
  subst this
  obtain ⟨u, g1, r⟩ := hx.get' ht
  exact ⟨a, xs, _, u, rfl, rfl, SqL.of (e2 _ _ hH), atI_nat g1, q _ u H2 rfl e2 (t.up _ _ _ (hide_ex e2) r)⟩
/-- x.reverse(), x a list of this def -/
theorem sd_revM (i : Nat) {x : Str} {p1 p2 p3 : Pos} {ts : List Th} (h : Δ[i]? = some (.ml ts)) (k : SD X W rest P (Δ.set i (.ml ts.reverse)))
    (hpe : PE X (.Call (.Attribute (.Name x p1) "reverse" p2) [] [] p3) (tBM0 X.K "list" rReverse (tVar i))) (hs : swapsWith (.Call (.Attribute (.Name x p1) "reverse" p2) [] [] p3) none pos.line X.env = pure false := by rfl) :
    SD X W (.Expr (.Call (.Attribute (.Name x p1) "reverse" p2) [] [] p3) pos :: rest) P Δ := by
  refine sd_cons ⟨_, ps_expr hpe hs, fun S0 M0 H0 σ H S hA D le xw => ?_⟩
  obtain ⟨o, e1, a, xs, e2, hm, hH, hx⟩ := hA.env.get h
  subst e2
  exact ⟨.ref a, e1, Or.inl ⟨rfl, xs, Or.inl (Or.inl hH)⟩, a, xs, rfl, rfl, hH, le.nx _ _ ⟨_, S, k, hA.chg h e1 hm (all_rev hx)⟩⟩
/-- an expression that reads the list that is being filled, and gives what leans on no list -/
theorem px_withmlO (i : Nat) {ds : List PyData} (h : Δ[i]? = some (.ml (ds.map (dat X.K)))) (hl : ∀ t, A t → NoL t) (k : PX X (Δ.set i (.th (dat X.K (.list ds)))) e A) : PX X Δ e A := by
  obtain ⟨t, p, f⟩ := k
  refine ⟨t, p, fun S0 M0 H0 σ H S hA Q q => ?_⟩
  obtain ⟨a, xs, hH, hm, A2⟩ := hA.withml h
  refine f _ _ _ σ H _ A2 Q fun th v H2 ht ex r => q th v H2 ht ex ?_
  have r2 := hl th ht [a] _ v (fun b hb => by
    have e : b = a := by simpa using hb
    subst e
    exact ⟨xs, by rw [hide_out fun z => (mem_wo.mp z).2 rfl]; exact ex _ _ hH⟩) r
  refine th.up _ _ _ (fun b o hb => ?_) r2
  have n1 : b ∉ [a] := fun z => by rw [hide_in z] at hb; cases hb
  rw [hide_out n1] at hb
  have n2 : b ∉ wo S a := fun z => by rw [hide_in z] at hb; cases hb
  rw [hide_out n2] at hb
  have n3 : b ∉ S := fun z => n2 (mem_wo.mpr ⟨z, fun y => n1 (by simp [y])⟩)
  rw [hide_out n3]
  exact hb
end
end DL
set_option Elab.async false
set_option linter.all false
set_option maxRecDepth 100000
set_option maxHeartbeats 1000000
/-! A list of lists made by a comprehension, handed on, and changed behind the call. -/
namespace DL
open PySem PySem.Spec PyProof.Rows L2
/-- after i turns: lists that are new -/
def LcF (K : PySem.W.Frag) (gs : List (List PyData)) (S : List Addr) (H1 : Hp) (D : Addr) (i : Nat) (H' : Hp) : Prop :=
  Ex H1 H' ∧ ∃ bs : List Addr, H' D = some (.lst (bs.map V.ref)) ∧ bs.length = i ∧ ∀ (k : Nat) b, bs[k]? = some b → b ≠ D ∧ H1 b = none ∧ ∃ us ds, gs[k]? = some ds ∧ H' b = some (.lst us) ∧ DpAll K (hide (D :: S) H') us ds
theorem lcF_more {K : PySem.W.Frag} {gs : List (List PyData)} {S : List Addr} {H1 H' H4 : Hp} {D l : Addr} {i : Nat} {vs : List V} {ds : List PyData} (hD : H1 D = none) (hi : i < 50000) (p : LcF K gs S H1 D i H') (e4 : Ex H' H4) (hl : H4 l = none) (hg : gs[i]? = some ds) (r : DpAll K (hide (D :: S) H4) vs ds) :
    ∃ acc, (upd H4 l (.lst vs)) D = some (.lst acc) ∧ acc.length < sizeLine ∧ LcF K gs S H1 D (i + 1) (upd (upd H4 l (.lst vs)) D (.lst (acc ++ [V.ref l]))) := by
  obtain ⟨e1, bs, h1, h2, h3⟩ := p
  have hD4 := e4 D _ h1
  have neD : D ≠ l := ne_of_none hD4 hl
  have hid : Ex (hide (D :: S) H4) (hide (D :: S) (upd (upd H4 l (.lst vs)) D (.lst (bs.map V.ref ++ [V.ref l])))) := by
    rw [hide_upd (List.mem_cons_self)]
    exact hide_ex (Ex.new hl)
  refine ⟨bs.map V.ref, by rw [upd_ne neD]; exact hD4, by rw [List.length_map, h2]; exact Nat.lt_of_lt_of_le hi (by decide : 50000 ≤ sizeLine), fun a o h => ?_, bs ++ [l], by rw [upd_same, List.map_append]; rfl, by rw [List.length_append, h2]; rfl, fun k b hk => ?_⟩
  · rw [upd_ne (ne_of_none h hD), upd_ne (ne_of_none (e4 a o (e1 a o h)) hl)]
    exact e4 a o (e1 a o h)
  · rw [List.getElem?_append] at hk
    split at hk
    · obtain ⟨n1, n2, us, ds', g1, g2, g3⟩ := h3 k b hk
      have g4 := e4 b _ g2
      refine ⟨n1, n2, us, ds', g1, ?_, dpa_up ((hide_ex e4).trans hid) g3⟩
      rw [upd_ne n1, upd_ne (ne_of_none g4 hl)]
      exact g4
    · rename_i hge
      have hk0 : k - bs.length = 0 := by
        by_cases q : k - bs.length = 0
        · exact q
        · rw [List.getElem?_eq_none (by simp; omega)] at hk
          cases hk
      rw [hk0] at hk
      have e5 : l = b := Option.some.inj hk
      have e6 : k = i := by omega
      subst e5; subst e6
      refine ⟨Ne.symm neD, none_back (e1.trans e4) hl, vs, ds, hg, ?_, dpa_up hid r⟩
      rw [upd_ne (Ne.symm neD), upd_same]
theorem ixN_0 {n : Nat} (h : 0 < n) : ixN n 0 = some 0 := by
  unfold ixN
  rw [if_pos (Int.le_refl 0), if_pos (by omega)]
  rfl
section
variable {X : Cx} {Δ : List Sl} {e e2 e3 e4 x1 x2 : Expr} {P : Post} {rest : List Stmt} {W : WX}
/-- x = [[x1, x2] for xc in e]; y = e2; x[0][0] = e3; x[1].append(e4) -/
theorem sd_nest (i j jc : Nat) {x y xc : Str} {pos1 pos2 pos3 pos4 p1 p2 p3 p4 p5 p6 p7 p8 p9 p10 p11 p12 pc pq pl : Pos} {k3 k6 k9 : Nat} {scope : Scope} {ds : List PyData} {gs : List (List PyData)} {t : Th} {d3 d4 : PyData}
    (he : PD X Δ e (dat X.K (.list ds))) (hz : ds.length ≤ 40000) (hgl : gs.length = ds.length) (h2l : 2 ≤ gs.length) (hg0 : ∃ a r, gs[0]? = some (a :: r)) (hgn : ∀ g ∈ gs, g.length ≤ 1000)
    (ht : ∀ (i : Nat) z g, ds[i]? = some z → gs[i]? = some g → ∀ (s : Shared) (H : Hp) (C : Addr) (cl : List (Str × Addr)) (fp : List Addr), PLD (X.blk s H scope (compEnvC scope cl C X.env) fp) ((wipeΔ Δ [jc]).set jc (.th (dat X.K z))) [x1, x2] (g.map (dat X.K)))
    (ok : BlkOk X.N X.env.scope scope [(xc, jc)]) (hg : ∀ (s : Shared) (H : Hp) (C : Addr) (cl : List (Str × Addr)) (fp : List Addr), PG (X.blk s H scope (compEnvC scope cl C X.env) fp) (.Name xc pc) (gName jc))
    (h2 : PD X (Δ.set i (.th (dat X.K (.list (gs.map .list))))) e2 t) (hnol : NoL t)
    (h3 : PD X ((Δ.set i .no).set j (.th t)) e3 (dat X.K d3)) (h4 : PD X ((Δ.set i .no).set j (.th t)) e4 (dat X.K d4)) (kk : SD X W rest P ((Δ.set i .no).set j (.th t)))
    (hij : i ≠ j) (hil : i < Δ.length) (hN : X.N.Nodup) (hpv : ∀ q, PE X (.Name x q) (tVar i))
    (hpe : ∀ (to te : TE), PE X (.Subscript (.Name x p8) (.Constant (.int 1) k9 p9) p10) to → PE X e4 te → PE X (.Call (.Attribute (.Subscript (.Name x p8) (.Constant (.int 1) k9 p9) p10) "append" p11) [e4] [] p12) (tBM X.K "list" rAppend to (tCons te tNil)))
    (hc : X.calm = true := by rfl) (hs : ∀ x, foldedSetIterable e X.env x = pure x := by intro _; rfl)
    (hi : X.N[i]? = some x := by rfl) (hyl : X.env.scope.names.lookup x = some .local := by rfl)
    (hj : X.N[j]? = some y := by rfl) (hy : Loc X.env.scope y := by first | exact Or.inl rfl | exact Or.inr rfl) (hfy : X.fn y = true ∨ X.env.scope.names.lookup y = some .local := by first | exact .inl rfl | exact .inr rfl)
    (hs1 : swapsWith (.ListComp (.List [x1, x2] pl) [⟨.Name xc pc, e, [], 0⟩] scope pq) (some (.Name x p1)) pos1.line X.env = pure true := by exact sw_true rfl rfl rfl (by decide +kernel))
    (hs2 : swapsWith e2 (some (.Name y p2)) pos2.line X.env = pure false := by rfl) (hw2 : swappedStores [.Name y p2] e2 X.env = pure none := by rfl)
    (hs3 : swapsWithSole [.Subscript (.Subscript (.Name x p3) (.Constant (.int 0) k3 p4) p5) (.Constant (.int 0) k6 p6) p7] e3 pos3.line X.env = pure false := by rfl) (hw3 : swappedStores [.Subscript (.Subscript (.Name x p3) (.Constant (.int 0) k3 p4) p5) (.Constant (.int 0) k6 p6) p7] e3 X.env = pure none := by rfl)
    (h1a : (assignEach [.Subscript (.Subscript (.Name x p3) (.Constant (.int 0) k3 p4) p5) (.Constant (.int 0) k6 p6) p7] X.env).map (·.2) = [assign (.Subscript (.Subscript (.Name x p3) (.Constant (.int 0) k3 p4) p5) (.Constant (.int 0) k6 p6) p7) X.env] := by rfl)
    (hst : ∀ v, assign (.Subscript (.Subscript (.Name x p3) (.Constant (.int 0) k3 p4) p5) (.Constant (.int 0) k6 p6) p7) X.env v = (do
      let ov ← holding [v] (eval (.Subscript (.Name x p3) (.Constant (.int 0) k3 p4) p5) X.env)
      let iv ← holding [v, ov] (eval (.Constant (.int 0) k6 p6) X.env)
      standAt p7
      holding [v, ov, iv] (setItem ov iv v)
      release [v, ov, iv] []) := by intro _; rfl)
    (hs4 : swapsWith (.Call (.Attribute (.Subscript (.Name x p8) (.Constant (.int 1) k9 p9) p10) "append" p11) [e4] [] p12) none pos4.line X.env = pure false := by rfl)
    (hi1 : PlainIx (.Constant (.int 0) k3 p4) := by exact fun _ _ => rfl) (hi2 : PlainIx (.Constant (.int 1) k9 p9) := by exact fun _ _ => rfl) :
    SD X W (.Assign [.Name x p1] (.ListComp (.List [x1, x2] pl) [⟨.Name xc pc, e, [], 0⟩] scope pq) pos1 :: .Assign [.Name y p2] e2 pos2 :: .Assign [.Subscript (.Subscript (.Name x p3) (.Constant (.int 0) k3 p4) p5) (.Constant (.int 0) k6 p6) p7] e3 pos3 ::
      .Expr (.Call (.Attribute (.Subscript (.Name x p8) (.Constant (.int 1) k9 p9) p10) "append" p11) [e4] [] p12) pos4 :: rest) P Δ := by
  obtain ⟨te, pe, fe⟩ := he
  obtain ⟨t2, pe2, f2⟩ := h2
  obtain ⟨t3, pe3, f3⟩ := h3
  obtain ⟨t4, pe4, f4⟩ := h4
  obtain ⟨u, pu, fu⟩ := kk
  have qe : ∀ (s : Shared) (H : Hp) (C : Addr) (cl : List (Str × Addr)) (fp : List Addr), PE (X.blk s H scope (compEnvC scope cl C X.env) fp) (.List [x1, x2] pl) (teU X scope (.List [x1, x2] pl)) := fun s H C cl fp => ⟨fun pins s' σ H' Q I h => by
    obtain ⟨t, pt, ht⟩ := h s H C cl fp
    exact pt.run pins s' σ H' Q I ht⟩
  have P4 := pss_cons (ps_expr (hpe _ _ (pe_ix ix_list (hpv p8) pe_int hi2) pe4) hs4) pu
  have P3 := pss_cons (ps_asg (pos := pos3) pe3 (pg_sub (pe_ix ix_list (hpv p3) (pe_int (i := 0) (pos := p4) (j := k3)) hi1) (pe_int (i := 0) (pos := p6) (j := k6)) set_list hst) hs3 hw3 h1a) P4
  have P2 := pss_cons (ps_asg (pos := pos2) pe2 (pg_name hN hj hy hfy (pos := p2)) hs2 hw2) P3
  refine ⟨_, pss_cons (ps_setLc (spos := pos1) (own := [(xc, jc)]) (g := gName jc) (tt := tYes) hc hN hi hyl hs1 (pi_list pe) ok hg (fun _ _ _ _ _ => pts_nil) qe hs) P2, fun S0 M0 H0 σ H S hA D le xw => ?_⟩
  refine fe S0 M0 H0 σ H S hA _ fun th v H1 hth e1 r => ?_
  subst hth
  obtain ⟨p, xs, rfl, hq, hxs⟩ := dp_lst r
  have hA1 := hA.up e1
  refine ⟨p, rfl, ⟨xs, ex_l hide_le hq⟩, fun Dd hD => lc_list (K := X.K) (a := p) (xs := xs) (g := gName jc) (tt := tYes) (te := teU X scope (.List [x1, x2] pl)) (vs := [jc]) (LcF X.K gs S H1 Dd) ⟨Ex.new hD, [], upd_same, rfl, fun k b h => by simp at h⟩ (fun i H' _ p => ex_l p.1 (ex_l hide_le hq)) (fun n v H' hv pp => ⟨wipe_setv, ?_⟩) fun H' pp => ?_⟩
  · -- a turn
    have hl := dpa_len hxs
    have li : n < ds.length := by rw [← hl]; exact (List.getElem?_eq_some_iff.mp hv).1
    obtain ⟨v', q1, r1⟩ := dpa_get hxs (List.getElem?_eq_getElem li)
    rw [hv] at q1
    have q2 := Option.some.inj q1
    subst q2
    have hgi : gs[n]? = some gs[n] := List.getElem?_eq_getElem (by omega)
    obtain ⟨ex1, bs, b1, b2, b3⟩ := id pp
    have hA2 := hA1.newD hD ex1 (by rw [b1]; exact fun z => nomatch z)
    have hz2 : Dp X.K (hide (Dd :: S) H') v ds[n] := dp_up (fun a o h => by
      have n0 : a ∉ S := fun z => by rw [hide_in z] at h; cases h
      have h' : H1 a = some o := by rw [hide_out n0] at h; exact h
      have ne : a ≠ Dd := ne_of_none h' hD
      rw [hide_out (by simp [ne, n0])]
      exact ex1 a o h') r1
    intro s H0' C cl fp
    obtain ⟨tt, pt, ft⟩ := ht n _ _ (List.getElem?_eq_getElem li) hgi s H0' C cl fp
    refine ⟨_, pe_lst pt, ft S (mls Δ σ) H1 _ H' (Dd :: S) ((hA2.wipe [jc]).set (t := dat X.K ds[n]) hz2) _ fun ths vs H4 hts ex4 rr => ?_⟩
    have hts' : ths = gs[n].map (dat X.K) := hts
    subst hts'
    have hvl : vs.length = gs[n].length := by rw [← rr.len, List.length_map]
    exact ⟨sz_of (by rw [hvl]; have := hgn gs[n] (List.getElem_mem (by omega)); omega), fun l hl => lcF_more hD (by omega) pp ex4 hl hgi (all_dpa rr)⟩
  · -- the list stands
    rw [dpa_len hxs] at pp
    obtain ⟨ex1, bs, b1, b2, b3⟩ := pp
    have nD : Dd ∉ S := hA1.dom.new hD
    have hbl : bs.length = gs.length := by omega
    have nb : ∀ b ∈ bs, b ∉ S := fun b hb z => by
      obtain ⟨k, hk⟩ := List.getElem?_of_mem hb
      exact hA1.dom b z (b3 k b hk).2.1
    have hdat : Dp X.K (hide S H') (.ref Dd) (.list (gs.map .list)) := by
      refine Dp.lst (xs := bs.map V.ref) (SqL.of (by rw [hide_out nD]; exact b1)) ?_
      have go : ∀ (bs : List Addr) (gs : List (List PyData)), bs.length = gs.length → (∀ (k : Nat) b, bs[k]? = some b → b ∉ S ∧ ∃ us ds, gs[k]? = some ds ∧ H' b = some (.lst us) ∧ DpAll X.K (hide S H') us ds) → DpAll X.K (hide S H') (bs.map V.ref) (gs.map .list) := by
        intro bs
        induction bs with
        | nil => intro gs hl _; cases gs with
          | nil => exact .nil
          | cons _ _ => simp at hl
        | cons b bs ih => intro gs hl h; cases gs with
          | nil => simp at hl
          | cons g gs =>
            obtain ⟨n1, us, ds, g1, g2, g3⟩ := h 0 b rfl
            have : g = ds := Option.some.inj g1
            subst this
            exact .cons (Dp.lst (SqL.of (by rw [hide_out n1]; exact g2)) g3) (ih gs (by simpa using hl) fun k b hk => h (k + 1) b hk)
      refine go bs gs hbl fun k b hk => ?_
      obtain ⟨_, _, us, ds', g1, g2, g3⟩ := b3 k b hk
      exact ⟨nb b (List.mem_of_getElem? hk), us, ds', g1, g2, dpa_up (hide_sub fun a h => List.mem_cons_of_mem _ h) g3⟩
    have hA3 := hA1.up ex1
    obtain ⟨a0, r0, g00⟩ := hg0
    obtain ⟨c0, hc0⟩ : ∃ b, bs[0]? = some b := ⟨_, List.getElem?_eq_getElem (by omega)⟩
    obtain ⟨c1, hc1⟩ : ∃ b, bs[1]? = some b := ⟨_, List.getElem?_eq_getElem (by omega)⟩
    obtain ⟨n01, n02, us0, ds0, q01, q02, q03⟩ := b3 0 c0 hc0
    obtain ⟨n11, n12, us1, ds1, q11, q12, q13⟩ := b3 1 c1 hc1
    have hus0 : 0 < us0.length := by
      rw [g00] at q01
      have e := Option.some.inj q01
      subst e
      rw [dpa_len q03, List.length_cons]
      omega
    refine f2 S0 M0 H0 _ H' S (hA3.set (t := dat X.K (.list (gs.map .list))) hdat) _ fun th2 w H2 hth2 ex2 rr2 => ?_
    have hth2' : th2 = t := hth2
    subst hth2'
    -- slots behind both
    have fin : ∀ {H5 : Hp}, Ex H1 H5 → (∀ a o, a ≠ c0 → a ≠ c1 → H2 a = some o → H5 a = some o) → At S0 M0 H0 ((Δ.set i .no).set j (.th th2)) ((σ.set i (some (V.ref Dd))).set j (some w)) H5 S := fun {H5} e5 k5 => by
      have hB := (hA1.up e5).setS (i := i) (s := .no) (o := some (V.ref Dd)) rfl trivial
      refine hB.set ?_
      have r2 := hnol [c0, c1] (hide S H2) w (fun b hb => by
        have hb' : b = c0 ∨ b = c1 := by simpa using hb
        rcases hb' with e | e
        · subst e; exact ⟨us0, by rw [hide_out (nb _ (List.mem_of_getElem? hc0))]; exact ex2 _ _ q02⟩
        · subst e; exact ⟨us1, by rw [hide_out (nb _ (List.mem_of_getElem? hc1))]; exact ex2 _ _ q12⟩) rr2
      refine th2.up _ _ _ (fun a o ha => ?_) r2
      have m1 : a ∉ [c0, c1] := fun z => by rw [hide_in z] at ha; cases ha
      rw [hide_out m1] at ha
      have m2 : a ∉ S := fun z => by rw [hide_in z] at ha; cases ha
      rw [hide_out m2] at ha
      rw [hide_out m2]
      exact k5 a o (fun z => m1 (by simp [z])) (fun z => m1 (by simp [z])) ha
    have e12 : Ex H1 H2 := ex1.trans ex2
    refine f3 S0 M0 H0 _ H2 S (fin e12 fun _ _ _ _ h => h) _ fun th3 w3 H3 hth3 ex3 rr3 => ?_
    have sx : ((σ.set i (some (V.ref Dd))).set j (some w))[i]? = some (some (V.ref Dd)) := by
      rw [List.getElem?_set_ne (Ne.symm hij), List.getElem?_set_self]
      rw [← hA1.env.len]
      exact hil
    have d3' : H3 Dd = some (.lst (bs.map V.ref)) := ex3 _ _ (ex2 _ _ b1)
    have c03 : H3 c0 = some (.lst us0) := ex3 _ _ (ex2 _ _ q02)
    have c13 : H3 c1 = some (.lst us1) := ex3 _ _ (ex2 _ _ q12)
    refine ⟨.ref Dd, sx, Dd, bs.map V.ref, 0, .ref c0, rfl, rfl, SqL.of d3', atI_nat (j := 0) (by rw [List.getElem?_map, hc0]; rfl), c0, us0, 0, 0, rfl, rfl, c03, ixN_0 hus0, ?_⟩
    have ex34 : Ex H1 (upd H3 c0 (.lst (us0.set 0 w3))) := fun a o h => by
      rw [upd_ne (ne_of_none h n02)]
      exact ex3 _ _ (e12 a o h)
    have D4 : (upd H3 c0 (.lst (us0.set 0 w3))) Dd = some (.lst (bs.map V.ref)) := by rw [upd_ne (Ne.symm n01)]; exact d3'
    obtain ⟨ys, hys⟩ : ∃ ys, (upd H3 c0 (.lst (us0.set 0 w3))) c1 = some (.lst ys) ∧ ys.length ≤ 1000 := by
      have l0 : us0.length ≤ 1000 := by
        rw [dpa_len q03]
        exact hgn _ (List.mem_of_getElem? q01)
      have l1 : us1.length ≤ 1000 := by
        rw [dpa_len q13]
        exact hgn _ (List.mem_of_getElem? q11)
      by_cases q : c1 = c0
      · exact ⟨_, by rw [q, upd_same], by rw [List.length_set]; exact l0⟩
      · exact ⟨_, by rw [upd_ne q]; exact c13, l1⟩
    have k4 : ∀ a o, a ≠ c0 → a ≠ c1 → H2 a = some o → (upd H3 c0 (.lst (us0.set 0 w3))) a = some o := fun a o h1 h2 h => by
      rw [upd_ne h1]
      exact ex3 a o h
    refine ⟨.ref Dd, sx, Dd, bs.map V.ref, 1, .ref c1, rfl, rfl, SqL.of D4, atI_nat (j := 1) (by rw [List.getElem?_map, hc1]; rfl), Or.inl ⟨rfl, ys, Or.inl (Or.inl hys.1)⟩, ?_⟩
    refine f4 S0 M0 H0 _ _ S (fin ex34 k4) _ fun th4 w4 H4 hth4 ex4 rr4 => ?_
    refine ⟨c1, ys, w4, rfl, rfl, ex4 _ _ hys.1, Nat.lt_of_le_of_lt hys.2 (by decide : 1000 < sizeLine), ?_⟩
    refine fu S0 M0 H0 _ _ S (fin (fun a o h => ?_) fun a o h1 h2 h => ?_) D le xw
    · rw [upd_ne (ne_of_none h n12)]
      exact ex4 a o (ex34 a o h)
    · rw [upd_ne h2]
      exact ex4 a o (k4 a o h1 h2 h)
end
end DL
set_option Elab.async false
set_option linter.all false
set_option maxRecDepth 100000
namespace DL
open PySem PySem.Spec PyProof.Rows L2
section
variable {X : Cx} {Δ : List Sl}
/-- {k1: i1, k2: i2, k3: i3} -/
theorem pd_dictC {k1 i1 k2 i2 k3 i3 : Int} {a1 a2 a3 b1 b2 b3 : Nat} {p1 p2 p3 q1 q2 q3 pos : Pos} : PD X Δ (.Dict [some (.Constant (.int k1) a1 p1), some (.Constant (.int k2) a2 p2), some (.Constant (.int k3) a3 p3)] [.Constant (.int i1) b1 q1, .Constant (.int i2) b2 q2, .Constant (.int i3) b3 q3] pos) dicT := by
  refine ⟨_, pe_disp (pps_cons pe_int pe_int (pps_cons pe_int pe_int (pps_cons pe_int pe_int pps_nil))) rfl rfl (by simp) (by simp), fun S0 M0 H0 σ H S hA Q q p hp => ?_⟩
  refine ⟨upd_same, [(Sum.inl k1, .int i1), (Sum.inl k2, .int i2), (Sum.inl k3, .int i3)], rfl, by simp, q _ _ _ rfl (fun x o h => ?_) ⟨p, _, rfl, by rw [hide_out (hA.dom.new hp)]; exact upd_same⟩⟩
  have ne := ne_of_none h hp
  rw [upd_ne ne, upd_ne ne]
  exact h
end
theorem shaped_er2 {k : Nat} {w : Str} (h : w = "many" ∨ w = "corner" ∨ w = "turn" ∨ w = "round") : SeqAt.shaped (errD k w) = true := by
  rcases h with rfl | rfl | rfl | rfl <;> simp [errD, SeqAt.shaped, PyData.canLay0, PyData.canLayAll0, PyData.depth, PyData.depthAll] <;> decide +kernel
theorem vd_of_wk {N : Nat} {cs : List Cp} (h : WkN N cs) (hN : N ≤ 400) : Vd cs :=
  ⟨(h.up hN).ro, fun i hi => by
    have := turn_pos h hi
    unfold badT
    exact decide_eq_false (by omega), rounds_ok h⟩
theorem lfs_cD : ∀ cs : List Cp, lfs (cs.map cD) = true
  | [] => rfl
  | c :: cs => by
    rw [List.map_cons]
    simp [lfs, lf, cD, rD, lfs_cD cs]
theorem nol_wk {K : PySem.W.Frag} {C : Addr} {cs : List Cp} : NoL (wkT K C cs) := by
  refine nol_obj fun f t h => ?_
  have d1 : ∀ ds : List Cp, NoL (dat K (.tuple (ds.map cD))) := fun ds => nol_dat (by simp [lf, lfs_cD])
  simp only [List.lookup] at h
  split at h
  · cases h; exact d1 _
  · split at h
    · cases h; exact d1 _
    · cases h
end DL
set_option Elab.async false
set_option linter.all false
set_option maxRecDepth 100000
set_option maxHeartbeats 4000000
namespace K03
open PySem PySem.Spec PyProof.Rows L2 DL
section
variable {P : Program} {w : World} {K : PySem.W.Frag} {mg : Str → Option Value} {base : Heap} {f : Addr} {fd : FuncData}

theorem ent_sz {N : Nat} {d : PyData} (h : Ent N d) : (seqD d).length ≤ 40000 := by
  rcases h with ⟨c, rfl, _⟩ | h
  · show 2 ≤ 40000; decide
  · exact things_sz d h
/-- a row that may be spoilt: what the check says of it -/
theorem chkl_of {N L : Nat} {ds : List PyData} (h : RowE N L ds) (hN : N ≤ 400) : ∃ r, ChkL ds r := by
  by_cases hl : 3 ≤ ds.length ∧ ds.length ≤ 8
  · by_cases hall : ∀ d ∈ ds, isRow d 2 = true
    · have ex : ∀ es : List PyData, (∀ d ∈ es, Ent N d ∧ isRow d 2 = true) → ∃ cs : List Cp, es = cs.map cD ∧ (∀ c ∈ cs, Cl c) ∧ ∀ c ∈ cs, CSm 400 c := by
        intro es
        induction es with
        | nil => intro _; exact ⟨[], rfl, fun c hc => (by cases hc), fun c hc => (by cases hc)⟩
        | cons d es ih =>
          intro hh
          obtain ⟨cs, e1, e2, e3⟩ := ih fun x hx => hh x (List.mem_cons_of_mem _ hx)
          obtain ⟨c, e4, e5, e6⟩ := ent_row (hh d List.mem_cons_self).1 (hh d List.mem_cons_self).2
          refine ⟨c :: cs, by rw [e1, e4]; rfl, fun x hx => ?_, fun x hx => ?_⟩
          · rcases List.mem_cons.mp hx with q | q
            · rw [q]; exact e5
            · exact e2 x q
          · rcases List.mem_cons.mp hx with q | q
            · rw [q]; exact ⟨e6.x.up hN, e6.y.up hN⟩
            · exact e3 x q
      obtain ⟨cs, rfl, hcl, hsm⟩ := ex ds fun d hd => ⟨h.ent d hd, hall d hd⟩
      rw [List.length_map] at hl
      have hro : RoN 400 cs := ⟨hcl, hsm, hl.1, hl.2⟩
      by_cases hb : ∃ k, k < cs.length ∧ badT cs k = true
      · have lst : ∀ n, (∃ k, k < n ∧ badT cs k = true) → ∃ k, k < n ∧ badT cs k = true ∧ ∀ i, i < k → badT cs i = false := by
          intro n
          induction n with
          | zero => intro ⟨k, hk, _⟩; omega
          | succ n ih =>
            intro ⟨k, hk, hbk⟩
            by_cases q : ∃ k, k < n ∧ badT cs k = true
            · obtain ⟨k', h1, h2, h3⟩ := ih q
              exact ⟨k', by omega, h2, h3⟩
            · refine ⟨k, hk, hbk, fun i hi => ?_⟩
              cases z : badT cs i with
              | false => rfl
              | true => exact absurd ⟨i, by omega, z⟩ q
        obtain ⟨k, h1, h2, h3⟩ := lst cs.length hb
        exact ⟨_, Or.inr (Or.inr ⟨cs, rfl, hro, Or.inl ⟨k, h1, h2, h3, rfl⟩⟩)⟩
      · have hb' : ∀ i, i < cs.length → badT cs i = false := fun i hi => by
          cases z : badT cs i with
          | false => rfl
          | true => exact absurd ⟨i, hi, z⟩ hb
        by_cases hr : roundsN (sidesC cs) = 1
        · exact ⟨_, Or.inr (Or.inr ⟨cs, rfl, hro, Or.inr ⟨hb', Or.inr ⟨hr, rfl⟩⟩⟩)⟩
        · exact ⟨_, Or.inr (Or.inr ⟨cs, rfl, hro, Or.inr ⟨hb', Or.inl ⟨hr, rfl⟩⟩⟩)⟩
    · have lst : ∀ es : List PyData, (¬ ∀ d ∈ es, isRow d 2 = true) → ∃ (j : Nat) (dj : PyData), es[j]? = some dj ∧ isRow dj 2 = false ∧ ∀ (i : Nat) d, i < j → es[i]? = some d → isRow d 2 = true := by
        intro es
        induction es with
        | nil => intro q; exact absurd (fun d hd => by cases hd) q
        | cons d es ih =>
          intro q
          cases z : isRow d 2 with
          | false => exact ⟨0, d, rfl, z, fun i _ hi => by omega⟩
          | true =>
            obtain ⟨j, dj, h1, h2, h3⟩ := ih fun q2 => q fun x hx => by
              rcases List.mem_cons.mp hx with e | e
              · rw [e]; exact z
              · exact q2 x e
            refine ⟨j + 1, dj, h1, h2, fun i x hi hx => ?_⟩
            cases i with
            | zero => have e := Option.some.inj hx; rw [← e]; exact z
            | succ i => exact h3 i x (by omega) hx
      obtain ⟨j, dj, h1, h2, h3⟩ := lst ds hall
      exact ⟨_, Or.inr (Or.inl ⟨hl.1, hl.2, fun d hd => ent_sz (h.ent d hd), j, dj, h1, h2, h3, rfl⟩)⟩
  · exact ⟨_, Or.inl ⟨hl, rfl⟩⟩
theorem chkl_in {ds : List PyData} {cs : List Cp} (h : ChkL ds (.inl cs)) : Vd cs ∧ ds = cs.map cD := by
  rcases h with ⟨_, h⟩ | ⟨_, _, _, _, _, _, _, _, h⟩ | ⟨cs', e, hr, ⟨_, _, _, _, h⟩ | ⟨h1, ⟨_, h⟩ | ⟨h2, h⟩⟩⟩
  all_goals first | (cases h; exact ⟨⟨hr, h1, h2⟩, e⟩) | cases h
theorem chkl_word {ds : List PyData} {k : Nat} {w : Str} (h : ChkL ds (.inr (k, w))) : w = "many" ∨ w = "corner" ∨ w = "turn" ∨ w = "round" := by
  rcases h with ⟨_, h⟩ | ⟨_, _, _, _, _, _, _, _, h⟩ | ⟨cs', e, hr, ⟨_, _, _, _, h⟩ | ⟨h1, ⟨_, h⟩ | ⟨h2, h⟩⟩⟩
  · cases h; exact Or.inl rfl
  · cases h; exact Or.inr (Or.inl rfl)
  · cases h; exact Or.inr (Or.inr (Or.inl rfl))
  · cases h; exact Or.inr (Or.inr (Or.inr rfl))
  · cases h
theorem ok_law (F : Fun K "law" "law" s_law f fd) (T : Txt K mg) {C N W : Addr} (c : Cls K C) (iC : IsI K C) (gN : mg "NoSide" = some (.ref N)) (xf : XfC K N) (hno : PySem.W.findIn K (.ref N) "side" = some none) (eNN : PySem.W.exmOne K (.ref N) (.ref N) = some true) (MW : Mkr P w K mg base "Work" C 6 (RMkG K W)) (M_begun_at : MthX P w K mg base C "begun_at" 8 (RBegR K C N)) (G__law_hand : Gd P w K mg base "_law_hand" 1 [] (RHand K)) (G__law_work : Gd P w K mg base "_law_work" 3 [] (RWork K)) (G__law_draw : Gd P w K mg base "_law_draw" 2 [] (RDraw K)) (G__law_spoilt : Gd P w K mg base "_law_spoilt" 5 [] (RLSpo K)) (G__law_made : Gd P w K mg base "_law_made" 8 [] (RLMade K C)) (G__law_fault : Gd P w K mg base "_law_fault" 5 [] (RLFault K)) (G__law_work_right : Gd P w K mg base "_law_work_right" 9 [] (RLRight K C)) : FnOk P w K mg base CX0 10 f fd ["_law_script"] (spT (RLaw K)) := by
  refine fn_mk F sc_law (fun ts A ⟨_, e, _⟩ => by rw [e]; rfl) fun cdv Ar outer s H E hr ts B' hR => ?_
  obtain ⟨ns, rfl, hns, rfl⟩ := hR
  refine sd_asg 1 (pd_call G__law_hand (hr.mono (by decide)) (pl_cons (px_var 0 rfl) pl_nil) ⟨ns, rfl, by omega, rfl⟩) ?_ sc_law.nd
  refine sd_asgX 2 (px_call G__law_work (hr.mono (by decide)) (pl_cons (px_var 1 rfl) (pl_cons px_int pl_nil)) (fun ts h => ⟨_, ⟨8, (List.append_nil ts).trans h, by decide, by decide, rfl⟩, fun t ht => ht⟩)) (fun t ⟨cs, ht, hg⟩ => ?_) sc_law.nd
  subst ht
  have hw4 : W4 cs := wk_of_gw (by decide) hg
  have hv : Vd cs := vd_of_wk hw4 (by decide)
  have hlo := hw4.lo
  have hhi := hw4.hi
  have r0 : RowE 40 8 (cs.map cD) := ⟨by rw [List.length_map]; exact hhi, fun d hd => by
    obtain ⟨q, hq, rfl⟩ := List.mem_map.mp hd
    exact Or.inl ⟨q, rfl, hw4.cl q hq, hw4.sm q hq⟩⟩
  refine sd_asgU 3 (As := fun us => ∃ d1, us = [dat K (.list (cs.map cD)), dat K (.list d1)] ∧ RowE 125 16 d1) (pf_lst (pl_consA (B := fun us => ∃ d1, us = [dat K (.list d1)] ∧ RowE 125 16 d1) (px_var 2 rfl) (pl_consA (px_call G__law_spoilt (hr.mono (by decide)) (pl_cons (px_var 1 rfl) (pl_cons (px_var 2 rfl) pl_nil)) (fun ts h => ⟨_, ⟨cs.map cD, 40, 8, (List.append_nil ts).trans h, r0, by decide, by decide, by decide, by decide, rfl⟩, fun t ht => ht⟩)) pl_nil (fun t us ⟨d1, h1, h2⟩ h3 => ⟨d1, by rw [h1, h3], h2⟩)) (fun t us h1 ⟨d1, h2, h3⟩ => ⟨d1, by rw [h1, h2], h3⟩)) (fun ts ⟨d1, h, _⟩ => by rw [h]; show 2 ≤ 1000; decide)) (fun us ⟨d1, hu, h1⟩ => ?_) sc_law.nd
  subst hu
  refine sd_app (A := fun t => ∃ d2, t = dat K (.list d2) ∧ RowE 380 32 d2) 3 rfl (px_call G__law_spoilt (hr.mono (by decide)) (pl_cons (px_var 1 rfl) (pl_cons (pd_ixM 3 (j := 1) (t := dat K (.list d1)) rfl (pv 3) px_int rfl) pl_nil)) (fun ts h => ⟨_, ⟨d1, 125, 16, (List.append_nil ts).trans h, h1, by decide, by decide, by decide, by decide, rfl⟩, fun t ht => ht⟩)) (by show 2 < 100000; decide) (fun t ⟨d2, ht, h2⟩ => ?_) rfl (by first | exact Or.inl rfl | exact Or.inr (Or.inl rfl)) (fun te pe => pe_bm PySem.F.plainAttrs_list PySem.F.slot_list_append PySem.F.type_list_append mt_append (pv 3) (pa_cons pe pa_nil))
  subst ht
  refine sd_freeze 3 (ds := [.list (cs.map cD), .list d1, .list d2]) rfl rfl ?_
  have tail : ∀ s4 s5 s6 s7 s8 s9, SD (cxOf CX0 P w K mg base ["_law_script", "_law_hand_here", "_law_work_here", "_law_rows", "_law_thing", "_law_told", "_law_row", "_law_due", "_law_kept", "_law_passed", "_law_listed", "_law_made_here", "e", "_law_corner"] "law" (defScope s_law) f cdv Ar outer s H E).nox (fun _ _ _ _ => False) ((defBody s_law).drop 6) (retOf K (· = dat K (.bool true))) [.th (dat K (.list (ns.map .int))), .th handT, .th (dat K (.list (cs.map cD))), .th (dat K (.list [.list (cs.map cD), .list d1, .list d2])), s4, s5, s6, s7, s8, s9, .no, .no, .no, .no] := fun s4 s5 s6 s7 s8 s9 => by
    refine sd_nest 10 11 13 (ds := cs.map cD) (gs := cs.map fun q => [rD q.1, rD q.2]) (t := wkT K C cs) (d3 := .tuple [.int 99, .int 1]) (d4 := .tuple [.int 1, .int 1]) (px_var 2 rfl) (by rw [List.length_map]; omega) (by rw [List.length_map, List.length_map]) (by rw [List.length_map]; omega) ?_ (fun x hx => ?_) (fun i z x hz hx _ _ _ _ _ => ?_) (blkOk_by (own := [("_law_corner", 13)]) (N := ["_law_script", "_law_hand_here", "_law_work_here", "_law_rows", "_law_thing", "_law_told", "_law_row", "_law_due", "_law_kept", "_law_passed", "_law_listed", "_law_made_here", "e", "_law_corner"]) (by rfl)) (fun _ _ _ _ _ => pg_name (i := 13) sc_law.nd rfl (Or.inl rfl)) (pd_make MW (hr.mono (by decide)) (pl_cons (px_var 10 rfl) pl_nil) ⟨_, .inl cs, rfl, ?_, rfl⟩) nol_wk (pd_tup (ds := [.int 99, .int 1]) (pl_cons px_int (pl_cons px_int pl_nil))) (pd_tup (ds := [.int 1, .int 1]) (pl_cons px_int (pl_cons px_int pl_nil))) ?_ (by decide) (by show 10 < 14; decide) sc_law.nd (fun q => pv 10) (fun to te po pe => pe_bm PySem.F.plainAttrs_list PySem.F.slot_list_append PySem.F.type_list_append mt_append po (pa_cons pe pa_nil))
    · cases q : cs with
      | nil => rw [q] at hlo; exact absurd hlo (by decide)
      | cons a r => exact ⟨_, _, rfl⟩
    · obtain ⟨q, _, rfl⟩ := List.mem_map.mp hx
      show 2 ≤ 1000
      decide
    · rw [List.getElem?_map] at hz hx
      obtain ⟨q, hq, rfl⟩ := Option.map_eq_some_iff.mp hz
      rw [hq] at hx
      have hx' := Option.some.inj hx
      subst hx'
      exact pl_cons (pd_ix (D := cD q) (px_var 13 rfl) px_int rfl) (pl_cons (pd_ix (D := cD q) (px_var 13 rfl) px_int rfl) pl_nil)
    · refine Or.inr ⟨_, Or.inr rfl, by rw [List.length_map, List.length_map]; omega, Or.inr (Or.inr ⟨cs, ⟨by rw [List.length_map, List.length_map], fun i hi => Or.inr ?_⟩, hv.ro, Or.inr ⟨hv.tn, Or.inr ⟨hv.rd, rfl⟩⟩⟩)⟩
      rw [List.getElem?_map, List.getElem?_map, at_get hi]
      rfl
    · refine sd_skip (PB.is (k' := false) (pb_not (pb_val (pd_call G__law_work_right (hr.mono (by decide)) (pl_cons (px_var 11 rfl) (pl_cons (px_var 2 rfl) pl_nil)) ⟨cs, rfl, hv, rfl⟩))) rfl) ?_
      refine sd_tryF 12 (cv := .ref N) (Wout := fun _ _ _ _ => False) (fun C' fs Δ' => C' = N ∧ fs = [(("side" : Str), dat K (.int (cs.length : Nat)))] ∧ Δ' = [.th (dat K (.list (ns.map .int))), .th handT, .th (dat K (.list (cs.map cD))), .th (dat K (.list [.list (cs.map cD), .list d1, .list d2])), s4, s5, s6, s7, s8, s9, .no, .th (wkT K C cs), .no, .no]) sc_law.nd rfl rfl ⟨rfl, by decide, Or.inl gN⟩ takes0 ?_ ?_ ?_ ?_
      · intro Wx pn xe tk hp
        exact sd_expR (pr_meth tk M_begun_at c (hr.mono (by decide)) (px_var 11 rfl) rfl (pl_cons (pd_len (n := cs.length) T.z_len (px_var 2 rfl) (by show some (cs.map cD).length = _; rw [List.length_map])) pl_nil) (fun ts hts => by rw [hts]; exact ⟨cs, _, rfl, hv, Or.inr ⟨by
          show (decide ((0 : Int) ≤ (cs.length : Nat)) && decide (((cs.length : Nat) : Int) ≤ (cs.length : Int) - 1)) = false
          rw [decide_eq_false (show ¬ ((cs.length : Nat) : Int) ≤ (cs.length : Int) - 1 by omega), Bool.and_false], rfl⟩⟩)) ⟨rfl, rfl, rfl⟩
      · rintro C' fs Δ' ⟨rfl, rfl, rfl⟩
        exact eNN
      · rintro C' fs Δ' ⟨hC, rfl, rfl⟩ a oe d0 pn hz hf hn
        have hC' := hC.symm
        subst hC'
        exact sd_ret (PD.is (pd_cmp (ct_eq hr.units rfl rfl) (pd_xf (t := dat K (.int (cs.length : Nat))) xf hno hz hf (px_var 12 rfl) (by simp [List.lookup])) (pd_len (n := cs.length) T.z_len (px_var 2 rfl) (by show some (cs.map cD).length = _; rw [List.length_map])) (nomark _)) (by show dat K (.bool (((cs.length : Nat) : Int) == ((cs.length : Nat) : Int))) = _; rw [beq_self_eq_true])) rfl
      · rintro C' fs Δ' ⟨rfl, rfl, rfl⟩ ts h
        cases h
  have rows : ∀ s4 s5, SD (cxOf CX0 P w K mg base ["_law_script", "_law_hand_here", "_law_work_here", "_law_rows", "_law_thing", "_law_told", "_law_row", "_law_due", "_law_kept", "_law_passed", "_law_listed", "_law_made_here", "e", "_law_corner"] "law" (defScope s_law) f cdv Ar outer s H E).nox (fun _ _ _ _ => False) ((defBody s_law).drop 5) (retOf K (· = dat K (.bool true))) [.th (dat K (.list (ns.map .int))), .th handT, .th (dat K (.list (cs.map cD))), .th (dat K (.list [.list (cs.map cD), .list d1, .list d2])), s4, s5, .no, .no, .no, .no, .no, .no, .no, .no] := fun s4 s5 => by
    refine sd_forT 6 (ts := ([.list (cs.map cD), .list d1, .list d2] : List PyData).map (dat K)) (fun i Δ' => ∃ s5 s6 s7 s8 s9 : Sl, Δ' = [.th (dat K (.list (ns.map .int))), .th handT, .th (dat K (.list (cs.map cD))), .th (dat K (.list [.list (cs.map cD), .list d1, .list d2])), s4, s5, s6, s7, s8, s9, .no, .no, .no, .no]) (px_var 3 rfl) (Or.inr dat_lst) ⟨_, _, _, _, _, rfl⟩ ?_ (fun Δ' ⟨s5, s6, s7, s8, s9, e⟩ => by subst e; exact tail _ _ _ _ _ _) sc_law.nd
    rintro i z Δ' hz ⟨s5, s6, s7, s8, s9, rfl⟩
    obtain ⟨ds, hz', hlen, r, hch⟩ : ∃ ds : List PyData, z = dat K (.list ds) ∧ ds.length ≤ 40000 ∧ ∃ r, ChkL ds r := by
      match i, hz with
      | 0, hz => exact ⟨_, (Option.some.inj hz).symm, by have := r0.len; omega, chkl_of r0 (by decide)⟩
      | 1, hz => exact ⟨_, (Option.some.inj hz).symm, by have := h1.len; omega, chkl_of h1 (by decide)⟩
      | 2, hz => exact ⟨_, (Option.some.inj hz).symm, by have := h2.len; omega, chkl_of h2 (by decide)⟩
      | n + 3, hz => simp at hz
    subst hz'
    refine sd_asg 7 (t := dat K (faultT r)) (pd_call G__law_fault (hr.mono (by decide)) (pl_cons (px_var 6 rfl) pl_nil) ⟨ds, r, rfl, hlen, hch, rfl⟩) ?_ sc_law.nd
    refine sd_asg 8 (pd_list T.z_list (Or.inl (px_var 6 rfl))) ?_ sc_law.nd
    cases r with
    | inr q =>
      obtain ⟨k, wd⟩ := q
      have hwd := chkl_word hch
      refine sd_asgX 9 (A := fun t => t = dat K (.tuple ds) ∨ t = dat K (.list ds)) (px_ifE (pbe_eq (px_draw (i := 1) G__law_draw (hr.mono (by decide)) rfl (pi_of px_int) (fun m hm => by subst hm; decide)) (pi_of px_int)) ((pd_tuple T.z_tuple (Or.inl (px_var 6 rfl))).imp fun t h => Or.inl h) ((pd_list T.z_list (Or.inl (px_var 6 rfl))).imp fun t h => Or.inr h)) (fun t ht => ?_) sc_law.nd
      refine sd_asg 5 (t := dat K (errD k wd)) (pd_call G__law_made (hr.mono (by decide)) (pl_cons (px_var 9 rfl) pl_nil) ⟨t, .inr (k, wd), rfl, chk_of hch hlen ht, rfl⟩) ?_ sc_law.nd
      refine sd_ifT (PB.is (k' := true) (pb_cmp ct_notN (px_var 7 rfl) px_none (nomark _)) rfl) ?_
      refine sd_skip (PB.is (PBW.pb (pwo (pb_cmp (ct_ne hr.units (shaped_er2 (k := k) hwd) (shaped_er2 (k := k) hwd)) (px_var 5 rfl) (pd_lst (ds := [.int (k : Nat), .str wd]) (pl_cons (pd_ix (D := .tuple [.int (k : Nat), .str wd]) (px_var 7 rfl) px_int rfl) (pl_cons (pd_ix (D := .tuple [.int (k : Nat), .str wd]) (px_var 7 rfl) px_int rfl) pl_nil))) (nomark _)) (pw1o (PB.is (k' := false) (pb_val (pd_isi (d := .int (k : Nat)) (n := "bool") T.z_isinstance (pd_ix (D := .list [.int (k : Nat), .str wd]) (d := .int (k : Nat)) (px_var 5 rfl) px_int rfl) (pd_tyN (n := "bool") T.z_bool) rfl)) rfl)))) (by rw [eqv_err]; rfl)) ?_
      exact sd_nil (sd_nil ⟨_, _, _, _, _, rfl⟩)
    | inl es =>
      obtain ⟨hve, rfl⟩ := chkl_in hch
      refine sd_asgE 9 (A := fun t => t = dat K (.tuple (es.map cD))) (As := fun us => us = (es.map cD).map (dat K)) (pbe_eq (px_draw (i := 1) G__law_draw (hr.mono (by decide)) rfl (pi_of px_int) (fun m hm => by subst hm; decide)) (pi_of px_int)) (pd_tuple T.z_tuple (Or.inl (px_var 6 rfl))) (pf_list T.z_list (px_var 6 rfl)) (fun t ht => ?_) (fun us hu => ?_) sc_law.nd
      · subst ht
        refine sd_asg 5 (t := wkT K C es) (pd_call G__law_made (hr.mono (by decide)) (pl_cons (px_var 9 rfl) pl_nil) ⟨_, .inl es, rfl, chk_of hch hlen (Or.inl rfl), rfl⟩) ?_ sc_law.nd
        refine sd_ifF (PB.is (k' := false) (pb_cmp ct_notN (px_var 7 rfl) px_none (nomark _)) rfl) ?_
        refine sd_skip (PB.is (PBW.pb (pwo (PB.is (k' := false) (pb_not (pb_val (pd_isO iC c T.z_isinstance (px_var 5 rfl) (pd_cls MW.gC)))) rfl) (pwo (pb_cmp (ct_ne hr.units (shaped_cDs es) (shaped_cDs es)) (pd_list T.z_list (Or.inr (px_var 9 rfl))) (px_var 8 rfl) (nomark _)) (pw1o (PB.is (k' := false) (pb_not (pb_val (pd_call G__law_work_right (hr.mono (by decide)) (pl_cons (px_var 5 rfl) (pl_cons (px_var 6 rfl) pl_nil)) ⟨es, rfl, hve, rfl⟩))) rfl))))) (by rw [eqv_cL]; rfl)) ?_
        refine sd_skip (PB.is (k' := false) (pb_val (pd_isi (d := .tuple (es.map cD)) (n := "list") T.z_isinstance (px_var 9 rfl) (pd_tyN (n := "list") T.z_list) rfl)) rfl) ?_
        exact sd_nil (sd_nil ⟨_, _, _, _, _, rfl⟩)
      · subst hu
        refine sd_asg 5 (t := wkT K C es) (px_withmlO 9 (ds := es.map cD) rfl (fun t h => by subst h; exact nol_wk) (pd_call G__law_made (hr.mono (by decide)) (pl_cons (px_var 9 rfl) pl_nil) ⟨_, .inl es, rfl, chk_of hch hlen (Or.inr rfl), rfl⟩)) ?_ sc_law.nd
        refine sd_ifF (PB.is (k' := false) (pb_cmp ct_notN (px_var 7 rfl) px_none (nomark _)) rfl) ?_
        refine sd_skip (PB.is (PBW.pb (pwo (PB.is (k' := false) (pb_not (pb_val (pd_isO iC c T.z_isinstance (px_var 5 rfl) (pd_cls MW.gC)))) rfl) (pwo (pb_cmp (ct_ne hr.units (shaped_cDs es) (shaped_cDs es)) (pd_listM 9 (ds := es.map cD) rfl T.z_list) (px_var 8 rfl) (nomark _)) (pw1o (PB.is (k' := false) (pb_not (pb_val (pd_call G__law_work_right (hr.mono (by decide)) (pl_cons (px_var 5 rfl) (pl_cons (px_var 6 rfl) pl_nil)) ⟨es, rfl, hve, rfl⟩))) rfl))))) (by rw [eqv_cL]; rfl)) ?_
        refine sd_ifT (PB.is (k' := true) (pb_val (pd_withml 9 (ds := es.map cD) rfl rfl (pd_isi (d := .list (es.map cD)) (n := "list") T.z_isinstance (px_var 9 rfl) (pd_tyN (n := "list") T.z_list) rfl))) rfl) ?_
        refine sd_revM 9 rfl ?_ (pe_bm0 PySem.F.plainAttrs_list PySem.F.slot_list_reverse PySem.F.type_list_reverse mt_reverse (pv 9))
        refine sd_app (A := fun t => t = dat K .none) 9 rfl px_none (by rw [List.length_reverse, List.length_map]; omega) (fun t ht => ?_) rfl (by first | exact Or.inl rfl | exact Or.inr (Or.inl rfl)) (fun te pe => pe_bm PySem.F.plainAttrs_list PySem.F.slot_list_append PySem.F.type_list_append mt_append (pv 9) (pa_cons pe pa_nil))
        refine sd_skip (PB.is (k' := false) (pb_not (pb_val (pd_call G__law_work_right (hr.mono (by decide)) (pl_cons (px_var 5 rfl) (pl_cons (px_var 8 rfl) pl_nil)) ⟨es, rfl, hve, rfl⟩))) rfl) ?_
        exact sd_forget 9 (sd_nil (sd_nil (sd_nil ⟨_, _, _, _, _, rfl⟩)))
  refine sd_forT 4 (ts := [dat K .none, dat K (.str "abc"), dat K (.int 5), dicT]) (fun i Δ' => ∃ s4 s5 : Sl, Δ' = [.th (dat K (.list (ns.map .int))), .th handT, .th (dat K (.list (cs.map cD))), .th (dat K (.list [.list (cs.map cD), .list d1, .list d2])), s4, s5, .no, .no, .no, .no, .no, .no, .no, .no]) (pd_tupT (pl_cons px_none (pl_cons px_str (pl_cons px_int (pl_cons pd_dictC pl_nil))))) (Or.inl rfl) ⟨_, _, rfl⟩ ?_ (fun Δ' ⟨s4, s5, e⟩ => by subst e; exact rows _ _) sc_law.nd
  rintro i z Δ' hz ⟨s4, s5, rfl⟩
  obtain ⟨x, rfl, hx⟩ : ∃ x : AD, z = anyT K x ∧ isSeqA x = false := by
    match i, hz with
    | 0, hz => exact ⟨some .none, (Option.some.inj hz).symm, rfl⟩
    | 1, hz => exact ⟨some (.str "abc"), (Option.some.inj hz).symm, rfl⟩
    | 2, hz => exact ⟨some (.int 5), (Option.some.inj hz).symm, rfl⟩
    | 3, hz => exact ⟨none, (Option.some.inj hz).symm, rfl⟩
    | n + 4, hz => simp at hz
  refine sd_asg 5 (t := dat K (errD 0 "many")) (pd_call G__law_made (hr.mono (by decide)) (pl_cons (px_var 4 rfl) pl_nil) ⟨_, .inr (0, "many"), rfl, Or.inl ⟨x, rfl, hx, rfl⟩, rfl⟩) ?_ sc_law.nd
  refine sd_skip (PB.is (pb_cmp (ct_ne hr.units (shaped_er2 (k := 0) (Or.inl rfl)) (shaped_er2 (k := 0) (Or.inl rfl))) (px_var 5 rfl) (pd_lst (ds := [.int ((0 : Nat) : Int), .str "many"]) (pl_cons px_int (pl_cons px_str pl_nil))) (nomark _)) (by rw [eqv_err]; rfl)) ?_
  exact sd_nil ⟨_, _, rfl⟩

end
end K03
set_option Elab.async false
set_option linter.all false
set_option maxRecDepth 100000
/-! What the top says of an error class with an __init__ of its own. -/
namespace DL
open PySem PySem.Spec PyProof.Rows L2
def ErrI (K : PySem.W.Frag) (x q : Str) (st : Stmt) (gs : List Str) : Prop := ∃ (C f : Addr) (fd : FuncData), PySem.W.nsIn K mainGlobals x = some (some (.ref C)) ∧ OexC K C ∧ XfC K C ∧ PySem.W.exmOne K (.ref C) (.ref C) = some true ∧ (∀ g ∈ gs, PySem.W.findIn K (.ref C) g = some none) ∧
  PySem.W.findIn K (.ref C) "__init__" = some (some (.ref f)) ∧ PySem.W.typeIn K (.ref f) = some (.type "function") ∧ Fun K "__init__" q st f fd
section
variable {K : PySem.W.Frag} {x qn : Str} {st : Stmt} {C S f : Addr} {nm q : Str} {N : Addr} {bs : List Value} {sn : List Str} {sub : List Value} {ab : Bool} {col : Option Bool} {dd : Option Addr} {m0 m1 m2 m3 m5 : Option Value} {oc : Value} {od an : Option Addr} {osl : Array (Option Value)} {kV doc pm cdv ct : Value} {g g' : Str}
theorem erri_mk1 (aC : PySem.W.nsIn K mainGlobals x = some (some (.ref C)))
    (xL : K.lookup C = some (excClassObj nm q C N bs [.ref S, .type "ValueError", .type "Exception", .type "BaseException", .type "object"] true sn sub ab col dd m0 m1 m2 m3 m5 "ValueError.__new__"))
    (sa : PySem.W.findIn K (.ref C) "__setattr__" = some (some (.builtin "object.__setattr__"))) (ga : PySem.W.findIn K (.ref C) "__getattribute__" = some (some (.builtin "BaseException.__getattribute__"))) (gg : PySem.W.findIn K (.ref C) "__getattr__" = some none) (nb : PySem.W.findIn K (.ref C) g = some none)
    (kC : PySem.W.keepIn K (.ref C) = true) (eC : PySem.W.subIn K (.ref C) (.type "BaseException") = some true) (tC : PySem.W.typeIn K (.ref C) = some (.type "type")) (hC : PySem.W.hasDictIn K C = true) (iC : PySem.W.isClsIn K C = true) (sC : PySem.W.subIn K (.ref C) (.ref C) = some true)
    (a1 : PySem.W.findIn K (.ref C) "__init__" = some (some (.ref f))) (t1 : PySem.W.typeIn K (.ref f) = some (.type "function"))
    (l1 : K.lookup f = some ⟨oc, od, .func (PySem.W.fnOf "__init__" qn (defArgs st) (defBody st) (defScope st) .none kV doc pm an cdv ct), osl⟩) (c1 : PySem.W.codeIn K cdv qn = true) (k1 : PySem.W.keepIn K (.ref f) = true) : ErrI K x qn st [g] :=
  ⟨C, f, _, aC, ⟨⟨nm, q, N, bs, _, sn, sub, ab, col, dd, m0, m1, m2, m3, m5, xL, (show PySem.HandSPX.refsVE [.type "ValueError", .type "Exception", .type "BaseException", .type "object"] = true by decide +kernel)⟩, sa, eC, tC, kC⟩, ⟨ga, gg, eC, hC⟩, exm_own eC iC tC sC, fun z hz => by rw [List.mem_singleton.mp hz]; exact nb, a1, t1, fun_mk l1 c1 k1⟩
theorem erri_mk2 (aC : PySem.W.nsIn K mainGlobals x = some (some (.ref C)))
    (xL : K.lookup C = some (excClassObj nm q C N bs [.ref S, .type "ValueError", .type "Exception", .type "BaseException", .type "object"] true sn sub ab col dd m0 m1 m2 m3 m5 "ValueError.__new__"))
    (sa : PySem.W.findIn K (.ref C) "__setattr__" = some (some (.builtin "object.__setattr__"))) (ga : PySem.W.findIn K (.ref C) "__getattribute__" = some (some (.builtin "BaseException.__getattribute__"))) (gg : PySem.W.findIn K (.ref C) "__getattr__" = some none) (nb : PySem.W.findIn K (.ref C) g = some none) (nb2 : PySem.W.findIn K (.ref C) g' = some none)
    (kC : PySem.W.keepIn K (.ref C) = true) (eC : PySem.W.subIn K (.ref C) (.type "BaseException") = some true) (tC : PySem.W.typeIn K (.ref C) = some (.type "type")) (hC : PySem.W.hasDictIn K C = true) (iC : PySem.W.isClsIn K C = true) (sC : PySem.W.subIn K (.ref C) (.ref C) = some true)
    (a1 : PySem.W.findIn K (.ref C) "__init__" = some (some (.ref f))) (t1 : PySem.W.typeIn K (.ref f) = some (.type "function"))
    (l1 : K.lookup f = some ⟨oc, od, .func (PySem.W.fnOf "__init__" qn (defArgs st) (defBody st) (defScope st) .none kV doc pm an cdv ct), osl⟩) (c1 : PySem.W.codeIn K cdv qn = true) (k1 : PySem.W.keepIn K (.ref f) = true) : ErrI K x qn st [g, g'] :=
  ⟨C, f, _, aC, ⟨⟨nm, q, N, bs, _, sn, sub, ab, col, dd, m0, m1, m2, m3, m5, xL, (show PySem.HandSPX.refsVE [.type "ValueError", .type "Exception", .type "BaseException", .type "object"] = true by decide +kernel)⟩, sa, eC, tC, kC⟩, ⟨ga, gg, eC, hC⟩, exm_own eC iC tC sC, fun z hz => by
    rcases List.mem_cons.mp hz with e | e
    · rw [e]; exact nb
    · rw [List.mem_singleton.mp e]; exact nb2, a1, t1, fun_mk l1 c1 k1⟩
end
theorem paired_take {xs : List V} {us : List Value} (r : Vals xs us) : ∀ n, Vals (xs.take n) (us.take n) := by
  induction r with
  | nil => intro n; rw [List.take_nil, List.take_nil]; exact .nil
  | cons h t ih =>
    intro n
    cases n with
    | zero => exact .nil
    | succ n => exact .cons h (ih n)
end DL
set_option Elab.async false
set_option linter.all false
set_option maxRecDepth 100000
namespace K03
open PySem PySem.Spec PyProof.Rows L2 DL
section
theorem kit_tupC {K : PySem.W.Frag} {C : Addr} (h2 : PySem.W.isClsIn K C = true) (h3 : PySem.W.typeIn K (.ref C) = some (.type "type")) : PySem.W.kitOne K (.type "tuple") (.ref C) = some false := by
  have e2 : ((PySem.W.clsIn K C).isSome && PySem.W.typeIn K (.ref C) == some (.type "type")) = true := by
    have h2' : (PySem.W.clsIn K C).isSome = true := h2
    rw [h2', h3] <;> rfl
  show (if (Value.type "tuple" == Value.ref C) = true then some true else if ((PySem.W.clsIn K C).isSome && PySem.W.typeIn K (.ref C) == some (.type "type")) = true then PySem.W.subIn K (.type "tuple") (.ref C) else none) = some false
  rw [if_neg (by exact Bool.false_ne_true), if_pos e2]
  rfl
abbrev s_init_NoSide : Stmt := inClass (top 5) 0
theorem sc_init_NoSide : FnScope ["self", "side"] ["self", "side"] (defScope s_init_NoSide) := ⟨rfl, rfl, rfl, by decide +kernel, rfl, by decide +kernel, by decide +kernel⟩
theorem ini_NoSide {P : Program} {w : World} {K : PySem.W.Frag} {mg : Str → Option Value} {base : Heap} {f : Addr} {fd : FuncData} (F : Fun K "__init__" "NoSide.__init__" s_init_NoSide f fd) : FnOk P w K mg base CX0 1 f fd ["self", "side"] (spIni1 K "side") := by
  refine F.ok sc_init_NoSide (fun vs H Q E ⟨a, C, y, e, _⟩ => by rw [e]; rfl) fun cdv A outer s H vs Q E hr ⟨a, C, y, e, T, hno, ha, k⟩ => ?_
  subst e
  refine ⟨_, pss_one (ps_ost (pv 0) (pv 1)), ?_⟩
  exact ⟨_, rfl, _, rfl, a, C, rfl, T, hno, Or.inl ⟨ha, fun dx hd hne => k dx hd hne⟩⟩
theorem bd_init_NoSide {K : PySem.W.Frag} {f : Addr} {fd : FuncData} (F : Fun K "__init__" "NoSide.__init__" s_init_NoSide f fd) : Binds K fd ["self", "side"] [] := F.binds fun _ _ _ _ _ _ us hl => match us, hl with | [_, _], _ => rfl
abbrev s_init_BadWork : Stmt := inClass (top 4) 0
theorem sc_init_BadWork : FnScope ["self", "index", "what"] ["self", "index", "what"] (defScope s_init_BadWork) := ⟨rfl, rfl, rfl, by decide +kernel, rfl, by decide +kernel, by decide +kernel⟩
theorem ini_BadWork {P : Program} {w : World} {K : PySem.W.Frag} {mg : Str → Option Value} {base : Heap} {f : Addr} {fd : FuncData} (F : Fun K "__init__" "BadWork.__init__" s_init_BadWork f fd) : Binds K fd ["self", "index", "what"] [] ∧ FnOk P w K mg base CX0 1 f fd ["self", "index", "what"] (spIni2 K "index" "what") := by
  refine ⟨F.binds fun _ _ _ _ _ _ us hl => match us, hl with | [_, _, _], _ => rfl, ?_⟩
  refine F.ok sc_init_BadWork (fun vs H Q E ⟨a, C, y, y', e, _⟩ => by rw [e]; rfl) fun cdv A outer s H vs Q E hr ⟨a, C, y, y', e, T, hno, hno', ha, k⟩ => ?_
  subst e
  refine ⟨_, pss_cons (ps_ost (pv 0) (pv 1)) (pss_one (ps_ost (pv 0) (pv 2))), ?_⟩
  exact ⟨_, rfl, _, rfl, a, C, rfl, T, hno, Or.inl ⟨ha, fun dx hd hne => ⟨_, rfl, _, rfl, a, C, rfl, T, hno', Or.inr ⟨dx, _, upd_same, by rw [upd_ne hne]; exact upd_same, by show 1 ≤ 900; decide, k dx hd hne⟩⟩⟩⟩
theorem bdw_init {K : PySem.W.Frag} {f : Addr} {fd : FuncData} (F : Fun K "__init__" "Work.__init__" w___init__ f fd) : Binds K fd ["self", "corners"] [] := F.binds fun _ _ _ _ _ _ us hl => match us, hl with | [_, _], _ => rfl
theorem bdw_len {K : PySem.W.Frag} {f : Addr} {fd : FuncData} (F : Fun K "__len__" "Work.__len__" w___len__ f fd) : Binds K fd ["self"] [] := F.binds fun _ _ _ _ _ _ us hl => match us, hl with | [_], _ => rfl
theorem bdw_eq {K : PySem.W.Frag} {f : Addr} {fd : FuncData} (F : Fun K "__eq__" "Work.__eq__" w___eq__ f fd) : Binds K fd ["self", "other"] [] := F.binds fun _ _ _ _ _ _ us hl => match us, hl with | [_, _], _ => rfl
theorem bdw_check_side {K : PySem.W.Frag} {f : Addr} {fd : FuncData} (F : Fun K "check_side" "Work.check_side" w_check_side f fd) : Binds K fd ["self", "side"] [] := F.binds fun _ _ _ _ _ _ us hl => match us, hl with | [_, _], _ => rfl
theorem bdw_begun_at {K : PySem.W.Frag} {f : Addr} {fd : FuncData} (F : Fun K "begun_at" "Work.begun_at" w_begun_at f fd) : Binds K fd ["self", "corner"] [] := F.binds fun _ _ _ _ _ _ us hl => match us, hl with | [_, _], _ => rfl

theorem bd_is_ratio {K : PySem.W.Frag} {f : Addr} {fd : FuncData} (F : Fun K "is_ratio" "is_ratio" s_is_ratio f fd) : Binds K fd ["thing"] [] := F.binds fun _ _ _ _ _ _ us hl => match us, hl with | [_], _ => rfl
theorem bd_is_sequence {K : PySem.W.Frag} {f : Addr} {fd : FuncData} (F : Fun K "is_sequence" "is_sequence" s_is_sequence f fd) : Binds K fd ["thing"] [] := F.binds fun _ _ _ _ _ _ us hl => match us, hl with | [_], _ => rfl
theorem bd_is_ratio_row {K : PySem.W.Frag} {f : Addr} {fd : FuncData} (F : Fun K "is_ratio_row" "is_ratio_row" s_is_ratio_row f fd) : Binds K fd ["thing", "many"] [] := F.binds fun _ _ _ _ _ _ us hl => match us, hl with | [_, _], _ => rfl
theorem bd_lowest {K : PySem.W.Frag} {f : Addr} {fd : FuncData} (F : Fun K "lowest" "lowest" s_lowest f fd) : Binds K fd ["top", "bottom"] [] := F.binds fun _ _ _ _ _ _ us hl => match us, hl with | [_, _], _ => rfl
theorem bd_plus {K : PySem.W.Frag} {f : Addr} {fd : FuncData} (F : Fun K "plus" "plus" s_plus f fd) : Binds K fd ["one", "other"] [] := F.binds fun _ _ _ _ _ _ us hl => match us, hl with | [_, _], _ => rfl
theorem bd_minus {K : PySem.W.Frag} {f : Addr} {fd : FuncData} (F : Fun K "minus" "minus" s_minus f fd) : Binds K fd ["one", "other"] [] := F.binds fun _ _ _ _ _ _ us hl => match us, hl with | [_, _], _ => rfl
theorem bd_times {K : PySem.W.Frag} {f : Addr} {fd : FuncData} (F : Fun K "times" "times" s_times f fd) : Binds K fd ["one", "other"] [] := F.binds fun _ _ _ _ _ _ us hl => match us, hl with | [_, _], _ => rfl
theorem bd_negative {K : PySem.W.Frag} {f : Addr} {fd : FuncData} (F : Fun K "negative" "negative" s_negative f fd) : Binds K fd ["one"] [] := F.binds fun _ _ _ _ _ _ us hl => match us, hl with | [_], _ => rfl
theorem bd_sign_of_whole {K : PySem.W.Frag} {f : Addr} {fd : FuncData} (F : Fun K "sign_of_whole" "sign_of_whole" s_sign_of_whole f fd) : Binds K fd ["number"] [] := F.binds fun _ _ _ _ _ _ us hl => match us, hl with | [_], _ => rfl
theorem bd_sign_of {K : PySem.W.Frag} {f : Addr} {fd : FuncData} (F : Fun K "sign_of" "sign_of" s_sign_of f fd) : Binds K fd ["one"] [] := F.binds fun _ _ _ _ _ _ us hl => match us, hl with | [_], _ => rfl
theorem bd_is_couple {K : PySem.W.Frag} {f : Addr} {fd : FuncData} (F : Fun K "is_couple" "is_couple" s_is_couple f fd) : Binds K fd ["thing"] [] := F.binds fun _ _ _ _ _ _ us hl => match us, hl with | [_], _ => rfl
theorem bd_place_minus {K : PySem.W.Frag} {f : Addr} {fd : FuncData} (F : Fun K "place_minus" "place_minus" s_place_minus f fd) : Binds K fd ["one", "other"] [] := F.binds fun _ _ _ _ _ _ us hl => match us, hl with | [_, _], _ => rfl
theorem bd_dot_of {K : PySem.W.Frag} {f : Addr} {fd : FuncData} (F : Fun K "dot_of" "dot_of" s_dot_of f fd) : Binds K fd ["one", "other"] [] := F.binds fun _ _ _ _ _ _ us hl => match us, hl with | [_, _], _ => rfl
theorem bd_cross_of {K : PySem.W.Frag} {f : Addr} {fd : FuncData} (F : Fun K "cross_of" "cross_of" s_cross_of f fd) : Binds K fd ["one", "other"] [] := F.binds fun _ _ _ _ _ _ us hl => match us, hl with | [_, _], _ => rfl
theorem bd_quarter_left {K : PySem.W.Frag} {f : Addr} {fd : FuncData} (F : Fun K "quarter_left" "quarter_left" s_quarter_left f fd) : Binds K fd ["one"] [] := F.binds fun _ _ _ _ _ _ us hl => match us, hl with | [_], _ => rfl
theorem bd_sides_between {K : PySem.W.Frag} {f : Addr} {fd : FuncData} (F : Fun K "sides_between" "sides_between" s_sides_between f fd) : Binds K fd ["corners"] [] := F.binds fun _ _ _ _ _ _ us hl => match us, hl with | [_], _ => rfl
theorem bd_rounds_of {K : PySem.W.Frag} {f : Addr} {fd : FuncData} (F : Fun K "rounds_of" "rounds_of" s_rounds_of f fd) : Binds K fd ["sides"] [] := F.binds fun _ _ _ _ _ _ us hl => match us, hl with | [_], _ => rfl
theorem bd_checked_corners {K : PySem.W.Frag} {f : Addr} {fd : FuncData} (F : Fun K "checked_corners" "checked_corners" s_checked_corners f fd) : Binds K fd ["corners"] [] := F.binds fun _ _ _ _ _ _ us hl => match us, hl with | [_], _ => rfl
theorem bd__law_mix {K : PySem.W.Frag} {f : Addr} {fd : FuncData} (F : Fun K "_law_mix" "_law_mix" s__law_mix f fd) : Binds K fd ["_law_number", "_law_turn"] [] := F.binds fun _ _ _ _ _ _ us hl => match us, hl with | [_, _], _ => rfl
theorem bd__law_hand {K : PySem.W.Frag} {f : Addr} {fd : FuncData} (F : Fun K "_law_hand" "_law_hand" s__law_hand f fd) : Binds K fd ["_law_script"] [] := F.binds fun _ _ _ _ _ _ us hl => match us, hl with | [_], _ => rfl
theorem bd__law_draw {K : PySem.W.Frag} {f : Addr} {fd : FuncData} (F : Fun K "_law_draw" "_law_draw" s__law_draw f fd) : Binds K fd ["_law_hand_here", "_law_many"] [] := F.binds fun _ _ _ _ _ _ us hl => match us, hl with | [_, _], _ => rfl
theorem bd__law_gcd {K : PySem.W.Frag} {f : Addr} {fd : FuncData} (F : Fun K "_law_gcd" "_law_gcd" s__law_gcd f fd) : Binds K fd ["_law_one", "_law_other"] [] := F.binds fun _ _ _ _ _ _ us hl => match us, hl with | [_, _], _ => rfl
theorem bd__law_ratio {K : PySem.W.Frag} {f : Addr} {fd : FuncData} (F : Fun K "_law_ratio" "_law_ratio" s__law_ratio f fd) : Binds K fd ["_law_top", "_law_bottom"] [] := F.binds fun _ _ _ _ _ _ us hl => match us, hl with | [_, _], _ => rfl
theorem bd__law_plus {K : PySem.W.Frag} {f : Addr} {fd : FuncData} (F : Fun K "_law_plus" "_law_plus" s__law_plus f fd) : Binds K fd ["_law_one", "_law_other"] [] := F.binds fun _ _ _ _ _ _ us hl => match us, hl with | [_, _], _ => rfl
theorem bd__law_minus {K : PySem.W.Frag} {f : Addr} {fd : FuncData} (F : Fun K "_law_minus" "_law_minus" s__law_minus f fd) : Binds K fd ["_law_one", "_law_other"] [] := F.binds fun _ _ _ _ _ _ us hl => match us, hl with | [_, _], _ => rfl
theorem bd__law_times {K : PySem.W.Frag} {f : Addr} {fd : FuncData} (F : Fun K "_law_times" "_law_times" s__law_times f fd) : Binds K fd ["_law_one", "_law_other"] [] := F.binds fun _ _ _ _ _ _ us hl => match us, hl with | [_, _], _ => rfl
theorem bd__law_compare {K : PySem.W.Frag} {f : Addr} {fd : FuncData} (F : Fun K "_law_compare" "_law_compare" s__law_compare f fd) : Binds K fd ["_law_one", "_law_other"] [] := F.binds fun _ _ _ _ _ _ us hl => match us, hl with | [_, _], _ => rfl
theorem bd__law_add {K : PySem.W.Frag} {f : Addr} {fd : FuncData} (F : Fun K "_law_add" "_law_add" s__law_add f fd) : Binds K fd ["_law_one", "_law_other"] [] := F.binds fun _ _ _ _ _ _ us hl => match us, hl with | [_, _], _ => rfl
theorem bd__law_less {K : PySem.W.Frag} {f : Addr} {fd : FuncData} (F : Fun K "_law_less" "_law_less" s__law_less f fd) : Binds K fd ["_law_one", "_law_other"] [] := F.binds fun _ _ _ _ _ _ us hl => match us, hl with | [_, _], _ => rfl
theorem bd__law_scaled {K : PySem.W.Frag} {f : Addr} {fd : FuncData} (F : Fun K "_law_scaled" "_law_scaled" s__law_scaled f fd) : Binds K fd ["_law_one", "_law_by"] [] := F.binds fun _ _ _ _ _ _ us hl => match us, hl with | [_, _], _ => rfl
theorem bd__law_cross {K : PySem.W.Frag} {f : Addr} {fd : FuncData} (F : Fun K "_law_cross" "_law_cross" s__law_cross f fd) : Binds K fd ["_law_one", "_law_other"] [] := F.binds fun _ _ _ _ _ _ us hl => match us, hl with | [_, _], _ => rfl
theorem bd__law_side {K : PySem.W.Frag} {f : Addr} {fd : FuncData} (F : Fun K "_law_side" "_law_side" s__law_side f fd) : Binds K fd ["_law_corners", "_law_k"] [] := F.binds fun _ _ _ _ _ _ us hl => match us, hl with | [_, _], _ => rfl
theorem bd__law_normal {K : PySem.W.Frag} {f : Addr} {fd : FuncData} (F : Fun K "_law_normal" "_law_normal" s__law_normal f fd) : Binds K fd ["_law_corners", "_law_k"] [] := F.binds fun _ _ _ _ _ _ us hl => match us, hl with | [_, _], _ => rfl
theorem bd__law_hull {K : PySem.W.Frag} {f : Addr} {fd : FuncData} (F : Fun K "_law_hull" "_law_hull" s__law_hull f fd) : Binds K fd ["_law_points"] [] := F.binds fun _ _ _ _ _ _ us hl => match us, hl with | [_], _ => rfl
theorem bd__law_work {K : PySem.W.Frag} {f : Addr} {fd : FuncData} (F : Fun K "_law_work" "_law_work" s__law_work f fd) : Binds K fd ["_law_hand_here", "_law_most"] [] := F.binds fun _ _ _ _ _ _ us hl => match us, hl with | [_, _], _ => rfl
theorem bd__law_before {K : PySem.W.Frag} {f : Addr} {fd : FuncData} (F : Fun K "_law_before" "_law_before" s__law_before f fd) : Binds K fd ["_law_one", "_law_other"] [] := F.binds fun _ _ _ _ _ _ us hl => match us, hl with | [_, _], _ => rfl
theorem bd__law_couple {K : PySem.W.Frag} {f : Addr} {fd : FuncData} (F : Fun K "_law_couple" "_law_couple" s__law_couple f fd) : Binds K fd ["_law_thing"] [] := F.binds fun _ _ _ _ _ _ us hl => match us, hl with | [_], _ => rfl
theorem bd__law_fault {K : PySem.W.Frag} {f : Addr} {fd : FuncData} (F : Fun K "_law_fault" "_law_fault" s__law_fault f fd) : Binds K fd ["_law_corners"] [] := F.binds fun _ _ _ _ _ _ us hl => match us, hl with | [_], _ => rfl
theorem bd__law_spoilt {K : PySem.W.Frag} {f : Addr} {fd : FuncData} (F : Fun K "_law_spoilt" "_law_spoilt" s__law_spoilt f fd) : Binds K fd ["_law_hand_here", "_law_corners"] [] := F.binds fun _ _ _ _ _ _ us hl => match us, hl with | [_, _], _ => rfl
theorem bd__law_made {K : PySem.W.Frag} {f : Addr} {fd : FuncData} (F : Fun K "_law_made" "_law_made" s__law_made f fd) : Binds K fd ["_law_corners"] [] := F.binds fun _ _ _ _ _ _ us hl => match us, hl with | [_], _ => rfl
theorem bd__law_work_right {K : PySem.W.Frag} {f : Addr} {fd : FuncData} (F : Fun K "_law_work_right" "_law_work_right" s__law_work_right f fd) : Binds K fd ["_law_work_here", "_law_corners"] [] := F.binds fun _ _ _ _ _ _ us hl => match us, hl with | [_, _], _ => rfl
set_option maxHeartbeats 8000000 in
theorem all_mk {l : PySem.W.OpenLaw} {w : World} {K : PySem.W.Frag} {h : Heap} {mg : Str → Option Value} {fa : Addr} (X : K.In h) (G : h.Ns mainGlobals mg) (hfa : mg "law" = some (.ref fa))
    {C : Addr}
    (d1 : DfN K "is_whole" s_is_whole [.non, .non])
    (d2 : Df K "is_ratio" s_is_ratio)
    (d3 : Df K "is_sequence" s_is_sequence)
    (d4 : Df K "is_ratio_row" s_is_ratio_row)
    (d5 : Df K "lowest" s_lowest)
    (d6 : Df K "plus" s_plus)
    (d7 : Df K "minus" s_minus)
    (d8 : Df K "times" s_times)
    (d9 : Df K "negative" s_negative)
    (d10 : Df K "sign_of_whole" s_sign_of_whole)
    (d11 : Df K "sign_of" s_sign_of)
    (d12 : Df K "is_couple" s_is_couple)
    (d13 : Df K "place_minus" s_place_minus)
    (d14 : Df K "dot_of" s_dot_of)
    (d15 : Df K "cross_of" s_cross_of)
    (d16 : Df K "quarter_left" s_quarter_left)
    (d17 : Df K "sides_between" s_sides_between)
    (d18 : Df K "rounds_of" s_rounds_of)
    (d19 : Df K "checked_corners" s_checked_corners)
    (d20 : Df K "_law_mix" s__law_mix)
    (d21 : Df K "_law_hand" s__law_hand)
    (d22 : Df K "_law_draw" s__law_draw)
    (d23 : Df K "_law_gcd" s__law_gcd)
    (d24 : Df K "_law_ratio" s__law_ratio)
    (d25 : Df K "_law_plus" s__law_plus)
    (d26 : Df K "_law_minus" s__law_minus)
    (d27 : Df K "_law_times" s__law_times)
    (d28 : Df K "_law_compare" s__law_compare)
    (d29 : Df K "_law_add" s__law_add)
    (d30 : Df K "_law_less" s__law_less)
    (d31 : Df K "_law_scaled" s__law_scaled)
    (d32 : Df K "_law_cross" s__law_cross)
    (d33 : Df K "_law_side" s__law_side)
    (d34 : Df K "_law_normal" s__law_normal)
    (d35 : Df K "_law_hull" s__law_hull)
    (d36 : Df K "_law_work" s__law_work)
    (d37 : Df K "_law_before" s__law_before)
    (d38 : Df K "_law_couple" s__law_couple)
    (d39 : Df K "_law_fault" s__law_fault)
    (d40 : Df K "_law_spoilt" s__law_spoilt)
    (d41 : Df K "_law_made" s__law_made)
    (d42 : Df K "_law_work_right" s__law_work_right)
    (d43 : Df K "law" s_law)
    (e_NoSide : ErrI K "NoSide" "NoSide.__init__" s_init_NoSide ["side"])
    (e_BadWork : ErrI K "BadWork" "BadWork.__init__" s_init_BadWork ["index", "what"])
    (cW : CF K "Work" C)
    (n1 : PySem.W.findIn K (.ref C) "corners" = some none)
    (n2 : PySem.W.findIn K (.ref C) "normals" = some none)
    (wi : InF K C "Work.__init__" w___init__)
    (w_m_len : MF K C "__len__" "Work.__len__" w___len__)
    (w_m_eq : MF K C "__eq__" "Work.__eq__" w___eq__)
    (w_m_check_side : MF K C "check_side" "Work.check_side" w_check_side)
    (w_m_begun_at : MF K C "begun_at" "Work.begun_at" w_begun_at)
    (z_int : PySem.W.nsIn K mainGlobals "int" = some none)
    (z_abs : PySem.W.nsIn K mainGlobals "abs" = some none)
    (z_len : PySem.W.nsIn K mainGlobals "len" = some none)
    (z_enumerate : PySem.W.nsIn K mainGlobals "enumerate" = some none)
    (z_isinstance : PySem.W.nsIn K mainGlobals "isinstance" = some none)
    (z_bool : PySem.W.nsIn K mainGlobals "bool" = some none)
    (z_tuple : PySem.W.nsIn K mainGlobals "tuple" = some none)
    (z_list : PySem.W.nsIn K mainGlobals "list" = some none)
    (z_all : PySem.W.nsIn K mainGlobals "all" = some none)
    (z_range : PySem.W.nsIn K mainGlobals "range" = some none)
    (z_sorted : PySem.W.nsIn K mainGlobals "sorted" = some none)
    (z_min : PySem.W.nsIn K mainGlobals "min" = some none)
    (z_zip : PySem.W.nsIn K mainGlobals "zip" = some none)
    (z_str : PySem.W.nsIn K mainGlobals "str" = some none)
    (zgcd : PySem.W.nsIn K mainGlobals "gcd" = some (some (.builtin "math.gcd")))
    (jC1 : PySem.W.findIn K (.ref C) "__class__" = some (some (.builtin "object.__class__")))
    (jC2 : PySem.W.specialIn K (.builtin "object.__class__") "__get__" = some (some (.builtin "getset_descriptor.__get__")))
    (jC3 : PySem.W.takesIn K (.builtin "object.__class__") = some true)
    (jC4 : PySem.W.mroIn K C (.type "object") = some true)
    (jC5 : PySem.W.isClsIn K C = true)
    (jC6 : PySem.W.typeIn K (.ref C) = some (.type "type"))
    (jC7 : PySem.W.subIn K (.ref C) (.ref C) = some true) :
    ∃ fd : FuncData, (∀ (s : Shared) (v : Value), BindsTo s fd ⟨[v], []⟩ [("_law_script", v)]) ∧ ∀ base : Heap, K.In base → base.Ns mainGlobals mg → FnOk l.prog w K mg base CX0 10 fa fd ["_law_script"] (spLaw K) := by
  have T : Txt K mg := { z_int := PySem.W.mg_none_of X G z_int, z_abs := PySem.W.mg_none_of X G z_abs, z_len := PySem.W.mg_none_of X G z_len, z_enumerate := PySem.W.mg_none_of X G z_enumerate, z_isinstance := PySem.W.mg_none_of X G z_isinstance, z_bool := PySem.W.mg_none_of X G z_bool, z_tuple := PySem.W.mg_none_of X G z_tuple, z_list := PySem.W.mg_none_of X G z_list, z_all := PySem.W.mg_none_of X G z_all, z_range := PySem.W.mg_none_of X G z_range, z_sorted := PySem.W.mg_none_of X G z_sorted, z_min := PySem.W.mg_none_of X G z_min, z_zip := PySem.W.mg_none_of X G z_zip, z_str := PySem.W.mg_none_of X G z_str, m_gcd := PySem.W.mg_of X G zgcd }
  obtain ⟨N, fI, fdI, eC1, eC2, xf, cm, eno, eI1, eI2, eI3⟩ := e_NoSide
  have gN := PySem.W.mg_of X G eC1
  have hno := eno "side" (by simp)
  obtain ⟨Wd, fS, fdS, sC1, sC2, sxf, scm, sno, sI1, sI2, sI3⟩ := e_BadWork
  have gS := PySem.W.mg_of X G sC1
  have snoI := sno "index" (by simp)
  have snoW := sno "what" (by simp)
  have iC : IsI K C := ⟨jC1, jC2, jC3, jC4, kit_own jC5 jC6 jC7⟩
  have iT : PySem.W.kitOne K (.type "tuple") (.ref C) = some false := kit_tupC jC5 jC6
  obtain ⟨cA, c, cmk, ckp⟩ := cW
  have gC := PySem.W.mg_of X G cA
  obtain ⟨fi, fdi, iA, iI, iF⟩ := wi
  obtain ⟨f_len, fd_len, M_len0, F_len⟩ := w_m_len
  obtain ⟨f_eq, fd_eq, M_eq0, F_eq⟩ := w_m_eq
  obtain ⟨f_check_side, fd_check_side, M_check_side0, F_check_side⟩ := w_m_check_side
  obtain ⟨f_begun_at, fd_begun_at, M_begun_at0, F_begun_at⟩ := w_m_begun_at
  obtain ⟨f1, fd1, m1, F1⟩ := d1.gd X G
  obtain ⟨f2, fd2, m2, F2⟩ := d2.gd X G
  have b2 := bd_is_ratio F2
  obtain ⟨f3, fd3, m3, F3⟩ := d3.gd X G
  have b3 := bd_is_sequence F3
  obtain ⟨f4, fd4, m4, F4⟩ := d4.gd X G
  have b4 := bd_is_ratio_row F4
  obtain ⟨f5, fd5, m5, F5⟩ := d5.gd X G
  have b5 := bd_lowest F5
  obtain ⟨f6, fd6, m6, F6⟩ := d6.gd X G
  have b6 := bd_plus F6
  obtain ⟨f7, fd7, m7, F7⟩ := d7.gd X G
  have b7 := bd_minus F7
  obtain ⟨f8, fd8, m8, F8⟩ := d8.gd X G
  have b8 := bd_times F8
  obtain ⟨f9, fd9, m9, F9⟩ := d9.gd X G
  have b9 := bd_negative F9
  obtain ⟨f10, fd10, m10, F10⟩ := d10.gd X G
  have b10 := bd_sign_of_whole F10
  obtain ⟨f11, fd11, m11, F11⟩ := d11.gd X G
  have b11 := bd_sign_of F11
  obtain ⟨f12, fd12, m12, F12⟩ := d12.gd X G
  have b12 := bd_is_couple F12
  obtain ⟨f13, fd13, m13, F13⟩ := d13.gd X G
  have b13 := bd_place_minus F13
  obtain ⟨f14, fd14, m14, F14⟩ := d14.gd X G
  have b14 := bd_dot_of F14
  obtain ⟨f15, fd15, m15, F15⟩ := d15.gd X G
  have b15 := bd_cross_of F15
  obtain ⟨f16, fd16, m16, F16⟩ := d16.gd X G
  have b16 := bd_quarter_left F16
  obtain ⟨f17, fd17, m17, F17⟩ := d17.gd X G
  have b17 := bd_sides_between F17
  obtain ⟨f18, fd18, m18, F18⟩ := d18.gd X G
  have b18 := bd_rounds_of F18
  obtain ⟨f19, fd19, m19, F19⟩ := d19.gd X G
  have b19 := bd_checked_corners F19
  obtain ⟨f20, fd20, m20, F20⟩ := d20.gd X G
  have b20 := bd__law_mix F20
  obtain ⟨f21, fd21, m21, F21⟩ := d21.gd X G
  have b21 := bd__law_hand F21
  obtain ⟨f22, fd22, m22, F22⟩ := d22.gd X G
  have b22 := bd__law_draw F22
  obtain ⟨f23, fd23, m23, F23⟩ := d23.gd X G
  have b23 := bd__law_gcd F23
  obtain ⟨f24, fd24, m24, F24⟩ := d24.gd X G
  have b24 := bd__law_ratio F24
  obtain ⟨f25, fd25, m25, F25⟩ := d25.gd X G
  have b25 := bd__law_plus F25
  obtain ⟨f26, fd26, m26, F26⟩ := d26.gd X G
  have b26 := bd__law_minus F26
  obtain ⟨f27, fd27, m27, F27⟩ := d27.gd X G
  have b27 := bd__law_times F27
  obtain ⟨f28, fd28, m28, F28⟩ := d28.gd X G
  have b28 := bd__law_compare F28
  obtain ⟨f29, fd29, m29, F29⟩ := d29.gd X G
  have b29 := bd__law_add F29
  obtain ⟨f30, fd30, m30, F30⟩ := d30.gd X G
  have b30 := bd__law_less F30
  obtain ⟨f31, fd31, m31, F31⟩ := d31.gd X G
  have b31 := bd__law_scaled F31
  obtain ⟨f32, fd32, m32, F32⟩ := d32.gd X G
  have b32 := bd__law_cross F32
  obtain ⟨f33, fd33, m33, F33⟩ := d33.gd X G
  have b33 := bd__law_side F33
  obtain ⟨f34, fd34, m34, F34⟩ := d34.gd X G
  have b34 := bd__law_normal F34
  obtain ⟨f35, fd35, m35, F35⟩ := d35.gd X G
  have b35 := bd__law_hull F35
  obtain ⟨f36, fd36, m36, F36⟩ := d36.gd X G
  have b36 := bd__law_work F36
  obtain ⟨f37, fd37, m37, F37⟩ := d37.gd X G
  have b37 := bd__law_before F37
  obtain ⟨f38, fd38, m38, F38⟩ := d38.gd X G
  have b38 := bd__law_couple F38
  obtain ⟨f39, fd39, m39, F39⟩ := d39.gd X G
  have b39 := bd__law_fault F39
  obtain ⟨f40, fd40, m40, F40⟩ := d40.gd X G
  have b40 := bd__law_spoilt F40
  obtain ⟨f41, fd41, m41, F41⟩ := d41.gd X G
  have b41 := bd__law_made F41
  obtain ⟨f42, fd42, m42, F42⟩ := d42.gd X G
  have b42 := bd__law_work_right F42
  obtain ⟨f43, fd43, a43, F43, kV, doc, pm, an, cdv, ct, efd⟩ := d43
  have e := hfa.symm.trans (PySem.W.mg_of X G a43)
  cases e
  refine ⟨fd43, fun s v => by subst efd; exact .of_eq rfl, fun base _ _ => law_end (F := ?_)⟩
  have xN : ExF1 l.prog w K mg base "NoSide" N "side" := ⟨gN, eC2, hno, fI, fdI, _, eI1, eI2, bd_init_NoSide eI3, ini_NoSide eI3⟩
  have xS : ExF2 l.prog w K mg base "BadWork" Wd "index" "what" := ⟨gS, sC2, snoI, snoW, fS, fdS, _, sI1, sI2, (ini_BadWork (P := l.prog) (w := w) (mg := mg) (base := base) sI3).1, (ini_BadWork sI3).2⟩
  have ok1 := ok_is_whole (P := l.prog) (w := w) (base := base) F1 T  
  obtain ⟨ds2, dv2, bA⟩ := F1.binds1 (ps := ["thing", "low", "high"]) 1 0 (by simp) rfl fun T kV doc pm an cdv ct us its hu hi => match us, its, hu, hi with | [_], [_, _], _, _ => ⟨_, rfl, rfl⟩
  obtain ⟨ds1, dv1, bB⟩ := F1.binds1 (ps := ["thing", "low", "high"]) 2 1 (by simp) rfl fun T kV doc pm an cdv ct us its hu hi => match us, its, hu, hi with | [_, _], [_, _], _, _ => ⟨_, rfl, rfl⟩
  have G_w1 : Gd l.prog w K mg base "is_whole" 1 [dat K .none, dat K .none] (RWhole K) := ⟨_, _, _, _, _, m1, F1.kp, bA, dv2, fun _ => ⟨.non, .non, trivial⟩, ok1⟩
  have G_w2 : Gd l.prog w K mg base "is_whole" 1 [dat K .none] (RWhole K) := ⟨_, _, _, _, _, m1, F1.kp, bB, dv1, fun _ => ⟨.non, trivial⟩, ok1⟩
  obtain ⟨ds0, dv0, bZ⟩ := F1.binds1 (ps := ["thing", "low", "high"]) 3 2 (by simp) rfl fun T kV doc pm an cdv ct us its hu hi => match us, its, hu, hi with | [_, _, _], [_, _], _, _ => ⟨_, rfl, rfl⟩
  have G_w0 : Gd l.prog w K mg base "is_whole" 1 [] (RWhole K) := ⟨_, _, _, _, _, m1, F1.kp, bZ, dv0, fun _ => trivial, ok1⟩
  have G_is_ratio : Gd l.prog w K mg base "is_ratio" 2 [] (RPred0 K isRat) := gd_mk m2 F2.kp b2 (ok_is_ratio F2 T  (G_w1 := G_w1) (G_w2 := G_w2))
  have G_is_sequence : Gd l.prog w K mg base "is_sequence" 1 [] (RSeqA K) := gd_mk m3 F3.kp b3 (ok_is_sequenceA F3 T)
  have G_is_sequence0 := seq_view G_is_sequence
  have G_is_ratio_row : Gd l.prog w K mg base "is_ratio_row" 3 [] (RRow K) := gd_mk m4 F4.kp b4 (ok_is_ratio_row F4 T  (G_is_sequence := G_is_sequence0) (G_is_ratio := G_is_ratio))
  have G_lowest : Gd l.prog w K mg base "lowest" 1 [] (RLow K) := gd_mk m5 F5.kp b5 (ok_lowest F5 T)
  have G_plus : Gd l.prog w K mg base "plus" 2 [] (R2Q K plusQ) := gd_mk m6 F6.kp b6 (ok_plus F6 T  (G_lowest := G_lowest))
  have G_minus : Gd l.prog w K mg base "minus" 2 [] (R2Q K minusQ) := gd_mk m7 F7.kp b7 (ok_minus F7 T  (G_lowest := G_lowest))
  have G_times : Gd l.prog w K mg base "times" 2 [] (R2Q K timesQ) := gd_mk m8 F8.kp b8 (ok_times F8 T  (G_lowest := G_lowest))
  have G_negative : Gd l.prog w K mg base "negative" 1 [] (RNeg K) := gd_mk m9 F9.kp b9 (ok_negative F9 T)
  have G_sign_of_whole : Gd l.prog w K mg base "sign_of_whole" 1 [] (RSign K) := gd_mk m10 F10.kp b10 (ok_sign_of_whole F10 T)
  have G_sign_of : Gd l.prog w K mg base "sign_of" 2 [] (RSignOf K) := gd_mk m11 F11.kp b11 (ok_sign_of F11 T  (G_sign_of_whole := G_sign_of_whole))
  have G_is_couple : Gd l.prog w K mg base "is_couple" 4 [] (RPred K (fun d => isRow d 2)) := gd_mk m12 F12.kp b12 (ok_is_couple F12 T  (G_is_ratio_row := G_is_ratio_row))
  have G_place_minus : Gd l.prog w K mg base "place_minus" 3 [] (R2CL K lessC) := gd_mk m13 F13.kp b13 (ok_place_minus F13 T  (G_minus := G_minus))
  have G_dot_of : Gd l.prog w K mg base "dot_of" 3 [] (R2CQ K dotC) := gd_mk m14 F14.kp b14 (ok_dot_of F14 T  (G_plus := G_plus) (G_times := G_times))
  have G_cross_of : Gd l.prog w K mg base "cross_of" 3 [] (R2CQ K crossC) := gd_mk m15 F15.kp b15 (ok_cross_of F15 T  (G_minus := G_minus) (G_times := G_times))
  have G_quarter_left : Gd l.prog w K mg base "quarter_left" 2 [] (RQuar K) := gd_mk m16 F16.kp b16 (ok_quarter_left F16 T  (G_negative := G_negative))
  have G_sides_between : Gd l.prog w K mg base "sides_between" 4 [] (RSidesR K) := gd_mk m17 F17.kp b17 (ok_sides_between F17 T  (G_place_minus := G_place_minus))
  have G_rounds_of : Gd l.prog w K mg base "rounds_of" 3 [] (RRounds K) := gd_mk m18 F18.kp b18 (ok_rounds_of F18 T  (G_sign_of := G_sign_of))
  have G_checked_corners : GdX l.prog w K mg base "checked_corners" 5 (RChkG K Wd) := gdx_mk m19 F19.kp b19 (ok_checked_corners F19 T xS (G_is_sequence := G_is_sequence) (G_is_couple := G_is_couple) (G_sides_between := G_sides_between) (G_sign_of := G_sign_of) (G_cross_of := G_cross_of) (G_rounds_of := G_rounds_of))
  have MW : Mkr l.prog w K mg base "Work" C 6 (RMkG K Wd) := ⟨gC, fi, fdi, _, ⟨cmk, iA, iI, ckp⟩, bdw_init iF, okw_init iF T c n1 n2 (G_checked_corners := G_checked_corners) (G_sides_between := G_sides_between) (G_quarter_left := G_quarter_left)⟩
  have NM_len : Mth l.prog w K mg base C "__len__" 1 (RLenR K C) := ⟨_, _, _, M_len0, bdw_len F_len, okw_len (C := C) F_len T c n1 n2 ⟩
  have NM_eq : Mth l.prog w K mg base C "__eq__" 2 (REqA K C) := ⟨_, _, _, M_eq0, bdw_eq F_eq, okw_eq (C := C) F_eq T c n1 n2 gC iC iT ⟩
  have NM_check_side : MthX l.prog w K mg base C "check_side" 3 (RSdR K C N) := ⟨_, _, _, M_check_side0, bdw_check_side F_check_side, okw_check_side (C := C) (N := N) F_check_side T c n1 n2 xN (G_is_whole := G_w0)⟩
  have NM_begun_at : MthX l.prog w K mg base C "begun_at" 8 (RBegR K C N) := ⟨_, _, _, M_begun_at0, bdw_begun_at F_begun_at, okw_begun_at (C := C) (N := N) F_begun_at T c n1 n2 MW (M_check_side := NM_check_side)⟩
  have G__law_mix : Gd l.prog w K mg base "_law_mix" 1 [] (RMix K) := gd_mk m20 F20.kp b20 (ok_mix F20 T)
  have G__law_hand : Gd l.prog w K mg base "_law_hand" 1 [] (RHand K) := gd_mk m21 F21.kp b21 (ok_hand F21 T)
  have G__law_draw : Gd l.prog w K mg base "_law_draw" 2 [] (RDraw K) := gd_mk m22 F22.kp b22 (ok_draw F22 T  (Gm := G__law_mix))
  have G__law_gcd : Gd l.prog w K mg base "_law_gcd" 1 [] (RGcd K) := gd_mk m23 F23.kp b23 (ok__law_gcd F23 T)
  have G__law_ratio : Gd l.prog w K mg base "_law_ratio" 2 [] (RLow K) := gd_mk m24 F24.kp b24 (ok__law_ratio F24 T  (G__law_gcd := G__law_gcd))
  have G__law_plus : Gd l.prog w K mg base "_law_plus" 3 [] (R2Q K plusQ) := gd_mk m25 F25.kp b25 (ok__law_plus F25 T  (G__law_ratio := G__law_ratio))
  have G__law_minus : Gd l.prog w K mg base "_law_minus" 3 [] (R2Q K minusQ) := gd_mk m26 F26.kp b26 (ok__law_minus F26 T  (G__law_ratio := G__law_ratio))
  have G__law_times : Gd l.prog w K mg base "_law_times" 3 [] (R2Q K timesQ) := gd_mk m27 F27.kp b27 (ok__law_times F27 T  (G__law_ratio := G__law_ratio))
  have G__law_compare : Gd l.prog w K mg base "_law_compare" 1 [] (RCmp K) := gd_mk m28 F28.kp b28 (ok__law_compare F28 T)
  have G__law_add : Gd l.prog w K mg base "_law_add" 4 [] (R2C K addC) := gd_mk m29 F29.kp b29 (ok__law_add F29 T  (G__law_plus := G__law_plus))
  have G__law_less : Gd l.prog w K mg base "_law_less" 4 [] (R2C K lessC) := gd_mk m30 F30.kp b30 (ok__law_less F30 T  (G__law_minus := G__law_minus))
  have G__law_scaled : Gd l.prog w K mg base "_law_scaled" 4 [] (RSc K) := gd_mk m31 F31.kp b31 (ok__law_scaled F31 T  (G__law_times := G__law_times))
  have G__law_cross : Gd l.prog w K mg base "_law_cross" 4 [] (R2CQ K crossC) := gd_mk m32 F32.kp b32 (ok__law_cross F32 T  (G__law_minus := G__law_minus) (G__law_times := G__law_times))
  have G__law_side : Gd l.prog w K mg base "_law_side" 5 [] (RLSideR K sideC) := gd_mk m33 F33.kp b33 (ok__law_side F33 T  (G__law_less := G__law_less))
  have G__law_normal : Gd l.prog w K mg base "_law_normal" 6 [] (RLSideR K normC) := gd_mk m34 F34.kp b34 (ok__law_normal F34 T  (G__law_side := G__law_side))
  have G__law_hull : Gd l.prog w K mg base "_law_hull" 1 [] (RHull K) := gd_mk m35 F35.kp b35 (ok_hull F35 T)
  have G__law_work : Gd l.prog w K mg base "_law_work" 3 [] (RWork K) := gd_mk m36 F36.kp b36 (ok_work F36 T  (G__law_draw := G__law_draw) (G__law_hull := G__law_hull) (G__law_ratio := G__law_ratio))
  have G__law_before : Gd l.prog w K mg base "_law_before" 2 [] (RLBef K) := gd_mk m37 F37.kp b37 (ok__law_before F37 T  (G__law_compare := G__law_compare))
  have G__law_couple : Gd l.prog w K mg base "_law_couple" 2 [] (RPred0 K (fun d => isRow d 2)) := gd_mk m38 F38.kp b38 (ok__law_couple F38 T  (G__law_gcd := G__law_gcd))
  have G__law_fault : Gd l.prog w K mg base "_law_fault" 5 [] (RLFault K) := gd_mk m39 F39.kp b39 (ok__law_fault F39 T  (G__law_couple := G__law_couple) (G__law_cross := G__law_cross) (G__law_less := G__law_less) (G__law_before := G__law_before))
  have G__law_spoilt : Gd l.prog w K mg base "_law_spoilt" 5 [] (RLSpo K) := gd_mk m40 F40.kp b40 (ok__law_spoilt F40 T  (G__law_draw := G__law_draw) (G__law_ratio := G__law_ratio) (G__law_add := G__law_add) (G__law_scaled := G__law_scaled) (G__law_less := G__law_less) (G__law_couple := G__law_couple))
  have G__law_made : Gd l.prog w K mg base "_law_made" 8 [] (RLMade K C) := gd_mk m41 F41.kp b41 (ok__law_made F41 T gS sxf snoI snoW scm MW)
  have G__law_work_right : Gd l.prog w K mg base "_law_work_right" 9 [] (RLRight K C) := gd_mk m42 F42.kp b42 (ok__law_work_right F42 T c n1 n2 MW NM_len NM_eq NM_begun_at (G__law_normal := G__law_normal))
  exact ok_law F43 T c iC gN xf hno cm MW NM_begun_at (G__law_hand := G__law_hand) (G__law_work := G__law_work) (G__law_draw := G__law_draw) (G__law_spoilt := G__law_spoilt) (G__law_made := G__law_made) (G__law_fault := G__law_fault) (G__law_work_right := G__law_work_right)
end
end K03
set_option Elab.async false
set_option linter.all false
set_option maxRecDepth 100000
open PySem PySem.W PyProof.Rows in
set_option maxRecDepth 100000 in
set_option maxHeartbeats 0 in
theorem PySem.Challenge.cw_firmstops_k03_whole_works_made_and_refus_holds : PySem.Challenge.rw_firmstops_k03_whole_works_made_and_refus.Holds := by
  refine K03.hd ?_
  k_fill
  refine DL.walk 10 (l := PySem.Challenge.rw_firmstops_k03_whole_works_made_and_refus) rfl rfl ⟨rfl, by decide, by decide⟩ (fun w h Y => PySem.W.kIn_of Y) ?F
  case F =>
    intro w mg fa h KX G hmg
    refine' K03.all_mk KX G hmg ?d1 ?d2 ?d3 ?d4 ?d5 ?d6 ?d7 ?d8 ?d9 ?d10 ?d11 ?d12 ?d13 ?d14 ?d15 ?d16 ?d17 ?d18 ?d19 ?d20 ?d21 ?d22 ?d23 ?d24 ?d25 ?d26 ?d27 ?d28 ?d29 ?d30 ?d31 ?d32 ?d33 ?d34 ?d35 ?d36 ?d37 ?d38 ?d39 ?d40 ?d41 ?d42 ?d43 ?e_NoSide ?e_BadWork ?cW ?n1 ?n2 ?wi ?w_m_len ?w_m_eq ?w_m_check_side ?w_m_begun_at ?z_int ?z_abs ?z_len ?z_enumerate ?z_isinstance ?z_bool ?z_tuple ?z_list ?z_all ?z_range ?z_sorted ?z_min ?z_zip ?z_str ?zgcd ?jC1 ?jC2 ?jC3 ?jC4 ?jC5 ?jC6 ?jC7
    (case d1 => refine' DL.dfn_mk2 ?a ?l ?c ?k ?t; (case a => k_is); (case l => k_is); (case c => k_is); (case k => k_is); (case t => k_is))
    (case d2 => refine' DL.df_mk ?a ?l ?c ?k; (case a => k_is); (case l => k_is); (case c => k_is); (case k => k_is))
    (case d3 => refine' DL.df_mk ?a ?l ?c ?k; (case a => k_is); (case l => k_is); (case c => k_is); (case k => k_is))
    (case d4 => refine' DL.df_mk ?a ?l ?c ?k; (case a => k_is); (case l => k_is); (case c => k_is); (case k => k_is))
    (case d5 => refine' DL.df_mk ?a ?l ?c ?k; (case a => k_is); (case l => k_is); (case c => k_is); (case k => k_is))
    (case d6 => refine' DL.df_mk ?a ?l ?c ?k; (case a => k_is); (case l => k_is); (case c => k_is); (case k => k_is))
    (case d7 => refine' DL.df_mk ?a ?l ?c ?k; (case a => k_is); (case l => k_is); (case c => k_is); (case k => k_is))
    (case d8 => refine' DL.df_mk ?a ?l ?c ?k; (case a => k_is); (case l => k_is); (case c => k_is); (case k => k_is))
    (case d9 => refine' DL.df_mk ?a ?l ?c ?k; (case a => k_is); (case l => k_is); (case c => k_is); (case k => k_is))
    (case d10 => refine' DL.df_mk ?a ?l ?c ?k; (case a => k_is); (case l => k_is); (case c => k_is); (case k => k_is))
    (case d11 => refine' DL.df_mk ?a ?l ?c ?k; (case a => k_is); (case l => k_is); (case c => k_is); (case k => k_is))
    (case d12 => refine' DL.df_mk ?a ?l ?c ?k; (case a => k_is); (case l => k_is); (case c => k_is); (case k => k_is))
    (case d13 => refine' DL.df_mk ?a ?l ?c ?k; (case a => k_is); (case l => k_is); (case c => k_is); (case k => k_is))
    (case d14 => refine' DL.df_mk ?a ?l ?c ?k; (case a => k_is); (case l => k_is); (case c => k_is); (case k => k_is))
    (case d15 => refine' DL.df_mk ?a ?l ?c ?k; (case a => k_is); (case l => k_is); (case c => k_is); (case k => k_is))
    (case d16 => refine' DL.df_mk ?a ?l ?c ?k; (case a => k_is); (case l => k_is); (case c => k_is); (case k => k_is))
    (case d17 => refine' DL.df_mk ?a ?l ?c ?k; (case a => k_is); (case l => k_is); (case c => k_is); (case k => k_is))
    (case d18 => refine' DL.df_mk ?a ?l ?c ?k; (case a => k_is); (case l => k_is); (case c => k_is); (case k => k_is))
    (case d19 => refine' DL.df_mk ?a ?l ?c ?k; (case a => k_is); (case l => k_is); (case c => k_is); (case k => k_is))
    (case d20 => refine' DL.df_mk ?a ?l ?c ?k; (case a => k_is); (case l => k_is); (case c => k_is); (case k => k_is))
    (case d21 => refine' DL.df_mk ?a ?l ?c ?k; (case a => k_is); (case l => k_is); (case c => k_is); (case k => k_is))
    (case d22 => refine' DL.df_mk ?a ?l ?c ?k; (case a => k_is); (case l => k_is); (case c => k_is); (case k => k_is))
    (case d23 => refine' DL.df_mk ?a ?l ?c ?k; (case a => k_is); (case l => k_is); (case c => k_is); (case k => k_is))
    (case d24 => refine' DL.df_mk ?a ?l ?c ?k; (case a => k_is); (case l => k_is); (case c => k_is); (case k => k_is))
    (case d25 => refine' DL.df_mk ?a ?l ?c ?k; (case a => k_is); (case l => k_is); (case c => k_is); (case k => k_is))
    (case d26 => refine' DL.df_mk ?a ?l ?c ?k; (case a => k_is); (case l => k_is); (case c => k_is); (case k => k_is))
    (case d27 => refine' DL.df_mk ?a ?l ?c ?k; (case a => k_is); (case l => k_is); (case c => k_is); (case k => k_is))
    (case d28 => refine' DL.df_mk ?a ?l ?c ?k; (case a => k_is); (case l => k_is); (case c => k_is); (case k => k_is))
    (case d29 => refine' DL.df_mk ?a ?l ?c ?k; (case a => k_is); (case l => k_is); (case c => k_is); (case k => k_is))
    (case d30 => refine' DL.df_mk ?a ?l ?c ?k; (case a => k_is); (case l => k_is); (case c => k_is); (case k => k_is))
    (case d31 => refine' DL.df_mk ?a ?l ?c ?k; (case a => k_is); (case l => k_is); (case c => k_is); (case k => k_is))
    (case d32 => refine' DL.df_mk ?a ?l ?c ?k; (case a => k_is); (case l => k_is); (case c => k_is); (case k => k_is))
    (case d33 => refine' DL.df_mk ?a ?l ?c ?k; (case a => k_is); (case l => k_is); (case c => k_is); (case k => k_is))
    (case d34 => refine' DL.df_mk ?a ?l ?c ?k; (case a => k_is); (case l => k_is); (case c => k_is); (case k => k_is))
    (case d35 => refine' DL.df_mk ?a ?l ?c ?k; (case a => k_is); (case l => k_is); (case c => k_is); (case k => k_is))
    (case d36 => refine' DL.df_mk ?a ?l ?c ?k; (case a => k_is); (case l => k_is); (case c => k_is); (case k => k_is))
    (case d37 => refine' DL.df_mk ?a ?l ?c ?k; (case a => k_is); (case l => k_is); (case c => k_is); (case k => k_is))
    (case d38 => refine' DL.df_mk ?a ?l ?c ?k; (case a => k_is); (case l => k_is); (case c => k_is); (case k => k_is))
    (case d39 => refine' DL.df_mk ?a ?l ?c ?k; (case a => k_is); (case l => k_is); (case c => k_is); (case k => k_is))
    (case d40 => refine' DL.df_mk ?a ?l ?c ?k; (case a => k_is); (case l => k_is); (case c => k_is); (case k => k_is))
    (case d41 => refine' DL.df_mk ?a ?l ?c ?k; (case a => k_is); (case l => k_is); (case c => k_is); (case k => k_is))
    (case d42 => refine' DL.df_mk ?a ?l ?c ?k; (case a => k_is); (case l => k_is); (case c => k_is); (case k => k_is))
    (case d43 => refine' DL.df_mk ?a ?l ?c ?k; (case a => k_is); (case l => k_is); (case c => k_is); (case k => k_is))
    (case e_NoSide => refine' DL.erri_mk1 ?aC ?xL ?sa ?ga ?gg ?nb ?kC ?eC ?tC ?hC ?iC ?sC ?a1 ?t1 ?l1 ?c1 ?k1; (case aC => k_is); (case xL => k_is); (case sa => k_is); (case ga => k_is); (case gg => k_is); (case nb => k_is); (case kC => k_is); (case eC => k_is); (case tC => k_is); (case hC => k_is); (case iC => k_is); (case sC => first | rfl | k_is); (case a1 => k_is); (case t1 => k_is); (case l1 => k_is); (case c1 => k_is); (case k1 => k_is))
    (case e_BadWork => refine' DL.erri_mk2 ?aC ?xL ?sa ?ga ?gg ?nb ?nb2 ?kC ?eC ?tC ?hC ?iC ?sC ?a1 ?t1 ?l1 ?c1 ?k1; (case aC => k_is); (case xL => k_is); (case sa => k_is); (case ga => k_is); (case gg => k_is); (case nb => k_is); (case nb2 => k_is); (case kC => k_is); (case eC => k_is); (case tC => k_is); (case hC => k_is); (case iC => k_is); (case sC => first | rfl | k_is); (case a1 => k_is); (case t1 => k_is); (case l1 => k_is); (case c1 => k_is); (case k1 => k_is))
    (case cW => refine' DL.cf_mk ?aC ?pg ?hd ?po ?sa ?mk ?kc; (case aC => k_is); (case pg => k_is); (case hd => k_is); (case po => k_is); (case sa => k_is); (case mk => k_is); (case kc => k_is))
    (case n1 => k_is)
    (case n2 => k_is)
    (case wi => refine' DL.inf_mk ?a1 ?i1 ?l1 ?c1 ?k1; (case a1 => k_is); (case i1 => k_is); (case l1 => k_is); (case c1 => k_is); (case k1 => k_is))
    (case w_m_len => refine' DL.mf_mk ?a1 ?i1 ?l1 ?c1 ?k1; (case a1 => k_is); (case i1 => k_is); (case l1 => k_is); (case c1 => k_is); (case k1 => k_is))
    (case w_m_eq => refine' DL.mf_mk ?a1 ?i1 ?l1 ?c1 ?k1; (case a1 => k_is); (case i1 => k_is); (case l1 => k_is); (case c1 => k_is); (case k1 => k_is))
    (case w_m_check_side => refine' DL.mf_mk ?a1 ?i1 ?l1 ?c1 ?k1; (case a1 => k_is); (case i1 => k_is); (case l1 => k_is); (case c1 => k_is); (case k1 => k_is))
    (case w_m_begun_at => refine' DL.mf_mk ?a1 ?i1 ?l1 ?c1 ?k1; (case a1 => k_is); (case i1 => k_is); (case l1 => k_is); (case c1 => k_is); (case k1 => k_is))
    (case z_int => k_is)
    (case z_abs => k_is)
    (case z_len => k_is)
    (case z_enumerate => k_is)
    (case z_isinstance => k_is)
    (case z_bool => k_is)
    (case z_tuple => k_is)
    (case z_list => k_is)
    (case z_all => k_is)
    (case z_range => k_is)
    (case z_sorted => k_is)
    (case z_min => k_is)
    (case z_zip => k_is)
    (case z_str => k_is)
    (case zgcd => k_is)
    (case jC1 => k_is)
    (case jC2 => k_is)
    (case jC3 => k_is)
    (case jC4 => k_is)
    (case jC5 => k_is)
    (case jC6 => k_is)
    (case jC7 => k_is)
