import PyProof.Rows.All
import Wide.All
import OpenK.AllK
import Wide.FinOn
import KE.OsRunLaw
import PySem.Challenge.RW_firmstops_k00_errors_side_by_side
import HandS.ForExc
import HandS.Defaults
import HandS.ExcInit
import HandS.ExcIs
import HandS.ExcField
import HandS.Comp
import HandS.Iter
import HandS.Deep
import HandS.IsInst
import HandS.Gcd
import HandS.Style
import HandS.Wide
import HandS.Zip
import HandS.Conv
import HandS.Walk
import HandS.Evl
import HandS.StrMore
import HandS.Rev
import HandS.MapJoin
import HandS.WideBits
import HandS.Codes
import PyProof.Rows.SeqMore
import HandS.ExcValue
import KE.KExcIs
set_option Elab.async false
set_option linter.all false
set_option maxRecDepth 100000
/-! The head, first: by one run. -/
namespace K00
open PySem PySem.W PyProof.Rows
local macro_rules | `(tactic| k_head) => `(tactic| k_headL)
set_option maxHeartbeats 0 in
open_top hd for PySem.Challenge.rw_firmstops_k00_errors_side_by_side
end K00
set_option Elab.async false
set_option linter.all false
set_option maxRecDepth 100000
/-! What the top says, ahead of the layer: the head stands first in a text. -/
namespace DL
open PySem PySem.Spec PyProof.Rows L2
/-- what the law's call is asked: a list of ints goes in, True comes out -/
def spLaw (K : PySem.W.Frag) : Sp := fun vs H Q _ => ∃ (a : Addr) (ns : List Int), vs = [.ref a] ∧ SqL K H a (ns.map V.int) ∧ ns.length ≤ 63 ∧ ∀ H', Q (.bl true) H'
/-- a def of the top -/
def Df (K : PySem.W.Frag) (x : Str) (st : Stmt) : Prop := ∃ f fd, PySem.W.nsIn K mainGlobals x = some (some (.ref f)) ∧ Fun K x x st f fd ∧ ∃ kV doc pm an cdv ct, fd = PySem.W.fnOf x x (defArgs st) (defBody st) (defScope st) .none kV doc pm an cdv ct
theorem df_mk {K : PySem.W.Frag} {x : Str} {st : Stmt} {f : Addr} {oc : Value} {od an : Option Addr} {osl : Array (Option Value)} {kV doc pm cdv ct : Value} (a : PySem.W.nsIn K mainGlobals x = some (some (.ref f))) (l : K.lookup f = some ⟨oc, od, .func (PySem.W.fnOf x x (defArgs st) (defBody st) (defScope st) .none kV doc pm an cdv ct), osl⟩)
    (c : PySem.W.codeIn K cdv x = true) (k : PySem.W.keepIn K (.ref f) = true) : Df K x st := ⟨f, _, a, fun_mk l c k, _, _, _, _, _, _, rfl⟩
theorem Df.gd {K : PySem.W.Frag} {x : Str} {st : Stmt} {h : Heap} {mg : Str → Option Value} (D : Df K x st) (X : K.In h) (G : h.Ns mainGlobals mg) : ∃ f fd, mg x = some (.ref f) ∧ Fun K x x st f fd := by
  obtain ⟨f, fd, a, F, _⟩ := D
  exact ⟨f, fd, PySem.W.mg_of X G a, F⟩
/-- a def of the top with defaults that are all None -/
def DfN (K : PySem.W.Frag) (x : Str) (st : Stmt) (dvs : List V) : Prop := ∃ f fd, PySem.W.nsIn K mainGlobals x = some (some (.ref f)) ∧ FunD K x x (defArgs st) (defBody st) (defScope st) dvs [] f fd
theorem dfn_mk2 {K : PySem.W.Frag} {x : Str} {st : Stmt} {f T : Addr} {oc : Value} {od an Tod : Option Addr} {osl Tsl : Array (Option Value)} {Tn : Nat} {kV doc pm cdv ct : Value} (a : PySem.W.nsIn K mainGlobals x = some (some (.ref f))) (l : K.lookup f = some ⟨oc, od, .func (PySem.W.fnOf x x (defArgs st) (defBody st) (defScope st) (.ref T) kV doc pm an cdv ct), osl⟩)
    (c : PySem.W.codeIn K cdv x = true) (k : PySem.W.keepIn K (.ref f) = true) (t : K.lookup T = some ⟨.type "tuple", Tod, .seq #[.none, .none] Tn, Tsl⟩) : DfN K x st [.non, .non] :=
  ⟨f, _, a, ⟨⟨_, _, _, _, _, _, _, _, _, _, rfl, l, c, Or.inr ⟨by simp, _, _, [.none, .none], _, rfl, t, rfl, .cons rfl (.cons rfl .nil)⟩, Or.inl rfl⟩, k⟩⟩
theorem DfN.gd {K : PySem.W.Frag} {x : Str} {st : Stmt} {dvs : List V} {h : Heap} {mg : Str → Option Value} (D : DfN K x st dvs) (X : K.In h) (G : h.Ns mainGlobals mg) : ∃ f fd, mg x = some (.ref f) ∧ FunD K x x (defArgs st) (defBody st) (defScope st) dvs [] f fd := by
  obtain ⟨f, fd, a, F⟩ := D
  exact ⟨f, fd, PySem.W.mg_of X G a, F⟩
theorem walk (k : Nat) {l : PySem.W.OpenLaw} {q : Program} {loose : List Str} {XP : (Str → Option Value) → Heap → Prop} {YP : World → Heap → Prop} {d : DefRec} {K : Params → PySem.W.Frag} (hn : l.most = some 63) (hdf : d.params.defaults = []) (hr : Room k callerA)
    (hY : ∀ (w : World) (h : Heap), YP w h → (K w.params).In h)
    (F : ∀ (w : World) (mg : Str → Option Value) (fa : Addr) (h : Heap), (K w.params).In h → h.Ns mainGlobals mg → mg d.name = some (.ref fa) →
      ∃ fd : FuncData, (∀ (s : Shared) (u : Value), BindsTo s fd ⟨[u], []⟩ [("_law_script", u)]) ∧ ∀ base : Heap, (K w.params).In base → base.Ns mainGlobals mg → FnOk l.prog w (K w.params) mg base CX0 k fa fd ["_law_script"] (spLaw (K w.params))) :
    PySem.W.WalkO q loose XP YP l.row.toRowW d [] (fun f vs => PySem.call f vs) :=
  L2.walk_of (n := 63) (k := k) (x := "_law_script") (CX := fun _ => CX0) (sp := fun w => spLaw (K w.params)) hn (by decide) hdf hr hY F (fun _ _ a ns hl _ hS => ⟨a, ns, rfl, hS, hl, fun _ => rfl⟩) fun _ _ _ _ _ z => z
/-- a def of the top, its default an int -/
theorem dfn_mkI {K : PySem.W.Frag} {x : Str} {st : Stmt} {f T : Addr} {oc : Value} {od an Tod : Option Addr} {osl Tsl : Array (Option Value)} {Tn : Nat} {kV doc pm cdv ct : Value} {i : Int} {tok : Tok} (a : PySem.W.nsIn K mainGlobals x = some (some (.ref f))) (l : K.lookup f = some ⟨oc, od, .func (PySem.W.fnOf x x (defArgs st) (defBody st) (defScope st) (.ref T) kV doc pm an cdv ct), osl⟩)
    (c : PySem.W.codeIn K cdv x = true) (k : PySem.W.keepIn K (.ref f) = true) (t : K.lookup T = some ⟨.type "tuple", Tod, .seq #[.int i tok] Tn, Tsl⟩) : DfN K x st [.int i] :=
  ⟨f, _, a, ⟨⟨_, _, _, _, _, _, _, _, _, _, rfl, l, c, Or.inr ⟨by simp, _, _, [.int i tok], _, rfl, t, rfl, .cons ⟨tok, rfl⟩ .nil⟩, Or.inl rfl⟩, k⟩⟩
abbrev VEs : List Value := [.type "ValueError", .type "Exception", .type "BaseException", .type "object"]
/-- an error class of the program, above it bm -/
structure ErS (K : PySem.W.Frag) (bm : List Value) (C : Addr) : Prop where
  xL : ∃ nm q N bs sn sub ab col dd k0 k1 k2 k3 k5, K.lookup C = some (excClassObj nm q C N bs bm true sn sub ab col dd k0 k1 k2 k3 k5 "ValueError.__new__")
  ga : PySem.W.findIn K (.ref C) "__getattribute__" = some (some (.builtin "BaseException.__getattribute__"))
  gg : PySem.W.findIn K (.ref C) "__getattr__" = some none
  ha : PySem.W.findIn K (.ref C) "__class__" = some (some (.builtin "object.__class__"))
  kC : PySem.W.keepIn K (.ref C) = true
/-- the class at S, directly below ValueError -/
def EKS (K : PySem.W.Frag) (x : Str) (S : Addr) : Prop := PySem.W.nsIn K mainGlobals x = some (some (.ref S)) ∧ ErS K VEs S ∧ PySem.W.excIn K S VEs "ValueError.__new__" = true
def EK0 (K : PySem.W.Frag) (x : Str) (S C : Addr) : Prop := PySem.W.nsIn K mainGlobals x = some (some (.ref C)) ∧ ErS K (.ref S :: VEs) C ∧ PySem.W.excIn K C VEs "ValueError.__new__" = true
def EK1 (K : PySem.W.Frag) (x q : Str) (st : Stmt) (gs : List Str) (S C : Addr) : Prop := ∃ (f : Addr) (fd : FuncData), PySem.W.nsIn K mainGlobals x = some (some (.ref C)) ∧ ErS K (.ref S :: VEs) C ∧ PySem.W.findIn K (.ref C) "__setattr__" = some (some (.builtin "object.__setattr__")) ∧ (∀ g ∈ gs, PySem.W.findIn K (.ref C) g = some none) ∧
  PySem.W.findIn K (.ref C) "__init__" = some (some (.ref f)) ∧ PySem.W.typeIn K (.ref f) = some (.type "function") ∧ Fun K "__init__" q st f fd
section
variable {K : PySem.W.Frag} {x qn : Str} {st : Stmt} {C S f : Addr} {nm q : Str} {N : Addr} {bs : List Value} {sn : List Str} {sub : List Value} {ab : Bool} {col : Option Bool} {dd : Option Addr} {m0 m1 m2 m3 m5 : Option Value} {od an : Option Addr} {osl : Array (Option Value)} {kV doc pm cdv ct : Value} {g g' : Str}
theorem eks_mk (aC : PySem.W.nsIn K mainGlobals x = some (some (.ref S)))
    (xL : K.lookup S = some (excClassObj nm q S N bs [.type "ValueError", .type "Exception", .type "BaseException", .type "object"] true sn sub ab col dd m0 m1 m2 m3 m5 "ValueError.__new__"))
    (ga : PySem.W.findIn K (.ref S) "__getattribute__" = some (some (.builtin "BaseException.__getattribute__"))) (gg : PySem.W.findIn K (.ref S) "__getattr__" = some none) (ha : PySem.W.findIn K (.ref S) "__class__" = some (some (.builtin "object.__class__")))
    (kC : PySem.W.keepIn K (.ref S) = true) (xc : PySem.W.excIn K S [.type "ValueError", .type "Exception", .type "BaseException", .type "object"] "ValueError.__new__" = true) : EKS K x S :=
  ⟨aC, ⟨⟨_, _, _, _, _, _, _, _, _, _, _, _, _, _, xL⟩, ga, gg, ha, kC⟩, xc⟩
theorem ek0_mk (aC : PySem.W.nsIn K mainGlobals x = some (some (.ref C)))
    (xL : K.lookup C = some (excClassObj nm q C N bs [.ref S, .type "ValueError", .type "Exception", .type "BaseException", .type "object"] true sn sub ab col dd m0 m1 m2 m3 m5 "ValueError.__new__"))
    (ga : PySem.W.findIn K (.ref C) "__getattribute__" = some (some (.builtin "BaseException.__getattribute__"))) (gg : PySem.W.findIn K (.ref C) "__getattr__" = some none) (ha : PySem.W.findIn K (.ref C) "__class__" = some (some (.builtin "object.__class__")))
    (kC : PySem.W.keepIn K (.ref C) = true) (xc : PySem.W.excIn K C [.type "ValueError", .type "Exception", .type "BaseException", .type "object"] "ValueError.__new__" = true) : EK0 K x S C :=
  ⟨aC, ⟨⟨_, _, _, _, _, _, _, _, _, _, _, _, _, _, xL⟩, ga, gg, ha, kC⟩, xc⟩
theorem ek1_mk (aC : PySem.W.nsIn K mainGlobals x = some (some (.ref C)))
    (xL : K.lookup C = some (excClassObj nm q C N bs [.ref S, .type "ValueError", .type "Exception", .type "BaseException", .type "object"] true sn sub ab col dd m0 m1 m2 m3 m5 "ValueError.__new__"))
    (ga : PySem.W.findIn K (.ref C) "__getattribute__" = some (some (.builtin "BaseException.__getattribute__"))) (gg : PySem.W.findIn K (.ref C) "__getattr__" = some none) (ha : PySem.W.findIn K (.ref C) "__class__" = some (some (.builtin "object.__class__")))
    (kC : PySem.W.keepIn K (.ref C) = true) (sa : PySem.W.findIn K (.ref C) "__setattr__" = some (some (.builtin "object.__setattr__"))) (nb : PySem.W.findIn K (.ref C) g = some none)
    (a1 : PySem.W.findIn K (.ref C) "__init__" = some (some (.ref f))) (l1 : K.lookup f = some ⟨.type "function", od, .func (PySem.W.fnOf "__init__" qn (defArgs st) (defBody st) (defScope st) .none kV doc pm an cdv ct), osl⟩) (c1 : PySem.W.codeIn K cdv qn = true) : EK1 K x qn st [g] S C :=
  ⟨f, _, aC, ⟨⟨_, _, _, _, _, _, _, _, _, _, _, _, _, _, xL⟩, ga, gg, ha, kC⟩, sa, fun z hz => by rw [List.mem_singleton.mp hz]; exact nb, a1, by show (K.lookup f).map _ = _; rw [l1] <;> rfl, fun_mk l1 c1 (by simp only [PySem.W.keepIn, l1])⟩
theorem ek2_mk (aC : PySem.W.nsIn K mainGlobals x = some (some (.ref C)))
    (xL : K.lookup C = some (excClassObj nm q C N bs [.ref S, .type "ValueError", .type "Exception", .type "BaseException", .type "object"] true sn sub ab col dd m0 m1 m2 m3 m5 "ValueError.__new__"))
    (ga : PySem.W.findIn K (.ref C) "__getattribute__" = some (some (.builtin "BaseException.__getattribute__"))) (gg : PySem.W.findIn K (.ref C) "__getattr__" = some none) (ha : PySem.W.findIn K (.ref C) "__class__" = some (some (.builtin "object.__class__")))
    (kC : PySem.W.keepIn K (.ref C) = true) (sa : PySem.W.findIn K (.ref C) "__setattr__" = some (some (.builtin "object.__setattr__"))) (nb : PySem.W.findIn K (.ref C) g = some none) (nb2 : PySem.W.findIn K (.ref C) g' = some none)
    (a1 : PySem.W.findIn K (.ref C) "__init__" = some (some (.ref f))) (l1 : K.lookup f = some ⟨.type "function", od, .func (PySem.W.fnOf "__init__" qn (defArgs st) (defBody st) (defScope st) .none kV doc pm an cdv ct), osl⟩) (c1 : PySem.W.codeIn K cdv qn = true) : EK1 K x qn st [g, g'] S C :=
  ⟨f, _, aC, ⟨⟨_, _, _, _, _, _, _, _, _, _, _, _, _, _, xL⟩, ga, gg, ha, kC⟩, sa, fun z hz => by
    rcases List.mem_cons.mp hz with e | e
    · rw [e]; exact nb
    · rw [List.mem_singleton.mp e]; exact nb2, a1, by show (K.lookup f).map _ = _; rw [l1] <;> rfl, fun_mk l1 c1 (by simp only [PySem.W.keepIn, l1])⟩
end
end DL
set_option Elab.async false
set_option linter.all false
set_option maxRecDepth 100000
/-! A logic of values over the hand layer: things, slots, expressions, statements. -/
namespace DL
open PySem PySem.Spec PyProof.Rows L2

abbrev Ex (H H' : Hp) : Prop := ∀ a o, H a = some o → H' a = some o
theorem Ex.refl (H : Hp) : Ex H H := fun _ _ h => h
theorem Ex.trans {H H1 H2 : Hp} (a : Ex H H1) (b : Ex H1 H2) : Ex H H2 := fun x o h => b x o (a x o h)
theorem Ex.new {H : Hp} {p : Addr} {o : HO} (h : H p = none) : Ex H (upd H p o) := fun a u e => by
  rw [upd_ne (ne_of_none e h)]
  exact e
def hide (S : List Addr) (H : Hp) : Hp := fun a => if a ∈ S then none else H a
theorem hide_in {S : List Addr} {H : Hp} {a : Addr} (h : a ∈ S) : hide S H a = none := if_pos h
theorem hide_out {S : List Addr} {H : Hp} {a : Addr} (h : a ∉ S) : hide S H a = H a := if_neg h
theorem hide_ex {S : List Addr} {H H' : Hp} (e : Ex H H') : Ex (hide S H) (hide S H') := fun a o h => by
  by_cases q : a ∈ S
  · rw [hide_in q] at h; cases h
  · rw [hide_out q] at h ⊢; exact e a o h
theorem hide_le {S : List Addr} {H : Hp} : Ex (hide S H) H := fun a o h => by
  by_cases q : a ∈ S
  · rw [hide_in q] at h; cases h
  · rw [hide_out q] at h; exact h
theorem hide_sub {S S' : List Addr} {H : Hp} (e : ∀ a ∈ S, a ∈ S') : Ex (hide S' H) (hide S H) := fun a o h => by
  by_cases q : a ∈ S'
  · rw [hide_in q] at h; cases h
  · rw [hide_out q] at h; rw [hide_out (fun z => q (e a z))]; exact h
theorem hide_upd {S : List Addr} {H : Hp} {a : Addr} {o : HO} (h : a ∈ S) : hide S (upd H a o) = hide S H := by
  funext b
  by_cases q : b ∈ S
  · rw [hide_in q, hide_in q]
  · rw [hide_out q, hide_out q, upd_ne (fun z => q (by rw [z]; exact h))]
def Dom (S : List Addr) (H : Hp) : Prop := ∀ a ∈ S, H a ≠ none
theorem Dom.up {S : List Addr} {H H' : Hp} (d : Dom S H) (e : Ex H H') : Dom S H' := fun a h z => by
  cases q : H a with
  | none => exact d a h q
  | some o => rw [e a o q] at z; cases z
theorem Dom.new {S : List Addr} {H : Hp} {p : Addr} (d : Dom S H) (h : H p = none) : p ∉ S := fun z => d p z h
theorem ex_rd {H H' : Hp} {a : Addr} {u : HO} (e : Ex H H') (h : Rd H a u) : Rd H' a u := by
  rcases h with h | ⟨o, h⟩
  · exact Or.inl (e a _ h)
  · exact Or.inr ⟨o, e a _ h⟩
theorem ex_l {K : PySem.W.Frag} {H H' : Hp} {a : Addr} {xs : List V} (e : Ex H H') (h : SqL K H a xs) : SqL K H' a xs := by
  rcases h with h | h
  · exact Or.inl (ex_rd e h)
  · exact Or.inr h
theorem ex_t {K : PySem.W.Frag} {H H' : Hp} {a : Addr} {xs : List V} (e : Ex H H') (h : SqT K H a xs) : SqT K H' a xs := by
  rcases h with h | h
  · exact Or.inl (ex_rd e h)
  · exact Or.inr h
mutual
theorem dp_up {K : PySem.W.Frag} {H H' : Hp} (e : Ex H H') : ∀ {d : PyData} {v : V}, Dp K H v d → Dp K H' v d
  | .none, _, .non => .non
  | .bool _, _, .bl b => .bl b
  | .int _, _, .int i => .int i
  | .str _, _, .str x => .str x
  | .list _, _, .lst h a => .lst (ex_l e h) (dpa_up e a)
  | .tuple _, _, .tup h a => .tup (ex_t e h) (dpa_up e a)
theorem dpa_up {K : PySem.W.Frag} {H H' : Hp} (e : Ex H H') : ∀ {ds : List PyData} {vs : List V}, DpAll K H vs ds → DpAll K H' vs ds
  | [], _, .nil => .nil
  | _ :: _, _, .cons h t => .cons (dp_up e h) (dpa_up e t)
end

/-! ### things -/
/-- a thing: which values are it, in which heaps -/
structure Th where
  R : Hp → V → Prop
  up : ∀ H H' v, Ex H H' → R H v → R H' v
/-- data -/
def dat (K : PySem.W.Frag) (d : PyData) : Th := ⟨fun H v => Dp K H v d, fun _ _ _ e h => dp_up e h⟩
/-- the things of a row of values -/
def All (H : Hp) : List Th → List V → Prop
  | [], [] => True
  | t :: ts, v :: vs => t.R H v ∧ All H ts vs
  | _, _ => False
theorem All.up {H H' : Hp} (e : Ex H H') : ∀ {ts : List Th} {vs : List V}, All H ts vs → All H' ts vs
  | [], [], _ => trivial
  | t :: ts, v :: vs, h => ⟨t.up _ _ _ e h.1, All.up e h.2⟩
  | [], _ :: _, h => h.elim
  | _ :: _, [], h => h.elim
theorem All.len {H : Hp} : ∀ {ts : List Th} {vs : List V}, All H ts vs → ts.length = vs.length
  | [], [], _ => rfl
  | t :: ts, v :: vs, h => by rw [List.length_cons, List.length_cons, All.len h.2]
  | [], _ :: _, h => h.elim
  | _ :: _, [], h => h.elim
theorem All.app {H : Hp} : ∀ {ts us : List Th} {vs ws : List V}, All H ts vs → All H us ws → All H (ts ++ us) (vs ++ ws)
  | [], _, [], _, _, h => h
  | t :: ts, us, v :: vs, ws, h, g => ⟨h.1, All.app h.2 g⟩
  | [], _, _ :: _, _, h, _ => h.elim
  | _ :: _, _, [], _, h, _ => h.elim
theorem All.get {H : Hp} : ∀ {ts : List Th} {vs : List V} {i : Nat} {v : V}, All H ts vs → vs[i]? = some v → ∃ t, ts[i]? = some t ∧ t.R H v
  | [], [], i, v, _, e => by simp at e
  | t :: ts, w :: vs, 0, v, h, e => by
    have e' : w = v := Option.some.inj e
    subst e'
    exact ⟨t, rfl, h.1⟩
  | t :: ts, w :: vs, i + 1, v, h, e => All.get (ts := ts) (vs := vs) (i := i) h.2 e
  | [], _ :: _, _, _, h, _ => h.elim
  | _ :: _, [], _, _, h, _ => h.elim
theorem All.get' {H : Hp} : ∀ {ts : List Th} {vs : List V} {i : Nat} {t : Th}, All H ts vs → ts[i]? = some t → ∃ v, vs[i]? = some v ∧ t.R H v
  | [], [], i, v, _, e => by simp at e
  | t :: ts, w :: vs, 0, v, h, e => by
    have e' : t = v := Option.some.inj e
    subst e'
    exact ⟨w, rfl, h.1⟩
  | t :: ts, w :: vs, i + 1, v, h, e => All.get' (ts := ts) (vs := vs) (i := i) h.2 e
  | [], _ :: _, _, _, h, _ => h.elim
  | _ :: _, [], _, _, h, _ => h.elim
theorem all_dpa {K : PySem.W.Frag} {H : Hp} : ∀ {ds : List PyData} {vs : List V}, All H (ds.map (dat K)) vs → DpAll K H vs ds
  | [], [], _ => .nil
  | d :: ds, v :: vs, h => .cons h.1 (all_dpa h.2)
  | [], _ :: _, h => h.elim
  | _ :: _, [], h => h.elim
theorem dpa_all {K : PySem.W.Frag} {H : Hp} : ∀ {ds : List PyData} {vs : List V}, DpAll K H vs ds → All H (ds.map (dat K)) vs
  | [], _, .nil => trivial
  | _ :: _, _, .cons h t => ⟨h, dpa_all t⟩

/-! ### slots -/
/-- a slot: nothing is known; a thing; a list of things that this def may change -/
inductive Sl where
  | no
  | th (t : Th)
  | ml (ts : List Th)
/-- where a slot's own list stands (S: the addresses that data don't lean on) -/
def SlR (S : List Addr) (H : Hp) (o : Option V) : Sl → Prop
  | .no => True
  | .th t => ∃ v, o = some v ∧ t.R (hide S H) v
  | .ml ts => ∃ a xs, o = some (.ref a) ∧ a ∈ S ∧ H a = some (.lst xs) ∧ All (hide S H) ts xs
def SlsR (S : List Addr) (H : Hp) : List Sl → L2.St → Prop
  | [], [] => True
  | s :: ss, o :: os => SlR S H o s ∧ SlsR S H ss os
  | _, _ => False
def Sl.isMl : Sl → Bool
  | .ml _ => true
  | _ => false
/-- no two lists that may be changed are one -/
def Apart (Δ : List Sl) (σ : L2.St) : Prop := ∀ (i j : Nat) (ts us : List Th) (a : Addr), Δ[i]? = some (.ml ts) → Δ[j]? = some (.ml us) → σ[i]? = some (some (.ref a)) → σ[j]? = some (some (.ref a)) → i = j
/-- the lists that a state may change are among M0, or new -/
def Own (M0 : List Addr) (H0 : Hp) (Δ : List Sl) (σ : L2.St) : Prop := ∀ (i : Nat) (ts : List Th) (a : Addr), Δ[i]? = some (.ml ts) → σ[i]? = some (some (.ref a)) → a ∈ M0 ∨ H0 a = none
/-- the state of a piece of a def that began at H0 (S0: the addresses that data don't lean on; M0: those that may be changed) -/
structure At (S0 M0 : List Addr) (H0 : Hp) (Δ : List Sl) (σ : L2.St) (H : Hp) (S : List Addr) : Prop where
  sub : ∀ a ∈ S0, a ∈ S
  msub : ∀ a ∈ M0, a ∈ S0
  new : ∀ a ∈ S, a ∈ S0 ∨ H0 a = none
  ex : Ex (hide M0 H0) H
  dom : Dom S H
  env : SlsR S H Δ σ
  apart : Apart Δ σ
  own : Own M0 H0 Δ σ

theorem SlR.up {S : List Addr} {H H' : Hp} (e : Ex H H') {o : Option V} {s : Sl} (h : SlR S H o s) : SlR S H' o s := by
  cases s with
  | no => trivial
  | th t => obtain ⟨v, e1, r⟩ := h; exact ⟨v, e1, t.up _ _ _ (hide_ex e) r⟩
  | ml ts => obtain ⟨a, xs, e1, m, q, r⟩ := h; exact ⟨a, xs, e1, m, e a _ q, r.up (hide_ex e)⟩
theorem SlsR.up {S : List Addr} {H H' : Hp} (e : Ex H H') : ∀ {Δ : List Sl} {σ : L2.St}, SlsR S H Δ σ → SlsR S H' Δ σ
  | [], [], _ => trivial
  | _ :: _, _ :: _, h => ⟨h.1.up e, SlsR.up e h.2⟩
  | [], _ :: _, h => h.elim
  | _ :: _, [], h => h.elim
theorem SlsR.get {S : List Addr} {H : Hp} : ∀ {Δ : List Sl} {σ : L2.St} {i : Nat} {s : Sl}, SlsR S H Δ σ → Δ[i]? = some s → ∃ o, σ[i]? = some o ∧ SlR S H o s
  | [], [], i, s, _, e => by simp at e
  | s' :: ss, o :: os, 0, s, h, e => by
    have e' : s' = s := Option.some.inj e
    subst e'
    exact ⟨o, rfl, h.1⟩
  | s' :: ss, o :: os, i + 1, s, h, e => SlsR.get (Δ := ss) (σ := os) (i := i) h.2 e
  | [], _ :: _, _, _, h, _ => h.elim
  | _ :: _, [], _, _, h, _ => h.elim
theorem SlsR.set {S : List Addr} {H : Hp} {o : Option V} {s : Sl} (r : SlR S H o s) : ∀ {Δ : List Sl} {σ : L2.St} {i : Nat}, SlsR S H Δ σ → SlsR S H (Δ.set i s) (σ.set i o)
  | [], [], i, _ => trivial
  | s' :: ss, o' :: os, 0, h => ⟨r, h.2⟩
  | s' :: ss, o' :: os, i + 1, h => ⟨h.1, SlsR.set r (Δ := ss) (σ := os) (i := i) h.2⟩
  | [], _ :: _, _, h => h.elim
  | _ :: _, [], _, h => h.elim
theorem At.up {S0 M0 S : List Addr} {H0 H H' : Hp} {Δ : List Sl} {σ : L2.St} (A : At S0 M0 H0 Δ σ H S) (e : Ex H H') : At S0 M0 H0 Δ σ H' S :=
  ⟨A.sub, A.msub, A.new, A.ex.trans e, A.dom.up e, A.env.up e, A.apart, A.own⟩
theorem set_ml {Δ : List Sl} {i : Nat} {s : Sl} (hs : s.isMl = false) {k : Nat} {ws : List Th} (h : (Δ.set i s)[k]? = some (.ml ws)) : i ≠ k ∧ Δ[k]? = some (.ml ws) := by
  by_cases q : i = k
  · subst q
    rw [List.getElem?_set_self'] at h
    cases z : Δ[i]? with
    | none => rw [z] at h; simp at h
    | some w =>
      rw [z] at h
      have h' : s = .ml ws := by simpa using h
      rw [h'] at hs
      cases hs
  · rw [List.getElem?_set_ne q] at h
    exact ⟨q, h⟩
/-- a slot gets a thing -/
theorem At.setS {S0 M0 S : List Addr} {H0 H : Hp} {Δ : List Sl} {σ : L2.St} (A : At S0 M0 H0 Δ σ H S) {i : Nat} {s : Sl} {o : Option V} (hs : s.isMl = false) (r : SlR S H o s) : At S0 M0 H0 (Δ.set i s) (σ.set i o) H S := by
  refine ⟨A.sub, A.msub, A.new, A.ex, A.dom, SlsR.set r A.env, fun m j ts us a h1 h2 h3 h4 => ?_, fun m ts a h1 h3 => ?_⟩
  · obtain ⟨n1, g1⟩ := set_ml hs h1
    obtain ⟨n2, g2⟩ := set_ml hs h2
    rw [List.getElem?_set_ne n1] at h3
    rw [List.getElem?_set_ne n2] at h4
    exact A.apart m j ts us a g1 g2 h3 h4
  · obtain ⟨n1, g1⟩ := set_ml hs h1
    rw [List.getElem?_set_ne n1] at h3
    exact A.own m ts a g1 h3
theorem At.set {S0 M0 S : List Addr} {H0 H : Hp} {Δ : List Sl} {σ : L2.St} (A : At S0 M0 H0 Δ σ H S) {i : Nat} {t : Th} {v : V} (r : t.R (hide S H) v) : At S0 M0 H0 (Δ.set i (.th t)) (σ.set i (some v)) H S :=
  A.setS (s := .th t) rfl ⟨v, rfl, r⟩
/-- the lists that may be changed -/
def mls : List Sl → L2.St → List Addr
  | Sl.ml _ :: Δ, some (V.ref a) :: σ => a :: mls Δ σ
  | _ :: Δ, _ :: σ => mls Δ σ
  | _, _ => []
theorem mem_mls : ∀ {Δ : List Sl} {σ : L2.St} {a : Addr}, a ∈ mls Δ σ → ∃ (i : Nat) (ts : List Th), Δ[i]? = some (Sl.ml ts) ∧ σ[i]? = some (some (V.ref a))
  | [], _, a, h => by simp [mls] at h
  | s :: Δ, [], a, h => by cases s <;> simp [mls] at h
  | s :: Δ, o :: σ, a, h => by
    have step : a ∈ mls Δ σ → ∃ (i : Nat) (ts : List Th), (s :: Δ)[i]? = some (Sl.ml ts) ∧ (o :: σ)[i]? = some (some (V.ref a)) := fun h => by
      obtain ⟨i, ts, h1, h2⟩ := mem_mls h
      exact ⟨i + 1, ts, h1, h2⟩
    cases s with
    | no => exact step (by simpa [mls] using h)
    | th t => exact step (by simpa [mls] using h)
    | ml ts =>
      cases o with
      | none => exact step (by simpa [mls] using h)
      | some v =>
        cases v with
        | ref b =>
          have h' : a = b ∨ a ∈ mls Δ σ := by simpa [mls] using h
          rcases h' with e | h'
          · subst e
            exact ⟨0, ts, rfl, rfl⟩
          · exact step h'
        | _ => exact step (by simpa [mls] using h)
theorem mls_mem : ∀ {Δ : List Sl} {σ : L2.St} {i : Nat} {ts : List Th} {a : Addr}, Δ[i]? = some (.ml ts) → σ[i]? = some (some (.ref a)) → a ∈ mls Δ σ
  | [], _, i, ts, a, h, _ => by simp at h
  | s :: Δ, [], i, ts, a, _, h => by simp at h
  | s :: Δ, o :: σ, 0, ts, a, h1, h2 => by
    have e1 : s = .ml ts := Option.some.inj h1
    have e2 : o = some (.ref a) := Option.some.inj h2
    subst e1; subst e2
    simp [mls]
  | s :: Δ, o :: σ, i + 1, ts, a, h1, h2 => by
    have q := mls_mem (Δ := Δ) (σ := σ) (i := i) (ts := ts) (a := a) (by simpa using h1) (by simpa using h2)
    cases s with
    | no => simpa [mls] using q
    | th t => simpa [mls] using q
    | ml us =>
      cases o with
      | none => simpa [mls] using q
      | some v => cases v <;> first | (simpa [mls] using q) | (simp [mls]; exact Or.inr q)
/-- a state as the beginning of a piece -/
theorem At.here {S0 M0 S : List Addr} {H0 H : Hp} {Δ : List Sl} {σ : L2.St} (A : At S0 M0 H0 Δ σ H S) : At S (mls Δ σ) H Δ σ H S := by
  refine ⟨fun _ h => h, fun a h => ?_, fun a h => Or.inl h, hide_le, A.dom, A.env, A.apart, fun i ts a h1 h2 => Or.inl (mls_mem h1 h2)⟩
  obtain ⟨i, ts, h1, h2⟩ := mem_mls h
  obtain ⟨o, e1, a', xs, e2, m, _⟩ := A.env.get h1
  rw [h2] at e1
  have e3 := Option.some.inj e1
  rw [← e3] at e2
  have e4 : a = a' := V.ref.inj (Option.some.inj e2)
  rw [e4]; exact m
theorem At.mown {S0 M0 S : List Addr} {H0 H : Hp} {Δ : List Sl} {σ : L2.St} (A : At S0 M0 H0 Δ σ H S) : ∀ a ∈ mls Δ σ, a ∈ M0 ∨ H0 a = none := fun a h => by
  obtain ⟨i, ts, h1, h2⟩ := mem_mls h
  exact A.own i ts a h1 h2
theorem ex_none {H H' : Hp} {M : List Addr} (e : Ex (hide M H) H') {a : Addr} (h : H' a = none) (n : a ∉ M) : H a = none := by
  cases q : H a with
  | none => rfl
  | some o =>
    have := e a o (by rw [hide_out n]; exact q)
    rw [this] at h; cases h
/-- .. and back to the whole -/
theorem At.lift {S0 M0 S S1 M1 : List Addr} {H0 H H1 : Hp} {Δ Δ1 : List Sl} {σ σ1 : L2.St} (A : At S0 M0 H0 Δ σ H S) (hM : ∀ a ∈ M1, a ∈ M0 ∨ H0 a = none) (B : At S M1 H Δ1 σ1 H1 S1) : At S0 M0 H0 Δ1 σ1 H1 S1 := by
  have back : ∀ a, H a = none → a ∈ M0 ∨ H0 a = none := fun a h => by
    by_cases q : a ∈ M0
    · exact Or.inl q
    · exact Or.inr (ex_none A.ex h q)
  refine ⟨fun a h => B.sub a (A.sub a h), A.msub, fun a h => ?_, fun a o h => ?_, B.dom, B.env, B.apart, fun i ts a h1 h2 => ?_⟩
  · rcases B.new a h with h | h
    · exact A.new a h
    · rcases back a h with h | h
      · exact Or.inl (A.msub a h)
      · exact Or.inr h
  · have n0 : a ∉ M0 := fun z => by rw [hide_in z] at h; cases h
    have h' : H0 a = some o := by rw [hide_out n0] at h; exact h
    have n1 : a ∉ M1 := fun z => by
      rcases hM a z with z | z
      · exact n0 z
      · rw [z] at h'; cases h'
    exact B.ex a o (by rw [hide_out n1]; exact A.ex a o h)
  · rcases B.own i ts a h1 h2 with h | h
    · exact hM a h
    · exact back a h

/-! ### expressions -/
/-- e evaluates, from any state of Δ, to a thing of A; what stood stays -/
def PX (X : Cx) (Δ : List Sl) (e : Expr) (A : Th → Prop) : Prop :=
  ∃ t : TE, PE X e t ∧ ∀ S0 M0 H0 σ H S, At S0 M0 H0 Δ σ H S → ∀ Q : VK, (∀ th v H2, A th → Ex H H2 → th.R (hide S H2) v → Q v H2) → t σ H Q
abbrev PD (X : Cx) (Δ : List Sl) (e : Expr) (th : Th) : Prop := PX X Δ e (fun t => t = th)
/-- a test -/
def PB (X : Cx) (Δ : List Sl) (e : Expr) (b : Bool) : Prop :=
  ∃ t : TT, PT X e t ∧ ∀ S0 M0 H0 σ H S, At S0 M0 H0 Δ σ H S → ∀ Q : Bool → Hp → Prop, (∀ H2, Ex H H2 → Q b H2) → t σ H Q
/-- arguments -/
def PL (X : Cx) (Δ : List Sl) (es : List Expr) (A : List Th → Prop) : Prop :=
  ∃ t : TA, PA X es t ∧ ∀ S0 M0 H0 σ H S, At S0 M0 H0 Δ σ H S → ∀ Q : List V → Hp → Prop, (∀ ths vs H2, A ths → Ex H H2 → All (hide S H2) ths vs → Q vs H2) → t σ H Q
abbrev PLD (X : Cx) (Δ : List Sl) (es : List Expr) (ths : List Th) : Prop := PL X Δ es (fun t => t = ths)

section
variable {X : Cx} {Δ : List Sl} {e a b c : Expr} {es : List Expr} {A B C : Th → Prop} {pos : Pos}
theorem PX.imp (h : PX X Δ e A) (i : ∀ t, A t → B t) : PX X Δ e B := by
  obtain ⟨t, p, f⟩ := h
  exact ⟨t, p, fun S0 M0 H0 σ H S hA Q q => f S0 M0 H0 σ H S hA Q fun th v H2 x => q th v H2 (i th x)⟩
theorem px_var (i : Nat) {x : Str} {t : Th} (h : Δ[i]? = some (.th t)) (hN : X.N[i]? = some x := by rfl) (hv : Vis X.env.scope x := by first | exact Or.inl rfl | exact Or.inr (Or.inl rfl) | exact Or.inr (Or.inr rfl)) (hd : (x == ("__debug__" : Str)) = false := by decide)
    (hcd : (x == ("__classdict__" : Str)) = false := by decide) : PD X Δ (.Name x pos) t :=
  ⟨_, pe_var hN hv hd hcd, fun S0 M0 H0 σ H S hA Q q => by
    obtain ⟨o, e1, v, e2, r⟩ := hA.env.get h
    subst e2
    exact ⟨v, e1, q _ v H rfl (Ex.refl H) r⟩⟩
theorem px_int {i : Int} {j : Nat} : PD X Δ (.Constant (.int i) j pos) (dat X.K (.int i)) := ⟨_, pe_int, fun _ _ _ _ H S _ Q q => q _ _ H rfl (Ex.refl H) (Dp.int i)⟩
theorem px_str {x : Str} {j : Nat} : PD X Δ (.Constant (.str x) j pos) (dat X.K (.str x)) := ⟨_, pe_str, fun _ _ _ _ H S _ Q q => q _ _ H rfl (Ex.refl H) (Dp.str x)⟩
theorem px_none {j : Nat} : PD X Δ (.Constant .none j pos) (dat X.K .none) := ⟨_, pe_non, fun _ _ _ _ H S _ Q q => q _ _ H rfl (Ex.refl H) Dp.non⟩
theorem px_bool {k : Bool} {j : Nat} : PD X Δ (.Constant (.bool k) j pos) (dat X.K (.bool k)) := ⟨_, pe_bl, fun _ _ _ _ H S _ Q q => q _ _ H rfl (Ex.refl H) (Dp.bl k)⟩
/-- two expressions, then what is done with their values -/
theorem px_two {r : R2} {e : Expr} (h : ∀ ta tb, PE X a ta → PE X b tb → PE X e (tOp r ta tb)) (ha : PX X Δ a A) (hb : PX X Δ b B)
    (f : ∀ (S : List Addr) (H : Hp) x y v w, Dom S H → A x → B y → x.R (hide S H) v → y.R (hide S H) w → ∀ Q : VK, (∀ th u H2, C th → Ex H H2 → th.R (hide S H2) u → Q u H2) → r v w H Q) : PX X Δ e C := by
  obtain ⟨ta, pa, fa⟩ := ha
  obtain ⟨tb, pb, fb⟩ := hb
  refine ⟨_, h ta tb pa pb, fun S0 M0 H0 σ H S hA Q q => ?_⟩
  refine fa S0 M0 H0 σ H S hA _ fun x v H1 hx e1 rx => fb S0 M0 H0 σ H1 S (hA.up e1) _ fun y w H2 hy e2 ry => ?_
  exact f S H2 x y v w ((hA.up e1).up e2).dom hx hy (x.up _ _ _ (hide_ex e2) rx) ry Q fun th u H3 c e3 r3 => q th u H3 c ((e1.trans e2).trans e3) r3
theorem px_one {r : V → Hp → VK → Prop} {e : Expr} (h : ∀ ta, PE X a ta → PE X e (tUn r ta)) (ha : PX X Δ a A)
    (f : ∀ (S : List Addr) (H : Hp) x v, Dom S H → A x → x.R (hide S H) v → ∀ Q : VK, (∀ th u H2, C th → Ex H H2 → th.R (hide S H2) u → Q u H2) → r v H Q) : PX X Δ e C := by
  obtain ⟨ta, pa, fa⟩ := ha
  refine ⟨_, h ta pa, fun S0 M0 H0 σ H S hA Q q => ?_⟩
  refine fa S0 M0 H0 σ H S hA _ fun x v H1 hx e1 rx => ?_
  exact f S H1 x v (hA.up e1).dom hx rx Q fun th u H3 c e3 r3 => q th u H3 c (e1.trans e3) r3
theorem dp_int {K : PySem.W.Frag} {H : Hp} {v : V} {i : Int} (h : Dp K H v (.int i)) : v = .int i := by cases h; rfl
theorem dp_bool {K : PySem.W.Frag} {H : Hp} {v : V} {i : Bool} (h : Dp K H v (.bool i)) : v = .bl i := by cases h; rfl
theorem dp_str {K : PySem.W.Frag} {H : Hp} {v : V} {i : Str} (h : Dp K H v (.str i)) : v = .str i := by cases h; rfl
theorem dp_tup {K : PySem.W.Frag} {H : Hp} {v : V} {ds : List PyData} (h : Dp K H v (.tuple ds)) : ∃ a xs, v = .ref a ∧ SqT K H a xs ∧ DpAll K H xs ds := by
  cases h with
  | tup h g => exact ⟨_, _, rfl, h, g⟩
theorem dp_lst {K : PySem.W.Frag} {H : Hp} {v : V} {ds : List PyData} (h : Dp K H v (.list ds)) : ∃ a xs, v = .ref a ∧ SqL K H a xs ∧ DpAll K H xs ds := by
  cases h with
  | lst h g => exact ⟨_, _, rfl, h, g⟩
/-- ints -/
def isI (K : PySem.W.Frag) (P : Int → Prop) (t : Th) : Prop := ∃ i, t = dat K (.int i) ∧ P i
theorem px_opI {op : Operator} {Cn : Int → Int → Prop} {g : Int → Int → Int} (ho : OpR X (binaryOp op) (rI Cn fun i j => .int (g i j))) {P Q R : Int → Prop} (ha : PX X Δ a (isI X.K P)) (hb : PX X Δ b (isI X.K Q))
    (h : ∀ i j, P i → Q j → Cn i j ∧ R (g i j)) : PX X Δ (.BinOp a op b pos) (isI X.K R) :=
  px_two (fun _ _ => pe_op ho) ha hb fun S H x y v w _ ⟨i, ex, pi⟩ ⟨j, ey, pj⟩ rx ry Q q => by
    subst ex; subst ey
    have e1 := dp_int rx
    have e2 := dp_int ry
    subst e1; subst e2
    exact ⟨i, j, rfl, rfl, (h i j pi pj).1, q _ _ H ⟨_, rfl, (h i j pi pj).2⟩ (Ex.refl H) (Dp.int _)⟩
theorem px_opI0 {op : Operator} {g : Int → Int → Int} (ho : OpR X (binaryOp op) (rI0 fun i j => .int (g i j))) {P Q R : Int → Prop} (ha : PX X Δ a (isI X.K P)) (hb : PX X Δ b (isI X.K Q))
    (h : ∀ i j, P i → Q j → R (g i j)) : PX X Δ (.BinOp a op b pos) (isI X.K R) :=
  px_two (fun _ _ => pe_op ho) ha hb fun S H x y v w _ ⟨i, ex, pi⟩ ⟨j, ey, pj⟩ rx ry Q q => by
    subst ex; subst ey
    have e1 := dp_int rx
    have e2 := dp_int ry
    subst e1; subst e2
    exact ⟨i, j, rfl, rfl, q _ _ H ⟨_, rfl, (h i j pi pj)⟩ (Ex.refl H) (Dp.int _)⟩
theorem pi_of {i : Int} (h : PD X Δ e (dat X.K (.int i))) : PX X Δ e (isI X.K (· = i)) := h.imp fun t ht => ⟨i, ht, rfl⟩
theorem pd_of {i : Int} (h : PX X Δ e (isI X.K (· = i))) : PD X Δ e (dat X.K (.int i)) := h.imp fun t ⟨j, ht, hj⟩ => by rw [ht, hj]
theorem pd_add {i j : Int} (ha : PD X Δ a (dat X.K (.int i))) (hb : PD X Δ b (dat X.K (.int j))) : PD X Δ (.BinOp a .Add b pos) (dat X.K (.int (i + j))) :=
  pd_of (px_opI0 op_add (pi_of ha) (pi_of hb) fun _ _ h1 h2 => by rw [h1, h2])
theorem pd_sub {i j : Int} (ha : PD X Δ a (dat X.K (.int i))) (hb : PD X Δ b (dat X.K (.int j))) : PD X Δ (.BinOp a .Sub b pos) (dat X.K (.int (i - j))) :=
  pd_of (px_opI0 op_sub (pi_of ha) (pi_of hb) fun _ _ h1 h2 => by rw [h1, h2])
theorem op_mulO : OpR X (binaryOp .Mult) (rI IntMulOk fun i j => .int (i * j)) := opI fun _ _ _ _ _ _ _ hc q => mul_int q hc
/-- a divisor that is not 0 and below 2 ^ 9000 -/
def CDv (_ j : Int) : Prop := j ≠ 0 ∧ j.natAbs.log2 < 9000
theorem op_fdivO : OpR X (binaryOp .FloorDiv) (rI CDv fun i j => .int (i.fdiv j)) := opI fun _ _ _ _ _ _ _ hc q => floordiv_int hc.1 q (.inl (PyProof.noPylong_of_log2 hc.2))
theorem pd_mul {i j : Int} (ha : PD X Δ a (dat X.K (.int i))) (hb : PD X Δ b (dat X.K (.int j))) (h : IntMulOk i j) : PD X Δ (.BinOp a .Mult b pos) (dat X.K (.int (i * j))) :=
  pd_of (px_opI op_mulO (pi_of ha) (pi_of hb) fun _ _ h1 h2 => by rw [h1, h2]; exact ⟨h, rfl⟩)
theorem pd_fdiv {i j : Int} (ha : PD X Δ a (dat X.K (.int i))) (hb : PD X Δ b (dat X.K (.int j))) (h : CDv i j) : PD X Δ (.BinOp a .FloorDiv b pos) (dat X.K (.int (i.fdiv j))) :=
  pd_of (px_opI op_fdivO (pi_of ha) (pi_of hb) fun _ _ h1 h2 => by rw [h1, h2]; exact ⟨h, rfl⟩)
theorem pd_mod {i j : Int} (ha : PD X Δ a (dat X.K (.int i))) (hb : PD X Δ b (dat X.K (.int j))) (h : j ≠ 0) : PD X Δ (.BinOp a .Mod b pos) (dat X.K (.int (i.fmod j))) :=
  pd_of (px_opI op_modN (pi_of ha) (pi_of hb) fun _ _ h1 h2 => by rw [h1, h2]; exact ⟨h, rfl⟩)
theorem pd_neg {i : Int} (ha : PD X Δ a (dat X.K (.int i))) : PD X Δ (.UnaryOp .USub a pos) (dat X.K (.int (-i))) :=
  px_one (fun _ => pe_un un_neg) ha fun S H x v _ hx rx Q q => by
    subst hx
    have e1 := dp_int rx
    subst e1
    exact ⟨i, rfl, q _ _ H rfl (Ex.refl H) (Dp.int _)⟩
/-- an item by a place -/
def ixD : PyData → Int → Option PyData
  | .tuple ds, k => atI ds k
  | .list ds, k => atI ds k
  | _, _ => none
theorem dpa_get {K : PySem.W.Frag} {H : Hp} : ∀ {vs : List V} {ds : List PyData} {i : Nat} {d : PyData}, DpAll K H vs ds → ds[i]? = some d → ∃ v, vs[i]? = some v ∧ Dp K H v d
  | _, _, i, d, .nil, h => by simp at h
  | v :: _, d' :: _, 0, d, .cons h t, e => by
    have e' : d' = d := Option.some.inj e
    subst e'
    exact ⟨v, rfl, h⟩
  | _ :: vs, _ :: ds, i + 1, d, .cons h t, e => dpa_get (vs := vs) (ds := ds) (i := i) t e
theorem dpa_len {K : PySem.W.Frag} {H : Hp} : ∀ {vs : List V} {ds : List PyData}, DpAll K H vs ds → vs.length = ds.length
  | _, _, .nil => rfl
  | _ :: _, _ :: _, .cons _ t => by rw [List.length_cons, List.length_cons, dpa_len t]
theorem dpa_at {K : PySem.W.Frag} {H : Hp} {vs : List V} {ds : List PyData} {k : Int} {d : PyData} (h : DpAll K H vs ds) (e : atI ds k = some d) : ∃ v, atI vs k = some v ∧ Dp K H v d := by
  unfold atI at e ⊢
  rw [dpa_len h]
  cases q : ixN ds.length k with
  | none => rw [q] at e; simp at e
  | some j =>
    rw [q] at e
    obtain ⟨v, e1, r⟩ := dpa_get h (show ds[j]? = some d from e)
    exact ⟨v, e1, r⟩
theorem pd_ix {D d : PyData} {k : Int} (ha : PD X Δ a (dat X.K D)) (hb : PD X Δ b (dat X.K (.int k))) (h : ixD D k = some d) (hs : PlainIx b := by exact fun _ _ => rfl) : PD X Δ (.Subscript a b pos) (dat X.K d) :=
  px_two (r := fun x y H Q => rIxL X.K x y H Q ∨ rIxT X.K x y H Q) (fun _ _ pa pb => pe_ix (ix_list.or ix_tup) pa pb hs) ha hb fun S H x y v w _ hx hy rx ry Q q => by
    subst hx; subst hy
    have e2 := dp_int ry
    subst e2
    cases D with
    | tuple ds =>
      obtain ⟨p, xs, rfl, hq, hd⟩ := dp_tup rx
      obtain ⟨u, e1, r⟩ := dpa_at hd (show atI ds k = some d from h)
      exact Or.inr ⟨p, xs, k, u, rfl, rfl, ex_t hide_le hq, e1, q _ u H rfl (Ex.refl H) r⟩
    | list ds =>
      obtain ⟨p, xs, rfl, hq, hd⟩ := dp_lst rx
      obtain ⟨u, e1, r⟩ := dpa_at hd (show atI ds k = some d from h)
      exact Or.inl ⟨p, xs, k, u, rfl, rfl, ex_l hide_le hq, e1, q _ u H rfl (Ex.refl H) r⟩
    | none => cases h
    | bool _ => cases h
    | int _ => cases h
    | str _ => cases h
    | dict _ => cases h
/-! arguments -/
theorem pl_nil : PLD X Δ [] [] := ⟨_, pa_nil, fun _ _ _ _ H S _ Q q => q [] [] H rfl (Ex.refl H) trivial⟩
theorem pl_consA {B : List Th → Prop} {C : List Th → Prop} (ha : PX X Δ e A) (hr : PL X Δ es B) (h : ∀ t ts, A t → B ts → C (t :: ts)) (hs : starEach (e :: es) X.env = (false, eval e X.env) :: starEach es X.env := by rfl) : PL X Δ (e :: es) C := by
  obtain ⟨ta, pa, fa⟩ := ha
  obtain ⟨tb, pb, fb⟩ := hr
  refine ⟨_, pa_cons pa pb hs, fun S0 M0 H0 σ H S hA Q q => ?_⟩
  refine fa S0 M0 H0 σ H S hA _ fun x v H1 hx e1 rx => fb S0 M0 H0 σ H1 S (hA.up e1) _ fun ys ws H2 hy e2 ry => ?_
  exact q (x :: ys) (v :: ws) H2 (h x ys hx hy) (e1.trans e2) ⟨x.up _ _ _ (hide_ex e2) rx, ry⟩
theorem pl_cons {t : Th} {ts : List Th} (ha : PD X Δ e t) (hr : PLD X Δ es ts) (hs : starEach (e :: es) X.env = (false, eval e X.env) :: starEach es X.env := by rfl) : PLD X Δ (e :: es) (t :: ts) :=
  pl_consA ha hr (fun _ _ h1 h2 => by rw [h1, h2]) hs
theorem sz_of {n : Nat} (h : n ≤ 100000) : n ≤ sizeLine := Nat.le_trans h (by decide)
theorem pd_tup {ds : List PyData} {x1} (h : PLD X Δ es (ds.map (dat X.K))) (hl : ds.length ≤ 100000 := by exact Nat.le_of_ble_eq_true rfl) : PD X Δ (.Tuple es x1 pos) (dat X.K (.tuple ds)) := by
  obtain ⟨t, p, f⟩ := h
  refine ⟨_, pe_tup p, fun S0 M0 H0 σ H S hA Q q => f S0 M0 H0 σ H S hA _ fun ths vs H2 ht e2 r => ?_⟩
  subst ht
  have hd := all_dpa r
  refine ⟨sz_of (by rw [dpa_len hd]; exact hl), fun p hp => q _ _ _ rfl (e2.trans (Ex.new hp)) ?_⟩
  have np := ((hA.up e2).dom).new hp
  refine Dp.tup (SqT.of ?_) (dpa_up (hide_ex (Ex.new hp)) hd)
  rw [hide_out np]
  exact upd_same
theorem pd_lst {ds : List PyData} (h : PLD X Δ es (ds.map (dat X.K))) (hl : ds.length ≤ 100000 := by exact Nat.le_of_ble_eq_true rfl) : PD X Δ (.List es pos) (dat X.K (.list ds)) := by
  obtain ⟨t, p, f⟩ := h
  refine ⟨_, pe_lst p, fun S0 M0 H0 σ H S hA Q q => f S0 M0 H0 σ H S hA _ fun ths vs H2 ht e2 r => ?_⟩
  subst ht
  have hd := all_dpa r
  refine ⟨sz_of (by rw [dpa_len hd]; exact hl), fun p hp => q _ _ _ rfl (e2.trans (Ex.new hp)) ?_⟩
  have np := ((hA.up e2).dom).new hp
  refine Dp.lst (SqL.of ?_) (dpa_up (hide_ex (Ex.new hp)) hd)
  rw [hide_out np]
  exact upd_same
end
end DL
set_option Elab.async false
set_option linter.all false
set_option maxRecDepth 100000
/-! Tests, comparisons, calls, statements. -/
namespace DL
open PySem PySem.Spec PyProof.Rows L2

section
variable {X : Cx} {Δ : List Sl} {e a b c : Expr} {es : List Expr} {A B C : Th → Prop} {pos : Pos}
/-! ### tests -/
theorem pb_val {k : Bool} (h : PD X Δ e (dat X.K (.bool k))) (he : ∀ whole, isTrue e X.env whole = (do let v ← whole; standAt e.pos; holding [v] (truthy v)) := by intro _; rfl) : PB X Δ e k := by
  obtain ⟨t, p, f⟩ := h
  refine ⟨_, pt_val p he, fun S0 M0 H0 σ H S hA Q q => f S0 M0 H0 σ H S hA _ fun th v H2 ht e2 r => ?_⟩
  subst ht
  exact ⟨k, dp_bool r, q H2 e2⟩
/-- a comparison's answer is k -/
theorem pb_two {r : R2} {k : Bool} (h : ∀ ta tb, PE X a ta → PE X b tb → PT X e (tTest (tOp r ta tb))) (ha : PX X Δ a A) (hb : PX X Δ b B)
    (f : ∀ (S : List Addr) (H : Hp) x y v w, Dom S H → A x → B y → x.R (hide S H) v → y.R (hide S H) w → ∀ Q : VK, (∀ H2, Ex H H2 → Q (.bl k) H2) → r v w H Q) : PB X Δ e k := by
  obtain ⟨ta, pa, fa⟩ := ha
  obtain ⟨tb, pb, fb⟩ := hb
  refine ⟨_, h ta tb pa pb, fun S0 M0 H0 σ H S hA Q q => ?_⟩
  refine fa S0 M0 H0 σ H S hA _ fun x v H1 hx e1 rx => fb S0 M0 H0 σ H1 S (hA.up e1) _ fun y w H2 hy e2 ry => ?_
  exact f S H2 x y v w ((hA.up e1).up e2).dom hx hy (x.up _ _ _ (hide_ex e2) rx) ry _ fun H3 e3 => ⟨k, rfl, q H3 ((e1.trans e2).trans e3)⟩
/-- how a comparison op of x and y answers -/
def CmpT (X : Cx) (op : CmpOp) (x y : Th) (k : Bool) : Prop := ∃ r : R2, OpR X (compareOp op) r ∧
  ∀ (S : List Addr) (H : Hp) v w, Dom S H → x.R (hide S H) v → y.R (hide S H) w → ∀ Q : VK, (∀ H2, Ex H H2 → Q (.bl k) H2) → r v w H Q
theorem pd_cmp {op : CmpOp} {x y : Th} {k : Bool} (h : CmpT X op x y k) (ha : PD X Δ a x) (hb : PD X Δ b y) (hm : behindInMarks op b = false) : PD X Δ (.Compare a [op] [b] pos) (dat X.K (.bool k)) := by
  obtain ⟨r, ho, f⟩ := h
  refine px_two (fun _ _ pa pb => pe_cmpR ho pa pb hm) ha hb fun S H x' y' v w hd hx hy rx ry Q q => ?_
  subst hx; subst hy
  exact f S H v w hd rx ry Q fun H2 e2 => q _ _ H2 rfl e2 (Dp.bl k)
theorem pb_cmp {op : CmpOp} {x y : Th} {k : Bool} (h : CmpT X op x y k) (ha : PD X Δ a x) (hb : PD X Δ b y) (hm : behindInMarks op b = false) : PB X Δ (.Compare a [op] [b] pos) k := by
  obtain ⟨r, ho, f⟩ := h
  refine pb_two (fun _ _ pa pb => pt_cmpR ho pa pb hm) ha hb fun S H x' y' v w hd hx hy rx ry Q q => ?_
  subst hx; subst hy
  exact f S H v w hd rx ry Q q
theorem ct_int {op : CmpOp} {g : Int → Int → Bool} (ho : OpR X (compareOp op) (rI0 fun i j => .bl (g i j))) {i j : Int} : CmpT X op (dat X.K (.int i)) (dat X.K (.int j)) (g i j) :=
  ⟨_, ho, fun S H v w _ rx ry Q q => ⟨i, j, dp_int rx, dp_int ry, q H (Ex.refl H)⟩⟩
theorem ct_lt {i j : Int} : CmpT X .Lt (dat X.K (.int i)) (dat X.K (.int j)) (decide (i < j)) := ct_int op_lt
theorem ct_le {i j : Int} : CmpT X .LtE (dat X.K (.int i)) (dat X.K (.int j)) (decide (i ≤ j)) := ct_int op_le
theorem ct_gt {i j : Int} : CmpT X .Gt (dat X.K (.int i)) (dat X.K (.int j)) (decide (j < i)) := ct_int op_gt
theorem ct_ge {i j : Int} : CmpT X .GtE (dat X.K (.int i)) (dat X.K (.int j)) (decide (j ≤ i)) := ct_int op_ge
theorem ct_eq {d d' : PyData} (hu : X.A.units + 64 < cLine) (h1 : SeqAt.shaped d = true) (h2 : SeqAt.shaped d' = true) : CmpT X .Eq (dat X.K d) (dat X.K d') (PyData.eqv d d') :=
  ⟨_, op_eqD hu, fun S H v w _ rx ry Q q => ⟨d, d', dp_up hide_le rx, dp_up hide_le ry, h1, h2, q H (Ex.refl H)⟩⟩
theorem ct_ne {d d' : PyData} (hu : X.A.units + 64 < cLine) (h1 : SeqAt.shaped d = true) (h2 : SeqAt.shaped d' = true) : CmpT X .NotEq (dat X.K d) (dat X.K d') (!PyData.eqv d d') :=
  ⟨_, op_neD hu, fun S H v w _ rx ry Q q => ⟨d, d', dp_up hide_le rx, dp_up hide_le ry, h1, h2, q H (Ex.refl H)⟩⟩
theorem ct_isB {k k' : Bool} : CmpT X .Is (dat X.K (.bool k)) (dat X.K (.bool k')) (decide (k = k')) :=
  ⟨_, op_isBl, fun S H v w _ rx ry Q q => ⟨k, k', dp_bool rx, dp_bool ry, q H (Ex.refl H)⟩⟩
theorem ct_notB {k k' : Bool} : CmpT X .IsNot (dat X.K (.bool k)) (dat X.K (.bool k')) (!decide (k = k')) :=
  ⟨_, op_notBl, fun S H v w _ rx ry Q q => ⟨k, k', dp_bool rx, dp_bool ry, q H (Ex.refl H)⟩⟩
def isNo : PyData → Bool
  | .none => true
  | _ => false
theorem dp_non {K : PySem.W.Frag} {H : Hp} {v : V} {d : PyData} (h : Dp K H v d) : decide (v = .non) = isNo d := by
  cases h <;> first | rfl | exact decide_eq_false (fun z => nomatch z)
theorem ct_isN {d : PyData} : CmpT X .Is (dat X.K d) (dat X.K .none) (isNo d) :=
  ⟨_, op_isN, fun S H v w _ rx ry Q q => ⟨by cases ry; rfl, by rw [dp_non rx]; exact q H (Ex.refl H)⟩⟩
theorem ct_notN {d : PyData} : CmpT X .IsNot (dat X.K d) (dat X.K .none) (!isNo d) :=
  ⟨_, op_notN, fun S H v w _ rx ry Q q => ⟨by cases ry; rfl, by rw [dp_non rx]; exact q H (Ex.refl H)⟩⟩
theorem ct_in {d : PyData} {ds : List PyData} (hu : X.A.units + 65 < cLine) (h1 : SeqAt.shaped d = true) (h2 : SeqAt.shaped (.list ds) = true) : CmpT X .In (dat X.K d) (dat X.K (.list ds)) (ds.any fun z => PyData.eqv z d) :=
  ⟨_, op_inD hu, fun S H v w _ rx ry Q q => ⟨d, ds, dp_up hide_le rx, dp_up hide_le ry, h1, h2, q H (Ex.refl H)⟩⟩
theorem ct_nin {d : PyData} {ds : List PyData} (hu : X.A.units + 65 < cLine) (h1 : SeqAt.shaped d = true) (h2 : SeqAt.shaped (.list ds) = true) : CmpT X .NotIn (dat X.K d) (dat X.K (.list ds)) (!ds.any fun z => PyData.eqv z d) :=
  ⟨_, op_notInD hu, fun S H v w _ rx ry Q q => ⟨d, ds, dp_up hide_le rx, dp_up hide_le ry, h1, h2, q H (Ex.refl H)⟩⟩
/-- a chain a op b op' c -/
theorem pb_chainT {op op' : CmpOp} {x y z : Th} {k k' : Bool} (h : CmpT X op x y k) (h' : CmpT X op' y z k') (ha : PD X Δ a x) (hb : PD X Δ b y) (hc : PD X Δ c z)
    (hp : ∀ r r' ta tb tc, OpR X (compareOp op) r → OpR X (compareOp op') r' → PE X a ta → PE X b tb → PE X c tc → PE X e (tChain r r' ta tb tc)) : PD X Δ e (dat X.K (.bool (k && k'))) := by
  obtain ⟨r, ho, f⟩ := h
  obtain ⟨r', ho', f'⟩ := h'
  obtain ⟨ta, pa, fa⟩ := ha
  obtain ⟨tb, pb, fb⟩ := hb
  obtain ⟨tc, pc, fc⟩ := hc
  refine ⟨_, hp r r' ta tb tc ho ho' pa pb pc, fun S0 M0 H0 σ H S hA Q q => ?_⟩
  refine fa S0 M0 H0 σ H S hA _ fun x' v H1 hx e1 rx => fb S0 M0 H0 σ H1 S (hA.up e1) _ fun y' w H2 hy e2 ry => ?_
  subst hx; subst hy
  refine f S H2 v w ((hA.up e1).up e2).dom (x'.up _ _ _ (hide_ex e2) rx) ry _ fun H3 e3 => ⟨k, rfl, ?_⟩
  cases k with
  | true =>
    refine fc S0 M0 H0 σ H3 S (((hA.up e1).up e2).up e3) _ fun z' u H4 hz e4 rz => ?_
    subst hz
    refine f' S H4 w u ((((hA.up e1).up e2).up e3).up e4).dom (y'.up _ _ _ (hide_ex (e3.trans e4)) ry) rz _ fun H5 e5 => ?_
    exact q _ _ H5 rfl ((((e1.trans e2).trans e3).trans e4).trans e5) (Dp.bl _)
  | false => exact q _ _ H3 rfl ((e1.trans e2).trans e3) (Dp.bl _)
/-! and, or, not -/
def PBW (X : Cx) (Δ : List Sl) (e : Expr) (b : Bool) : Prop :=
  ∃ t : TT, PW X e t ∧ ∀ S0 M0 H0 σ H S, At S0 M0 H0 Δ σ H S → ∀ Q : Bool → Hp → Prop, (∀ H2, Ex H H2 → Q b H2) → t σ H Q
theorem PBW.pb {k : Bool} (h : PBW X Δ e k) : PB X Δ e k := let ⟨t, p, f⟩ := h; ⟨t, p.pt, f⟩
theorem pw1a {k : Bool} (h : PB X Δ a k) : PBW X Δ (.BoolOp .And [a] pos) k := let ⟨t, p, f⟩ := h; ⟨t, pw_and1 p, f⟩
theorem pw1o {k : Bool} (h : PB X Δ a k) : PBW X Δ (.BoolOp .Or [a] pos) k := let ⟨t, p, f⟩ := h; ⟨t, pw_or1 p, f⟩
theorem pwa {rest : List Expr} {k j : Bool} (h : PB X Δ a k) (g : PBW X Δ (.BoolOp .And (b :: rest) pos) j) : PBW X Δ (.BoolOp .And (a :: b :: rest) pos) (k && j) := by
  obtain ⟨t, p, f⟩ := h
  obtain ⟨u, p', f'⟩ := g
  refine ⟨_, pw_and p p', fun S0 M0 H0 σ H S hA Q q => f S0 M0 H0 σ H S hA _ fun H1 e1 => ?_⟩
  cases k with
  | true => exact f' S0 M0 H0 σ H1 S (hA.up e1) _ fun H2 e2 => q H2 (e1.trans e2)
  | false => exact q H1 e1
theorem pwo {rest : List Expr} {k j : Bool} (h : PB X Δ a k) (g : PBW X Δ (.BoolOp .Or (b :: rest) pos) j) : PBW X Δ (.BoolOp .Or (a :: b :: rest) pos) (k || j) := by
  obtain ⟨t, p, f⟩ := h
  obtain ⟨u, p', f'⟩ := g
  refine ⟨_, pw_or p p', fun S0 M0 H0 σ H S hA Q q => f S0 M0 H0 σ H S hA _ fun H1 e1 => ?_⟩
  cases k with
  | true => exact q H1 e1
  | false => exact f' S0 M0 H0 σ H1 S (hA.up e1) _ fun H2 e2 => q H2 (e1.trans e2)
/-- the first one decides: the others are not asked (u: their syntax stands) -/
theorem pwa_f {rest : List Expr} (h : PB X Δ a false) (g : ∃ u, PW X (.BoolOp .And (b :: rest) pos) u) : PBW X Δ (.BoolOp .And (a :: b :: rest) pos) false := by
  obtain ⟨t, p, f⟩ := h
  obtain ⟨u, p'⟩ := g
  exact ⟨_, pw_and p p', fun S0 M0 H0 σ H S hA Q q => f S0 M0 H0 σ H S hA _ fun H1 e1 => q H1 e1⟩
theorem pwo_t {rest : List Expr} (h : PB X Δ a true) (g : ∃ u, PW X (.BoolOp .Or (b :: rest) pos) u) : PBW X Δ (.BoolOp .Or (a :: b :: rest) pos) true := by
  obtain ⟨t, p, f⟩ := h
  obtain ⟨u, p'⟩ := g
  exact ⟨_, pw_or p p', fun S0 M0 H0 σ H S hA Q q => f S0 M0 H0 σ H S hA _ fun H1 e1 => q H1 e1⟩
theorem never_w : ∃ u, PW X e u := ⟨fun _ _ _ => False, ⟨fun _ _ _ _ _ _ _ h => h.elim⟩⟩
theorem pb_not {k : Bool} (h : PB X Δ a k) : PB X Δ (.UnaryOp .Not a pos) (!k) := by
  obtain ⟨t, p, f⟩ := h
  exact ⟨_, pt_not p, fun S0 M0 H0 σ H S hA Q q => f S0 M0 H0 σ H S hA _ fun H1 e1 => q H1 e1⟩
/-- as values -/
theorem pd_one {op} {t : Th} (h : PD X Δ a t) : PD X Δ (.BoolOp op [a] pos) t := let ⟨u, p, f⟩ := h; ⟨u, pe_one p, f⟩
theorem pd_and {rest : List Expr} {k j : Bool} (h : PD X Δ a (dat X.K (.bool k))) (g : PD X Δ (.BoolOp .And (b :: rest) pos) (dat X.K (.bool j))) : PD X Δ (.BoolOp .And (a :: b :: rest) pos) (dat X.K (.bool (k && j))) := by
  obtain ⟨t, p, f⟩ := h
  obtain ⟨u, p', f'⟩ := g
  refine ⟨_, pe_and p p', fun S0 M0 H0 σ H S hA Q q => f S0 M0 H0 σ H S hA _ fun x v H1 hx e1 r => ⟨k, by subst hx; exact dp_bool r, ?_⟩⟩
  cases k with
  | true => exact f' S0 M0 H0 σ H1 S (hA.up e1) _ fun y w H2 hy e2 r2 => q y w H2 hy (e1.trans e2) r2
  | false => exact q _ _ H1 rfl e1 (Dp.bl _)
theorem pd_or {rest : List Expr} {k j : Bool} (h : PD X Δ a (dat X.K (.bool k))) (g : PD X Δ (.BoolOp .Or (b :: rest) pos) (dat X.K (.bool j))) : PD X Δ (.BoolOp .Or (a :: b :: rest) pos) (dat X.K (.bool (k || j))) := by
  obtain ⟨t, p, f⟩ := h
  obtain ⟨u, p', f'⟩ := g
  refine ⟨_, pe_or p p', fun S0 M0 H0 σ H S hA Q q => f S0 M0 H0 σ H S hA _ fun x v H1 hx e1 r => ⟨k, by subst hx; exact dp_bool r, ?_⟩⟩
  cases k with
  | true => exact q _ _ H1 rfl e1 (Dp.bl _)
  | false => exact f' S0 M0 H0 σ H1 S (hA.up e1) _ fun y w H2 hy e2 r2 => q y w H2 hy (e1.trans e2) r2
theorem never_e : ∃ u, PE X e u := ⟨fun _ _ _ => False, ⟨fun _ _ _ _ _ _ h => h.elim⟩⟩
theorem pd_and_f {rest : List Expr} (h : PD X Δ a (dat X.K (.bool false))) : PD X Δ (.BoolOp .And (a :: b :: rest) pos) (dat X.K (.bool false)) := by
  obtain ⟨t, p, f⟩ := h
  obtain ⟨u, p'⟩ := never_e (X := X) (e := .BoolOp .And (b :: rest) pos)
  exact ⟨_, pe_and p p', fun S0 M0 H0 σ H S hA Q q => f S0 M0 H0 σ H S hA _ fun x v H1 hx e1 r => ⟨false, by subst hx; exact dp_bool r, q _ _ H1 rfl e1 (Dp.bl _)⟩⟩
theorem pd_or_t {rest : List Expr} (h : PD X Δ a (dat X.K (.bool true))) : PD X Δ (.BoolOp .Or (a :: b :: rest) pos) (dat X.K (.bool true)) := by
  obtain ⟨t, p, f⟩ := h
  obtain ⟨u, p'⟩ := never_e (X := X) (e := .BoolOp .Or (b :: rest) pos)
  exact ⟨_, pe_or p p', fun S0 M0 H0 σ H S hA Q q => f S0 M0 H0 σ H S hA _ fun x v H1 hx e1 r => ⟨true, by subst hx; exact dp_bool r, q _ _ H1 rfl e1 (Dp.bl _)⟩⟩
theorem pd_not {k : Bool} (h : PD X Δ a (dat X.K (.bool k))) : PD X Δ (.UnaryOp .Not a pos) (dat X.K (.bool (!k))) := by
  obtain ⟨t, p, f⟩ := h
  exact ⟨_, pe_not p, fun S0 M0 H0 σ H S hA Q q => f S0 M0 H0 σ H S hA _ fun x v H1 hx e1 r => ⟨k, by subst hx; exact dp_bool r, q _ _ H1 rfl e1 (Dp.bl _)⟩⟩
/-- a if c else b -/
theorem px_ifT (hc : PB X Δ c true) (ha : PX X Δ a A) : PX X Δ (.IfExp c a b pos) A := by
  obtain ⟨t, p, f⟩ := hc
  obtain ⟨ta, pa, fa⟩ := ha
  obtain ⟨tb, pb⟩ := never_e (X := X) (e := b)
  exact ⟨_, pe_ifExp p pa pb, fun S0 M0 H0 σ H S hA Q q => f S0 M0 H0 σ H S hA _ fun H1 e1 => fa S0 M0 H0 σ H1 S (hA.up e1) _ fun y w H2 hy e2 r2 => q y w H2 hy (e1.trans e2) r2⟩
theorem px_ifF (hc : PB X Δ c false) (hb : PX X Δ b A) : PX X Δ (.IfExp c a b pos) A := by
  obtain ⟨t, p, f⟩ := hc
  obtain ⟨tb, pb, fb⟩ := hb
  obtain ⟨ta, pa⟩ := never_e (X := X) (e := a)
  exact ⟨_, pe_ifExp p pa pb, fun S0 M0 H0 σ H S hA Q q => f S0 M0 H0 σ H S hA _ fun H1 e1 => fb S0 M0 H0 σ H1 S (hA.up e1) _ fun y w H2 hy e2 r2 => q y w H2 hy (e1.trans e2) r2⟩
theorem px_if {k : Bool} (hc : PB X Δ c k) (ha : k = true → PX X Δ a A) (hb : k = false → PX X Δ b A) : PX X Δ (.IfExp c a b pos) A := by
  cases k with
  | true => exact px_ifT hc (ha rfl)
  | false => exact px_ifF hc (hb rfl)
/-! ### calls -/
end
/-- R: from which things to which things -/
abbrev Cn := List Th → (Th → Prop) → Prop
/-- the promise: a thing of A, nothing that stood is changed -/
def spT (R : Cn) : Sp := fun vs H Q _ => ∃ S ths A, Dom S H ∧ All (hide S H) ths vs ∧ R ths A ∧ ∀ t v H', A t → Ex H H' → t.R (hide S H') v → Q v H'
/-- the module's name x is a def that keeps R; dts: what fills up the arguments that are left out -/
structure Gd (P : Program) (w : World) (K : PySem.W.Frag) (mg : Str → Option Value) (base : Heap) (x : Str) (k : Nat) (dts : List Th) (R : Cn) : Prop where
  ex : ∃ f fd ps ds dvs, mg x = some (.ref f) ∧ PySem.W.keepIn K (.ref f) = true ∧ Binds K fd ps ds ∧ Vals dvs ds ∧ (∀ H, All H dts dvs) ∧ FnOk P w K mg base CX0 k f fd ps (spT R)
section
variable {X : Cx} {Δ : List Sl} {e a b c : Expr} {es : List Expr} {A B C : Th → Prop} {pos : Pos}
theorem px_call {x : Str} {k : Nat} {dts : List Th} {R : Cn} {p : Pos} {B : List Th → Prop} (G : Gd X.prog X.w X.K X.mg X.base x k dts R) (hr : Room k X.A) (ha : PL X Δ (e :: es) B) (h : ∀ ts, B ts → ∃ A, R (ts ++ dts) A ∧ ∀ t, A t → C t)
    (hg : Gl X x := by rfl) (hdb : (x == ("__debug__" : Str)) = false := by decide) (he : starEach (e :: es) X.env = (false, eval e X.env) :: starEach es X.env := by rfl) (hpl : (backTo pos (starEach es X.env)).any (·.1) = false := by rfl) :
    PX X Δ (.Call (.Name x p) (e :: es) [] pos) C := by
  obtain ⟨f, fd, ps, ds, dvs, hm, hk, hb, hd, hdt, F⟩ := G.ex
  obtain ⟨t, pa, fa⟩ := ha
  refine ⟨_, pe_call (E := E0) F hr hg hm hk hb hd pass0 pa hdb he hpl, fun S0 M0 H0 σ H S hA Q q => ?_⟩
  refine fa S0 M0 H0 σ H S hA _ fun ths vs H1 hB e1 r => ?_
  obtain ⟨A, hR, hC⟩ := h ths hB
  exact ⟨S, ths ++ dts, A, (hA.up e1).dom, r.app (hdt _), hR, fun th v H2 hA2 e2 r2 => q th v H2 (hC th hA2) (e1.trans e2) r2⟩
theorem px_call0 {x : Str} {k : Nat} {dts : List Th} {R : Cn} {p : Pos} (G : Gd X.prog X.w X.K X.mg X.base x k dts R) (hr : Room k X.A) (h : ∃ A, R dts A ∧ ∀ t, A t → C t)
    (hg : Gl X x := by rfl) (hdb : (x == ("__debug__" : Str)) = false := by decide) : PX X Δ (.Call (.Name x p) [] [] pos) C := by
  obtain ⟨f, fd, ps, ds, dvs, hm, hk, hb, hd, hdt, F⟩ := G.ex
  refine ⟨_, pe_call0 (E := E0) F hr hg hm hk hb hd pass0 hdb, fun S0 M0 H0 σ H S hA Q q => ?_⟩
  obtain ⟨A, hR, hC⟩ := h
  exact ⟨S, dts, A, hA.dom, hdt _, hR, fun th v H2 hA2 e2 r2 => q th v H2 (hC th hA2) e2 r2⟩
/-- a deterministic promise -/
theorem pd_call {x : Str} {k : Nat} {dts : List Th} {R : Cn} {p : Pos} {ts : List Th} {t : Th} (G : Gd X.prog X.w X.K X.mg X.base x k dts R) (hr : Room k X.A) (ha : PLD X Δ (e :: es) ts) (h : R (ts ++ dts) (· = t))
    (hg : Gl X x := by rfl) (hdb : (x == ("__debug__" : Str)) = false := by decide) (he : starEach (e :: es) X.env = (false, eval e X.env) :: starEach es X.env := by rfl) (hpl : (backTo pos (starEach es X.env)).any (·.1) = false := by rfl) :
    PD X Δ (.Call (.Name x p) (e :: es) [] pos) t := px_call G hr ha (fun us hu => ⟨_, by rw [hu]; exact h, fun _ z => z⟩) hg hdb he hpl
/-- a built-in by its name -/
theorem px_blt {x : Str} {id : String} {r : List V → Hp → VK → Prop} {p : Pos} {B : List Th → Prop} (hc : CallR X (.builtin id) r) (hm : X.mg x = none) (ha : PL X Δ (e :: es) B)
    (f : ∀ (S : List Addr) (H : Hp) ts vs, Dom S H → B ts → All (hide S H) ts vs → ∀ Q : VK, (∀ th u H2, C th → Ex H H2 → th.R (hide S H2) u → Q u H2) → r vs H Q)
    (hv : bootBuiltins x = some (.builtin id) := by decide +kernel) (hg : Gl X x := by rfl) (hn : x ≠ "__name__" := by decide) (hdb : (x == ("__debug__" : Str)) = false := by decide) (he : starEach (e :: es) X.env = (false, eval e X.env) :: starEach es X.env := by rfl)
    (hpl : (backTo pos (starEach es X.env)).any (·.1) = false := by rfl) : PX X Δ (.Call (.Name x p) (e :: es) [] pos) C := by
  obtain ⟨t, pa, fa⟩ := ha
  refine ⟨_, pe_callB hc hg hm hv pa hn hdb he hpl, fun S0 M0 H0 σ H S hA Q q => ?_⟩
  refine fa S0 M0 H0 σ H S hA _ fun ths vs H1 hB e1 r1 => ?_
  exact f S H1 ths vs (hA.up e1).dom hB r1 Q fun th u H2 c e2 r2 => q th u H2 c (e1.trans e2) r2
theorem px_bltT {x : Str} {T : String} {r : List V → Hp → VK → Prop} {p : Pos} {B : List Th → Prop} (hc : CallR X (.type T) r) (hm : X.mg x = none) (ha : PL X Δ (e :: es) B)
    (f : ∀ (S : List Addr) (H : Hp) ts vs, Dom S H → B ts → All (hide S H) ts vs → ∀ Q : VK, (∀ th u H2, C th → Ex H H2 → th.R (hide S H2) u → Q u H2) → r vs H Q)
    (hv : bootBuiltins x = some (.type T) := by decide +kernel) (hg : Gl X x := by rfl) (hn : x ≠ "__name__" := by decide) (hdb : (x == ("__debug__" : Str)) = false := by decide) (he : starEach (e :: es) X.env = (false, eval e X.env) :: starEach es X.env := by rfl)
    (hpl : (backTo pos (starEach es X.env)).any (·.1) = false := by rfl) : PX X Δ (.Call (.Name x p) (e :: es) [] pos) C := by
  obtain ⟨t, pa, fa⟩ := ha
  refine ⟨_, pe_callTy hc hg hm hv pa hn hdb he hpl, fun S0 M0 H0 σ H S hA Q q => ?_⟩
  refine fa S0 M0 H0 σ H S hA _ fun ths vs H1 hB e1 r1 => ?_
  exact f S H1 ths vs (hA.up e1).dom hB r1 Q fun th u H2 c e2 r2 => q th u H2 c (e1.trans e2) r2
theorem all1 {H : Hp} {t : Th} {vs : List V} (h : All H [t] vs) : ∃ v, vs = [v] ∧ t.R H v := by
  match vs, h with
  | [v], h => exact ⟨v, rfl, h.1⟩
theorem all2 {H : Hp} {t u : Th} {vs : List V} (h : All H [t, u] vs) : ∃ v w, vs = [v, w] ∧ t.R H v ∧ u.R H w := by
  match vs, h with
  | [v, w], h => exact ⟨v, w, rfl, h.1, h.2.1⟩
theorem all3 {H : Hp} {t u s : Th} {vs : List V} (h : All H [t, u, s] vs) : ∃ v w x, vs = [v, w, x] ∧ t.R H v ∧ u.R H w ∧ s.R H x := by
  match vs, h with
  | [v, w, x], h => exact ⟨v, w, x, rfl, h.1, h.2.1, h.2.2.1⟩
theorem pd_int {p : Pos} {i : Int} (hm : X.mg "int" = none) (ha : PD X Δ e (dat X.K (.int i))) (hg : Gl X "int" := by rfl) (he : starEach [e] X.env = (false, eval e X.env) :: starEach [] X.env := by rfl) (hpl : (backTo pos (starEach [] X.env)).any (·.1) = false := by rfl) :
    PD X Δ (.Call (.Name "int" p) [e] [] pos) (dat X.K (.int i)) :=
  px_bltT call_int1 hm (pl_cons ha pl_nil he) (fun S H ts vs _ hB r Q q => by
    subst hB
    obtain ⟨v, rfl, r0⟩ := all1 r
    have := dp_int r0
    subst this
    exact Or.inl ⟨i, rfl, q _ _ H rfl (Ex.refl H) (Dp.int i)⟩) (by decide +kernel) hg (by decide) (by decide) he hpl
theorem pd_abs {p : Pos} {i : Int} (hm : X.mg "abs" = none) (ha : PD X Δ e (dat X.K (.int i))) (hg : Gl X "abs" := by rfl) (he : starEach [e] X.env = (false, eval e X.env) :: starEach [] X.env := by rfl) (hpl : (backTo pos (starEach [] X.env)).any (·.1) = false := by rfl) :
    PD X Δ (.Call (.Name "abs" p) [e] [] pos) (dat X.K (.int (if i < 0 then -i else i))) :=
  px_blt call_abs hm (pl_cons ha pl_nil he) (fun S H ts vs _ hB r Q q => by
    subst hB
    obtain ⟨v, rfl, r0⟩ := all1 r
    have := dp_int r0
    subst this
    exact ⟨i, rfl, q _ _ H rfl (Ex.refl H) (Dp.int _)⟩) (by decide +kernel) hg (by decide) (by decide) he hpl
/-- the length of data -/
def lenD : PyData → Option Nat
  | .tuple ds => some ds.length
  | .list ds => some ds.length
  | _ => none
theorem pd_len {p : Pos} {d : PyData} {n : Nat} (hm : X.mg "len" = none) (ha : PD X Δ e (dat X.K d)) (hl : lenD d = some n) (hg : Gl X "len" := by rfl) (he : starEach [e] X.env = (false, eval e X.env) :: starEach [] X.env := by rfl) (hpl : (backTo pos (starEach [] X.env)).any (·.1) = false := by rfl) :
    PD X Δ (.Call (.Name "len" p) [e] [] pos) (dat X.K (.int n)) :=
  px_blt call_len_seq hm (pl_cons ha pl_nil he) (fun S H ts vs _ hB r Q q => by
    subst hB
    obtain ⟨v, rfl, r0⟩ := all1 r
    cases d with
    | tuple ds =>
      obtain ⟨a, xs, rfl, hq, hd⟩ := dp_tup r0
      have e1 : ds.length = n := Option.some.inj hl
      refine ⟨a, xs, rfl, Or.inr (ex_t hide_le hq), ?_⟩
      rw [dpa_len hd, e1]
      exact q _ _ H rfl (Ex.refl H) (Dp.int _)
    | list ds =>
      obtain ⟨a, xs, rfl, hq, hd⟩ := dp_lst r0
      have e1 : ds.length = n := Option.some.inj hl
      refine ⟨a, xs, rfl, Or.inl (ex_l hide_le hq), ?_⟩
      rw [dpa_len hd, e1]
      exact q _ _ H rfl (Ex.refl H) (Dp.int _)
    | none => cases hl
    | bool _ => cases hl
    | int _ => cases hl
    | str _ => cases hl
    | dict _ => cases hl) (by decide +kernel) hg (by decide) (by decide) he hpl
theorem pd_gcd {x : Str} {p : Pos} {i j : Int} (hm : X.mg x = some (.builtin "math.gcd")) (ha : PD X Δ a (dat X.K (.int i))) (hb : PD X Δ b (dat X.K (.int j))) (hg : Gl X x := by rfl) (hdb : (x == ("__debug__" : Str)) = false := by decide)
    (he1 : starEach [b] X.env = (false, eval b X.env) :: starEach [] X.env := by rfl) (he : starEach [a, b] X.env = (false, eval a X.env) :: starEach [b] X.env := by rfl) (hpl : (backTo pos (starEach [b] X.env)).any (·.1) = false := by rfl) :
    PD X Δ (.Call (.Name x p) [a, b] [] pos) (dat X.K (.int ((Nat.gcd i.natAbs j.natAbs : Nat) : Int))) := by
  obtain ⟨t, pa, fa⟩ := pl_cons ha (pl_cons hb pl_nil he1) he
  refine ⟨_, pe_callBfun cr_gcd hg hm pa hdb he hpl, fun S0 M0 H0 σ H S hA Q q => ?_⟩
  refine fa S0 M0 H0 σ H S hA _ fun ths vs H1 hB e1 r1 => ?_
  subst hB
  obtain ⟨v, w, rfl, r, r'⟩ := all2 r1
  have := dp_int r
  have := dp_int r'
  subst v; subst w
  exact ⟨i, j, rfl, q _ _ H1 rfl e1 (Dp.int _)⟩
/-! isinstance -/
def tyD : PyData → String
  | .none => "NoneType"
  | .bool _ => "bool"
  | .int _ => "int"
  | .str _ => "str"
  | .list _ => "list"
  | .tuple _ => "tuple"
  | .dict _ => "dict"
theorem frz_l {H : Hp} {a : Addr} {o : Obj} {xs : List V} {K : PySem.W.Frag} (h : H a = some (.frz o (.lst xs))) : TyX K H (.ref a) (.type "list") := .base (.frz h)
theorem sq_tyL {K : PySem.W.Frag} {H : Hp} {a : Addr} {xs : List V} (h : SqL K H a xs) : TyX K H (.ref a) (.type "list") := by
  rcases h with (h | ⟨o, h⟩) | h
  · exact .base (.lst h)
  · exact frz_l h
  · obtain ⟨o, its, n, e, c, _⟩ := h
    exact .kList e c
theorem sq_tyT {K : PySem.W.Frag} {H : Hp} {a : Addr} {xs : List V} (h : SqT K H a xs) : TyX K H (.ref a) (.type "tuple") := by
  rcases h with (h | ⟨o, h⟩) | h
  · exact .base (.tup h)
  · exact .fTuple h
  · obtain ⟨o, its, n, e, c, _⟩ := h
    exact .kTuple e c
theorem dp_ty {K : PySem.W.Frag} {H : Hp} {v : V} {d : PyData} (h : Dp K H v d) : TyX K H v (.type (tyD d)) := by
  cases h with
  | non => exact .base .non
  | bl b => exact .base (.bl b)
  | int i => exact .base (.int i)
  | str x => exact .base (.str x)
  | lst h _ => exact sq_tyL h
  | tup h _ => exact sq_tyT h
/-- a built-in class as a value -/
def tyT (n : String) : Th := ⟨fun _ v => v = .ty n, fun _ _ _ _ h => h⟩
theorem pd_tyN {x : Str} {n : String} (hm : X.mg x = none) (hv : bootBuiltins x = some (.type n) := by decide +kernel) (hg : Gl X x := by rfl) (hn : x ≠ "__name__" := by decide) (hd : (x == ("__debug__" : Str)) = false := by decide) : PD X Δ (.Name x pos) (tyT n) :=
  ⟨_, pe_bltn hg hm hv (show RelV (.ty n) _ from rfl) hn hd, fun _ _ _ _ H S _ Q q => q _ _ H rfl (Ex.refl H) rfl⟩
theorem pd_isi {p : Pos} {d : PyData} {n : String} {k : Bool} (hm : X.mg "isinstance" = none) (ha : PD X Δ a (dat X.K d)) (hb : PD X Δ b (tyT n)) (hk : kitB (tyD d) n = some k) (hg : Gl X "isinstance" := by rfl)
    (he1 : starEach [b] X.env = (false, eval b X.env) :: starEach [] X.env := by rfl) (he : starEach [a, b] X.env = (false, eval a X.env) :: starEach [b] X.env := by rfl) (hpl : (backTo pos (starEach [b] X.env)).any (·.1) = false := by rfl) :
    PD X Δ (.Call (.Name "isinstance" p) [a, b] [] pos) (dat X.K (.bool k)) :=
  px_blt call_isi hm (pl_cons ha (pl_cons hb pl_nil he1) he) (fun S H ts vs _ hB r Q q => by
    subst hB
    obtain ⟨v, w, rfl, r0, r2⟩ := all2 r
    have r' : w = .ty n := r2
    subst r'
    exact ⟨v, .ty n, _, _, k, rfl, .ty n, dp_ty (dp_up hide_le r0), kit_ty hk, q _ _ H rfl (Ex.refl H) (Dp.bl k)⟩) (by decide +kernel) hg (by decide) (by decide) he hpl
end
end DL
set_option Elab.async false
set_option linter.all false
set_option maxRecDepth 100000
/-! Statements, loops, defs. -/
namespace DL
open PySem PySem.Spec PyProof.Rows L2

/-- what is wanted behind a piece -/
structure Post where
  nx : List Sl → Prop
  rt : Th → Prop
  bk : List Sl → Prop := fun _ => False
  ct : List Sl → Prop := fun _ => False
  xc : Addr → List (Str × Th) → List Sl → Prop := fun _ _ _ => False
  /-- the def's own level: no list of a caller's may be changed -/
  top : Bool := false
/-- what an exception carries -/
def XF (H : Hp) (d : Option Addr) (fs : List (Str × Th)) : Prop := (fs = [] ∧ d = none) ∨ fs ≠ [] ∧ ∃ a kvs, d = some a ∧ H a = some (.xd kvs) ∧ ∀ f t, fs.lookup f = some t → ∃ v, kvs.lookup f = some v ∧ t.R H v
theorem XF.up {H H' : Hp} (e : Ex H H') {d : Option Addr} {fs : List (Str × Th)} (h : XF H d fs) : XF H' d fs := by
  rcases h with h | ⟨ne, a, kvs, e1, e2, h⟩
  · exact Or.inl h
  · exact Or.inr ⟨ne, a, kvs, e1, e a _ e2, fun f t hf => let ⟨v, q, r⟩ := h f t hf; ⟨v, q, t.up _ _ _ e r⟩⟩
/-- the exceptions that the piece may let out are wished -/
def XW (S0 M0 : List Addr) (H0 : Hp) (P : Post) (W : WX) : Prop := (∀ σ H C fs d Δ S, P.xc C fs Δ → At S0 M0 H0 Δ σ H S → XF (hide S H) d fs → (∀ a, d = some a → a ∉ S) → W (.ref C) d σ H) ∧ (P.top = true → M0 = [] ∧ Dom S0 H0)
def ends (S0 M0 : List Addr) (H0 : Hp) (P : Post) : Ends where
  nx := fun σ H => ∃ Δ S, P.nx Δ ∧ At S0 M0 H0 Δ σ H S
  rt := fun v H => ∃ t, P.rt t ∧ Ex (hide M0 H0) H ∧ t.R (hide S0 H) v
  bk := fun σ H => ∃ Δ S, P.bk Δ ∧ At S0 M0 H0 Δ σ H S
  ct := fun σ H => ∃ Δ S, P.ct Δ ∧ At S0 M0 H0 Δ σ H S
structure Le (D D' : Ends) : Prop where
  nx : ∀ σ H, D.nx σ H → D'.nx σ H
  rt : ∀ v H, D.rt v H → D'.rt v H
  bk : ∀ σ H, D.bk σ H → D'.bk σ H
  ct : ∀ σ H, D.ct σ H → D'.ct σ H
def SS (X : Cx) (W : WX) (st : Stmt) (P : Post) (Δ : List Sl) : Prop :=
  ∃ t : TS, PS X st t ∧ ∀ S0 M0 H0 σ H S, At S0 M0 H0 Δ σ H S → ∀ D, Le (ends S0 M0 H0 P) D → XW S0 M0 H0 P W → t D σ H
def SD (X : Cx) (W : WX) (sts : List Stmt) (P : Post) (Δ : List Sl) : Prop :=
  ∃ t : TS, PSs X sts t ∧ ∀ S0 M0 H0 σ H S, At S0 M0 H0 Δ σ H S → ∀ D, Le (ends S0 M0 H0 P) D → XW S0 M0 H0 P W → t D σ H
/-- the piece's own ends seen from the whole -/
theorem ends_lift {S0 M0 S M1 : List Addr} {H0 H : Hp} {Δ : List Sl} {σ : L2.St} {P : Post} {D : Ends} (A : At S0 M0 H0 Δ σ H S) (hM : ∀ a ∈ M1, a ∈ M0 ∨ H0 a = none) (le : Le (ends S0 M0 H0 P) D) : Le (ends S M1 H P) D := by
  refine ⟨fun σ1 H1 ⟨Δ1, S1, p, B⟩ => le.nx _ _ ⟨Δ1, S1, p, A.lift hM B⟩, fun v H1 ⟨t, p, e, r⟩ => le.rt _ _ ⟨t, p, fun a o h => ?_, t.up _ _ _ (hide_sub A.sub) r⟩, fun σ1 H1 ⟨Δ1, S1, p, B⟩ => le.bk _ _ ⟨Δ1, S1, p, A.lift hM B⟩, fun σ1 H1 ⟨Δ1, S1, p, B⟩ => le.ct _ _ ⟨Δ1, S1, p, A.lift hM B⟩⟩
  have n0 : a ∉ M0 := fun z => by rw [hide_in z] at h; cases h
  have h' : H0 a = some o := by rw [hide_out n0] at h; exact h
  have n1 : a ∉ M1 := fun z => by
    rcases hM a z with z | z
    · exact n0 z
    · rw [z] at h'; cases h'
  exact e a o (by rw [hide_out n1]; exact A.ex a o h)

theorem xw_lift {S0 M0 S M1 : List Addr} {H0 H : Hp} {Δ : List Sl} {σ : L2.St} {P P' : Post} {W : WX} (A : At S0 M0 H0 Δ σ H S) (hM : ∀ a ∈ M1, a ∈ M0 ∨ H0 a = none) (xw : XW S0 M0 H0 P W) (hx : ∀ C fs Δ, P'.xc C fs Δ → P.xc C fs Δ) (ht : P'.top = false) : XW S M1 H P' W :=
  ⟨fun σ1 H1 C fs d Δ1 S1 p B r nd => xw.1 σ1 H1 C fs d Δ1 S1 (hx _ _ _ p) (A.lift hM B) r nd, fun z => by rw [ht] at z; cases z⟩
theorem xw_is {S0 M0 : List Addr} {H0 : Hp} {P P' : Post} {W : WX} (xw : XW S0 M0 H0 P W) (hx : ∀ C fs Δ, P'.xc C fs Δ → P.xc C fs Δ) (ht : P'.top = true → P.top = true) : XW S0 M0 H0 P' W :=
  ⟨fun σ1 H1 C fs d Δ1 S1 p B r nd => xw.1 σ1 H1 C fs d Δ1 S1 (hx _ _ _ p) B r nd, fun z => xw.2 (ht z)⟩

section
variable {X : Cx} {Δ : List Sl} {e a b c : Expr} {es : List Expr} {A B C : Th → Prop} {pos : Pos} {P : Post} {rest body els : List Stmt} {st : Stmt} {W : WX}
theorem Le.of_nx {S0 M0 : List Addr} {H0 : Hp} {D : Ends} {N : L2.St → Hp → Prop} {Nx : List Sl → Prop} (le : Le (ends S0 M0 H0 P) D) (h : ∀ σ H Δ S, Nx Δ → At S0 M0 H0 Δ σ H S → N σ H) : Le (ends S0 M0 H0 { P with nx := Nx }) { D with nx := N } :=
  ⟨fun σ H ⟨Δ, S, p, hA⟩ => h σ H Δ S p hA, le.rt, le.bk, le.ct⟩
theorem sd_nil (h : P.nx Δ) : SD X W [] P Δ := ⟨_, pss_nil, fun S0 M0 H0 σ H S hA D le xw => le.nx _ _ ⟨Δ, S, h, hA⟩⟩
theorem sd_cons (h : SS X W st { P with nx := fun Δ' => SD X W rest P Δ' } Δ) : SD X W (st :: rest) P Δ := by
  obtain ⟨t, p, f⟩ := h
  have q : PSs X rest (fun D σ H => ∃ u, PSs X rest u ∧ u D σ H) := ⟨fun pins s σ H D I ⟨u, pu, hu⟩ => pu.run pins s σ H D I hu⟩
  refine ⟨_, pss_cons p q, fun S0 M0 H0 σ H S hA D le xw => ?_⟩
  refine f S0 M0 H0 σ H S hA _ (le.of_nx fun σ1 H1 Δ1 S1 ⟨u, pu, fu⟩ hA1 => ⟨u, pu, fu S0 M0 H0 σ1 H1 S1 hA1 D le xw⟩) xw
theorem SS.imp {P' : Post} (h : SS X W st P Δ) (n : ∀ Δ, P.nx Δ → P'.nx Δ) (r : ∀ t, P.rt t → P'.rt t) (bk : ∀ Δ, P.bk Δ → P'.bk Δ) (ct : ∀ Δ, P.ct Δ → P'.ct Δ) (xc : ∀ C fs Δ, P.xc C fs Δ → P'.xc C fs Δ) (tp : P.top = true → P'.top = true) : SS X W st P' Δ := by
  obtain ⟨t, p, f⟩ := h
  exact ⟨t, p, fun S0 M0 H0 σ H S hA D le xw => f S0 M0 H0 σ H S hA D ⟨fun σ H ⟨Δ, S, q, x⟩ => le.nx _ _ ⟨Δ, S, n _ q, x⟩, fun v H ⟨t, q, x⟩ => le.rt _ _ ⟨t, r _ q, x⟩, fun σ H ⟨Δ, S, q, x⟩ => le.bk _ _ ⟨Δ, S, bk _ q, x⟩, fun σ H ⟨Δ, S, q, x⟩ => le.ct _ _ ⟨Δ, S, ct _ q, x⟩⟩ (xw_is xw xc tp)⟩
theorem SD.imp {P' : Post} {sts : List Stmt} (h : SD X W sts P Δ) (n : ∀ Δ, P.nx Δ → P'.nx Δ) (r : ∀ t, P.rt t → P'.rt t) (bk : ∀ Δ, P.bk Δ → P'.bk Δ) (ct : ∀ Δ, P.ct Δ → P'.ct Δ) (xc : ∀ C fs Δ, P.xc C fs Δ → P'.xc C fs Δ) (tp : P.top = true → P'.top = true) : SD X W sts P' Δ := by
  obtain ⟨t, p, f⟩ := h
  exact ⟨t, p, fun S0 M0 H0 σ H S hA D le xw => f S0 M0 H0 σ H S hA D ⟨fun σ H ⟨Δ, S, q, x⟩ => le.nx _ _ ⟨Δ, S, n _ q, x⟩, fun v H ⟨t, q, x⟩ => le.rt _ _ ⟨t, r _ q, x⟩, fun σ H ⟨Δ, S, q, x⟩ => le.bk _ _ ⟨Δ, S, bk _ q, x⟩, fun σ H ⟨Δ, S, q, x⟩ => le.ct _ _ ⟨Δ, S, ct _ q, x⟩⟩ (xw_is xw xc tp)⟩
/-- x = e -/
theorem ss_asg (i : Nat) {x : Str} {p : Pos} (he : PX X Δ e A) (k : ∀ t, A t → P.nx (Δ.set i (.th t))) (hN : X.N.Nodup) (hi : X.N[i]? = some x := by rfl) (hx : Loc X.env.scope x := by first | exact Or.inl rfl | exact Or.inr rfl)
    (hs : swapsWith e (some (.Name x p)) pos.line X.env = pure false := by rfl) (hw : swappedStores [.Name x p] e X.env = pure none := by rfl)
    (hf : X.fn x = true ∨ X.env.scope.names.lookup x = some .local := by first | exact .inl rfl | exact .inr rfl) : SS X W (.Assign [.Name x p] e pos) P Δ := by
  obtain ⟨t, pe, f⟩ := he
  exact ⟨_, ps_asg pe (pg_name hN hi hx hf) hs hw, fun S0 M0 H0 σ H S hA D le xw => f S0 M0 H0 σ H S hA _ fun th v H2 ha e2 r => le.nx _ _ ⟨_, S, k th ha, (hA.up e2).set r⟩⟩
theorem sd_asg (i : Nat) {x : Str} {p : Pos} {t : Th} (he : PD X Δ e t) (k : SD X W rest P (Δ.set i (.th t))) (hN : X.N.Nodup) (hi : X.N[i]? = some x := by rfl) (hx : Loc X.env.scope x := by first | exact Or.inl rfl | exact Or.inr rfl)
    (hs : swapsWith e (some (.Name x p)) pos.line X.env = pure false := by rfl) (hw : swappedStores [.Name x p] e X.env = pure none := by rfl)
    (hf : X.fn x = true ∨ X.env.scope.names.lookup x = some .local := by first | exact .inl rfl | exact .inr rfl) : SD X W (.Assign [.Name x p] e pos :: rest) P Δ :=
  sd_cons (ss_asg i he (fun _ h => by subst h; exact k) hN hi hx hs hw hf)
theorem sd_asgX (i : Nat) {x : Str} {p : Pos} (he : PX X Δ e A) (k : ∀ t, A t → SD X W rest P (Δ.set i (.th t))) (hN : X.N.Nodup) (hi : X.N[i]? = some x := by rfl) (hx : Loc X.env.scope x := by first | exact Or.inl rfl | exact Or.inr rfl)
    (hs : swapsWith e (some (.Name x p)) pos.line X.env = pure false := by rfl) (hw : swappedStores [.Name x p] e X.env = pure none := by rfl)
    (hf : X.fn x = true ∨ X.env.scope.names.lookup x = some .local := by first | exact .inl rfl | exact .inr rfl) : SD X W (.Assign [.Name x p] e pos :: rest) P Δ :=
  sd_cons (ss_asg i he k hN hi hx hs hw hf)
/-- return e -/
theorem ss_ret (he : PX X Δ e A) (k : ∀ t, A t → P.rt t) : SS X W (.Return (some e) pos) P Δ := by
  obtain ⟨t, pe, f⟩ := he
  exact ⟨_, ps_ret pe, fun S0 M0 H0 σ H S hA D le xw => f S0 M0 H0 σ H S hA _ fun th v H2 ha e2 r => le.rt _ _ ⟨th, k th ha, (hA.up e2).ex, th.up _ _ _ (hide_sub hA.sub) r⟩⟩
theorem sd_retX (he : PX X Δ e A) (k : ∀ t, A t → P.rt t) : SD X W (.Return (some e) pos :: rest) P Δ := sd_cons (ss_ret he k)
theorem sd_ret {t : Th} (he : PD X Δ e t) (k : P.rt t) : SD X W (.Return (some e) pos :: rest) P Δ := sd_cons (ss_ret he fun _ h => by subst h; exact k)
theorem never_s {sts : List Stmt} : ∃ u, PSs X sts u := ⟨tNever, pss_never⟩
theorem ss_if {k : Bool} (hc : PB X Δ c k) (h1 : k = true → SD X W body P Δ) (h2 : k = false → SD X W els P Δ) : SS X W (.If c body els pos) P Δ := by
  obtain ⟨t, p, f⟩ := hc
  cases k with
  | true =>
    obtain ⟨u, pu, fu⟩ := h1 rfl
    obtain ⟨w, pw⟩ := never_s (X := X) (sts := els)
    exact ⟨_, ps_if p pu pw, fun S0 M0 H0 σ H S hA D le xw => f S0 M0 H0 σ H S hA _ fun H1 e1 => fu S0 M0 H0 σ H1 S (hA.up e1) D le xw⟩
  | false =>
    obtain ⟨u, pu, fu⟩ := h2 rfl
    obtain ⟨w, pw⟩ := never_s (X := X) (sts := body)
    exact ⟨_, ps_if p pw pu, fun S0 M0 H0 σ H S hA D le xw => f S0 M0 H0 σ H S hA _ fun H1 e1 => fu S0 M0 H0 σ H1 S (hA.up e1) D le xw⟩
theorem sd_if {k : Bool} (hc : PB X Δ c k) (h1 : k = true → SD X W body { P with nx := fun Δ' => SD X W rest P Δ' } Δ) (h2 : k = false → SD X W els { P with nx := fun Δ' => SD X W rest P Δ' } Δ) : SD X W (.If c body els pos :: rest) P Δ := sd_cons (ss_if hc h1 h2)
theorem sd_ifT (hc : PB X Δ c true) (h1 : SD X W body { P with nx := fun Δ' => SD X W rest P Δ' } Δ) : SD X W (.If c body els pos :: rest) P Δ := sd_if hc (fun _ => h1) (fun z => nomatch z)
theorem sd_ifF (hc : PB X Δ c false) (h2 : SD X W els { P with nx := fun Δ' => SD X W rest P Δ' } Δ) : SD X W (.If c body els pos :: rest) P Δ := sd_if hc (fun z => nomatch z) (fun _ => h2)
/-- if c: .. without else, c False -/
theorem sd_skip (hc : PB X Δ c false) (h2 : SD X W rest P Δ) : SD X W (.If c body [] pos :: rest) P Δ := sd_ifF hc (sd_nil h2)
/-- if c: (leaves) ; rest -/
theorem sd_when {k : Bool} (hc : PB X Δ c k) (h1 : k = true → SD X W body { P with nx := fun Δ' => SD X W rest P Δ' } Δ) (h2 : k = false → SD X W rest P Δ) : SD X W (.If c body [] pos :: rest) P Δ := sd_if hc h1 fun z => sd_nil (h2 z)
/-- a, b = e, e a tuple (or a list) of two -/
theorem sd_tup2 (i j : Nat) {x y : Str} {px py pt : Pos} {kk : Nat} {d d' : PyData} (he : PD X Δ e (dat X.K (.tuple [d, d']))) (k : SD X W rest P ((Δ.set i (.th (dat X.K d))).set j (.th (dat X.K d')))) (hN : X.N.Nodup)
    (hc : X.calm = true := by rfl) (hi : X.N[i]? = some x := by rfl) (hj : X.N[j]? = some y := by rfl) (hx : Loc X.env.scope x := by first | exact Or.inl rfl | exact Or.inr rfl) (hy : Loc X.env.scope y := by first | exact Or.inl rfl | exact Or.inr rfl)
    (hn : (assignEach [.Name x px, .Name y py] X.env).length = 2 := by rfl) (hst : (assignEach [.Name x px, .Name y py] X.env).findIdx? (·.1) = none := by rfl)
    (hs : swapsWithSole [.Tuple [.Name x px, .Name y py] kk pt] e pos.line X.env = pure false := by rfl) (hw : swappedStores [.Tuple [.Name x px, .Name y py] kk pt] e X.env = pure none := by rfl)
    (hf : X.fn x = true ∨ X.env.scope.names.lookup x = some .local := by first | exact .inl rfl | exact .inr rfl) (hf' : X.fn y = true ∨ X.env.scope.names.lookup y = some .local := by first | exact .inl rfl | exact .inr rfl) :
    SD X W (.Assign [.Tuple [.Name x px, .Name y py] kk pt] e pos :: rest) P Δ := by
  refine sd_cons ?_
  obtain ⟨t, pe, f⟩ := he
  refine ⟨_, ps_asg pe (pg_tup hc (pgs_cons (pg_name hN hi hx hf) (pgs_cons (pg_name hN hj hy hf') pgs_nil)) hn hst) hs hw, fun S0 M0 H0 σ H S hA D le xw => f S0 M0 H0 σ H S hA _ fun th v H2 ha e2 r => ?_⟩
  subst ha
  obtain ⟨p, xs, rfl, hq, hd⟩ := dp_tup r
  have hA2 := hA.up e2
  cases hd with
  | cons r1 hd =>
    cases hd with
    | cons r2 hd =>
      cases hd
      refine ⟨p, _, rfl, ex_t hide_le hq, rfl, _, _, rfl, _, _, rfl, rfl, ?_⟩
      exact le.nx _ _ ⟨_, S, k, (hA2.set (t := dat X.K d) r1).set (t := dat X.K d') r2⟩
end

/-! ### a def -/
def startΔ (N : List Str) (ts : List Th) : List Sl := ts.map Sl.th ++ List.replicate (N.length - ts.length) .no
theorem sls_start {S : List Addr} {H : Hp} {n : Nat} : ∀ {ts : List Th} {vs : List V}, All (hide S H) ts vs → SlsR S H (ts.map Sl.th ++ List.replicate n .no) (vs.map some ++ List.replicate n none)
  | [], [], _ => by
    show SlsR S H (List.replicate n .no) (List.replicate n none)
    induction n with
    | zero => trivial
    | succ n ih => exact ⟨trivial, ih⟩
  | t :: ts, v :: vs, h => ⟨⟨v, rfl, h.1⟩, sls_start h.2⟩
  | [], _ :: _, h => h.elim
  | _ :: _, [], h => h.elim
theorem start_ml {ts : List Th} {n i : Nat} {ws : List Th} (h : (ts.map Sl.th ++ List.replicate n .no)[i]? = some (.ml ws)) : False := by
  rw [List.getElem?_append] at h
  split at h
  · rw [List.getElem?_map] at h
    cases q : ts[i]? with
    | none => rw [q] at h; cases h
    | some t => rw [q] at h; cases h
  · rw [List.getElem?_replicate] at h
    split at h <;> cases h
/-- what a def hands back -/
def retOf (K : PySem.W.Frag) (A : Th → Prop) : Post := { nx := fun _ => A (dat K .none), rt := A, top := true }
section
variable {P : Program} {w : World} {K : PySem.W.Frag} {mg : Str → Option Value} {base : Heap}
theorem ends_ret {S : List Addr} {H : Hp} {A : Th → Prop} {Q : VK} (k : ∀ t v H', A t → Ex H H' → t.R (hide S H') v → Q v H') : Le (ends S [] H (retOf K A)) { nx := fun _ H' => Q .non H', rt := Q } := by
  have ex0 : ∀ H', Ex (hide [] H) H' → Ex H H' := fun H' e a o h => e a o (by rw [hide_out (by simp)]; exact h)
  exact ⟨fun σ H' ⟨Δ, S', p, hA⟩ => k _ _ _ p (ex0 _ hA.ex) Dp.non, fun v H' ⟨t, p, e, r⟩ => k t v H' p (ex0 _ e) r, fun _ _ ⟨_, _, p, _⟩ => p.elim, fun _ _ ⟨_, _, p, _⟩ => p.elim⟩
theorem at_start {S : List Addr} {H : Hp} {N : List Str} {ts : List Th} {vs : List V} (dom : Dom S H) (r : All (hide S H) ts vs) : At S [] H (startΔ N ts) (start N vs) H S := by
  refine ⟨fun _ h => h, (fun _ h => by cases h), fun _ h => Or.inl h, hide_le, dom, ?_, fun i j ts us a h1 => (start_ml h1).elim, fun i ts a h1 => (start_ml h1).elim⟩
  unfold startΔ L2.start
  rw [r.len]
  exact sls_start r
/-- THE RULE for a def -/
theorem fn_mk {x qual : Str} {st : Stmt} {f : Addr} {fd : FuncData} {N ps : List Str} {k : Nat} {R : Cn} (F : Fun K x qual st f fd) (Sc : FnScope N ps (defScope st)) (hl : ∀ ts A, R ts A → ts.length = ps.length)
    (body : ∀ (cdv : Value) (A : Around) (outer : List Env) (s : Shared) (H : Hp) (E : XK), Room k (A.deeper (envOfC qual (defScope st) s.heap.objs.size f cdv)) → ∀ ts B, R ts B →
      SD (cxOf CX0 P w K mg base N qual (defScope st) f cdv A outer s H E).nox (fun _ _ _ _ => False) (defBody st) (retOf K B) (startΔ N ts)) : FnOk P w K mg base CX0 (k + 1) f fd ps (spT R) := by
  refine F.ok Sc (fun vs H Q E ⟨S, ths, A, _, r, hR, _⟩ => by rw [← r.len]; exact hl _ _ hR) fun cdv A outer s H vs Q E hr ⟨S, ths, B, dom, r, hR, k⟩ => ?_
  obtain ⟨t, p, f⟩ := body cdv A outer s H E hr ths B hR
  exact ⟨t, p, f S [] H _ H S (at_start dom r) _ (ends_ret k) ⟨fun _ _ _ _ _ _ _ p => p.elim, fun _ => ⟨rfl, dom⟩⟩⟩
theorem gd_mk {x : Str} {k : Nat} {R : Cn} {f : Addr} {fd : FuncData} {ps : List Str} (hm : mg x = some (.ref f)) (hk : PySem.W.keepIn K (.ref f) = true) (hb : Binds K fd ps []) (F : FnOk P w K mg base CX0 k f fd ps (spT R)) : Gd P w K mg base x k [] R :=
  ⟨f, fd, ps, [], [], hm, hk, hb, .nil, fun _ => trivial, F⟩
end
end DL
set_option Elab.async false
set_option linter.all false
set_option maxRecDepth 100000
/-! Loops; lists that are filled; a comprehension; globals. -/
namespace DL
open PySem PySem.Spec PyProof.Rows L2
section
variable {X : Cx} {Δ : List Sl} {e a b c : Expr} {es : List Expr} {A B C : Th → Prop} {pos : Pos} {P : Post} {rest body els : List Stmt} {st : Stmt} {W : WX}
theorem sd_while (I : Nat → List Sl → Prop) (h0 : ∃ m, I m Δ)
    (step : ∀ m Δ', I m Δ' → ∃ k, PB X Δ' c k ∧ (k = true → SD X W body { P with nx := fun Δ2 => ∃ m', m' < m ∧ I m' Δ2, ct := fun Δ2 => ∃ m', m' < m ∧ I m' Δ2, bk := fun Δ2 => SD X W rest P Δ2 } Δ') ∧ (k = false → SD X W rest P Δ'))
    (hp : PassesOwn (model X.prog X.w) X.A X.env X.xe := by exact PassesOwn.never) : SD X W (.While c body [] pos :: rest) P Δ := by
  refine sd_cons ?_
  -- the test's and the body's readings, whatever the state
  have qc : PT X c (fun σ H Q => ∃ t, PT X c t ∧ t σ H Q) := ⟨fun pins s σ H Q J ⟨t, p, h⟩ => p.run pins s σ H Q J h⟩
  have qb : PSs X body (fun D σ H => ∃ t, PSs X body t ∧ t D σ H) := ⟨fun pins s σ H D J ⟨t, p, h⟩ => p.run pins s σ H D J h⟩
  refine ⟨_, ps_while hp qc qb, fun S0 M0 H0 σ H S hA D le xw => ?_⟩
  refine ⟨fun m σ' H' => ∃ Δ' S', I m Δ' ∧ At S0 M0 H0 Δ' σ' H' S', ?_, fun m σ' H' ⟨Δ', S', i', hA'⟩ => ?_⟩
  · obtain ⟨m, i0⟩ := h0
    exact ⟨m, Δ, S, i0, hA⟩
  · obtain ⟨k, ⟨t, p, f⟩, h1, h2⟩ := step m Δ' i'
    refine ⟨t, p, f S0 M0 H0 σ' H' S' hA' _ fun H1 e1 => ?_⟩
    cases k with
    | true =>
      obtain ⟨u, pu, fu⟩ := h1 rfl
      refine ⟨fun σ2 H2 => ∃ Δ2 S2, (∃ m', m' < m ∧ I m' Δ2) ∧ At S0 M0 H0 Δ2 σ2 H2 S2, fun σ2 H2 ⟨Δ2, S2, ⟨m', l, i2⟩, hA2⟩ => ⟨m', l, Δ2, S2, i2, hA2⟩, u, pu, ?_⟩
      exact fu S0 M0 H0 σ' H1 S' (hA'.up e1) _ ⟨fun _ _ z => z, le.rt, le.nx, fun _ _ z => z⟩ (xw_is xw (fun _ _ _ z => z) fun z => z)
    | false => exact le.nx _ _ ⟨Δ', S', h2 rfl, hA'.up e1⟩
/-- for x in range(n) -/
theorem sd_forR {x : Str} {px p pos2 : Pos} (j : Nat) {n : Int} (I : Nat → List Sl → Prop) (hm : X.mg "range" = none) (he : PD X Δ e (dat X.K (.int n))) (hn : n < 2 ^ 62) (hn0 : -(2 ^ 62) ≤ n) (h0 : I 0 Δ)
    (step : ∀ (i : Nat) Δ', (i : Int) < n → I i Δ' → SD X W body { P with nx := I (i + 1), ct := I (i + 1), bk := fun Δ2 => SD X W rest P Δ2 } (Δ'.set j (.th (dat X.K (.int (i : Int))))))
    (hd : ∀ Δ', I n.toNat Δ' → SD X W rest P Δ') (hN : X.N.Nodup) (hc : X.calm = true := by rfl) (hg : Gl X "range" := by rfl) (hi : X.N[j]? = some x := by rfl) (hx : Loc X.env.scope x := by first | exact Or.inl rfl | exact Or.inr rfl)
    (hf : X.fn x = true ∨ X.env.scope.names.lookup x = some .local := by first | exact .inl rfl | exact .inr rfl)
    (hse : starEach [e] X.env = (false, eval e X.env) :: starEach [] X.env := by rfl) (hs1 : starEach [e] X.env = [(false, eval e X.env)] := by rfl)
    (hp : PassesOwn (model X.prog X.w) X.A X.env X.xe := by exact PassesOwn.never) : SD X W (.For (.Name x px) (.Call (.Name "range" p) [e] [] pos2) body [] pos :: rest) P Δ := by
  refine sd_cons ?_
  obtain ⟨t, pa, fa⟩ := pl_cons he pl_nil hse
  have qb : PSs X body (fun D σ H => ∃ t, PSs X body t ∧ t D σ H) := ⟨fun pins s σ H D J ⟨t, p, h⟩ => p.run pins s σ H D J h⟩
  refine ⟨_, ps_for hp hc (pi_range1 hg hm pa hs1) (pg_name hN hi hx hf) qb, fun S0 M0 H0 σ H S hA D le xw => ?_⟩
  refine fa S0 M0 H0 σ H S hA _ fun ths vs H1 ht e1 r => ?_
  subst ht
  obtain ⟨v, rfl, r0⟩ := all1 r
  have := dp_int r0
  subst this
  refine ⟨n, rfl, hn0, hn, for_range (lo := 0) (n := n.toNat) (g := gName j) (tb := fun D σ H => ∃ t, PSs X body t ∧ t D σ H) (fun i σ' H' => ∃ Δ' S', I i Δ' ∧ At S0 M0 H0 Δ' σ' H' S') ⟨Δ, S, h0, hA.up e1⟩ (fun i σ' H' hi' ⟨Δ', S', i', hA'⟩ => ?_) (fun σ' H' ⟨Δ', S', i', hA'⟩ => le.nx _ _ ⟨Δ', S', hd Δ' i', hA'⟩)⟩
  obtain ⟨u, pu, fu⟩ := step i Δ' (by omega) i'
  have e0 : (0 : Int) + (i : Int) = (i : Int) := Int.zero_add _
  refine ⟨u, pu, ?_⟩
  rw [e0]
  exact fu S0 M0 H0 _ H' S' (hA'.set (t := dat X.K (.int (i : Int))) (Dp.int _)) _ ⟨fun _ _ z => z, le.rt, le.nx, fun _ _ z => z⟩ (xw_is xw (fun _ _ _ z => z) fun z => z)
theorem hide_new {S M S1 : List Addr} {H H1 : Hp} (hMS : ∀ a ∈ M, a ∈ S) (ex : Ex (hide M H) H1) (new : ∀ a ∈ S1, a ∈ S ∨ H a = none) : Ex (hide S H) (hide S1 H1) := fun a o h => by
  have n0 : a ∉ S := fun z => by rw [hide_in z] at h; cases h
  have h' : H a = some o := by rw [hide_out n0] at h; exact h
  have n1 : a ∉ S1 := fun z => by
    rcases new a z with z | z
    · exact n0 z
    · rw [z] at h'; cases h'
  rw [hide_out n1]
  exact ex a o (by rw [hide_out fun z => n0 (hMS a z)]; exact h')
theorem At.hid {S0 M0 S : List Addr} {H0 H : Hp} {Δ : List Sl} {σ : L2.St} (A : At S0 M0 H0 Δ σ H S) : Ex (hide S0 H0) (hide S H) := hide_new A.msub A.ex A.new
/-- for x in e, e data: a list or a tuple -/
theorem sd_forD {x : Str} {px : Pos} (j : Nat) {d : PyData} {ds : List PyData} (I : Nat → List Sl → Prop) (he : PD X Δ e (dat X.K d)) (hd0 : d = .tuple ds ∨ d = .list ds) (h0 : I 0 Δ)
    (step : ∀ (i : Nat) z Δ', ds[i]? = some z → I i Δ' → SD X W body { P with nx := I (i + 1), ct := I (i + 1), bk := fun Δ2 => SD X W rest P Δ2, top := false } (Δ'.set j (.th (dat X.K z))))
    (hd : ∀ Δ', I ds.length Δ' → SD X W rest P Δ') (hN : X.N.Nodup) (hc : X.calm = true := by rfl) (hi : X.N[j]? = some x := by rfl) (hx : Loc X.env.scope x := by first | exact Or.inl rfl | exact Or.inr rfl)
    (hf : X.fn x = true ∨ X.env.scope.names.lookup x = some .local := by first | exact .inl rfl | exact .inr rfl)
    (hp : PassesOwn (model X.prog X.w) X.A X.env X.xe := by exact PassesOwn.never) (hfs : ∀ x, foldedSetIterable e X.env x = pure x := by intro _; rfl) : SD X W (.For (.Name x px) e body [] pos :: rest) P Δ := by
  refine sd_cons ?_
  obtain ⟨t, pe, f⟩ := he
  have qb : PSs X body (fun D σ H => ∃ t, PSs X body t ∧ t D σ H) := ⟨fun pins s σ H D J ⟨t, p, h⟩ => p.run pins s σ H D J h⟩
  -- one turn, from a state of the loop
  have turn : ∀ {S0 M0 S : List Addr} {H0 H H' : Hp} {σ σ' : L2.St} {D : Ends} {xs : List V} {i : Nat} {v : V} {Δ' : List Sl} {S' : List Addr}, At S0 M0 H0 Δ σ H S → Le (ends S0 M0 H0 { P with nx := fun Δ' => SD X W rest P Δ' }) D → XW S0 M0 H0 P W → DpAll X.K (hide S H) xs ds → xs[i]? = some v →
      I i Δ' → At S (mls Δ σ) H Δ' σ' H' S' → (fun D σ H => ∃ t, PSs X body t ∧ t D σ H) { D with nx := fun σ2 H2 => ∃ Δ2 S2, I (i + 1) Δ2 ∧ At S (mls Δ σ) H Δ2 σ2 H2 S2, ct := fun σ2 H2 => ∃ Δ2 S2, I (i + 1) Δ2 ∧ At S (mls Δ σ) H Δ2 σ2 H2 S2, bk := D.nx } (σ'.set j (some v)) H' := by
    intro S0 M0 S H0 H H' σ σ' D xs i v Δ' S' hA le xw hx' hv i' hA'
    obtain ⟨z, hz, r⟩ : ∃ z, ds[i]? = some z ∧ Dp X.K (hide S H) v z := by
      have hl := dpa_len hx'
      have li : i < ds.length := by rw [← hl]; exact (List.getElem?_eq_some_iff.mp hv).1
      obtain ⟨v', e1, r1⟩ := dpa_get hx' (List.getElem?_eq_getElem li)
      rw [hv] at e1
      have e2 := Option.some.inj e1
      exact ⟨ds[i], List.getElem?_eq_getElem li, by rw [e2]; exact r1⟩
    obtain ⟨u, pu, fu⟩ := step i z Δ' hz i'
    have le' := ends_lift hA hA.mown le
    exact ⟨u, pu, fu S (mls Δ σ) H _ H' S' (hA'.set (t := dat X.K z) (dp_up hA'.hid r)) _ ⟨fun _ _ q => q, le'.rt, le'.nx, fun _ _ q => q⟩ (xw_lift hA hA.mown xw (fun _ _ _ z => z) rfl)⟩
  have fin : ∀ {S0 M0 S : List Addr} {H0 H H' : Hp} {σ σ' : L2.St} {D : Ends}, At S0 M0 H0 Δ σ H S → Le (ends S0 M0 H0 { P with nx := fun Δ' => SD X W rest P Δ' }) D → (∃ Δ' S', I ds.length Δ' ∧ At S (mls Δ σ) H Δ' σ' H' S') → D.nx σ' H' :=
    fun hA le ⟨Δ', S', i', hA'⟩ => le.nx _ _ ⟨Δ', S', hd Δ' i', hA.lift hA.mown hA'⟩
  rcases hd0 with rfl | rfl
  · refine ⟨_, ps_for hp hc (pi_tup pe) (pg_name hN hi hx hf) qb hfs, fun S0 M0 H0 σ H S hA D le xw => ?_⟩
    refine f S0 M0 H0 σ H S hA _ fun th v H1 ht e1 r => ?_
    subst ht
    obtain ⟨p, xs, rfl, hq, hxs⟩ := dp_tup r
    have hA1 := hA.up e1
    refine ⟨p, rfl, ⟨xs, ex_t hide_le hq⟩, for_tup (K := X.K) (a := p) (xs := xs) (g := gName j) (tb := fun D σ H => ∃ t, PSs X body t ∧ t D σ H) (fun i σ' H' => ∃ Δ' S', I i Δ' ∧ At S (mls Δ σ) H1 Δ' σ' H' S') ⟨Δ, S, h0, hA1.here⟩ (fun i σ' H' _ ⟨Δ', S', _, hA'⟩ => ex_t hide_le (ex_t hA'.hid hq)) (fun i v σ' H' hv ⟨Δ', S', i', hA'⟩ => turn hA1 le xw hxs hv i' hA') (fun σ' H' w => fin hA1 le (by rw [← dpa_len hxs]; exact w))⟩
  · refine ⟨_, ps_for hp hc (pi_list pe) (pg_name hN hi hx hf) qb hfs, fun S0 M0 H0 σ H S hA D le xw => ?_⟩
    refine f S0 M0 H0 σ H S hA _ fun th v H1 ht e1 r => ?_
    subst ht
    obtain ⟨p, xs, rfl, hq, hxs⟩ := dp_lst r
    have hA1 := hA.up e1
    refine ⟨p, rfl, ⟨xs, ex_l hide_le hq⟩, for_list (K := X.K) (a := p) (xs := xs) (g := gName j) (tb := fun D σ H => ∃ t, PSs X body t ∧ t D σ H) (fun i σ' H' => ∃ Δ' S', I i Δ' ∧ At S (mls Δ σ) H1 Δ' σ' H' S') ⟨Δ, S, h0, hA1.here⟩ (fun i σ' H' _ ⟨Δ', S', _, hA'⟩ => ex_l hide_le (ex_l hA'.hid hq)) (fun i v σ' H' hv ⟨Δ', S', i', hA'⟩ => turn hA1 le xw hxs hv i' hA') (fun σ' H' w => fin hA1 le (by rw [← dpa_len hxs]; exact w))⟩
/-! globals -/
/-- the module's name x holds the data d -/
def GlD (K : PySem.W.Frag) (mg : Str → Option Value) (x : Str) (d : PyData) : Prop := ∃ v u, mg x = some u ∧ RelV v u ∧ ∀ H, Dp K H v d
theorem px_gl {x : Str} {d : PyData} (h : GlD X.K X.mg x d) (hg : Gl X x := by rfl) (hd : (x == ("__debug__" : Str)) = false := by decide) : PD X Δ (.Name x pos) (dat X.K d) := by
  obtain ⟨v, u, hm, r, hx⟩ := h
  exact ⟨_, pe_glob hg hm r hd, fun _ _ _ _ H S _ Q q => q _ _ H rfl (Ex.refl H) (hx _)⟩
/-! a list that this def fills -/
/-- x = [] -/
theorem sd_new (i : Nat) {x : Str} {p p2 : Pos} (k : SD X W rest P (Δ.set i (.ml []))) (hN : X.N.Nodup) (hs0 : (Δ[i]?.map Sl.isMl) = some false := by rfl) (hi : X.N[i]? = some x := by rfl) (hx : Loc X.env.scope x := by first | exact Or.inl rfl | exact Or.inr rfl)
    (hs : swapsWith (.List [] p2) (some (.Name x p)) pos.line X.env = pure false := by rfl) (hw : swappedStores [.Name x p] (.List [] p2) X.env = pure none := by rfl)
    (hf : X.fn x = true ∨ X.env.scope.names.lookup x = some .local := by first | exact .inl rfl | exact .inr rfl) : SD X W (.Assign [.Name x p] (.List [] p2) pos :: rest) P Δ := by
  refine sd_cons ⟨_, ps_asg (pe_lst pa_nil) (pg_name hN hi hx hf) hs hw, fun S0 M0 H0 σ H S hA D le xw => ?_⟩
  refine ⟨Nat.zero_le _, fun l hl => le.nx _ _ ⟨_, l :: S, k, ?_⟩⟩
  have nS : l ∉ S := hA.dom.new hl
  have ex1 : Ex H (upd H l (.lst [])) := Ex.new hl
  have nl : l ∉ M0 → H0 l = none := ex_none hA.ex hl
  have own0 : l ∈ M0 ∨ H0 l = none := by
    by_cases q : l ∈ M0
    · exact Or.inl q
    · exact Or.inr (nl q)
  have hid : Ex (hide S H) (hide (l :: S) (upd H l (.lst []))) := fun a o h => by
    by_cases q : a ∈ S
    · rw [hide_in q] at h; cases h
    · rw [hide_out q] at h
      have ne : a ≠ l := ne_of_none h hl
      rw [hide_out (by simp [ne, q]), upd_ne ne]
      exact h
  have env1 : SlsR (l :: S) (upd H l (.lst [])) Δ σ := by
    have step : ∀ {Δ : List Sl} {σ : L2.St}, SlsR S H Δ σ → SlsR (l :: S) (upd H l (.lst [])) Δ σ := fun {Δ σ} h => by
      induction Δ generalizing σ with
      | nil =>
        cases σ with
        | nil => trivial
        | cons _ _ => exact h.elim
      | cons s ss ih =>
        cases σ with
        | nil => exact h.elim
        | cons o os =>
          refine ⟨?_, ih h.2⟩
          have h1 := h.1
          cases s with
          | no => trivial
          | th t => obtain ⟨v, e1, r⟩ := h1; exact ⟨v, e1, t.up _ _ _ hid r⟩
          | ml ts => obtain ⟨a, xs, e1, m, q, r⟩ := h1; exact ⟨a, xs, e1, List.mem_cons_of_mem _ m, ex1 a _ q, r.up hid⟩
    exact step hA.env
  have other : ∀ {m : Nat} {ts : List Th} {a : Addr}, Δ[m]? = some (.ml ts) → σ[m]? = some (some (V.ref a)) → a ≠ l := fun {m ts a} h1 h2 z => by
    obtain ⟨o, e1, a', xs, e2, mm, q, _⟩ := hA.env.get h1
    rw [h2] at e1
    have e3 := Option.some.inj e1
    rw [← e3] at e2
    have e4 : a = a' := V.ref.inj (Option.some.inj e2)
    exact nS (by rw [← z, e4]; exact mm)
  have at_ : ∀ {m : Nat} {ts : List Th}, (Δ.set i (.ml []))[m]? = some (.ml ts) → m = i ∨ (m ≠ i ∧ Δ[m]? = some (.ml ts)) := fun {m ts} h => by
    by_cases q : m = i
    · exact Or.inl q
    · rw [List.getElem?_set_ne (Ne.symm q)] at h
      exact Or.inr ⟨q, h⟩
  have si : ∀ {a : Addr}, (σ.set i (some (V.ref l)))[i]? = some (some (V.ref a)) → a = l := fun {a} h => by
    rw [List.getElem?_set_self'] at h
    cases z : σ[i]? with
    | none => rw [z] at h; simp at h
    | some w =>
      rw [z] at h
      have h' : V.ref l = V.ref a := by simpa using h
      exact (V.ref.inj h').symm
  refine ⟨fun a h => List.mem_cons_of_mem _ (hA.sub a h), hA.msub, fun a h => ?_, hA.ex.trans ex1, fun a h => ?_, SlsR.set (s := .ml []) ⟨l, [], rfl, List.mem_cons_self, upd_same, trivial⟩ env1, fun m j ts us a h1 h2 h3 h4 => ?_, fun m ts a h1 h3 => ?_⟩
  · rcases List.mem_cons.mp h with z | z
    · subst z
      rcases own0 with z | z
      · exact Or.inl (hA.msub _ z)
      · exact Or.inr z
    · exact hA.new a z
  · rcases List.mem_cons.mp h with z | z
    · subst z
      rw [upd_same]
      exact fun z => nomatch z
    · exact (hA.dom.up ex1) a z
  · rcases at_ h1 with z1 | ⟨z1, g1⟩ <;> rcases at_ h2 with z2 | ⟨z2, g2⟩
    · rw [z1, z2]
    · subst z1
      have e1 := si h3
      rw [List.getElem?_set_ne (Ne.symm z2)] at h4
      exact absurd e1 (other g2 h4)
    · subst z2
      have e1 := si h4
      rw [List.getElem?_set_ne (Ne.symm z1)] at h3
      exact absurd e1 (other g1 h3)
    · rw [List.getElem?_set_ne (Ne.symm z1)] at h3
      rw [List.getElem?_set_ne (Ne.symm z2)] at h4
      exact hA.apart m j ts us a g1 g2 h3 h4
  · rcases at_ h1 with z1 | ⟨z1, g1⟩
    · subst z1
      rw [si h3]
      exact own0
    · rw [List.getElem?_set_ne (Ne.symm z1)] at h3
      exact hA.own m ts a g1 h3
end
end DL
set_option Elab.async false
set_option linter.all false
set_option maxRecDepth 100000
/-! Comprehensions, tuple(..), list(..), all(..), append. -/
namespace DL
open PySem PySem.Spec PyProof.Rows L2
def wipeΔ (Δ : List Sl) : List Nat → List Sl
  | [] => Δ
  | v :: vs => (wipeΔ Δ vs).set v .no
theorem At.wipe {S0 M0 S : List Addr} {H0 H : Hp} {Δ : List Sl} {σ : L2.St} (A : At S0 M0 H0 Δ σ H S) : ∀ vs : List Nat, At S0 M0 H0 (wipeΔ Δ vs) (L2.wipe σ vs) H S
  | [] => A
  | v :: vs => (At.wipe A vs).setS (s := .no) rfl trivial
theorem wipe_setv {σ : L2.St} {j : Nat} {o : Option V} : L2.wipe ((L2.wipe σ [j]).set j o) [j] = L2.wipe σ [j] := by
  show ((σ.set j none).set j o).set j none = σ.set j none
  rw [List.set_set, List.set_set]
/-- a new list hidden -/
theorem At.newD {S0 M0 S : List Addr} {H0 H1 H' : Hp} {Δ : List Sl} {σ : L2.St} (A : At S0 M0 H0 Δ σ H1 S) {D : Addr} (hD : H1 D = none) (e : Ex H1 H') (hD' : H' D ≠ none) : At S (mls Δ σ) H1 Δ σ H' (D :: S) := by
  have B := A.here
  have hid : Ex (hide S H1) (hide (D :: S) H') := fun a o h => by
    have n0 : a ∉ S := fun z => by rw [hide_in z] at h; cases h
    have h' : H1 a = some o := by rw [hide_out n0] at h; exact h
    have ne : a ≠ D := ne_of_none h' hD
    rw [hide_out (by simp [ne, n0])]
    exact e a o h'
  have env1 : ∀ {Δ : List Sl} {σ : L2.St}, SlsR S H1 Δ σ → SlsR (D :: S) H' Δ σ := fun {Δ σ} h => by
    induction Δ generalizing σ with
    | nil =>
      cases σ with
      | nil => trivial
      | cons _ _ => exact h.elim
    | cons s ss ih =>
      cases σ with
      | nil => exact h.elim
      | cons o os =>
        refine ⟨?_, ih h.2⟩
        have h1 := h.1
        cases s with
        | no => trivial
        | th t => obtain ⟨v, e1, r⟩ := h1; exact ⟨v, e1, t.up _ _ _ hid r⟩
        | ml ts => obtain ⟨a, xs, e1, m, q, r⟩ := h1; exact ⟨a, xs, e1, List.mem_cons_of_mem _ m, e a _ q, r.up hid⟩
  refine ⟨fun a h => List.mem_cons_of_mem _ h, B.msub, fun a h => ?_, fun a o h => e a o (hide_le a o h), fun a h => ?_, env1 A.env, A.apart, B.own⟩
  · rcases List.mem_cons.mp h with z | z
    · subst z; exact Or.inr hD
    · exact Or.inl z
  · rcases List.mem_cons.mp h with z | z
    · subst z; exact hD'
    · exact (A.dom.up e) a z
theorem dpa_app {K : PySem.W.Frag} {H : Hp} : ∀ {vs ws : List V} {ds es : List PyData}, DpAll K H vs ds → DpAll K H ws es → DpAll K H (vs ++ ws) (ds ++ es)
  | _, _, _, _, .nil, h => h
  | _, _, _, _, .cons a t, h => .cons a (dpa_app t h)

section
variable {X : Cx} {Δ : List Sl} {e a b c : Expr} {es : List Expr} {A B C : Th → Prop} {pos : Pos} {P : Post} {rest body els : List Stmt} {st : Stmt} {W : WX}
/-- what a comprehension has made after i turns -/
def LcP (K : PySem.W.Frag) (Bw : Nat → PyData → Prop) (S : List Addr) (H1 : Hp) (D : Addr) (i : Nat) (H' : Hp) : Prop :=
  Ex H1 H' ∧ ∃ acc es, H' D = some (.lst acc) ∧ DpAll K (hide (D :: S) H') acc es ∧ es.length = i ∧ ∀ j w, es[j]? = some w → Bw j w
/-- the element's reading: whatever block -/
def teU (X : Cx) (scope : Scope) (elt : Expr) : TE := fun σ H Q => ∀ (s : Shared) (H0 : Hp) (C : Addr) (cl : List (Str × Addr)) (fp : List Addr), ∃ t, PE (X.blk s H0 scope (compEnvC scope cl C X.env) fp) elt t ∧ t σ H Q
theorem lc_fin {S0 M0 S : List Addr} {H0 H1 H' : Hp} {σ : L2.St} {K : PySem.W.Frag} {Bw : Nat → PyData → Prop} {D : Addr} {n : Nat} {Q : VK} (hA : At S0 M0 H0 Δ σ H1 S) (hD : H1 D = none) (p : LcP K Bw S H1 D n H')
    (q : ∀ th v H2, (∃ es, th = dat K (.list es) ∧ es.length = n ∧ ∀ j w, es[j]? = some w → Bw j w) → Ex H1 H2 → th.R (hide S H2) v → Q v H2) : Q (.ref D) H' := by
  obtain ⟨e1, acc, es, h1, h2, h3, h4⟩ := p
  refine q (dat K (.list es)) _ _ ⟨es, rfl, h3, h4⟩ e1 (Dp.lst (xs := acc) (SqL.of ?_) (dpa_up (hide_sub fun a h => List.mem_cons_of_mem _ h) h2))
  rw [hide_out (hA.dom.new hD)]
  exact h1
theorem lc_turn {S0 M0 S : List Addr} {H0 H1 H' : Hp} {σ : L2.St} {scope : Scope} {elt : Expr} {j : Nat} {Bw : Nat → PyData → Prop} {D : Addr} {i : Nat} {z : PyData} {v : V} (hA : At S0 M0 H0 Δ σ H1 S) (hD : H1 D = none) (hi : i < 50000)
    (hz : Dp X.K (hide S H1) v z) (p : LcP X.K Bw S H1 D i H')
    (he : ∀ (s : Shared) (H : Hp) (C : Addr) (cl : List (Str × Addr)) (fp : List Addr), PX (X.blk s H scope (compEnvC scope cl C X.env) fp) ((wipeΔ Δ [j]).set j (.th (dat X.K z))) elt (fun t => ∃ w, t = dat X.K w ∧ Bw i w)) :
    teU X scope elt ((L2.wipe σ [j]).set j (some v)) H' fun y H4 => ∃ acc, H4 D = some (.lst acc) ∧ acc.length < sizeLine ∧ LcP X.K Bw S H1 D (i + 1) (upd H4 D (.lst (acc ++ [y]))) := by
  obtain ⟨e1, acc, es, h1, h2, h3, h4⟩ := p
  have hA2 := hA.newD hD e1 (by rw [h1]; exact fun z => nomatch z)
  have hz2 : Dp X.K (hide (D :: S) H') v z := dp_up (fun a o h => by
    have n0 : a ∉ S := fun z => by rw [hide_in z] at h; cases h
    have h' : H1 a = some o := by rw [hide_out n0] at h; exact h
    have ne : a ≠ D := ne_of_none h' hD
    rw [hide_out (by simp [ne, n0])]
    exact e1 a o h') hz
  intro s H0' C cl fp
  obtain ⟨t, pt, ft⟩ := he s H0' C cl fp
  refine ⟨t, pt, ft S (mls Δ σ) H1 _ H' (D :: S) ((hA2.wipe [j]).set (t := dat X.K z) hz2) _ fun th y H4 ⟨w, hw, bw⟩ e4 r => ?_⟩
  subst hw
  have hlen := dpa_len h2
  refine ⟨acc, e4 D _ h1, Nat.lt_of_lt_of_le (by omega) (by decide : 100000 ≤ sizeLine), fun a o h => ?_, acc ++ [y], es ++ [w], upd_same, ?_, by rw [List.length_append, h3, List.length_singleton], fun k w' hk => ?_⟩
  · rw [upd_ne (ne_of_none h hD)]
    exact e4 a o (e1 a o h)
  · rw [hide_upd (List.mem_cons_self)]
    exact dpa_app (dpa_up (hide_ex e4) h2) (.cons r .nil)
  · rw [List.getElem?_append] at hk
    split at hk
    · exact h4 k w' hk
    · rename_i hge
      have hk0 : k - es.length = 0 := by
        by_cases q : k - es.length = 0
        · exact q
        · rw [List.getElem?_eq_none (by simp; omega)] at hk
          cases hk
      rw [hk0] at hk
      have e5 : w = w' := Option.some.inj hk
      have e6 : k = i := by omega
      rw [← e5, e6]
      exact bw
/-- [elt for x in e], e data -/
theorem px_lcD {x : Str} {px : Pos} {elt : Expr} {scope : Scope} (j : Nat) {d : PyData} {ds : List PyData} (Bw : Nat → PyData → Prop) (he : PD X Δ e (dat X.K d)) (hd : d = .tuple ds ∨ d = .list ds) (hz : ds.length ≤ 40000)
    (ht : ∀ (i : Nat) z, ds[i]? = some z → ∀ (s : Shared) (H : Hp) (C : Addr) (cl : List (Str × Addr)) (fp : List Addr), PX (X.blk s H scope (compEnvC scope cl C X.env) fp) ((wipeΔ Δ [j]).set j (.th (dat X.K z))) elt (fun t => ∃ w, t = dat X.K w ∧ Bw i w))
    (hN : X.N.Nodup) (ok : BlkOk X.N X.env.scope scope [(x, j)])
    (hg : ∀ (s : Shared) (H : Hp) (C : Addr) (cl : List (Str × Addr)) (fp : List Addr), PG (X.blk s H scope (compEnvC scope cl C X.env) fp) (.Name x px) (gName j))
    (hc : X.calm = true := by rfl) (hs : ∀ x, foldedSetIterable e X.env x = pure x := by intro _; rfl) :
    PX X Δ (.ListComp elt [⟨.Name x px, e, [], 0⟩] scope pos) (fun t => ∃ es, t = dat X.K (.list es) ∧ es.length = ds.length ∧ ∀ i w, es[i]? = some w → Bw i w) := by
  obtain ⟨t, pe, f⟩ := he
  have q : ∀ (s : Shared) (H : Hp) (C : Addr) (cl : List (Str × Addr)) (fp : List Addr), PE (X.blk s H scope (compEnvC scope cl C X.env) fp) elt (teU X scope elt) := fun s H C cl fp => ⟨fun pins s' σ H' Q I h => by
    obtain ⟨t, pt, ht⟩ := h s H C cl fp
    exact pt.run pins s' σ H' Q I ht⟩
  have turnV : ∀ {S0 M0 S : List Addr} {H0 H1 H' : Hp} {σ : L2.St} {D : Addr} {xs : List V} {i : Nat} {v : V}, At S0 M0 H0 Δ σ H1 S → H1 D = none → DpAll X.K (hide S H1) xs ds → xs[i]? = some v → LcP X.K Bw S H1 D i H' →
      teU X scope elt ((L2.wipe σ [j]).set j (some v)) H' fun y H4 => ∃ acc, H4 D = some (.lst acc) ∧ acc.length < sizeLine ∧ LcP X.K Bw S H1 D (i + 1) (upd H4 D (.lst (acc ++ [y]))) := by
    intro S0 M0 S H0 H1 H' σ D xs i v hA hD hx hv p
    have hl := dpa_len hx
    have li : i < ds.length := by rw [← hl]; exact (List.getElem?_eq_some_iff.mp hv).1
    obtain ⟨v', e1, r1⟩ := dpa_get hx (List.getElem?_eq_getElem li)
    rw [hv] at e1
    have e2 := Option.some.inj e1
    exact lc_turn hA hD (by omega) (by rw [e2]; exact r1) p (ht i _ (List.getElem?_eq_getElem li))
  have start0 : ∀ {S : List Addr} {H1 : Hp} {D : Addr}, H1 D = none → LcP X.K Bw S H1 D 0 (upd H1 D (.lst [])) := fun {S H1 D} hD => ⟨Ex.new hD, [], [], upd_same, .nil, rfl, fun j w h => by simp at h⟩
  rcases hd with rfl | rfl
  · refine ⟨_, pe_lc (own := [(x, j)]) (g := gName j) (tt := tYes) hc hN (pi_tup pe) ok hg (fun _ _ _ _ _ => pts_nil) q hs, fun S0 M0 H0 σ H S hA Q k => ?_⟩
    refine f S0 M0 H0 σ H S hA _ fun th v H1 hth e1 r => ?_
    subst hth
    obtain ⟨p, xs, rfl, hq, hx⟩ := dp_tup r
    have hA1 := hA.up e1
    refine ⟨p, rfl, ⟨xs, ex_t hide_le hq⟩, fun D hD => lc_tup (K := X.K) (a := p) (xs := xs) (g := gName j) (tt := tYes) (te := teU X scope elt) (vs := [j]) (LcP X.K Bw S H1 D) (start0 hD) (fun i H' _ p => ex_t p.1 (ex_t hide_le hq)) (fun i v H' hv p => ⟨wipe_setv, turnV hA1 hD hx hv p⟩) fun H' p => ?_⟩
    rw [dpa_len hx] at p
    exact lc_fin hA1 hD p fun th v H2 c e2 r2 => k th v H2 c (e1.trans e2) r2
  · refine ⟨_, pe_lc (own := [(x, j)]) (g := gName j) (tt := tYes) hc hN (pi_list pe) ok hg (fun _ _ _ _ _ => pts_nil) q hs, fun S0 M0 H0 σ H S hA Q k => ?_⟩
    refine f S0 M0 H0 σ H S hA _ fun th v H1 hth e1 r => ?_
    subst hth
    obtain ⟨p, xs, rfl, hq, hx⟩ := dp_lst r
    have hA1 := hA.up e1
    refine ⟨p, rfl, ⟨xs, ex_l hide_le hq⟩, fun D hD => lc_list (K := X.K) (a := p) (xs := xs) (g := gName j) (tt := tYes) (te := teU X scope elt) (vs := [j]) (LcP X.K Bw S H1 D) (start0 hD) (fun i H' _ p => ex_l p.1 (ex_l hide_le hq)) (fun i v H' hv p => ⟨wipe_setv, turnV hA1 hD hx hv p⟩) fun H' p => ?_⟩
    rw [dpa_len hx] at p
    exact lc_fin hA1 hD p fun th v H2 c e2 r2 => k th v H2 c (e1.trans e2) r2
/-- [elt for x in range(n)] -/
theorem px_lcR {x : Str} {px p1 p2 : Pos} {elt : Expr} {scope : Scope} (j : Nat) {Nn : Int → Prop} {L : Nat} (Bw : Nat → PyData → Prop) (hm : X.mg "range" = none) (he : PX X Δ e (isI X.K Nn)) (hn : ∀ n, Nn n → 0 ≤ n ∧ n ≤ L) (hL : L ≤ 40000)
    (ht : ∀ (i : Nat), i < L → ∀ (s : Shared) (H : Hp) (C : Addr) (cl : List (Str × Addr)) (fp : List Addr), PX (X.blk s H scope (compEnvC scope cl C X.env) fp) ((wipeΔ Δ [j]).set j (.th (dat X.K (.int (i : Int))))) elt (fun t => ∃ w, t = dat X.K w ∧ Bw i w))
    (hN : X.N.Nodup) (ok : BlkOk X.N X.env.scope scope [(x, j)])
    (hg : ∀ (s : Shared) (H : Hp) (C : Addr) (cl : List (Str × Addr)) (fp : List Addr), PG (X.blk s H scope (compEnvC scope cl C X.env) fp) (.Name x px) (gName j))
    (hc : X.calm = true := by rfl) (hgl : Gl X "range" := by rfl) (hse : starEach [e] X.env = (false, eval e X.env) :: starEach [] X.env := by rfl) (hs1 : starEach [e] X.env = [(false, eval e X.env)] := by rfl)
    (hs : ∀ x, foldedSetIterable (.Call (.Name "range" p1) [e] [] p2) X.env x = pure x := by intro _; rfl) :
    PX X Δ (.ListComp elt [⟨.Name x px, .Call (.Name "range" p1) [e] [] p2, [], 0⟩] scope pos) (fun t => ∃ es n, t = dat X.K (.list es) ∧ Nn n ∧ (es.length : Int) = n ∧ ∀ i w, es[i]? = some w → Bw i w) := by
  obtain ⟨t, pa, f⟩ := pl_consA (C := fun ts => ∃ i, ts = [dat X.K (.int i)] ∧ Nn i) he pl_nil (fun t ts ⟨i, h1, h2⟩ h3 => ⟨i, by rw [h1, h3], h2⟩) hse
  have q : ∀ (s : Shared) (H : Hp) (C : Addr) (cl : List (Str × Addr)) (fp : List Addr), PE (X.blk s H scope (compEnvC scope cl C X.env) fp) elt (teU X scope elt) := fun s H C cl fp => ⟨fun pins s' σ H' Q I h => by
    obtain ⟨t, pt, ht⟩ := h s H C cl fp
    exact pt.run pins s' σ H' Q I ht⟩
  refine ⟨_, pe_lc (own := [(x, j)]) (g := gName j) (tt := tYes) hc hN (pi_range1 hgl hm pa hs1) ok hg (fun _ _ _ _ _ => pts_nil) q hs, fun S0 M0 H0 σ H S hA Q k => ?_⟩
  refine f S0 M0 H0 σ H S hA _ fun ths vs H1 hth e1 r => ?_
  obtain ⟨n, rfl, nn⟩ := hth
  obtain ⟨v, rfl, r0⟩ := all1 r
  have := dp_int r0
  subst this
  have hb := hn n nn
  have hA1 := hA.up e1
  refine ⟨n, rfl, by omega, by omega, fun D hD => lc_range (lo := 0) (n := n.toNat) (g := gName j) (tt := tYes) (te := teU X scope elt) (vs := [j]) (LcP X.K Bw S H1 D) ⟨Ex.new hD, [], [], upd_same, .nil, rfl, fun j w h => by simp at h⟩ (fun i H' hi p => ?_) fun H' p => ?_⟩
  · have e0 : (0 : Int) + (i : Int) = (i : Int) := Int.zero_add _
    rw [e0]
    exact ⟨wipe_setv, lc_turn hA1 hD (by omega) (Dp.int _) p (ht i (by omega))⟩
  · exact lc_fin hA1 hD p fun th v H2 ⟨es, c1, c2, c3⟩ e2 r2 => k th v H2 ⟨es, n, c1, nn, by omega, c3⟩ (e1.trans e2) r2
/-- tuple(e) -/
theorem px_tuple {p : Pos} {L : List PyData → Prop} (hm : X.mg "tuple" = none) (ha : PX X Δ a (fun t => ∃ es, (t = dat X.K (.list es) ∨ t = dat X.K (.tuple es)) ∧ L es)) (hg : Gl X "tuple" := by rfl) (na : starEach [a] X.env = (false, eval a X.env) :: starEach [] X.env := by rfl) :
    PX X Δ (.Call (.Name "tuple" p) [a] [] pos) (fun t => ∃ es, t = dat X.K (.tuple es) ∧ L es) := by
  obtain ⟨t, pe, f⟩ := ha
  refine ⟨_, pe_tupleOf hg hm pe na, fun S0 M0 H0 σ H S hA Q k => ?_⟩
  refine f S0 M0 H0 σ H S hA _ fun th v H1 ⟨es, hth, hl⟩ e1 r => ?_
  rcases hth with rfl | rfl
  · obtain ⟨q, xs, rfl, hq, hd⟩ := dp_lst r
    refine Or.inl ⟨q, xs, rfl, ex_l hide_le hq, fun l hl' => k (dat X.K (.tuple es)) _ _ ⟨es, rfl, hl⟩ (e1.trans (Ex.new hl')) ?_⟩
    refine Dp.tup (SqT.of ?_) (dpa_up (hide_ex (Ex.new hl')) hd)
    rw [hide_out ((hA.up e1).dom.new hl')]
    exact upd_same
  · obtain ⟨q, xs, rfl, hq, hd⟩ := dp_tup r
    exact Or.inr ⟨q, xs, rfl, ex_t hide_le hq, k (dat X.K (.tuple es)) _ _ ⟨es, rfl, hl⟩ e1 r⟩
theorem pd_tuple {p : Pos} {es : List PyData} (hm : X.mg "tuple" = none) (ha : PD X Δ a (dat X.K (.list es)) ∨ PD X Δ a (dat X.K (.tuple es))) (hg : Gl X "tuple" := by rfl) (na : starEach [a] X.env = (false, eval a X.env) :: starEach [] X.env := by rfl) :
    PD X Δ (.Call (.Name "tuple" p) [a] [] pos) (dat X.K (.tuple es)) :=
  (px_tuple (L := (· = es)) hm (by
    rcases ha with ha | ha
    · exact ha.imp fun t h => ⟨es, Or.inl h, rfl⟩
    · exact ha.imp fun t h => ⟨es, Or.inr h, rfl⟩) hg na).imp fun t ⟨es', h, h'⟩ => by rw [h, h']
/-- list(e) -/
theorem pd_list {p : Pos} {es : List PyData} (hm : X.mg "list" = none) (ha : PD X Δ a (dat X.K (.list es)) ∨ PD X Δ a (dat X.K (.tuple es))) (hg : Gl X "list" := by rfl) (na : starEach [a] X.env = (false, eval a X.env) :: starEach [] X.env := by rfl) (hpl : (backTo pos (starEach [] X.env)).any (·.1) = false := by rfl) :
    PD X Δ (.Call (.Name "list" p) [a] [] pos) (dat X.K (.list es)) := by
  have fin : ∀ {S : List Addr} {H : Hp} {xs : List V} {l : Addr} {Q : VK}, Dom S H → H l = none → DpAll X.K (hide S H) xs es → (∀ th u H2, th = dat X.K (.list es) → Ex H H2 → th.R (hide S H2) u → Q u H2) → Q (.ref l) (upd H l (.lst xs)) := fun dom hl hd q =>
    q _ _ _ rfl (Ex.new hl) (Dp.lst (SqL.of (by rw [hide_out (dom.new hl)]; exact upd_same)) (dpa_up (hide_ex (Ex.new hl)) hd))
  rcases ha with ha | ha
  · exact px_bltT call_list_of hm (pl_cons ha pl_nil na) (fun S H ts vs dom hB r Q q => by
      subst hB
      obtain ⟨v, rfl, r0⟩ := all1 r
      obtain ⟨p, xs, rfl, hq, hd⟩ := dp_lst r0
      exact ⟨p, xs, rfl, Or.inl (ex_l hide_le hq), fun l hl => fin dom hl hd q⟩) (by decide +kernel) hg (by decide) (by decide) na hpl
  · exact px_bltT call_list_of hm (pl_cons ha pl_nil na) (fun S H ts vs dom hB r Q q => by
      subst hB
      obtain ⟨v, rfl, r0⟩ := all1 r
      obtain ⟨p, xs, rfl, hq, hd⟩ := dp_tup r0
      exact ⟨p, xs, rfl, Or.inr (ex_t hide_le hq), fun l hl => fin dom hl hd q⟩) (by decide +kernel) hg (by decide) (by decide) na hpl
theorem dpa_bls {K : PySem.W.Frag} {H : Hp} : ∀ {xs : List V} {bs : List Bool}, DpAll K H xs (bs.map .bool) → xs = bs.map V.bl
  | [], [], _ => rfl
  | v :: vs, b :: bs, h => by
    cases h with
    | cons h1 h2 => rw [dp_bool h1, dpa_bls h2]; rfl
  | [], b :: bs, h => by cases h
  | v :: vs, [], h => by cases h
/-- all(list of truths) -/
theorem pd_all {p : Pos} {bs : List Bool} (hm : X.mg "all" = none) (ha : PD X Δ a (dat X.K (.list (bs.map .bool)))) (hc : X.calm = true := by rfl) (hg : Gl X "all" := by rfl) (na : starEach [a] X.env = (false, eval a X.env) :: starEach [] X.env := by rfl) (hpl : (backTo pos (starEach [] X.env)).any (·.1) = false := by rfl) :
    PD X Δ (.Call (.Name "all" p) [a] [] pos) (dat X.K (.bool (bs.all id))) :=
  px_blt (cr_all hc) hm (pl_cons ha pl_nil na) (fun S H ts vs dom hB r Q q => by
    subst hB
    obtain ⟨v, rfl, r0⟩ := all1 r
    obtain ⟨p, xs, rfl, hq, hd⟩ := dp_lst r0
    have hx := dpa_bls hd
    subst hx
    refine ⟨p, bs, rfl, ex_l hide_le hq, ?_⟩
    exact q _ _ H rfl (Ex.refl H) (Dp.bl _)) (by decide +kernel) hg (by decide) (by decide) na hpl
/-- x.append(e), x a list of this def -/
theorem sd_app (i : Nat) {x : Str} {p1 p2 p3 : Pos} {ts : List Th} (h : Δ[i]? = some (.ml ts)) (he : PX X Δ e A) (hl : ts.length < 100000) (k : ∀ t, A t → SD X W rest P (Δ.set i (.ml (ts ++ [t]))))
    (hN : X.N[i]? = some x := by rfl) (hv : Vis X.env.scope x := by first | exact Or.inl rfl | exact Or.inr (Or.inl rfl) | exact Or.inr (Or.inr rfl)) (hpe : ∀ (te : TE), PE X e te → PE X (.Call (.Attribute (.Name x p1) "append" p2) [e] [] p3) (tBM X.K "list" rAppend (tVar i) (tCons te tNil)))
    (hs : swapsWith (.Call (.Attribute (.Name x p1) "append" p2) [e] [] p3) none pos.line X.env = pure false := by rfl) : SD X W (.Expr (.Call (.Attribute (.Name x p1) "append" p2) [e] [] p3) pos :: rest) P Δ := by
  obtain ⟨te, pe, f⟩ := he
  refine sd_cons ⟨_, ps_expr (hpe te pe) hs, fun S0 M0 H0 σ H S hA D le xw => ?_⟩
  obtain ⟨o, e1, a, xs, e2, hm, hH, hx⟩ := hA.env.get h
  subst e2
  refine ⟨.ref a, e1, Or.inl ⟨rfl, xs, Or.inl (Or.inl hH)⟩, ?_⟩
  refine f S0 M0 H0 σ H S hA _ fun th v H2 ha ex2 r => ?_
  have hA2 := hA.up ex2
  have hlen := hx.len
  refine ⟨a, xs, v, rfl, rfl, ex2 a _ hH, Nat.lt_of_lt_of_le (by omega) (by decide : 100000 ≤ sizeLine), le.nx _ _ ⟨_, S, k th ha, ?_⟩⟩
  -- the list at a has grown; all else is told behind S
  have hid : hide S (upd H2 a (.lst (xs ++ [v]))) = hide S H2 := hide_upd hm
  have own_a := hA2.own i ts a h e1
  refine ⟨hA2.sub, hA2.msub, hA2.new, fun b o hb => ?_, fun b hb => ?_, ?_, ?_, ?_⟩
  · have nb : b ∉ M0 := fun z => by rw [hide_in z] at hb; cases hb
    have ne : b ≠ a := fun z => by
      rw [z] at hb nb
      rcases own_a with q | q
      · exact nb q
      · rw [hide_out nb, q] at hb; cases hb
    rw [upd_ne ne]
    exact hA2.ex b o hb
  · by_cases q : b = a
    · rw [q, upd_same]; exact fun z => nomatch z
    · rw [upd_ne q]; exact hA2.dom b hb
  · -- slots
    have gen : ∀ {Δ' : List Sl} {σ' : L2.St} {m : Nat}, SlsR S H2 Δ' σ' → (∀ (n : Nat) us b, Δ'[n]? = some (.ml us) → σ'[n]? = some (some (V.ref b)) → n ≠ m → b ≠ a) → (∀ us, Δ'[m]? = some (.ml us) → us = ts ∧ σ'[m]? = some (some (V.ref a))) →
        SlsR S (upd H2 a (.lst (xs ++ [v]))) (Δ'.set m (.ml (ts ++ [th]))) σ' ∨ Δ'[m]? ≠ some (.ml ts) := by
      intro Δ'
      induction Δ' with
      | nil => intro σ' m _ _ _; exact Or.inr (by simp)
      | cons s ss ih =>
        intro σ' m hs hne hat
        cases σ' with
        | nil => exact hs.elim
        | cons o os =>
          have one : ∀ {s : Sl} {o : Option V}, SlR S H2 o s → (∀ us b, s = .ml us → o = some (V.ref b) → b ≠ a) → SlR S (upd H2 a (.lst (xs ++ [v]))) o s := fun {s o} hr hn => by
            cases s with
            | no => trivial
            | th t => obtain ⟨w, q1, q2⟩ := hr; exact ⟨w, q1, by rw [hid]; exact q2⟩
            | ml us =>
              obtain ⟨b, ys, q1, q2, q3, q4⟩ := hr
              exact ⟨b, ys, q1, q2, by rw [upd_ne (hn us b rfl q1)]; exact q3, by rw [hid]; exact q4⟩
          cases m with
          | zero =>
            by_cases hm0 : s = .ml ts
            · subst hm0
              refine Or.inl ⟨?_, ?_⟩
              · obtain ⟨_, z⟩ := hat ts rfl
                have z' : o = some (V.ref a) := Option.some.inj z
                subst z'
                obtain ⟨b, ys, q1, q2, q3, q4⟩ := hs.1
                have eb : a = b := V.ref.inj (Option.some.inj q1)
                subst eb
                have ey : xs = ys := by
                  rw [ex2 a _ hH] at q3
                  have q5 := Option.some.inj q3
                  exact HO.lst.inj q5
                subst ey
                exact ⟨a, xs ++ [v], rfl, q2, upd_same, by rw [hid]; exact q4.app ⟨r, trivial⟩⟩
              · have rest_ : ∀ {Δ' : List Sl} {σ' : L2.St}, SlsR S H2 Δ' σ' → (∀ (n : Nat) us b, Δ'[n]? = some (.ml us) → σ'[n]? = some (some (V.ref b)) → b ≠ a) → SlsR S (upd H2 a (.lst (xs ++ [v]))) Δ' σ' := by
                  intro Δ'
                  induction Δ' with
                  | nil => intro σ' hs' _; cases σ' with
                    | nil => trivial
                    | cons _ _ => exact hs'.elim
                  | cons s' ss' ih' =>
                    intro σ' hs' hn'
                    cases σ' with
                    | nil => exact hs'.elim
                    | cons o' os' => exact ⟨one hs'.1 fun us b z1 z2 => hn' 0 us b (by rw [z1]; rfl) (by rw [z2]; rfl), ih' hs'.2 fun n us b z1 z2 => hn' (n + 1) us b z1 z2⟩
                exact rest_ hs.2 fun n us b z1 z2 => hne (n + 1) us b z1 z2 (by omega)
            · exact Or.inr fun z => hm0 (Option.some.inj z)
          | succ m =>
            rcases ih (σ' := os) (m := m) hs.2 (fun n us b z1 z2 z3 => hne (n + 1) us b z1 z2 (by omega)) (fun us z => hat us z) with q | q
            · exact Or.inl ⟨one hs.1 fun us b z1 z2 => hne 0 us b (by rw [z1]; rfl) (by rw [z2]; rfl) (by omega), q⟩
            · exact Or.inr q
    rcases gen (m := i) hA2.env (fun n us b z1 z2 z3 => fun z => z3 (hA2.apart n i us ts a z1 h (by rw [← z]; exact z2) e1)) (fun us z => ⟨by rw [h] at z; exact (Sl.ml.inj (Option.some.inj z)).symm, e1⟩) with q | q
    · exact q
    · exact absurd h q
  · intro m j us ws b h1 h2 h3 h4
    have old : ∀ {m : Nat} {us : List Th}, (Δ.set i (.ml (ts ++ [th])))[m]? = some (.ml us) → ∃ us', Δ[m]? = some (.ml us') := fun {m us} z => by
      by_cases q : i = m
      · subst q; exact ⟨ts, h⟩
      · rw [List.getElem?_set_ne q] at z; exact ⟨us, z⟩
    obtain ⟨us', g1⟩ := old h1
    obtain ⟨ws', g2⟩ := old h2
    exact hA2.apart m j us' ws' b g1 g2 h3 h4
  · intro m us b h1 h3
    have old : ∃ us', Δ[m]? = some (.ml us') := by
      by_cases q : i = m
      · subst q; exact ⟨ts, h⟩
      · rw [List.getElem?_set_ne q] at h1; exact ⟨us, h1⟩
    obtain ⟨us', g1⟩ := old
    exact hA2.own m us' b g1 h3
end
end DL
set_option Elab.async false
set_option linter.all false
set_option maxRecDepth 100000
/-! Exceptions. -/
namespace DL
open PySem PySem.Spec PyProof.Rows L2
/-- how a call ends: a thing, or an exception of the class at C with what it carries -/
inductive Out where
  | val (A : Th → Prop)
  | exc (C : Addr) (fs : List (Str × Th))
abbrev CnX := List Th → Out → Prop
def spX (R : CnX) : Sp := fun vs H Q E => ∃ S ths o, Dom S H ∧ All (hide S H) ths vs ∧ R ths o ∧ match o with
  | .val A => ∀ t v H', A t → Ex H H' → t.R (hide S H') v → Q v H'
  | .exc C fs => ∀ d H', Ex H H' → XF (hide S H') d fs → (∀ a, d = some a → a ∉ S) → E (.ref C) d H'
structure GdX (P : Program) (w : World) (K : PySem.W.Frag) (mg : Str → Option Value) (base : Heap) (x : Str) (k : Nat) (R : CnX) : Prop where
  ex : ∃ f fd ps, mg x = some (.ref f) ∧ PySem.W.keepIn K (.ref f) = true ∧ Binds K fd ps [] ∧ FnOk P w K mg base (L2.CX P w) k f fd ps (spX R)
section
variable {X : Cx} {Δ : List Sl} {e a b c : Expr} {es : List Expr} {A B C : Th → Prop} {pos : Pos} {P : Post} {rest body els : List Stmt} {st : Stmt} {W : WX}
/-- a call that may raise, but does not -/
theorem px_callV {x : Str} {k : Nat} {R : CnX} {p : Pos} {B : List Th → Prop} (G : GdX X.prog X.w X.K X.mg X.base x k R) (hr : Room k X.A) (ha : PL X Δ (e :: es) B) (h : ∀ ts, B ts → ∃ A, R ts (.val A) ∧ ∀ t, A t → C t)
    (hg : Gl X x := by rfl) (hdb : (x == ("__debug__" : Str)) = false := by decide) (he : starEach (e :: es) X.env = (false, eval e X.env) :: starEach es X.env := by rfl) (hpl : (backTo pos (starEach es X.env)).any (·.1) = false := by rfl) :
    PX X Δ (.Call (.Name x p) (e :: es) [] pos) C := by
  obtain ⟨f, fd, ps, hm, hk, hb, F⟩ := G.ex
  obtain ⟨t, pa, fa⟩ := ha
  refine ⟨_, pe_call (E := E0) F hr hg hm hk hb (dvs := []) .nil passL pa hdb he hpl, fun S0 M0 H0 σ H S hA Q q => ?_⟩
  refine fa S0 M0 H0 σ H S hA _ fun ths vs H1 hB e1 r => ?_
  obtain ⟨A, hR, hC⟩ := h ths hB
  show spX R (vs ++ []) H1 Q E0
  rw [List.append_nil]
  exact ⟨S, ths, .val A, (hA.up e1).dom, r, hR, fun th v H2 hA2 e2 r2 => q th v H2 (hC th hA2) (e1.trans e2) r2⟩
theorem pd_callV {x : Str} {k : Nat} {R : CnX} {p : Pos} {ts : List Th} {t : Th} (G : GdX X.prog X.w X.K X.mg X.base x k R) (hr : Room k X.A) (ha : PLD X Δ (e :: es) ts) (h : R ts (.val (· = t)))
    (hg : Gl X x := by rfl) (hdb : (x == ("__debug__" : Str)) = false := by decide) (he : starEach (e :: es) X.env = (false, eval e X.env) :: starEach es X.env := by rfl) (hpl : (backTo pos (starEach es X.env)).any (·.1) = false := by rfl) :
    PD X Δ (.Call (.Name x p) (e :: es) [] pos) t := px_callV G hr ha (fun us hu => ⟨_, by rw [hu]; exact h, fun _ z => z⟩) hg hdb he hpl
/-- an expression that raises -/
def PR (X : Cx) (W : WX) (Δ : List Sl) (e : Expr) (C : Addr) (fs : List (Str × Th)) : Prop :=
  ∃ t : TE, PE X e t ∧ ∀ S0 M0 H0 σ H S, At S0 M0 H0 Δ σ H S → (∀ H' d, Ex H H' → XF (hide S H') d fs → (∀ a, d = some a → a ∉ S) → W (.ref C) d σ H') → ∀ Q, t σ H Q
theorem pr_call {x : Str} {k : Nat} {R : CnX} {p : Pos} {B : List Th → Prop} {Cc : Addr} {fs : List (Str × Th)} (tk : Takes X W) (G : GdX X.prog X.w X.K X.mg X.base x k R) (hr : Room k X.A) (ha : PL X Δ (e :: es) B) (h : ∀ ts, B ts → R ts (.exc Cc fs))
    (hg : Gl X x := by rfl) (hdb : (x == ("__debug__" : Str)) = false := by decide) (he : starEach (e :: es) X.env = (false, eval e X.env) :: starEach es X.env := by rfl) (hpl : (backTo pos (starEach es X.env)).any (·.1) = false := by rfl) :
    PR X W Δ (.Call (.Name x p) (e :: es) [] pos) Cc fs := by
  obtain ⟨f, fd, ps, hm, hk, hb, F⟩ := G.ex
  obtain ⟨t, pa, fa⟩ := ha
  refine ⟨_, pe_callS F hr hg hm hk hb (fun σ => passAt tk σ) pa hdb he hpl, fun S0 M0 H0 σ H S hA w Q => ?_⟩
  refine fa S0 M0 H0 σ H S hA _ fun ths vs H1 hB e1 r => ?_
  exact ⟨S, ths, .exc Cc fs, (hA.up e1).dom, r, h ths hB, fun d H' e2 r2 nd => w H' d (e1.trans e2) r2 nd⟩
/-- x = e, return e, e where e raises -/
theorem sd_asgR (i : Nat) {x : Str} {p : Pos} {Cc : Addr} {fs : List (Str × Th)} (he : PR X W Δ e Cc fs) (k : P.xc Cc fs Δ) (hN : X.N.Nodup) (hi : X.N[i]? = some x := by rfl) (hx : Loc X.env.scope x := by first | exact Or.inl rfl | exact Or.inr rfl)
    (hs : swapsWith e (some (.Name x p)) pos.line X.env = pure false := by rfl) (hw : swappedStores [.Name x p] e X.env = pure none := by rfl)
    (hf : X.fn x = true ∨ X.env.scope.names.lookup x = some .local := by first | exact .inl rfl | exact .inr rfl) : SD X W (.Assign [.Name x p] e pos :: rest) P Δ := by
  obtain ⟨t, pe, f⟩ := he
  refine sd_cons ⟨_, ps_asg pe (pg_name hN hi hx hf) hs hw, fun S0 M0 H0 σ H S hA D le xw => ?_⟩
  exact f S0 M0 H0 σ H S hA (fun H' d e1 r nd => xw.1 σ H' Cc fs d Δ S k (hA.up e1) r nd) _
theorem sd_retR {Cc : Addr} {fs : List (Str × Th)} (he : PR X W Δ e Cc fs) (k : P.xc Cc fs Δ) : SD X W (.Return (some e) pos :: rest) P Δ := by
  obtain ⟨t, pe, f⟩ := he
  refine sd_cons ⟨_, ps_ret pe, fun S0 M0 H0 σ H S hA D le xw => ?_⟩
  exact f S0 M0 H0 σ H S hA (fun H' d e1 r nd => xw.1 σ H' Cc fs d Δ S k (hA.up e1) r nd) _
/-- an own exception class without __init__ -/
structure ExC0 (K : PySem.W.Frag) (mg : Str → Option Value) (x : Str) (C : Addr) : Prop where
  gC : mg x = some (.ref C)
  q : PySem.W.excIn K C [.type "ValueError", .type "Exception", .type "BaseException", .type "object"] "ValueError.__new__" = true
  kC : PySem.W.keepIn K (.ref C) = true
  sub : PySem.W.subIn K (.ref C) (.type "BaseException") = some true
  ty : PySem.W.typeIn K (.ref C) = some (.type "type")
/-- X() -/
theorem pmk_own0 {x : Str} {p pos : Pos} {C : Addr} (T : ExC0 X.K X.mg x C) (hg : Gl X x) (hdb : (x == ("__debug__" : Str)) = false := by decide) : PMk X (.Call (.Name x p) [] [] pos) (fun _ H Q => Q (.ref C) none H) := by
  intro pins s σ H Q I h
  refine wpAny_Call_Name_kw (ld_glob I hg T.gC ?_ hdb)
  refine PySem.W.callWith_K0 I.kIn T.kC ?_
  obtain ⟨bm, N, nm, qn, bs, hdct, sn, sub, ab, col, dd, k0, k1, k2, k3, k5, mN, hC, hN, hni, T2⟩ := exc_obj I.kIn T.q
  refine wpAny_call_exc_subT PySem.F.excBase_ValueError T2 hC hN hni (fun h' e hm => ?_) (Nat.zero_le _)
  exact mk_of I hm (raises_own T.sub T.ty) h (I.hok.gone hm.new)
theorem sd_raise0 {x : Str} {p p2 : Pos} {C : Addr} (T : ExC0 X.K X.mg x C) (tk : Takes X W) (k : P.xc C [] Δ) (hg : Gl X x := by rfl) (hc : X.calm = true := by rfl) (hdb : (x == ("__debug__" : Str)) = false := by decide) :
    SD X W (.Raise (some (.Call (.Name x p) [] [] p2)) none pos :: rest) P Δ :=
  sd_cons ⟨_, ps_raise hc tk (pmk_own0 T hg hdb), fun S0 M0 H0 σ H S hA D le xw => xw.1 σ H C [] none Δ S k hA (Or.inl ⟨rfl, rfl⟩) (fun a z => nomatch z)⟩
/-- the exception that a suite holds -/
def refT (a : Addr) : Th := ⟨fun _ v => v = .ref a, fun _ _ _ _ h => h⟩
/-- try: body except x as n: suite -/
theorem sd_tryAs (i : Nat) {x n : Str} {cv : Value} {b0 : Stmt} {suite : List Stmt} {np pos' : Pos} {Wout : WX} (XC : Addr → List (Str × Th) → List Sl → Prop) (hN : X.N.Nodup) (hi : X.N[i]? = some n) (hln : X.env.kindOf n = some .local) (hc : Names X x cv) (tk : Takes X Wout)
    (hb : ∀ (W : WX) (pn : List (Addr × Obj)) (xe : Value → Shared → Prop), Takes (X.tr pn xe) W → PassesOwn (model X.prog X.w) X.A X.env xe → SD (X.tr pn xe) W body { P with nx := fun Δ' => SD X Wout rest P Δ', xc := XC } Δ)
    (hcls : ∀ C fs Δ', XC C fs Δ' → PySem.W.exmOne X.K (.ref C) cv = some true)
    (hsu : ∀ C fs Δ', XC C fs Δ' → ∀ (a : Addr) (oe : Obj) (d : Option Addr) (pn : List (Addr × Obj)), Zc (.ref C) d oe → (∃ vs, oe.data = .fields vs) → (fs = [] → d = none) →
      SD (X.suite a ((a, oe) :: pn)) (fun _ _ _ _ => False) (b0 :: suite) { nx := fun Δ2 => SD X Wout rest P (Δ2.set i .no), rt := P.rt, bk := fun Δ2 => P.bk (Δ2.set i .no), ct := fun Δ2 => P.ct (Δ2.set i .no) } (Δ'.set i (.th (refT a))))
    (hsl : ∀ C fs Δ', XC C fs Δ' → ∀ ts, Δ'[i]? ≠ some (.ml ts))
    (hs : X.stack = X.env :: X.outer := by rfl) (hf : X.env.frame = some X.env.locals := by rfl) :
    SD X Wout (.Try body [.ExceptHandler (some (.Name x np)) (some n) (b0 :: suite) pos'] [] [] pos :: rest) P Δ := by
  refine sd_cons ?_
  have pb : ∀ (W : WX) (pn : List (Addr × Obj)) (xe : Value → Shared → Prop), Takes (X.tr pn xe) W → PassesOwn (model X.prog X.w) X.A X.env xe → PSs (X.tr pn xe) body (fun D σ H => ∀ (pn : List (Addr × Obj)) (xe : Value → Shared → Prop), Takes (X.tr pn xe) W → PassesOwn (model X.prog X.w) X.A X.env xe → ∃ t, PSs (X.tr pn xe) body t ∧ t D σ H) :=
    fun W pn xe tk hp => ⟨fun pins s σ H D I h => by
      obtain ⟨t, p, ht⟩ := h pn xe tk hp
      exact p.run pins s σ H D I ht⟩
  have ps : ∀ (a : Addr) (oe : Obj) (cls : Value) (d : Option Addr) (pn : List (Addr × Obj)), Zc cls d oe → (∃ vs, oe.data = .fields vs) → PSs (X.suite a ((a, oe) :: pn)) (b0 :: suite) (fun D σ H => ∀ (oe : Obj) (pn : List (Addr × Obj)), Zc cls d oe → (∃ vs, oe.data = .fields vs) → ∃ t, PSs (X.suite a ((a, oe) :: pn)) (b0 :: suite) t ∧ t D σ H) :=
    fun a oe cls d pn hz hfl => ⟨fun pins s σ H D I h => by
      obtain ⟨t, p, ht⟩ := h oe pn hz hfl
      exact p.run pins s σ H D I ht⟩
  refine ⟨_, ps_try_as (ts := fun a cls d => fun D σ H => ∀ (oe : Obj) (pn : List (Addr × Obj)), Zc cls d oe → (∃ vs, oe.data = .fields vs) → ∃ t, PSs (X.suite a ((a, oe) :: pn)) (b0 :: suite) t ∧ t D σ H) hs hf hN hi hln hc tk pb ps, fun S0 M0 H0 σ H S hA D le xw => ?_⟩
  intro pn xe tk2 hp2
  obtain ⟨t, p, f⟩ := hb _ pn xe tk2 hp2
  refine ⟨t, p, f S0 M0 H0 σ H S hA D ⟨le.nx, le.rt, le.bk, le.ct⟩ ⟨fun σ1 H1 C fs d Δ1 S1 hxc hA1 r nd => ?_, xw.2⟩⟩
  refine ⟨true, hcls C fs Δ1 hxc, fun _ a na oe pn hz hfl => ?_, fun z => nomatch z⟩
  have hd0 : fs = [] → d = none := fun z => by
    rcases r with ⟨_, r⟩ | ⟨ne, _⟩
    · exact r
    · exact absurd z ne
  obtain ⟨u, pu, fu⟩ := hsu C fs Δ1 hxc a oe d pn hz hfl hd0
  refine ⟨u, pu, fu S0 M0 H0 _ H1 S1 (hA1.setS (s := .th (refT a)) rfl ⟨.ref a, rfl, rfl⟩) _ ⟨fun σ2 H2 ⟨Δ2, S2, n2, hA2⟩ => le.nx _ _ ⟨_, S2, n2, hA2.setS (s := .no) rfl trivial⟩, le.rt, fun σ2 H2 ⟨Δ2, S2, n2, hA2⟩ => le.bk _ _ ⟨_, S2, n2, hA2.setS (s := .no) rfl trivial⟩, fun σ2 H2 ⟨Δ2, S2, n2, hA2⟩ => le.ct _ _ ⟨_, S2, n2, hA2.setS (s := .no) rfl trivial⟩⟩ ⟨fun _ _ _ _ _ _ _ p => p.elim, fun z => nomatch z⟩⟩
end
def postX (K : PySem.W.Frag) : Out → Post
  | .val A => retOf K A
  | .exc C fs => { nx := fun _ => False, rt := fun _ => False, xc := fun C' fs' _ => C' = C ∧ fs' = fs, top := true }
section
variable {P : Program} {w : World} {K : PySem.W.Frag} {mg : Str → Option Value} {base : Heap}
theorem fnX_mk {x qual : Str} {st : Stmt} {f : Addr} {fd : FuncData} {N ps : List Str} {k : Nat} {R : CnX} (F : Fun K x qual st f fd) (Sc : FnScope N ps (defScope st)) (hl : ∀ ts o, R ts o → ts.length = ps.length)
    (body : ∀ (cdv : Value) (A : Around) (outer : List Env) (s : Shared) (H : Hp) (E : XK), Room k (A.deeper (envOfC qual (defScope st) s.heap.objs.size f cdv)) → ∀ ts o, R ts o →
      SD (cxOf (L2.CX P w) P w K mg base N qual (defScope st) f cdv A outer s H E) (fun cls d _ H => E cls d H) (defBody st) (postX K o) (startΔ N ts)) : FnOk P w K mg base (L2.CX P w) (k + 1) f fd ps (spX R) := by
  refine F.okX Sc (fun vs H Q E ⟨S, ths, o, _, r, hR, _⟩ => by rw [← r.len]; exact hl _ _ hR) fun cdv A outer s H vs Q E hr ⟨S, ths, o, dom, r, hR, k⟩ => ?_
  obtain ⟨t, p, f⟩ := body cdv A outer s H E hr ths o hR
  have ex0 : ∀ {H'}, Ex (hide [] H) H' → Ex H H' := fun {H'} e a o h => e a o (by rw [hide_out (by simp)]; exact h)
  refine ⟨t, p, f S [] H _ H S (at_start dom r) _ ?_ ?_⟩
  · cases o with
    | val A => exact ends_ret k
    | exc C fs => exact ⟨fun _ _ ⟨_, _, p, _⟩ => p.elim, fun _ _ ⟨_, p, _⟩ => p.elim, fun _ _ ⟨_, _, p, _⟩ => p.elim, fun _ _ ⟨_, _, p, _⟩ => p.elim⟩
  · cases o with
    | val A => exact ⟨fun _ _ _ _ _ _ _ p => p.elim, fun _ => ⟨rfl, dom⟩⟩
    | exc C fs =>
      refine ⟨?_, fun _ => ⟨rfl, dom⟩⟩
      rintro σ1 H1 C' fs' d Δ1 S1 ⟨rfl, rfl⟩ hA r nd
      exact k d H1 (ex0 hA.ex) (r.up (hide_sub hA.sub)) fun a h z => nd a h (hA.sub a z)
theorem gdx_mk {x : Str} {k : Nat} {R : CnX} {f : Addr} {fd : FuncData} {ps : List Str} (hm : mg x = some (.ref f)) (hk : PySem.W.keepIn K (.ref f) = true) (hb : Binds K fd ps []) (F : FnOk P w K mg base (L2.CX P w) k f fd ps (spX R)) : GdX P w K mg base x k R :=
  ⟨f, fd, ps, hm, hk, hb, F⟩
end
end DL
set_option Elab.async false
set_option linter.all false
set_option maxRecDepth 100000
/-! A hand of numbers: a list that draws change, told by what stays true of it. -/
namespace DL
open PySem PySem.Spec PyProof.Rows L2
/-- a list [cells, place, rest, total] stands at h -/
def handP (c h : Addr) : Heap → Prop := fun hp => ∃ (i r t : Int) (its : List Value) (n : Nat), 0 ≤ i ∧ Vals [V.ref c, .int i, .int r, .int t] its ∧ hp.get? h = some { cls := .type "list", data := .seq its.toArray n }
theorem handP_stay {c h : Addr} (h1 h2 : Heap) (p : handP c h h1) (k : ∀ o, h1.get? h = some o → h2.get? h = some o) : handP c h h2 :=
  let ⟨i, r, t, its, n, a, b, e⟩ := p
  ⟨i, r, t, its, n, a, b, k _ e⟩
def handT : Th := ⟨fun H v => ∃ h c ns, v = .ref h ∧ H h = some (.ext (handP c h)) ∧ H c = some (.lst (List.map V.int ns)), fun H H' v e ⟨h, c, ns, a, b, d⟩ => ⟨h, c, ns, a, e _ _ b, e _ _ d⟩⟩
section
variable {P : Program} {w : World} {K : PySem.W.Frag} {mg : Str → Option Value} {base : Heap} {CXx : CXT}
/-- the same heap seen otherwise at one address -/
theorem hok_swap {H : Hp} {hp : Heap} {a : Addr} {o u : HO} (hok : HOk P w H hp) (hH : H a = some o) (ho : ∀ x, o ≠ .own x) (ho2 : ∀ xs, o ≠ .tup xs) (new : ObjOk P w (upd H a u) hp a u) : HOk P w (upd H a u) hp := fun b x e => by
  by_cases hb : b = a
  · subst hb
    rw [upd_same] at e
    cases e
    exact new
  · rw [upd_ne hb] at e
    refine (hok b x e).stay (fun _ _ _ q => q) (fun c q => ?_) fun c xs q => ?_
    · rw [upd_ne (fun z => by rw [z, hH] at q; exact ho _ (Option.some.inj q))]; exact q
    · rw [upd_ne (fun z => by rw [z, hH] at q; exact ho2 _ (Option.some.inj q))]; exact q
/-- a promise seen with other abstract heaps -/
theorem FnOk.view {k : Nat} {f : Addr} {fd : FuncData} {ps : List Str} {sp1 sp2 : Sp} (F : FnOk P w K mg base CX0 k f fd ps sp1) (len : ∀ vs H Q E, sp2 vs H Q E → vs.length = ps.length)
    (h : ∀ vs H Q E hp, sp2 vs H Q E → HOk P w H hp → ∃ H1, HOk P w H1 hp ∧ (∀ b, H b = none → H1 b = none) ∧
      sp1 vs H1 (fun v H' => ∃ H'', (∀ hp', HOk P w H' hp' → HOk P w H'' hp') ∧ (∀ b, H1 b = none → H' b = none → H'' b = none) ∧ (∀ b xs, H b = some (.tup xs) → H'' b = some (.tup xs)) ∧ (∀ b o u, H b = some (.frz o u) → H'' b = some (.frz o u)) ∧ (∀ b ps, H b = some (.tbl ps) → ∃ more, H'' b = some (.tbl (ps ++ more))) ∧ Q v H'') E) :
    FnOk P w K mg base CX0 k f fd ps sp2 := by
  refine ⟨len, fun A outer s H args us vs Q E hr e0 hb r hsp => ?_⟩
  obtain ⟨H1, hok1, hn, hs1⟩ := h vs H Q E s.heap hsp e0.hok
  refine codeAny_mono (F.run A outer s H1 args us vs _ E hr ⟨e0.frames, e0.mod, fun b o e => ⟨(e0.bs b o e).1, hn b (e0.bs b o e).2⟩, e0.bsz, e0.funs, fun b hb => hn b (e0.frf b hb), hok1, e0.bare⟩ hb r hs1) fun res s' q => ?_
  cases res with
  | error e => exact q.elim
  | ok fl =>
    cases fl with
    | next => exact q.elim
    | brk => exact q.elim
    | cont => exact q.elim
    | ret u =>
      obtain ⟨v, H', os, bare, un, hok, rv, H'', k1, k2, k3, k4, k5, q⟩ := q
      exact ⟨v, H'', os, bare, ⟨fun b o e n => un.keep b o e (hn b n), fun b o e n => un.slot b o e (hn b n), fun b o e n hx => k2 b (hn b n) (un.free b o e (hn b n) hx), un.there, k3, k4, k5⟩, k1 _ hok, rv, q⟩
/-- the hand made: a new list, and its cells -/
def spHandL (K : PySem.W.Frag) : Sp := fun vs H Q _ => ∃ (a : Addr) (ns : List Int), vs = [.ref a] ∧ SqL K H a (List.map V.int ns) ∧ ns.length ≤ 1000 ∧
  ∀ (p c : Addr) (t : Int) (ms : List Int) (H' : Hp), H p = none → H c = none → Ex H H' → H' p = some (.lst [.ref c, .int 0, .int 0, .int t]) → H' c = some (.lst (List.map V.int ms)) → Q (.ref p) H'
def RHand (K : PySem.W.Frag) : Cn := fun ts A => ∃ ns : List Int, ts = [dat K (.list (ns.map .int))] ∧ ns.length ≤ 1000 ∧ A = (· = handT)
theorem obj_hand {H : Hp} {hp : Heap} {p c : Addr} {i r t : Int} (hi : 0 ≤ i) (x : ObjOk P w H hp p (.lst [.ref c, .int i, .int r, .int t])) (H' : Hp) : ObjOk P w H' hp p (.ext (handP c p)) := by
  obtain ⟨_, its, n, rv, e⟩ := x
  exact ⟨⟨i, r, t, its, n, hi, rv, e⟩, ⟨_, e⟩, fun h1 h2 q k => handP_stay h1 h2 q k⟩
theorem lst_own {xs : List V} : ∀ x, HO.lst xs ≠ .own x := fun _ z => by cases z
theorem lst_tup {xs : List V} : ∀ ys, HO.lst xs ≠ .tup ys := fun _ z => by cases z
theorem ints_dp {K : PySem.W.Frag} {H : Hp} : ∀ {xs : List V} {ns : List Int}, DpAll K H xs (ns.map .int) → xs = ns.map V.int
  | [], [], _ => rfl
  | v :: vs, b :: bs, h => by
    cases h with
    | cons h1 h2 => rw [dp_int h1, ints_dp h2]; rfl
  | [], b :: bs, h => by cases h
  | v :: vs, [], h => by cases h
theorem hand_view {k : Nat} {f : Addr} {fd : FuncData} {ps : List Str} (hl : ps.length = 1) (F : FnOk P w K mg base CX0 k f fd ps (spHandL K)) : FnOk P w K mg base CX0 k f fd ps (spT (RHand K)) := by
  refine FnOk.view F (fun vs H Q E ⟨S, ths, A, _, r, ⟨ns, e, _, _⟩, _⟩ => by rw [← r.len, e, hl]; rfl) fun vs H Q E hp ⟨S, ths, A, dom, r, ⟨ns, e, hn, eA⟩, k⟩ hok => ?_
  subst e; subst eA
  obtain ⟨v, rfl, r0⟩ := all1 r
  obtain ⟨a, xs, rfl, hq, hd⟩ := dp_lst r0
  have ex := ints_dp hd
  subst ex
  refine ⟨H, hok, fun b h => h, a, ns, rfl, ex_l hide_le hq, hn, fun p c t ms H' hp0 hc0 e1 h1 h2 => ?_⟩
  have ncp : c ≠ p := fun z => by
    rw [z, h1] at h2
    have z2 := HO.lst.inj (Option.some.inj h2)
    cases ms with
    | nil => cases z2
    | cons m ms => injection z2 with z3 _; cases z3
  have e2 : Ex H (upd H' p (.ext (handP c p))) := fun b o hb => by
    rw [upd_ne (ne_of_none hb hp0)]
    exact e1 b o hb
  refine ⟨upd H' p (.ext (handP c p)), fun hp' hk => hok_swap hk h1 lst_own lst_tup (obj_hand (Int.le_refl 0) (hk p _ h1) _), fun b n1 n2 => ?_, fun b xs q => e2 b _ q, fun b o u q => e2 b _ q, fun b ps q => ⟨#[], by rw [e2 b _ q]; simp⟩, ?_⟩
  · rw [upd_ne (fun z => by rw [z, h1] at n2; cases n2)]
    exact n2
  · have nS : p ∉ S := dom.new hp0
    refine k handT _ _ rfl e2 ⟨p, c, ms, rfl, ?_, ?_⟩
    · rw [hide_out nS]; exact upd_same
    · rw [hide_out (dom.new hc0), upd_ne ncp]; exact h2
/-- a draw -/
def spDrawL : Sp := fun vs H Q _ => ∃ (h c : Addr) (m i r t : Int) (ns : List Int), vs = [.ref h, .int m] ∧ 0 < m ∧ m < 2 ^ 64 ∧ H h = some (.lst [.ref c, .int i, .int r, .int t]) ∧ 0 ≤ i ∧ H c = some (.lst (List.map V.int ns)) ∧
  ∀ (q i' r' t' : Int) (H' : Hp), 0 ≤ q → q < m → 0 ≤ i' → Ex (upd H h (.lst [.ref c, .int i', .int r', .int t'])) H' → Q (.int q) H'
def RDraw (K : PySem.W.Frag) : Cn := fun ts A => ∃ m : Int, ts = [handT, dat K (.int m)] ∧ 0 < m ∧ m < 2 ^ 64 ∧ A = isI K (fun q => 0 ≤ q ∧ q < m)
theorem draw_view {k : Nat} {f : Addr} {fd : FuncData} {ps : List Str} (hl : ps.length = 2) (F : FnOk P w K mg base CX0 k f fd ps spDrawL) : FnOk P w K mg base CX0 k f fd ps (spT (RDraw K)) := by
  refine FnOk.view F (fun vs H Q E ⟨S, ths, A, _, r, ⟨m, e, _, _⟩, _⟩ => by rw [← r.len, e, hl]; rfl) fun vs H Q E hp ⟨S, ths, A, dom, r, ⟨m, e, hm, hm2, eA⟩, k⟩ hok => ?_
  subst e; subst eA
  obtain ⟨v, u, rfl, ⟨h, c, ns, rfl, hh, hc⟩, r1⟩ := all2 r
  have := dp_int r1
  subst this
  have hh' : H h = some (.ext (handP c h)) := hide_le _ _ hh
  have hc' : H c = some (.lst (List.map V.int ns)) := hide_le _ _ hc
  have nch : c ≠ h := ne_of hc' hh' (fun z => nomatch z)
  have hob : ObjOk P w H hp h (.ext (handP c h)) := hok h _ hh'
  obtain ⟨⟨i, rr, t, its, n, hi, rv, eo⟩, _, _⟩ := hob
  have ext_own : ∀ x, HO.ext (handP c h) ≠ .own x := fun _ z => by cases z
  have ext_tup : ∀ x, HO.ext (handP c h) ≠ .tup x := fun _ z => by cases z
  have nb : ∀ {b : Addr}, H b = none → b ≠ h := fun {b} z q => by rw [q, hh'] at z; cases z
  refine ⟨upd H h (.lst [.ref c, .int i, .int rr, .int t]), hok_swap hok hh' ext_own ext_tup ⟨by show 4 ≤ sizeLine; decide, its, n, rv, eo⟩, fun b z => by rw [upd_ne (nb z)]; exact z, ?_⟩
  refine ⟨h, c, m, i, rr, t, ns, rfl, hm, hm2, upd_same, hi, by rw [upd_ne nch]; exact hc', fun q i' r' t' H' q0 q1 hi' e1 => ?_⟩
  rw [upd_upd] at e1
  have h1 : H' h = some (.lst [.ref c, .int i', .int r', .int t']) := e1 h _ upd_same
  have e2 : Ex H (upd H' h (.ext (handP c h))) := fun b o hb => by
    by_cases z : b = h
    · rw [z, upd_same, ← hh', ← z]; exact hb
    · rw [upd_ne z]
      exact e1 b o (by rw [upd_ne z]; exact hb)
  refine ⟨upd H' h (.ext (handP c h)), fun hp' hk => hok_swap hk h1 lst_own lst_tup (obj_hand hi' (hk h _ h1) _), fun b n1 n2 => ?_, fun b xs q => e2 b _ q, fun b o u q => e2 b _ q, fun b ps q => ⟨#[], by rw [e2 b _ q]; simp⟩, k (dat K (.int q)) _ _ ⟨q, rfl, q0, q1⟩ e2 (Dp.int q)⟩
  rw [upd_ne (fun z => by rw [z, h1] at n2; cases n2)]
  exact n2
/-- reading a place of the hand -/
theorem rd {σ : L2.St} {H : Hp} {h : Addr} {xs : List V} {Q : VK} (hσ : σ[0]? = some (some (.ref h))) (hH : H h = some (.lst xs)) {j : Int} {v : V} (e : atI xs j = some v) (q : Q v H) : tOp (rIxL K) (tVar 0) (tC (.int j)) σ H Q :=
  ⟨_, hσ, h, xs, j, v, rfl, rfl, SqL.of hH, e, q⟩
end
/-- the mixing of two numbers -/
def RMix (K : PySem.W.Frag) : Cn := fun ts A => ∃ a b : Int, ts = [dat K (.int a), dat K (.int b)] ∧ A = isI K (fun _ => True)
theorem fmod_lt {a b : Int} (h : 0 < b) : 0 ≤ a.fmod b ∧ a.fmod b < b := by
  rw [Int.fmod_eq_emod_of_nonneg a (by omega)]
  exact ⟨Int.emod_nonneg a (by omega), Int.emod_lt_of_pos a h⟩
theorem mulR {i j : Int} (h : -(2 ^ 64) < j ∧ j < 2 ^ 64) : IntMulOk i j := CMul.ok (Or.inr h)
theorem mulL {i j : Int} (h : -(2 ^ 64) < i ∧ i < 2 ^ 64) : IntMulOk i j := CMul.ok (Or.inl h)
theorem dvS {i j : Int} (h0 : j ≠ 0) (h : j.natAbs < 2 ^ 64) : CDv i j := ⟨h0, Nat.lt_of_lt_of_le (PySem.Flt.log2_lt_of (by decide) h) (by decide)⟩
end DL
set_option Elab.async false
set_option linter.all false
set_option maxRecDepth 100000
/-! Ratios and couples of them. -/
namespace DL
open PySem PySem.Spec PyProof.Rows L2
section
variable {X : Cx} {Δ : List Sl} {e : Expr}
theorem PB.is {k k' : Bool} (h : PB X Δ e k) (q : k = k') : PB X Δ e k' := q ▸ h
theorem PD.is {t t' : Th} (h : PD X Δ e t) (q : t = t') : PD X Δ e t' := q ▸ h
/-- a weaker reading -/
theorem PX.cast {A B : Th → Prop} (h : PX X Δ e A) (i : ∀ t, A t → ∃ t', B t' ∧ ∀ H v, t.R H v → t'.R H v) : PX X Δ e B := by
  obtain ⟨t, p, f⟩ := h
  refine ⟨t, p, fun S0 M0 H0 σ H S hA Q q => f S0 M0 H0 σ H S hA Q fun th v H2 x e2 r => ?_⟩
  obtain ⟨t', b, r'⟩ := i th x
  exact q t' v H2 b e2 (r' _ _ r)
/-- a test whose answer is not known -/
def PBE (X : Cx) (Δ : List Sl) (e : Expr) : Prop :=
  ∃ t : TT, PT X e t ∧ ∀ S0 M0 H0 σ H S, At S0 M0 H0 Δ σ H S → ∀ Q : Bool → Hp → Prop, (∀ b H2, Ex H H2 → Q b H2) → t σ H Q
theorem pbe_cmpI {a b : Expr} {pos : Pos} {op : CmpOp} {g : Int → Int → Bool} {Pa Pb : Int → Prop} (ho : OpR X (compareOp op) (rI0 fun i j => .bl (g i j))) (ha : PX X Δ a (isI X.K Pa)) (hb : PX X Δ b (isI X.K Pb)) (hm : behindInMarks op b = false) : PBE X Δ (.Compare a [op] [b] pos) := by
  obtain ⟨ta, pa, fa⟩ := ha
  obtain ⟨tb, pb, fb⟩ := hb
  refine ⟨_, pt_cmpR ho pa pb hm, fun S0 M0 H0 σ H S hA Q q => ?_⟩
  refine fa S0 M0 H0 σ H S hA _ fun x v H1 ⟨i, hx, _⟩ e1 rx => fb S0 M0 H0 σ H1 S (hA.up e1) _ fun y w H2 ⟨j, hy, _⟩ e2 ry => ?_
  subst hx; subst hy
  exact ⟨i, j, dp_int rx, dp_int ry, _, rfl, q _ H2 (e1.trans e2)⟩
theorem pbe_eq {a b : Expr} {pos : Pos} {Pa Pb : Int → Prop} (ha : PX X Δ a (isI X.K Pa)) (hb : PX X Δ b (isI X.K Pb)) : PBE X Δ (.Compare a [.Eq] [b] pos) := by
  obtain ⟨ta, pa, fa⟩ := ha
  obtain ⟨tb, pb, fb⟩ := hb
  refine ⟨_, pt_cmpR op_eq pa pb (nomark _), fun S0 M0 H0 σ H S hA Q q => ?_⟩
  refine fa S0 M0 H0 σ H S hA _ fun x v H1 ⟨i, hx, _⟩ e1 rx => fb S0 M0 H0 σ H1 S (hA.up e1) _ fun y w H2 ⟨j, hy, _⟩ e2 ry => ?_
  subst hx; subst hy
  have h1 := dp_int rx
  have h2 := dp_int ry
  subst h1; subst h2
  exact ⟨rfl, _, rfl, q _ H2 (e1.trans e2)⟩
theorem sd_ifE {P : Post} {W : WX} {c : Expr} {body els rest : List Stmt} {pos : Pos} (hc : PBE X Δ c) (h1 : SD X W body { P with nx := fun Δ' => SD X W rest P Δ' } Δ) (h2 : SD X W els { P with nx := fun Δ' => SD X W rest P Δ' } Δ) : SD X W (.If c body els pos :: rest) P Δ := by
  refine sd_cons ?_
  obtain ⟨t, p, f⟩ := hc
  obtain ⟨u, pu, fu⟩ := h1
  obtain ⟨w, pw, fw⟩ := h2
  refine ⟨_, ps_if p pu pw, fun S0 M0 H0 σ H S hA D le xw => f S0 M0 H0 σ H S hA _ fun b H1 e1 => ?_⟩
  cases b with
  | true => exact fu S0 M0 H0 σ H1 S (hA.up e1) D le xw
  | false => exact fw S0 M0 H0 σ H1 S (hA.up e1) D le xw
/-- a and b, b's answer not known -/
theorem pbe_and2 {a b : Expr} {pos : Pos} {k : Bool} (ha : PB X Δ a k) (hb : k = true → PBE X Δ b) : PBE X Δ (.BoolOp .And [a, b] pos) := by
  obtain ⟨t, p, f⟩ := ha
  cases k with
  | true =>
    obtain ⟨u, p', f'⟩ := hb rfl
    exact ⟨_, (pw_and p (pw_and1 p')).pt, fun S0 M0 H0 σ H S hA Q q => f S0 M0 H0 σ H S hA _ fun H1 e1 => f' S0 M0 H0 σ H1 S (hA.up e1) _ fun b H2 e2 => q b H2 (e1.trans e2)⟩
  | false =>
    obtain ⟨u, p'⟩ := never_w (X := X) (e := .BoolOp .And [b] pos)
    exact ⟨_, (pw_and p p').pt, fun S0 M0 H0 σ H S hA Q q => f S0 M0 H0 σ H S hA _ fun H1 e1 => q _ H1 e1⟩
/-- a list's truth -/
theorem pb_list {d : PyData} {ds : List PyData} (h : PD X Δ e (dat X.K d)) (hd : d = .list ds ∨ d = .tuple ds) (he : ∀ whole, isTrue e X.env whole = (do let v ← whole; standAt e.pos; holding [v] (truthy v)) := by intro _; rfl) : PB X Δ e (!ds.isEmpty) := by
  obtain ⟨t, p, f⟩ := h
  refine ⟨_, pt_truth p he, fun S0 M0 H0 σ H S hA Q q => f S0 M0 H0 σ H S hA _ fun th v H2 ht e2 r => ?_⟩
  subst ht
  have em : ∀ {xs : List V} {H : Hp}, DpAll X.K H xs ds → (!xs.isEmpty) = !ds.isEmpty := fun {xs H} h => by
    have := dpa_len h
    cases xs <;> cases ds <;> first | rfl | (simp at this)
  rcases hd with rfl | rfl
  · obtain ⟨a, xs, rfl, hq, hx⟩ := dp_lst r
    exact ⟨_, Or.inl ⟨xs, ex_l hide_le hq, rfl⟩, by rw [em hx]; exact q H2 e2⟩
  · obtain ⟨a, xs, rfl, hq, hx⟩ := dp_tup r
    exact ⟨_, Or.inr (Or.inl ⟨xs, ex_t hide_le hq, rfl⟩), by rw [em hx]; exact q H2 e2⟩
/-- an item at a place that is not known -/
theorem px_ixX {a b : Expr} {pos : Pos} {D : PyData} {Pi : Int → Prop} {C : Th → Prop} (ha : PD X Δ a (dat X.K D)) (hb : PX X Δ b (isI X.K Pi)) (h : ∀ i, Pi i → ∃ d, ixD D i = some d ∧ C (dat X.K d)) (hs : PlainIx b := by exact fun _ _ => rfl) : PX X Δ (.Subscript a b pos) C :=
  px_two (r := fun x y H Q => rIxL X.K x y H Q ∨ rIxT X.K x y H Q) (fun _ _ pa pb => pe_ix (ix_list.or ix_tup) pa pb hs) ha hb fun S H x y v w _ hx ⟨k, hy, hk⟩ rx ry Q q => by
    subst hx; subst hy
    have e2 := dp_int ry
    subst e2
    obtain ⟨d, hix, hc⟩ := h k hk
    cases D with
    | tuple ds =>
      obtain ⟨p, xs, rfl, hq, hd⟩ := dp_tup rx
      obtain ⟨u, e1, r⟩ := dpa_at hd (show atI ds k = some d from hix)
      exact Or.inr ⟨p, xs, k, u, rfl, rfl, ex_t hide_le hq, e1, q _ u H hc (Ex.refl H) r⟩
    | list ds =>
      obtain ⟨p, xs, rfl, hq, hd⟩ := dp_lst rx
      obtain ⟨u, e1, r⟩ := dpa_at hd (show atI ds k = some d from hix)
      exact Or.inl ⟨p, xs, k, u, rfl, rfl, ex_l hide_le hq, e1, q _ u H hc (Ex.refl H) r⟩
    | none => cases hix
    | bool _ => cases hix
    | int _ => cases hix
    | str _ => cases hix
    | dict _ => cases hix
end
abbrev Q := Int × Int
abbrev Cp := Q × Q
def gI (i j : Int) : Int := ((Nat.gcd i.natAbs j.natAbs : Nat) : Int)
def sgI (i j : Int) : Int := if j < 0 then -gI i j else gI i j
def lowQ (i j : Int) : Q := (i.fdiv (sgI i j), j.fdiv (sgI i j))
def plusQ (a b : Q) : Q := lowQ (a.1 * b.2 + b.1 * a.2) (a.2 * b.2)
def minusQ (a b : Q) : Q := lowQ (a.1 * b.2 - b.1 * a.2) (a.2 * b.2)
def timesQ (a b : Q) : Q := lowQ (a.1 * b.1) (a.2 * b.2)
def negQ (a : Q) : Q := (-a.1, a.2)
def signI (i : Int) : Int := if i = 0 then 0 else if 0 < i then 1 else -1
def cmpQ (a b : Q) : Int := signI (a.1 * b.2 - b.1 * a.2)
def rD (q : Q) : PyData := .tuple [.int q.1, .int q.2]
def cD (p : Cp) : PyData := .tuple [rD p.1, rD p.2]
/-- below 2 ^ n, the bottom above 0 -/
structure Sm (n : Nat) (q : Q) : Prop where
  t : q.1.natAbs < 2 ^ n
  b : q.2.natAbs < 2 ^ n
  p : 0 < q.2
/-- in lowest terms -/
def Low (q : Q) : Prop := Nat.gcd q.1.natAbs q.2.natAbs = 1 ∧ 0 < q.2
theorem gI_pos {i j : Int} (h : j ≠ 0) : 0 < gI i j := by
  unfold gI
  have : 0 < Nat.gcd i.natAbs j.natAbs := Nat.gcd_pos_of_pos_right _ (by omega)
  omega
theorem sgI_ne {i j : Int} (h : j ≠ 0) : sgI i j ≠ 0 := by
  have := gI_pos (i := i) h
  unfold sgI
  split <;> omega
theorem sgI_abs {i j : Int} : (sgI i j).natAbs = Nat.gcd i.natAbs j.natAbs := by
  unfold sgI gI
  split
  · rw [Int.natAbs_neg, Int.natAbs_natCast]
  · rw [Int.natAbs_natCast]
/-- what the lowest terms are -/
theorem low_spec {i j : Int} (h : j ≠ 0) : ∃ s k l : Int, s ≠ 0 ∧ i = s * k ∧ j = s * l ∧ lowQ i j = (k, l) ∧ 0 < l ∧ Nat.gcd k.natAbs l.natAbs = 1 ∧ s = sgI i j := by
  have hs := sgI_ne (i := i) h
  have hg : (gI i j) ∣ i := by
    unfold gI
    exact Int.ofNat_dvd_left.mpr (Nat.gcd_dvd_left _ _)
  have hg2 : (gI i j) ∣ j := by
    unfold gI
    exact Int.ofNat_dvd_left.mpr (Nat.gcd_dvd_right _ _)
  have hd : sgI i j ∣ i := by
    unfold sgI
    split
    · exact Int.neg_dvd.mpr hg
    · exact hg
  have hd2 : sgI i j ∣ j := by
    unfold sgI
    split
    · exact Int.neg_dvd.mpr hg2
    · exact hg2
  obtain ⟨k, ek⟩ := hd
  obtain ⟨l, el⟩ := hd2
  have e1 : i.fdiv (sgI i j) = k := by
    have : (sgI i j * k).fdiv (sgI i j) = k := Int.mul_fdiv_cancel_left _ hs
    rw [← ek] at this
    exact this
  have e2 : j.fdiv (sgI i j) = l := by
    have : (sgI i j * l).fdiv (sgI i j) = l := Int.mul_fdiv_cancel_left _ hs
    rw [← el] at this
    exact this
  have gp := gI_pos (i := i) h
  have hl : 0 < l := by
    rcases Int.lt_or_lt_of_ne h with hj | hj
    · have es : sgI i j = -gI i j := if_pos hj
      rw [es] at el
      rcases Int.lt_trichotomy l 0 with z | z | z
      · have := Int.mul_pos_of_neg_of_neg (show -gI i j < 0 by omega) z
        omega
      · rw [z] at el; simp at el; omega
      · exact z
    · have es : sgI i j = gI i j := if_neg (by omega)
      rw [es] at el
      rcases Int.lt_trichotomy l 0 with z | z | z
      · have := Int.mul_neg_of_pos_of_neg gp z
        omega
      · rw [z] at el; simp at el; omega
      · exact z
  refine ⟨sgI i j, k, l, hs, ek, el, by unfold lowQ; rw [e1, e2], hl, ?_, rfl⟩
  have h1 : Nat.gcd i.natAbs j.natAbs = (sgI i j).natAbs * Nat.gcd k.natAbs l.natAbs := by
    have a1 : i.natAbs = (sgI i j).natAbs * k.natAbs := by rw [← Int.natAbs_mul, ← ek]
    have a2 : j.natAbs = (sgI i j).natAbs * l.natAbs := by rw [← Int.natAbs_mul, ← el]
    rw [a1, a2, Nat.gcd_mul_left]
  rw [← sgI_abs] at h1
  have hp : 0 < (sgI i j).natAbs := by omega
  have h2 : (sgI i j).natAbs * 1 = (sgI i j).natAbs * Nat.gcd k.natAbs l.natAbs := by rw [Nat.mul_one]; exact h1
  exact (Nat.eq_of_mul_eq_mul_left hp h2).symm
theorem low_low {i j : Int} (h : j ≠ 0) : Low (lowQ i j) := by
  obtain ⟨s, k, l, _, _, _, e, hl, hg, _⟩ := low_spec (i := i) h
  rw [e]
  exact ⟨hg, hl⟩
theorem abs_le_mul {s k : Int} (h : s ≠ 0) : k.natAbs ≤ (s * k).natAbs := by
  rw [Int.natAbs_mul]
  exact Nat.le_mul_of_pos_left _ (by omega)
theorem low_sm {i j : Int} {n : Nat} (h : j ≠ 0) (hi : i.natAbs < 2 ^ n) (hj : j.natAbs < 2 ^ n) : Sm n (lowQ i j) := by
  obtain ⟨s, k, l, hs, ei, ej, e, hl, _, _⟩ := low_spec (i := i) h
  rw [e]
  have h1 := abs_le_mul (k := k) hs
  have h2 := abs_le_mul (k := l) hs
  rw [← ei] at h1
  rw [← ej] at h2
  exact ⟨Nat.lt_of_le_of_lt h1 hi, Nat.lt_of_le_of_lt h2 hj, hl⟩
theorem low_id {q : Q} (h : Low q) : lowQ q.1 q.2 = q := by
  obtain ⟨hg, hp⟩ := h
  have e1 : gI q.1 q.2 = 1 := by unfold gI; rw [hg]; rfl
  have e2 : sgI q.1 q.2 = 1 := by unfold sgI; rw [if_neg (by omega), e1]
  unfold lowQ
  rw [e2, Int.fdiv_one, Int.fdiv_one]
theorem mul_ab {a b : Int} {n m : Nat} (ha : a.natAbs < 2 ^ n) (hb : b.natAbs < 2 ^ m) : (a * b).natAbs < 2 ^ (n + m) := by
  rw [Int.natAbs_mul, Nat.pow_add]
  exact Nat.mul_lt_mul'' ha hb
theorem add_ab {a b : Int} {n : Nat} (ha : a.natAbs < 2 ^ n) (hb : b.natAbs < 2 ^ n) : (a + b).natAbs < 2 ^ (n + 1) := by
  have := Int.natAbs_add_le a b
  rw [Nat.pow_succ]
  omega
theorem sub_ab {a b : Int} {n : Nat} (ha : a.natAbs < 2 ^ n) (hb : b.natAbs < 2 ^ n) : (a - b).natAbs < 2 ^ (n + 1) := by
  have h : a - b = a + (-b) := by omega
  rw [h]
  exact add_ab ha (by rw [Int.natAbs_neg]; exact hb)
theorem up_ab {a : Int} {n m : Nat} (h : a.natAbs < 2 ^ n) (l : n ≤ m) : a.natAbs < 2 ^ m := Nat.lt_of_lt_of_le h (Nat.pow_le_pow_right (by decide) l)
theorem Sm.up {n m : Nat} {q : Q} (h : Sm n q) (l : n ≤ m) : Sm m q := ⟨up_ab h.t l, up_ab h.b l, h.p⟩
theorem Sm.pos {n : Nat} {q : Q} (h : Sm n q) : 0 < n := by
  rcases Nat.eq_zero_or_pos n with z | z
  · have := h.b
    have := h.p
    subst z
    simp at *
    omega
  · exact z
theorem sm_bot {n m : Nat} {a b : Q} (ha : Sm n a) (hb : Sm m b) : a.2 * b.2 ≠ 0 := by
  have := Int.mul_pos ha.p hb.p
  omega
theorem sm_plus {n m : Nat} {a b : Q} (ha : Sm n a) (hb : Sm m b) : Sm (n + m + 1) (plusQ a b) :=
  low_sm (sm_bot ha hb) (add_ab (mul_ab ha.t hb.b) (by rw [Nat.add_comm]; exact mul_ab hb.t ha.b)) (up_ab (mul_ab ha.b hb.b) (Nat.le_succ _))
theorem sm_minus {n m : Nat} {a b : Q} (ha : Sm n a) (hb : Sm m b) : Sm (n + m + 1) (minusQ a b) :=
  low_sm (sm_bot ha hb) (sub_ab (mul_ab ha.t hb.b) (by rw [Nat.add_comm]; exact mul_ab hb.t ha.b)) (up_ab (mul_ab ha.b hb.b) (Nat.le_succ _))
theorem sm_times {n m : Nat} {a b : Q} (ha : Sm n a) (hb : Sm m b) : Sm (n + m) (timesQ a b) :=
  low_sm (sm_bot ha hb) (mul_ab ha.t hb.t) (mul_ab ha.b hb.b)
theorem sm_neg {n : Nat} {a : Q} (ha : Sm n a) : Sm n (negQ a) := ⟨by show (-a.1).natAbs < _; rw [Int.natAbs_neg]; exact ha.t, ha.b, ha.p⟩
theorem okM {i j : Int} {n m : Nat} (ha : i.natAbs < 2 ^ n) (hb : j.natAbs < 2 ^ m) (h : n + m ≤ 900000) : IntMulOk i j :=
  CMulW.ok (wide_mul (up_ab ha (Nat.le_succ n)) (up_ab hb (Nat.le_succ m)) (Nat.succ_pos _) (Nat.succ_pos _) (by omega))
theorem okD {i j : Int} {n : Nat} (h : j ≠ 0) (hj : j.natAbs < 2 ^ n) (hn : n < 9000) (i0 : Int) : CDv i0 (sgI i j) := by
  refine ⟨sgI_ne h, ?_⟩
  rw [sgI_abs]
  have h1 : Nat.gcd i.natAbs j.natAbs ≤ j.natAbs := Nat.le_of_dvd (by omega) (Nat.gcd_dvd_right _ _)
  have h2 : Nat.gcd i.natAbs j.natAbs < 2 ^ (n + 1) := Nat.lt_of_le_of_lt h1 (Nat.lt_of_lt_of_le hj (Nat.pow_le_pow_right (by decide) (Nat.le_succ n)))
  exact Nat.lt_of_lt_of_le (PySem.Flt.log2_lt_of (Nat.succ_pos n) (show (Int.ofNat (Nat.gcd i.natAbs j.natAbs)).natAbs < _ from h2)) (by omega)
/-! what the defs ask and give -/
def RLow (K : PySem.W.Frag) : Cn := fun ts A => ∃ (i j : Int) (n : Nat), ts = [dat K (.int i), dat K (.int j)] ∧ j ≠ 0 ∧ j.natAbs < 2 ^ n ∧ n < 9000 ∧ A = (· = dat K (rD (lowQ i j)))
def R2Q (K : PySem.W.Frag) (f : Q → Q → Q) : Cn := fun ts A => ∃ (a b : Q) (n m : Nat), ts = [dat K (rD a), dat K (rD b)] ∧ Sm n a ∧ Sm m b ∧ n + m ≤ 8000 ∧ A = (· = dat K (rD (f a b)))
def RNeg (K : PySem.W.Frag) : Cn := fun ts A => ∃ a : Q, ts = [dat K (rD a)] ∧ A = (· = dat K (rD (negQ a)))
def RSign (K : PySem.W.Frag) : Cn := fun ts A => ∃ i : Int, ts = [dat K (.int i)] ∧ A = (· = dat K (.int (signI i)))
def RCmp (K : PySem.W.Frag) : Cn := fun ts A => ∃ (a b : Q) (n m : Nat), ts = [dat K (rD a), dat K (rD b)] ∧ Sm n a ∧ Sm m b ∧ n + m ≤ 8000 ∧ A = (· = dat K (.int (cmpQ a b)))
def RGcd (K : PySem.W.Frag) : Cn := fun ts A => ∃ i j : Int, ts = [dat K (.int i), dat K (.int j)] ∧ A = (· = dat K (.int (gI i j)))
/-- couples -/
structure CSm (n : Nat) (p : Cp) : Prop where
  x : Sm n p.1
  y : Sm n p.2
def addC (p q : Cp) : Cp := (plusQ p.1 q.1, plusQ p.2 q.2)
def lessC (p q : Cp) : Cp := (minusQ p.1 q.1, minusQ p.2 q.2)
def scC (p : Cp) (r : Q) : Cp := (timesQ p.1 r, timesQ p.2 r)
def dotC (p q : Cp) : Q := plusQ (timesQ p.1 q.1) (timesQ p.2 q.2)
def crossC (p q : Cp) : Q := minusQ (timesQ p.1 q.2) (timesQ p.2 q.1)
def quarC (p : Cp) : Cp := (negQ p.2, p.1)
def cmpC (p q : Cp) : Int := if cmpQ p.1 q.1 = 0 then cmpQ p.2 q.2 else cmpQ p.1 q.1
theorem csm_add {n m : Nat} {p q : Cp} (h : CSm n p) (g : CSm m q) : CSm (n + m + 1) (addC p q) := ⟨sm_plus h.x g.x, sm_plus h.y g.y⟩
theorem csm_less {n m : Nat} {p q : Cp} (h : CSm n p) (g : CSm m q) : CSm (n + m + 1) (lessC p q) := ⟨sm_minus h.x g.x, sm_minus h.y g.y⟩
theorem csm_sc {n m : Nat} {p : Cp} {r : Q} (h : CSm n p) (g : Sm m r) : CSm (n + m) (scC p r) := ⟨sm_times h.x g, sm_times h.y g⟩
theorem sm_dot {n m : Nat} {p q : Cp} (h : CSm n p) (g : CSm m q) : Sm (n + m + (n + m) + 1) (dotC p q) := sm_plus (sm_times h.x g.x) (sm_times h.y g.y)
theorem sm_cross {n m : Nat} {p q : Cp} (h : CSm n p) (g : CSm m q) : Sm (n + m + (n + m) + 1) (crossC p q) := sm_minus (sm_times h.x g.y) (sm_times h.y g.x)
theorem csm_quar {n : Nat} {p : Cp} (h : CSm n p) : CSm n (quarC p) := ⟨sm_neg h.y, h.x⟩
theorem CSm.up {n m : Nat} {p : Cp} (h : CSm n p) (l : n ≤ m) : CSm m p := ⟨h.x.up l, h.y.up l⟩
def R2C (K : PySem.W.Frag) (f : Cp → Cp → Cp) : Cn := fun ts A => ∃ (p q : Cp) (n m : Nat), ts = [dat K (cD p), dat K (cD q)] ∧ CSm n p ∧ CSm m q ∧ n + m ≤ 7000 ∧ A = (· = dat K (cD (f p q)))
def R2CQ (K : PySem.W.Frag) (f : Cp → Cp → Q) : Cn := fun ts A => ∃ (p q : Cp) (n m : Nat), ts = [dat K (cD p), dat K (cD q)] ∧ CSm n p ∧ CSm m q ∧ n + m ≤ 2000 ∧ A = (· = dat K (rD (f p q)))
def RSc (K : PySem.W.Frag) : Cn := fun ts A => ∃ (p : Cp) (r : Q) (n m : Nat), ts = [dat K (cD p), dat K (rD r)] ∧ CSm n p ∧ Sm m r ∧ n + m ≤ 8000 ∧ A = (· = dat K (cD (scC p r)))
def RQuar (K : PySem.W.Frag) : Cn := fun ts A => ∃ p : Cp, ts = [dat K (cD p)] ∧ A = (· = dat K (cD (quarC p)))
def R2CI (K : PySem.W.Frag) (f : Cp → Cp → Int) : Cn := fun ts A => ∃ (p q : Cp) (n m : Nat), ts = [dat K (cD p), dat K (cD q)] ∧ CSm n p ∧ CSm m q ∧ n + m ≤ 2000 ∧ A = (· = dat K (.int (f p q)))
end DL
set_option Elab.async false
set_option linter.all false
set_option maxRecDepth 100000
/-! What the defs over ratios and couples ask and give; a few rules more. -/
namespace DL
open PySem PySem.Spec PyProof.Rows L2
section
variable {X : Cx} {Δ : List Sl} {e a b b1 b2 : Expr} {es : List Expr} {pos : Pos} {P : Post} {W : WX}
/-- [elt for x in e], each item by f -/
theorem pd_lcD {x : Str} {px : Pos} {elt : Expr} {scope : Scope} (j : Nat) {d : PyData} {ds : List PyData} (f : PyData → PyData) (he : PD X Δ e (dat X.K d)) (hd : d = .tuple ds ∨ d = .list ds) (hz : ds.length ≤ 40000)
    (ht : ∀ z, z ∈ ds → ∀ (s : Shared) (H : Hp) (C : Addr) (cl : List (Str × Addr)) (fp : List Addr), PD (X.blk s H scope (compEnvC scope cl C X.env) fp) ((wipeΔ Δ [j]).set j (.th (dat X.K z))) elt (dat X.K (f z)))
    (hN : X.N.Nodup) (ok : BlkOk X.N X.env.scope scope [(x, j)])
    (hg : ∀ (s : Shared) (H : Hp) (C : Addr) (cl : List (Str × Addr)) (fp : List Addr), PG (X.blk s H scope (compEnvC scope cl C X.env) fp) (.Name x px) (gName j))
    (hc : X.calm = true := by rfl) (hs : ∀ x, foldedSetIterable e X.env x = pure x := by intro _; rfl) :
    PD X Δ (.ListComp elt [⟨.Name x px, e, [], 0⟩] scope pos) (dat X.K (.list (ds.map f))) :=
  (px_lcD j (fun i w => ∃ z, ds[i]? = some z ∧ w = f z) he hd hz (fun i z hi s H C cl fp => (ht z (List.mem_of_getElem? hi) s H C cl fp).imp fun t h => ⟨f z, h, z, hi, rfl⟩) hN ok hg hc hs).imp fun t ⟨es, h1, h2, h3⟩ => by
    rw [h1]
    congr 2
    refine List.ext_getElem? fun i => ?_
    rw [List.getElem?_map]
    cases q : es[i]? with
    | none =>
      have : ds.length ≤ i := by rw [← h2]; exact List.getElem?_eq_none_iff.mp q
      rw [List.getElem?_eq_none this]; rfl
    | some w =>
      obtain ⟨z, e1, e2⟩ := h3 i w q
      rw [e1, e2]; rfl
/-- isinstance(a, (N1, N2)) -/
theorem pd_isi2 {x1 x2 : Str} {n1 n2 : String} {p p1 p2 p3 : Pos} {kk : Nat} {d : PyData} {k1 k2 : Bool} (hm : X.mg "isinstance" = none) (ha : PD X Δ a (dat X.K d)) (m1 : X.mg x1 = none) (m2 : X.mg x2 = none) (hk1 : kitB (tyD d) n1 = some k1) (hk2 : kitB (tyD d) n2 = some k2)
    (hv1 : bootBuiltins x1 = some (.type n1) := by decide +kernel) (hv2 : bootBuiltins x2 = some (.type n2) := by decide +kernel) (hg : Gl X "isinstance" := by rfl) (g1 : Gl X x1 := by rfl) (g2 : Gl X x2 := by rfl) (hn1 : x1 ≠ "__name__" := by decide) (hn2 : x2 ≠ "__name__" := by decide)
    (hd1 : (x1 == ("__debug__" : Str)) = false := by decide) (hd2 : (x2 == ("__debug__" : Str)) = false := by decide)
    (hs1 : starEach [.Name x1 p1, .Name x2 p2] X.env = (false, eval (.Name x1 p1) X.env) :: starEach [.Name x2 p2] X.env := by rfl) (hs2 : starEach [.Name x2 p2] X.env = (false, eval (.Name x2 p2) X.env) :: starEach [] X.env := by rfl)
    (he1 : starEach [.Tuple [.Name x1 p1, .Name x2 p2] kk p3] X.env = (false, eval (.Tuple [.Name x1 p1, .Name x2 p2] kk p3) X.env) :: starEach [] X.env := by rfl)
    (he : starEach [a, .Tuple [.Name x1 p1, .Name x2 p2] kk p3] X.env = (false, eval a X.env) :: starEach [.Tuple [.Name x1 p1, .Name x2 p2] kk p3] X.env := by rfl) (hpl : (backTo pos (starEach [.Tuple [.Name x1 p1, .Name x2 p2] kk p3] X.env)).any (·.1) = false := by rfl) :
    PD X Δ (.Call (.Name "isinstance" p) [a, .Tuple [.Name x1 p1, .Name x2 p2] kk p3] [] pos) (dat X.K (.bool (k1 || k2))) := by
  obtain ⟨t, pa, fa⟩ := ha
  have tt : PA X [.Tuple [.Name x1 p1, .Name x2 p2] kk p3] _ := pa_cons (pe_tup (pa_cons (pe_bltn g1 m1 hv1 (show RelV (.ty n1) _ from rfl) hn1 hd1) (pa_cons (pe_bltn g2 m2 hv2 (show RelV (.ty n2) _ from rfl) hn2 hd2) pa_nil hs2) hs1)) pa_nil he1
  refine ⟨_, pe_callB call_isiT hg hm (by decide +kernel) (pa_cons pa tt he) (by decide) (by decide) he hpl, fun S0 M0 H0 σ H S hA Q q => ?_⟩
  refine fa S0 M0 H0 σ H S hA _ fun th v H1 hth e1 r => ?_
  subst hth
  refine ⟨by show 2 ≤ sizeLine; decide, fun tp htp => ?_⟩
  refine ⟨v, tp, [.ty n1, .ty n2], _, [.type n1, .type n2], k1 || k2, rfl, upd_same, .cons (.ty n1) (.cons (.ty n2) .nil), dp_ty (dp_up (Ex.trans hide_le (Ex.new htp)) r), ?_, q _ _ _ rfl (e1.trans (Ex.new htp)) (Dp.bl _)⟩
  refine kitAny_cons (kit_ty hk1) (fun z => ?_) (fun z => by rw [z]; rfl)
  rw [z]
  exact kitAny_cons (kit_ty hk2) (fun z2 => by rw [z2]; exact kitAny_nil) (fun z2 => by rw [z2]; rfl)
end
/-- a def with defaults -/
theorem fnD_mk {P : Program} {w : World} {K : PySem.W.Frag} {mg : Str → Option Value} {base : Heap} {x qual : Str} {params : Arguments} {bd : List Stmt} {scope : Scope} {dvs : List V} {kws : List (Str × V)} {f : Addr} {fd : FuncData} {N ps : List Str} {k : Nat} {R : Cn} (F : FunD K x qual params bd scope dvs kws f fd) (Sc : FnScope N ps scope) (hl : ∀ ts A, R ts A → ts.length = ps.length)
    (body : ∀ (cdv : Value) (A : Around) (outer : List Env) (s : Shared) (H : Hp) (E : XK), Room k (A.deeper (envOfC qual scope s.heap.objs.size f cdv)) → ∀ ts B, R ts B →
      SD (cxOf CX0 P w K mg base N qual scope f cdv A outer s H E).nox (fun _ _ _ _ => False) bd (retOf K B) (startΔ N ts)) : FnOk P w K mg base CX0 (k + 1) f fd ps (spT R) := by
  refine F.ok (CX := CX0) Sc (fun vs H Q E ⟨S, ths, A, _, r, hR, _⟩ => by rw [← r.len]; exact hl _ _ hR) fun cdv A outer s H vs Q E hr ⟨S, ths, B, dom, r, hR, k⟩ => ?_
  obtain ⟨t, p, f⟩ := body cdv A outer s H E hr ths B hR
  exact ⟨t, p.nox, f S [] H _ H S (at_start dom r) _ (ends_ret k) ⟨fun _ _ _ _ _ _ _ p => p.elim, fun _ => ⟨rfl, dom⟩⟩⟩
/-! is_whole, is_ratio .. -/
def optD : Option Int → PyData
  | none => .none
  | some i => .int i
def isWh : PyData → Option Int → Option Int → Bool
  | .int i, lo, hi => (match lo with | some l => decide (l ≤ i) | none => true) && (match hi with | some h => decide (i ≤ h) | none => true)
  | _, _, _ => false
def gOne : PyData → PyData → Bool
  | .int i, .int j => gI i j == 1
  | _, _ => false
def isRat : PyData → Bool
  | .tuple [a, b] => isWh a none none && (isWh b (some 1) none && gOne a b)
  | _ => false
def isSeq : PyData → Bool
  | .list _ => true
  | .tuple _ => true
  | _ => false
def seqD : PyData → List PyData
  | .list ds => ds
  | .tuple ds => ds
  | _ => []
def isRow (d : PyData) (m : Int) : Bool := isSeq d && (((seqD d).length : Int) == m && (seqD d).all isRat)
def RWhole (K : PySem.W.Frag) : Cn := fun ts A => ∃ (d : PyData) (lo hi : Option Int), ts = [dat K d, dat K (optD lo), dat K (optD hi)] ∧ A = (· = dat K (.bool (isWh d lo hi)))
def RPred (K : PySem.W.Frag) (f : PyData → Bool) : Cn := fun ts A => ∃ d : PyData, ts = [dat K d] ∧ (seqD d).length ≤ 40000 ∧ A = (· = dat K (.bool (f d)))
def RPred0 (K : PySem.W.Frag) (f : PyData → Bool) : Cn := fun ts A => ∃ d : PyData, ts = [dat K d] ∧ A = (· = dat K (.bool (f d)))
def RRow (K : PySem.W.Frag) : Cn := fun ts A => ∃ (d : PyData) (m : Int), ts = [dat K d, dat K (.int m)] ∧ (seqD d).length ≤ 40000 ∧ A = (· = dat K (.bool (isRow d m)))
def RPlace (K : PySem.W.Frag) (C : Addr) : CnX := fun ts o => ∃ d : PyData, ts = [dat K d] ∧ (seqD d).length ≤ 40000 ∧ ((isRow d 2 = true ∧ o = .val (· = dat K (.tuple (seqD d)))) ∨ (isRow d 2 = false ∧ o = .exc C []))
/-! sums -/
def sumQ (qs : List Q) : Q := qs.foldl plusQ (0, 1)
theorem sumQ_snoc (qs : List Q) (q : Q) : sumQ (qs ++ [q]) = plusQ (sumQ qs) q := by unfold sumQ; rw [List.foldl_append]; rfl
theorem sm_zero : Sm 1 ((0, 1) : Q) := ⟨by decide, by decide, by decide⟩
theorem sm_sum {n : Nat} : ∀ (k : Nat) (qs : List Q), qs.length = k → (∀ q ∈ qs, Sm n q) → Sm (1 + k * (n + 1)) (sumQ qs) := by
  intro k
  induction k with
  | zero =>
    intro qs h _
    have e : qs = [] := List.eq_nil_of_length_eq_zero h
    subst e
    exact sm_zero.up (by omega)
  | succ k ih =>
    intro qs h hq
    have hne : qs ≠ [] := fun z => by rw [z] at h; cases h
    have e : qs = qs.dropLast ++ [qs.getLast hne] := (List.dropLast_concat_getLast hne).symm
    rw [e, sumQ_snoc]
    have h1 : Sm (1 + k * (n + 1)) (sumQ qs.dropLast) := ih _ (by rw [List.length_dropLast, h]; rfl) fun q hm => hq q (List.dropLast_subset _ hm)
    refine (sm_plus h1 (hq _ (List.getLast_mem hne))).up ?_
    rw [Nat.succ_mul]
    omega
def RSum (K : PySem.W.Frag) : Cn := fun ts A => ∃ (d : PyData) (qs : List Q) (n : Nat), ts = [dat K d] ∧ (d = .tuple (qs.map rD) ∨ d = .list (qs.map rD)) ∧ (∀ q ∈ qs, Sm n q) ∧ qs.length ≤ 30 ∧ n ≤ 200 ∧ A = (· = dat K (rD (sumQ qs)))
def meanC (ps : List Cp) : Cp := scC (sumQ (ps.map (·.1)), sumQ (ps.map (·.2))) (1, (ps.length : Int))
def RMean (K : PySem.W.Frag) : Cn := fun ts A => ∃ (d : PyData) (ps : List Cp) (n : Nat), ts = [dat K d] ∧ (d = .tuple (ps.map cD) ∨ d = .list (ps.map cD)) ∧ (∀ p ∈ ps, CSm n p) ∧ ps.length ≤ 30 ∧ 0 < ps.length ∧ n ≤ 200 ∧ A = (· = dat K (cD (meanC ps)))
def itD (k : Nat) : PyData → PyData
  | .tuple ds => ds.getD k .none
  | _ => .none
theorem map_it0 (ps : List Cp) : (ps.map cD).map (itD 0) = (ps.map (·.1)).map rD := by rw [List.map_map, List.map_map]; rfl
theorem map_it1 (ps : List Cp) : (ps.map cD).map (itD 1) = (ps.map (·.2)).map rD := by rw [List.map_map, List.map_map]; rfl
def sumC (ps : List Cp) : Cp := ps.foldl addC ((0, 1), (0, 1))
theorem sumC_snoc (ps : List Cp) (p : Cp) : sumC (ps ++ [p]) = addC (sumC ps) p := by unfold sumC; rw [List.foldl_append]; rfl
theorem sumC_eq (ps : List Cp) : sumC ps = (sumQ (ps.map (·.1)), sumQ (ps.map (·.2))) := by
  have gen : ∀ (ps : List Cp) (a b : Q), ps.foldl addC (a, b) = ((ps.map (·.1)).foldl plusQ a, (ps.map (·.2)).foldl plusQ b) := by
    intro ps
    induction ps with
    | nil => intro a b; rfl
    | cons p ps ih => intro a b; exact ih _ _
  exact gen ps (0, 1) (0, 1)
theorem take_succ' {α : Type} {l : List α} {i : Nat} {x : α} (h : l[i]? = some x) : l.take (i + 1) = l.take i ++ [x] := by
  rw [List.take_add_one, h]; rfl
end DL
set_option Elab.async false
set_option linter.all false
set_option maxRecDepth 100000
/-! Lists that were filled and are read; draws. -/
namespace DL
open PySem PySem.Spec PyProof.Rows L2
/-! data without lists -/
mutual
def lf : PyData → Bool
  | .list _ => false
  | .dict _ => false
  | .tuple ds => lfs ds
  | .none => true
  | .bool _ => true
  | .int _ => true
  | .str _ => true
def lfs : List PyData → Bool
  | [] => true
  | d :: ds => lf d && lfs ds
end
/-- what has no lists doesn't lean on lists -/
def Lsts (S : List Addr) (H : Hp) : Prop := ∀ a ∈ S, ∃ xs, H a = some (.lst xs)
theorem sq_hide {K : PySem.W.Frag} {H : Hp} {S : List Addr} {a : Addr} {xs : List V} (hS : Lsts S H) (h : SqT K H a xs) : SqT K (hide S H) a xs := by
  have out : ∀ {o : HO}, H a = some o → (∀ xs, o ≠ .lst xs) → hide S H a = some o := fun {o} e ne => by
    rw [hide_out]
    · exact e
    · intro z
      obtain ⟨ys, q⟩ := hS a z
      rw [e] at q
      exact ne ys (Option.some.inj q)
  rcases h with (h | ⟨o, h⟩) | h
  · exact Or.inl (Or.inl (out h fun _ z => by cases z))
  · exact Or.inl (Or.inr ⟨o, out h fun _ z => by cases z⟩)
  · exact Or.inr h
mutual
theorem lf_hide {K : PySem.W.Frag} {H : Hp} {S : List Addr} (hS : Lsts S H) : ∀ {d : PyData} {v : V}, lf d = true → Dp K H v d → Dp K (hide S H) v d
  | .none, _, _, .non => .non
  | .bool _, _, _, .bl b => .bl b
  | .int _, _, _, .int i => .int i
  | .str _, _, _, .str x => .str x
  | .tuple ds, _, h, .tup q a => .tup (sq_hide hS q) (lfs_hide hS (by simpa [lf] using h) a)
  | .list _, _, h, _ => by simp [lf] at h
  | .dict _, _, h, _ => by simp [lf] at h
theorem lfs_hide {K : PySem.W.Frag} {H : Hp} {S : List Addr} (hS : Lsts S H) : ∀ {ds : List PyData} {vs : List V}, lfs ds = true → DpAll K H vs ds → DpAll K (hide S H) vs ds
  | [], _, _, .nil => .nil
  | d :: ds, _, h, .cons a t => by
    have h' : lf d = true ∧ lfs ds = true := by simpa [lfs] using h
    exact .cons (lf_hide hS h'.1 a) (lfs_hide hS h'.2 t)
end
/-- S without a -/
def wo (S : List Addr) (a : Addr) : List Addr := S.filter fun b => decide (b ≠ a)
theorem mem_wo {S : List Addr} {a b : Addr} : b ∈ wo S a ↔ b ∈ S ∧ b ≠ a := by unfold wo; rw [List.mem_filter]; simp
theorem hide_wo {S : List Addr} {a : Addr} {H : Hp} : Ex (hide S H) (hide (wo S a) H) := hide_sub fun b h => (mem_wo.mp h).1
/-- one slot's list seen as data -/
theorem sls_wo {K : PySem.W.Frag} {S : List Addr} {H : Hp} {a : Addr} {xs : List V} {ds : List PyData} (hH : H a = some (.lst xs)) (hx : DpAll K (hide S H) xs ds) : ∀ {Δ : List Sl} {σ : L2.St} {i : Nat}, SlsR S H Δ σ → (∀ (n : Nat) us b, Δ[n]? = some (.ml us) → σ[n]? = some (some (V.ref b)) → n ≠ i → b ≠ a) → σ[i]? = some (some (V.ref a)) →
    SlsR (wo S a) H (Δ.set i (.th (dat K (.list ds)))) σ := by
  have one : ∀ {s : Sl} {o : Option V}, SlR S H o s → (∀ us b, s = .ml us → o = some (V.ref b) → b ≠ a) → SlR (wo S a) H o s := fun {s o} hr hn => by
    cases s with
    | no => trivial
    | th t => obtain ⟨v, e1, r⟩ := hr; exact ⟨v, e1, t.up _ _ _ hide_wo r⟩
    | ml us => obtain ⟨b, ys, q1, q2, q3, q4⟩ := hr; exact ⟨b, ys, q1, mem_wo.mpr ⟨q2, hn us b rfl q1⟩, q3, q4.up hide_wo⟩
  have all : ∀ {Δ : List Sl} {σ : L2.St}, SlsR S H Δ σ → (∀ (n : Nat) us b, Δ[n]? = some (.ml us) → σ[n]? = some (some (V.ref b)) → b ≠ a) → SlsR (wo S a) H Δ σ := by
    intro Δ
    induction Δ with
    | nil => intro σ h _; cases σ with
      | nil => trivial
      | cons _ _ => exact h.elim
    | cons s ss ih =>
      intro σ h hn
      cases σ with
      | nil => exact h.elim
      | cons o os => exact ⟨one h.1 fun us b z1 z2 => hn 0 us b (by rw [z1]; rfl) (by rw [z2]; rfl), ih h.2 fun n us b z1 z2 => hn (n + 1) us b z1 z2⟩
  intro Δ
  induction Δ with
  | nil => intro σ i h _ e; cases σ with
    | nil => simp at e
    | cons _ _ => exact h.elim
  | cons s ss ih =>
    intro σ i h hn e
    cases σ with
    | nil => exact h.elim
    | cons o os =>
      cases i with
      | zero =>
        have e' : o = some (V.ref a) := Option.some.inj e
        subst e'
        refine ⟨⟨_, rfl, Dp.lst (xs := xs) (SqL.of ?_) (dpa_up hide_wo hx)⟩, all h.2 fun n us b z1 z2 => hn (n + 1) us b z1 z2 (by omega)⟩
        rw [hide_out fun z => (mem_wo.mp z).2 rfl]
        exact hH
      | succ i => exact ⟨one h.1 fun us b z1 z2 => hn 0 us b (by rw [z1]; rfl) (by rw [z2]; rfl) (by omega), ih h.2 (fun n us b z1 z2 z3 => hn (n + 1) us b z1 z2 (by omega)) e⟩
theorem set_th_ml {Δ : List Sl} {i : Nat} {t : Th} {k : Nat} {ws : List Th} (h : (Δ.set i (.th t))[k]? = some (.ml ws)) : i ≠ k ∧ Δ[k]? = some (.ml ws) := set_ml rfl h
theorem all_dat {K : PySem.W.Frag} {H : Hp} {ds : List PyData} {xs : List V} (h : All H (ds.map (dat K)) xs) : DpAll K H xs ds := all_dpa h
section
variable {X : Cx} {Δ : List Sl} {e a b : Expr} {es : List Expr} {A B C : Th → Prop} {pos : Pos} {P : Post} {W : WX} {sts : List Stmt}
/-- a list of this def is not changed any more -/
theorem sd_freeze (i : Nat) {ds : List PyData} (h : Δ[i]? = some (.ml (ds.map (dat X.K)))) (hp : P.top = true) (k : SD X W sts P (Δ.set i (.th (dat X.K (.list ds))))) : SD X W sts P Δ := by
  obtain ⟨t, p, f⟩ := k
  refine ⟨t, p, fun S0 M0 H0 σ H S hA D le xw => ?_⟩
  obtain ⟨hM, dom0⟩ := xw.2 hp
  subst hM
  obtain ⟨o, e1, a, xs, e2, hm, hH, hx⟩ := hA.env.get h
  subst e2
  have na : H0 a = none := by
    rcases hA.own i _ a h e1 with z | z
    · cases z
    · exact z
  have aS0 : a ∉ S0 := fun z => dom0 a z na
  refine f S0 [] H0 σ H (wo S a) ⟨fun b hb => mem_wo.mpr ⟨hA.sub b hb, fun z => aS0 (z ▸ hb)⟩, hA.msub, fun b hb => hA.new b (mem_wo.mp hb).1, hA.ex, fun b hb => hA.dom b (mem_wo.mp hb).1,
    sls_wo hH (all_dat hx) hA.env (fun n us b z1 z2 z3 z => z3 (hA.apart n i us _ a z1 h (by rw [← z]; exact z2) e1)) e1, fun m j us ws b h1 h2 h3 h4 => ?_, fun m us b h1 h3 => ?_⟩ D le xw
  · exact hA.apart m j us ws b (set_th_ml h1).2 (set_th_ml h2).2 h3 h4
  · exact hA.own m us b (set_th_ml h1).2 h3
/-- an expression that reads the list that is being filled, and gives data without lists -/
theorem px_withml (i : Nat) {ds : List PyData} {Ad : PyData → Prop} (h : Δ[i]? = some (.ml (ds.map (dat X.K)))) (hl : ∀ d, Ad d → lf d = true) (k : PX X (Δ.set i (.th (dat X.K (.list ds)))) e (fun t => ∃ d, t = dat X.K d ∧ Ad d)) : PX X Δ e (fun t => ∃ d, t = dat X.K d ∧ Ad d) := by
  obtain ⟨t, p, f⟩ := k
  refine ⟨t, p, fun S0 M0 H0 σ H S hA Q q => ?_⟩
  obtain ⟨o, e1, a, xs, e2, hm, hH, hx⟩ := hA.env.get h
  subst e2
  have A2 : At (wo S a) (wo S a) H (Δ.set i (.th (dat X.K (.list ds)))) σ H (wo S a) := by
    refine ⟨fun _ z => z, fun _ z => z, fun _ z => Or.inl z, hide_le, fun b hb => hA.dom b (mem_wo.mp hb).1, sls_wo hH (all_dat hx) hA.env (fun n us b z1 z2 z3 z => z3 (hA.apart n i us _ a z1 h (by rw [← z]; exact z2) e1)) e1, fun m j us ws b h1 h2 h3 h4 => ?_, fun m us b h1 h3 => ?_⟩
    · exact hA.apart m j us ws b (set_th_ml h1).2 (set_th_ml h2).2 h3 h4
    · obtain ⟨n1, g1⟩ := set_th_ml h1
      obtain ⟨o', e1', b', ys, e2', m', _⟩ := hA.env.get g1
      rw [h3] at e1'
      have e3 := Option.some.inj e1'
      rw [← e3] at e2'
      have e4 : b = b' := V.ref.inj (Option.some.inj e2')
      refine Or.inl (mem_wo.mpr ⟨by rw [e4]; exact m', fun z => n1 ?_⟩)
      exact (hA.apart m i us _ a g1 h (by rw [← z]; exact h3) e1).symm
  refine f _ _ _ σ H _ A2 Q fun th v H2 ⟨d, ht, hd⟩ ex r => q th v H2 ⟨d, ht, hd⟩ ex ?_
  subst ht
  have r1 : Dp X.K (hide (wo S a) H2) v d := r
  have r2 := lf_hide (S := [a]) (H := hide (wo S a) H2) (fun b hb => by
    have e : b = a := by simpa using hb
    subst e
    exact ⟨xs, by rw [hide_out fun z => (mem_wo.mp z).2 rfl]; exact ex _ _ hH⟩) (hl d hd) r1
  refine dp_up (fun b o hb => ?_) r2
  have n1 : b ∉ [a] := fun z => by rw [hide_in z] at hb; cases hb
  rw [hide_out n1] at hb
  have n2 : b ∉ wo S a := fun z => by rw [hide_in z] at hb; cases hb
  rw [hide_out n2] at hb
  have n3 : b ∉ S := fun z => n2 (mem_wo.mpr ⟨z, fun y => n1 (by simp [y])⟩)
  rw [hide_out n3]
  exact hb
/-- a draw -/
theorem px_draw {x y : Str} {k i : Nat} {p p2 : Pos} {Pm : Int → Prop} (G : Gd X.prog X.w X.K X.mg X.base x k [] (RDraw X.K)) (hr : Room k X.A) (hh : Δ[i]? = some (.th handT)) (hb : PX X Δ b (isI X.K Pm)) (hP : ∀ m, Pm m → 0 < m ∧ m < 2 ^ 64)
    (hN : X.N[i]? = some y := by rfl) (hv : Vis X.env.scope y := by first | exact Or.inl rfl | exact Or.inr (Or.inl rfl) | exact Or.inr (Or.inr rfl)) (hd : (y == ("__debug__" : Str)) = false := by decide)
    (hcd : (y == ("__classdict__" : Str)) = false := by decide) (hg : Gl X x := by rfl) (hdb : (x == ("__debug__" : Str)) = false := by decide) (he1 : starEach [b] X.env = (false, eval b X.env) :: starEach [] X.env := by rfl)
    (he : starEach [.Name y p2, b] X.env = (false, eval (.Name y p2) X.env) :: starEach [b] X.env := by rfl) (hpl : (backTo pos (starEach [b] X.env)).any (·.1) = false := by rfl) :
    PX X Δ (.Call (.Name x p) [.Name y p2, b] [] pos) (isI X.K (fun q => ∃ m, Pm m ∧ 0 ≤ q ∧ q < m)) :=
  px_call G hr (pl_consA (C := fun ts => ∃ m, ts = [handT, dat X.K (.int m)] ∧ Pm m) (px_var i hh hN hv hd hcd) (pl_consA (C := fun ts => ∃ m, ts = [dat X.K (.int m)] ∧ Pm m) hb pl_nil (fun t ts ⟨m, h1, h2⟩ h3 => ⟨m, by rw [h1, h3], h2⟩) he1) (fun t ts h1 ⟨m, h2, h3⟩ => ⟨m, by rw [h1, h2], h3⟩) he)
    (fun ts ⟨m, h1, h2⟩ => ⟨_, ⟨m, by rw [h1]; rfl, (hP m h2).1, (hP m h2).2, rfl⟩, fun t ⟨q, e, q0, q1⟩ => ⟨q, e, m, h2, q0, q1⟩⟩) hg hdb he hpl
/-- a ratio of numbers that are not known -/
theorem px_ratio {x : Str} {k n : Nat} {p : Pos} (G : Gd X.prog X.w X.K X.mg X.base x k [] (RLow X.K)) (hr : Room k X.A) (hn : n < 9000) (ha : PX X Δ a (isI X.K (fun i => i.natAbs < 2 ^ n))) (hb : PX X Δ b (isI X.K (fun j => 0 < j ∧ j.natAbs < 2 ^ n)))
    (hg : Gl X x := by rfl) (hdb : (x == ("__debug__" : Str)) = false := by decide) (he1 : starEach [b] X.env = (false, eval b X.env) :: starEach [] X.env := by rfl)
    (he : starEach [a, b] X.env = (false, eval a X.env) :: starEach [b] X.env := by rfl) (hpl : (backTo pos (starEach [b] X.env)).any (·.1) = false := by rfl) :
    PX X Δ (.Call (.Name x p) [a, b] [] pos) (fun t => ∃ q, t = dat X.K (rD q) ∧ Sm n q ∧ Low q) :=
  px_call G hr (pl_consA (C := fun ts => ∃ i j : Int, ts = [dat X.K (.int i), dat X.K (.int j)] ∧ i.natAbs < 2 ^ n ∧ 0 < j ∧ j.natAbs < 2 ^ n) ha (pl_consA (C := fun ts => ∃ j : Int, ts = [dat X.K (.int j)] ∧ 0 < j ∧ j.natAbs < 2 ^ n) hb pl_nil (fun t ts ⟨m, h1, h2⟩ h3 => ⟨m, by rw [h1, h3], h2⟩) he1) (fun t ts ⟨i, h1, h2⟩ ⟨j, h3, h4⟩ => ⟨i, j, by rw [h1, h3], h2, h4⟩) he)
    (fun ts ⟨i, j, h1, h2, h3, h4⟩ => ⟨_, ⟨i, j, n, by rw [h1]; rfl, by omega, h4, hn, rfl⟩, fun t ht => ⟨_, ht, low_sm (by omega) h2 h4, low_low (by omega)⟩⟩) hg hdb he hpl
/-- a place of something that is not known -/
theorem px_ixP {Pi : Int → Prop} (ha : PX X Δ a A) (hb : PX X Δ b (isI X.K Pi)) (h : ∀ t i, A t → Pi i → ∃ D d, t = dat X.K D ∧ ixD D i = some d ∧ C (dat X.K d)) (hs : PlainIx b := by exact fun _ _ => rfl) : PX X Δ (.Subscript a b pos) C :=
  px_two (r := fun x y H Q => rIxL X.K x y H Q ∨ rIxT X.K x y H Q) (fun _ _ pa pb => pe_ix (ix_list.or ix_tup) pa pb hs) ha hb fun S H x y v w _ hx ⟨k, hy, hk⟩ rx ry Q q => by
    subst hy
    have e2 := dp_int ry
    subst e2
    obtain ⟨D, d, ex, hix, hc⟩ := h x k hx hk
    subst ex
    cases D with
    | tuple ds =>
      obtain ⟨p, xs, rfl, hq, hd⟩ := dp_tup rx
      obtain ⟨u, e1, r⟩ := dpa_at hd (show atI ds k = some d from hix)
      exact Or.inr ⟨p, xs, k, u, rfl, rfl, ex_t hide_le hq, e1, q _ u H hc (Ex.refl H) r⟩
    | list ds =>
      obtain ⟨p, xs, rfl, hq, hd⟩ := dp_lst rx
      obtain ⟨u, e1, r⟩ := dpa_at hd (show atI ds k = some d from hix)
      exact Or.inl ⟨p, xs, k, u, rfl, rfl, ex_l hide_le hq, e1, q _ u H hc (Ex.refl H) r⟩
    | none => cases hix
    | bool _ => cases hix
    | int _ => cases hix
    | str _ => cases hix
    | dict _ => cases hix
theorem pd_pow {i j : Int} (ha : PD X Δ a (dat X.K (.int i))) (hb : PD X Δ b (dat X.K (.int j))) (h : CPow i j) : PD X Δ (.BinOp a .Pow b pos) (dat X.K (.int (i ^ j.toNat))) :=
  pd_of (px_opI op_pow (pi_of ha) (pi_of hb) fun _ _ h1 h2 => by rw [h1, h2]; exact ⟨h, rfl⟩)
/-- a tuple of two things that are not known -/
theorem px_tup2 {e1 e2 : Expr} {x1} {Ad Bd : PyData → Prop} (ha : PX X Δ e1 (fun t => ∃ d, t = dat X.K d ∧ Ad d)) (hb : PX X Δ e2 (fun t => ∃ d, t = dat X.K d ∧ Bd d)) (hs1 : starEach [e2] X.env = (false, eval e2 X.env) :: starEach [] X.env := by rfl) (hs : starEach [e1, e2] X.env = (false, eval e1 X.env) :: starEach [e2] X.env := by rfl) :
    PX X Δ (.Tuple [e1, e2] x1 pos) (fun t => ∃ d d', t = dat X.K (.tuple [d, d']) ∧ Ad d ∧ Bd d') := by
  obtain ⟨t, p, f⟩ := pl_consA (C := fun ts => ∃ d d', ts = [dat X.K d, dat X.K d'] ∧ Ad d ∧ Bd d') ha (pl_consA (C := fun ts => ∃ d, ts = [dat X.K d] ∧ Bd d) hb pl_nil (fun t ts ⟨d, h1, h2⟩ h3 => ⟨d, by rw [h1, h3], h2⟩) hs1) (fun t ts ⟨d, h1, h2⟩ ⟨d', h3, h4⟩ => ⟨d, d', by rw [h1, h3], h2, h4⟩) hs
  refine ⟨_, pe_tup p, fun S0 M0 H0 σ H S hA Q q => f S0 M0 H0 σ H S hA _ fun ths vs H2 ⟨d, d', ht, hd, hd'⟩ e2 r => ?_⟩
  subst ht
  have hx : DpAll X.K (hide S H2) vs [d, d'] := all_dpa (ds := [d, d']) r
  refine ⟨by rw [dpa_len hx]; exact sz_of (Nat.le_of_ble_eq_true rfl), fun p hp => q _ _ _ ⟨d, d', rfl, hd, hd'⟩ (e2.trans (Ex.new hp)) ?_⟩
  have np := ((hA.up e2).dom).new hp
  refine Dp.tup (SqT.of ?_) (dpa_up (hide_ex (Ex.new hp)) hx)
  rw [hide_out np]
  exact upd_same
end
end DL
set_option Elab.async false
set_option linter.all false
/-! Ratios as rational numbers. -/
namespace DL
def vR (q : Q) : Rat := Rat.divInt q.1 q.2
theorem vR_mk {q : Q} (h : Low q) : vR q = { num := q.1, den := q.2.natAbs, den_nz := by have := h.2; omega, reduced := h.1 } := by
  rw [Rat.mk_eq_divInt]
  have e : ((q.2.natAbs : Nat) : Int) = q.2 := by have := h.2; omega
  rw [e]
  rfl
theorem vR_inj {q r : Q} (h : Low q) (g : Low r) (e : vR q = vR r) : q = r := by
  rw [vR_mk h, vR_mk g] at e
  have e1 : q.1 = r.1 := congrArg Rat.num e
  have e2 : q.2.natAbs = r.2.natAbs := congrArg Rat.den e
  have := h.2
  have := g.2
  exact Prod.ext e1 (by omega)
theorem vR_low {i j : Int} (h : j ≠ 0) : vR (lowQ i j) = Rat.divInt i j := by
  obtain ⟨s, k, l, hs, ei, ej, e, hl, _, _⟩ := low_spec (i := i) h
  rw [e, ei, ej]
  show Rat.divInt k l = Rat.divInt (s * k) (s * l)
  rw [Rat.divInt_mul_left hs]
theorem vR_plus {a b : Q} (ha : 0 < a.2) (hb : 0 < b.2) : vR (plusQ a b) = vR a + vR b := by
  have h : a.2 * b.2 ≠ 0 := by have := Int.mul_pos ha hb; omega
  unfold plusQ
  rw [vR_low h]
  unfold vR
  rw [Rat.divInt_add_divInt _ _ (by omega) (by omega)]
theorem vR_times {a b : Q} (ha : 0 < a.2) (hb : 0 < b.2) : vR (timesQ a b) = vR a * vR b := by
  have h : a.2 * b.2 ≠ 0 := by have := Int.mul_pos ha hb; omega
  unfold timesQ
  rw [vR_low h]
  unfold vR
  rw [Rat.divInt_mul_divInt]
theorem vR_neg {a : Q} : vR (negQ a) = -vR a := by
  unfold negQ vR
  rw [Rat.neg_divInt]
theorem vR_minus {a b : Q} (ha : 0 < a.2) (hb : 0 < b.2) : vR (minusQ a b) = vR a - vR b := by
  have h : a.2 * b.2 ≠ 0 := by have := Int.mul_pos ha hb; omega
  have e : minusQ a b = plusQ a (negQ b) := by
    unfold minusQ plusQ negQ
    rw [Int.neg_mul]
    rfl
  rw [e, vR_plus ha (show 0 < (negQ b).2 from hb), vR_neg]
  grind
theorem low_plus {a b : Q} (ha : 0 < a.2) (hb : 0 < b.2) : Low (plusQ a b) := low_low (by have := Int.mul_pos ha hb; omega)
theorem low_minus {a b : Q} (ha : 0 < a.2) (hb : 0 < b.2) : Low (minusQ a b) := low_low (by have := Int.mul_pos ha hb; omega)
theorem low_times {a b : Q} (ha : 0 < a.2) (hb : 0 < b.2) : Low (timesQ a b) := low_low (by have := Int.mul_pos ha hb; omega)
theorem low_neg {a : Q} (h : Low a) : Low (negQ a) := ⟨by show Nat.gcd (-a.1).natAbs a.2.natAbs = 1; rw [Int.natAbs_neg]; exact h.1, h.2⟩
theorem low_zero : Low ((0, 1) : Q) := ⟨rfl, by decide⟩
theorem vR_zero : vR ((0, 1) : Q) = 0 := by unfold vR; simp
/-- couples in lowest terms -/
structure Cl (p : Cp) : Prop where
  x : Low p.1
  y : Low p.2
theorem low_dot {p q : Cp} (h : Cl p) (g : Cl q) : Low (dotC p q) ∧ vR (dotC p q) = vR p.1 * vR q.1 + vR p.2 * vR q.2 := by
  have a := low_times h.x.2 g.x.2
  have b := low_times h.y.2 g.y.2
  refine ⟨low_plus a.2 b.2, ?_⟩
  unfold dotC
  rw [vR_plus a.2 b.2, vR_times h.x.2 g.x.2, vR_times h.y.2 g.y.2]
theorem low_cross {p q : Cp} (h : Cl p) (g : Cl q) : Low (crossC p q) ∧ vR (crossC p q) = vR p.1 * vR q.2 - vR p.2 * vR q.1 := by
  have a := low_times h.x.2 g.y.2
  have b := low_times h.y.2 g.x.2
  refine ⟨low_minus a.2 b.2, ?_⟩
  unfold crossC
  rw [vR_minus a.2 b.2, vR_times h.x.2 g.y.2, vR_times h.y.2 g.x.2]
theorem cl_quar {p : Cp} (h : Cl p) : Cl (quarC p) := ⟨low_neg h.y, h.x⟩
theorem cl_sc {p : Cp} {r : Q} (h : Cl p) (g : Low r) : Cl (scC p r) := ⟨low_times h.x.2 g.2, low_times h.y.2 g.2⟩
theorem dot_quar {p q : Cp} (h : Cl p) (g : Cl q) : dotC (quarC p) q = crossC p q := by
  obtain ⟨l1, e1⟩ := low_dot (cl_quar h) g
  obtain ⟨l2, e2⟩ := low_cross h g
  refine vR_inj l1 l2 ?_
  rw [e1, e2]
  show vR (negQ p.2) * vR q.1 + vR p.1 * vR q.2 = _
  rw [vR_neg]
  grind
theorem dot_self {p : Cp} (h : Cl p) : dotC p (quarC p) = (0, 1) := by
  obtain ⟨l1, e1⟩ := low_dot h (cl_quar h)
  refine vR_inj l1 low_zero ?_
  rw [e1, vR_zero]
  show vR p.1 * vR (negQ p.2) + vR p.2 * vR p.1 = 0
  rw [vR_neg]
  grind
theorem cross_sc {p q : Cp} {r : Q} (h : Cl p) (g : Cl q) (hr : Low r) : crossC (scC p r) q = timesQ r (crossC p q) := by
  obtain ⟨l1, e1⟩ := low_cross (cl_sc h hr) g
  obtain ⟨l2, e2⟩ := low_cross h g
  refine vR_inj l1 (low_times hr.2 l2.2) ?_
  rw [e1, vR_times hr.2 l2.2, e2]
  show vR (timesQ p.1 r) * vR q.2 - vR (timesQ p.2 r) * vR q.1 = _
  rw [vR_times h.x.2 hr.2, vR_times h.y.2 hr.2]
  grind
end DL
namespace DL
open PySem PySem.Spec PyProof.Rows L2
/-- what the law's couples are -/
def GC (p : Cp) : Prop := CSm 34 p ∧ Cl p
theorem eqv_rD (q : Q) : PyData.eqv (rD q) (rD q) = true := by simp [rD, PyData.eqv, PyData.eqvAll]
theorem eqv_cD (p : Cp) : PyData.eqv (cD p) (cD p) = true := by simp [cD, rD, PyData.eqv, PyData.eqvAll]
theorem eqv_int (i : Int) : PyData.eqv (.int i) (.int i) = true := by simp [PyData.eqv]
theorem eqv_2 (q r : Q) : PyData.eqv (.tuple [rD q, rD r]) (.tuple [rD q, rD r]) = true := eqv_cD (q, r)
theorem isRat_rD {q : Q} (h : Low q) : isRat (rD q) = true := by
  have h1 : gI q.1 q.2 = 1 := by unfold gI; rw [h.1]; rfl
  show (true && ((decide (1 ≤ q.2) && true) && (gI q.1 q.2 == 1))) = true
  rw [h1, decide_eq_true (show (1 : Int) ≤ q.2 from h.2)]
  rfl
theorem pick_at {ps : List Cp} {i : Int} (h0 : 0 ≤ i) (h1 : i < ((ps.map cD).length : Int)) : ∃ p ∈ ps, ixD (.list (ps.map cD)) i = some (cD p) := by
  obtain ⟨j, rfl⟩ : ∃ j : Nat, i = (j : Int) := ⟨i.toNat, by omega⟩
  rw [List.length_map] at h1
  have hj : j < ps.length := by omega
  refine ⟨ps[j], List.getElem_mem hj, ?_⟩
  show atI (ps.map cD) (j : Int) = _
  exact atI_nat (by rw [List.getElem?_map, List.getElem?_eq_getElem hj]; rfl)
theorem lf_cD (p : Cp) : lf (cD p) = true := by simp [lf, lfs, cD, rD]
/-- a drawn couple -/
def RCouple (K : PySem.W.Frag) : Cn := fun ts A => ∃ ps : List Cp, ts = [handT, dat K (.list (ps.map cD))] ∧ (∀ p ∈ ps, GC p) ∧ ps.length ≤ 10 ∧ A = fun t => ∃ d, t = dat K d ∧ ∃ p, d = cD p ∧ GC p
def RPlaceOf (K : PySem.W.Frag) : Cn := fun ts A => ∃ d : PyData, ts = [dat K d] ∧ (seqD d).length ≤ 40000 ∧ A = (· = dat K (if isRow d 2 = true then .tuple (seqD d) else .list [.str "refused", .bool true]))
def RRef (K : PySem.W.Frag) : Cn := fun ts A => ∃ (p : Cp) (m : Int), ts = [dat K (cD p), dat K (.int m)] ∧ Cl p ∧ A = (· = dat K (.bool true))
def RLaw (K : PySem.W.Frag) : Cn := fun ts A => ∃ ns : List Int, ts = [dat K (.list (ns.map .int))] ∧ ns.length ≤ 63 ∧ A = (· = dat K (.bool true))
/-- the difference of a list of two and a couple -/
def cL (p : Cp) : PyData := .list [rD p.1, rD p.2]
def R2CL (K : PySem.W.Frag) (f : Cp → Cp → Cp) : Cn := fun ts A => ∃ (d : PyData) (p q : Cp) (n m : Nat), ts = [dat K d, dat K (cD q)] ∧ (d = cD p ∨ d = cL p) ∧ CSm n p ∧ CSm m q ∧ n + m ≤ 7000 ∧ A = (· = dat K (cD (f p q)))
end DL
set_option Elab.async false
set_option linter.all false
set_option maxRecDepth 100000
/-! Comprehensions given to a name. -/
namespace DL
open PySem PySem.Spec PyProof.Rows L2
section
variable {X : Cx} {Δ : List Sl} {e a b c : Expr} {es : List Expr} {A B C : Th → Prop} {pos : Pos} {P : Post} {W : WX}
/-- [elt for x in e], e data -/
theorem sd_lcD {x : Str} {px : Pos} {elt : Expr} {scope : Scope} (j : Nat) {d : PyData} {ds : List PyData} (Bw : Nat → PyData → Prop) (he : PD X Δ e (dat X.K d)) (hd : d = .tuple ds ∨ d = .list ds) (hz : ds.length ≤ 40000)
    (ht : ∀ (i : Nat) z, ds[i]? = some z → ∀ (s : Shared) (H : Hp) (C : Addr) (cl : List (Str × Addr)) (fp : List Addr), PX (X.blk s H scope (compEnvC scope cl C X.env) fp) ((wipeΔ Δ [j]).set j (.th (dat X.K z))) elt (fun t => ∃ w, t = dat X.K w ∧ Bw i w))
    (hN : X.N.Nodup) (ok : BlkOk X.N X.env.scope scope [(x, j)])
    (hg : ∀ (s : Shared) (H : Hp) (C : Addr) (cl : List (Str × Addr)) (fp : List Addr), PG (X.blk s H scope (compEnvC scope cl C X.env) fp) (.Name x px) (gName j))
    (i0 : Nat) {y : Str} {py spos : Pos} {rest : List Stmt} (k0 : ∀ es : List PyData, es.length = ds.length → (∀ i w, es[i]? = some w → Bw i w) → SD X W rest P (Δ.set i0 (.th (dat X.K (.list es)))))
    (hy : X.N[i0]? = some y := by rfl) (hyl : X.env.scope.names.lookup y = some .local := by rfl) (hsw : swapsWith (.ListComp elt [⟨.Name x px, e, [], 0⟩] scope pos) (some (.Name y py)) spos.line X.env = pure true := by exact sw_true rfl rfl rfl (by decide +kernel))
    (hc : X.calm = true := by rfl) (hs : ∀ x, foldedSetIterable e X.env x = pure x := by intro _; rfl) :
    SD X W (.Assign [.Name y py] (.ListComp elt [⟨.Name x px, e, [], 0⟩] scope pos) spos :: rest) P Δ := by
  refine sd_cons ?_
  obtain ⟨t, pe, f⟩ := he
  have q : ∀ (s : Shared) (H : Hp) (C : Addr) (cl : List (Str × Addr)) (fp : List Addr), PE (X.blk s H scope (compEnvC scope cl C X.env) fp) elt (teU X scope elt) := fun s H C cl fp => ⟨fun pins s' σ H' Q I h => by
    obtain ⟨t, pt, ht⟩ := h s H C cl fp
    exact pt.run pins s' σ H' Q I ht⟩
  have turnV : ∀ {S0 M0 S : List Addr} {H0 H1 H' : Hp} {σ : L2.St} {D : Addr} {xs : List V} {i : Nat} {v : V}, At S0 M0 H0 Δ σ H1 S → H1 D = none → DpAll X.K (hide S H1) xs ds → xs[i]? = some v → LcP X.K Bw S H1 D i H' →
      teU X scope elt ((L2.wipe σ [j]).set j (some v)) H' fun y H4 => ∃ acc, H4 D = some (.lst acc) ∧ acc.length < sizeLine ∧ LcP X.K Bw S H1 D (i + 1) (upd H4 D (.lst (acc ++ [y]))) := by
    intro S0 M0 S H0 H1 H' σ D xs i v hA hD hx hv p
    have hl := dpa_len hx
    have li : i < ds.length := by rw [← hl]; exact (List.getElem?_eq_some_iff.mp hv).1
    obtain ⟨v', e1, r1⟩ := dpa_get hx (List.getElem?_eq_getElem li)
    rw [hv] at e1
    have e2 := Option.some.inj e1
    exact lc_turn hA hD (by omega) (by rw [e2]; exact r1) p (ht i _ (List.getElem?_eq_getElem li))
  have start0 : ∀ {S : List Addr} {H1 : Hp} {D : Addr}, H1 D = none → LcP X.K Bw S H1 D 0 (upd H1 D (.lst [])) := fun {S H1 D} hD => ⟨Ex.new hD, [], [], upd_same, .nil, rfl, fun j w h => by simp at h⟩
  rcases hd with rfl | rfl
  · refine ⟨_, ps_setLc (own := [(x, j)]) (g := gName j) (tt := tYes) hc hN hy hyl hsw (pi_tup pe) ok hg (fun _ _ _ _ _ => pts_nil) q hs, fun S0 M0 H0 σ H S hA D0 le xw => ?_⟩
    refine f S0 M0 H0 σ H S hA _ fun th v H1 hth e1 r => ?_
    subst hth
    obtain ⟨p, xs, rfl, hq, hx⟩ := dp_tup r
    have hA1 := hA.up e1
    refine ⟨p, rfl, ⟨xs, ex_t hide_le hq⟩, fun D hD => lc_tup (K := X.K) (a := p) (xs := xs) (g := gName j) (tt := tYes) (te := teU X scope elt) (vs := [j]) (LcP X.K Bw S H1 D) (start0 hD) (fun i H' _ p => ex_t p.1 (ex_t hide_le hq)) (fun i v H' hv p => ⟨wipe_setv, turnV hA1 hD hx hv p⟩) fun H' p => ?_⟩
    rw [dpa_len hx] at p
    exact lc_fin (Q := fun v H2 => gName i0 v σ H2 D0.nx) hA1 hD p fun th v H2 ⟨es, c1, c2, c3⟩ e2 r2 => le.nx _ _ ⟨_, S, k0 es c2 c3, by subst c1; exact (hA1.up e2).set r2⟩
  · refine ⟨_, ps_setLc (own := [(x, j)]) (g := gName j) (tt := tYes) hc hN hy hyl hsw (pi_list pe) ok hg (fun _ _ _ _ _ => pts_nil) q hs, fun S0 M0 H0 σ H S hA D0 le xw => ?_⟩
    refine f S0 M0 H0 σ H S hA _ fun th v H1 hth e1 r => ?_
    subst hth
    obtain ⟨p, xs, rfl, hq, hx⟩ := dp_lst r
    have hA1 := hA.up e1
    refine ⟨p, rfl, ⟨xs, ex_l hide_le hq⟩, fun D hD => lc_list (K := X.K) (a := p) (xs := xs) (g := gName j) (tt := tYes) (te := teU X scope elt) (vs := [j]) (LcP X.K Bw S H1 D) (start0 hD) (fun i H' _ p => ex_l p.1 (ex_l hide_le hq)) (fun i v H' hv p => ⟨wipe_setv, turnV hA1 hD hx hv p⟩) fun H' p => ?_⟩
    rw [dpa_len hx] at p
    exact lc_fin (Q := fun v H2 => gName i0 v σ H2 D0.nx) hA1 hD p fun th v H2 ⟨es, c1, c2, c3⟩ e2 r2 => le.nx _ _ ⟨_, S, k0 es c2 c3, by subst c1; exact (hA1.up e2).set r2⟩
/-- [elt for x in range(n)] -/
theorem sd_lcR {x : Str} {px p1 p2 : Pos} {elt : Expr} {scope : Scope} (j : Nat) {Nn : Int → Prop} {L : Nat} (Bw : Nat → PyData → Prop) (hm : X.mg "range" = none) (he : PX X Δ e (isI X.K Nn)) (hn : ∀ n, Nn n → 0 ≤ n ∧ n ≤ L) (hL : L ≤ 40000)
    (ht : ∀ (i : Nat), i < L → ∀ (s : Shared) (H : Hp) (C : Addr) (cl : List (Str × Addr)) (fp : List Addr), PX (X.blk s H scope (compEnvC scope cl C X.env) fp) ((wipeΔ Δ [j]).set j (.th (dat X.K (.int (i : Int))))) elt (fun t => ∃ w, t = dat X.K w ∧ Bw i w))
    (hN : X.N.Nodup) (ok : BlkOk X.N X.env.scope scope [(x, j)])
    (hg : ∀ (s : Shared) (H : Hp) (C : Addr) (cl : List (Str × Addr)) (fp : List Addr), PG (X.blk s H scope (compEnvC scope cl C X.env) fp) (.Name x px) (gName j))
    (i0 : Nat) {y : Str} {py spos : Pos} {rest : List Stmt} (k0 : ∀ (es : List PyData) (n : Int), Nn n → (es.length : Int) = n → (∀ i w, es[i]? = some w → Bw i w) → SD X W rest P (Δ.set i0 (.th (dat X.K (.list es)))))
    (hy : X.N[i0]? = some y := by rfl) (hyl : X.env.scope.names.lookup y = some .local := by rfl) (hsw : swapsWith (.ListComp elt [⟨.Name x px, .Call (.Name "range" p1) [e] [] p2, [], 0⟩] scope pos) (some (.Name y py)) spos.line X.env = pure true := by exact sw_true rfl rfl rfl (by decide +kernel))
    (hc : X.calm = true := by rfl) (hgl : Gl X "range" := by rfl) (hse : starEach [e] X.env = (false, eval e X.env) :: starEach [] X.env := by rfl) (hs1 : starEach [e] X.env = [(false, eval e X.env)] := by rfl)
    (hs : ∀ x, foldedSetIterable (.Call (.Name "range" p1) [e] [] p2) X.env x = pure x := by intro _; rfl) :
    SD X W (.Assign [.Name y py] (.ListComp elt [⟨.Name x px, .Call (.Name "range" p1) [e] [] p2, [], 0⟩] scope pos) spos :: rest) P Δ := by
  refine sd_cons ?_
  obtain ⟨t, pa, f⟩ := pl_consA (C := fun ts => ∃ i, ts = [dat X.K (.int i)] ∧ Nn i) he pl_nil (fun t ts ⟨i, h1, h2⟩ h3 => ⟨i, by rw [h1, h3], h2⟩) hse
  have q : ∀ (s : Shared) (H : Hp) (C : Addr) (cl : List (Str × Addr)) (fp : List Addr), PE (X.blk s H scope (compEnvC scope cl C X.env) fp) elt (teU X scope elt) := fun s H C cl fp => ⟨fun pins s' σ H' Q I h => by
    obtain ⟨t, pt, ht⟩ := h s H C cl fp
    exact pt.run pins s' σ H' Q I ht⟩
  refine ⟨_, ps_setLc (own := [(x, j)]) (g := gName j) (tt := tYes) hc hN hy hyl hsw (pi_range1 hgl hm pa hs1) ok hg (fun _ _ _ _ _ => pts_nil) q hs, fun S0 M0 H0 σ H S hA D0 le xw => ?_⟩
  refine f S0 M0 H0 σ H S hA _ fun ths vs H1 hth e1 r => ?_
  obtain ⟨n, rfl, nn⟩ := hth
  obtain ⟨v, rfl, r0⟩ := all1 r
  have := dp_int r0
  subst this
  have hb := hn n nn
  have hA1 := hA.up e1
  refine ⟨n, rfl, by omega, by omega, fun D hD => lc_range (lo := 0) (n := n.toNat) (g := gName j) (tt := tYes) (te := teU X scope elt) (vs := [j]) (LcP X.K Bw S H1 D) ⟨Ex.new hD, [], [], upd_same, .nil, rfl, fun j w h => by simp at h⟩ (fun i H' hi p => ?_) fun H' p => ?_⟩
  · have e0 : (0 : Int) + (i : Int) = (i : Int) := Int.zero_add _
    rw [e0]
    exact ⟨wipe_setv, lc_turn hA1 hD (by omega) (Dp.int _) p (ht i (by omega))⟩
  · exact lc_fin (Q := fun v H2 => gName i0 v σ H2 D0.nx) hA1 hD p fun th v H2 ⟨es, c1, c2, c3⟩ e2 r2 => le.nx _ _ ⟨_, S, k0 es n nn (by omega) c3, by subst c1; exact (hA1.up e2).set r2⟩
end
theorem lay_cDs : ∀ ps : List Cp, PyData.canLayAll0 (ps.map cD) = true
  | [] => by simp [PyData.canLayAll0]
  | p :: ps => by simp [PyData.canLayAll0, PyData.canLay0, cD, rD, lay_cDs ps]
theorem depth_cDs : ∀ ps : List Cp, PyData.depthAll (ps.map cD) ≤ 3
  | [] => by simp [PyData.depthAll]
  | p :: ps => by
    have h := depth_cDs ps
    have h2 : (cD p).depth ≤ 3 := by simp [cD, rD, PyData.depth, PyData.depthAll]
    simp only [List.map_cons, PyData.depthAll]
    omega
theorem shaped_cDs (ps : List Cp) : SeqAt.shaped (.list (ps.map cD)) = true := by
  have h1 := depth_cDs ps
  have h2 : PyData.depth (.list (ps.map cD)) ≤ 64 := by
    simp only [PyData.depth]
    omega
  show (PyData.canLay0 (.list (ps.map cD)) && decide (PyData.depth (.list (ps.map cD)) ≤ 64)) = true
  rw [Bool.and_eq_true]
  exact ⟨by simp only [PyData.canLay0]; exact lay_cDs ps, decide_eq_true h2⟩
theorem eqv_cDs : ∀ ps : List Cp, PyData.eqvAll (ps.map cD) (ps.map cD) = true
  | [] => by simp [PyData.eqvAll]
  | p :: ps => by
    have h := eqv_cDs ps
    simp only [List.map_cons, PyData.eqvAll, eqv_cD, h, Bool.and_self]
theorem eqv_cL (ps : List Cp) : PyData.eqv (.list (ps.map cD)) (.list (ps.map cD)) = true := by
  simp only [PyData.eqv]
  exact eqv_cDs ps
/-- a row of couples -/
theorem cps_of : ∀ (es : List PyData), (∀ (i : Nat) w, es[i]? = some w → ∃ p, w = cD p ∧ GC p) → ∃ ps : List Cp, es = ps.map cD ∧ ∀ p ∈ ps, GC p
  | [], _ => ⟨[], rfl, fun p h => by cases h⟩
  | e :: es, h => by
    obtain ⟨p, e1, g⟩ := h 0 e rfl
    obtain ⟨ps, e2, gs⟩ := cps_of es fun i w hw => h (i + 1) w hw
    refine ⟨p :: ps, by rw [e1, e2]; rfl, fun q hq => ?_⟩
    rcases List.mem_cons.mp hq with z | z
    · rw [z]; exact g
    · exact gs q z
end DL
set_option Elab.async false
set_option linter.all false
set_option maxRecDepth 100000
namespace DL
open PySem PySem.Spec PyProof.Rows L2
theorem hide_nil {H : Hp} : hide [] H = H := funext fun a => hide_out (by simp)
theorem dpa_ints {K : PySem.W.Frag} {H : Hp} : ∀ {ns : List Int}, DpAll K H (ns.map V.int) (ns.map .int)
  | [] => .nil
  | n :: ns => .cons (.int n) dpa_ints
theorem law_end {P : Program} {w : World} {K : PySem.W.Frag} {mg : Str → Option Value} {base : Heap} {CX : CXT} {k : Nat} {f : Addr} {fd : FuncData} {ps : List Str} (F : FnOk P w K mg base CX k f fd ps (spT (RLaw K))) : FnOk P w K mg base CX k f fd ps (spLaw K) :=
  F.imp fun vs H Q E ⟨a, ns, e, hS, hl, q⟩ => by
    subst e
    refine ⟨[], [dat K (.list (ns.map .int))], _, (fun _ z => by cases z), ⟨Dp.lst (by rw [hide_nil]; exact hS) dpa_ints, trivial⟩, ⟨ns, rfl, hl, rfl⟩, fun t v H' et ex r => ?_⟩
    subst et
    have r : Dp K (hide [] H') v (.bool true) := r
    cases r
    exact q H'
/-- an error of the class at S is what «except S» names -/
theorem exm_own {K : PySem.W.Frag} {S : Addr} (h1 : PySem.W.subIn K (.ref S) (.type "BaseException") = some true) (h2 : PySem.W.isClsIn K S = true) (h3 : PySem.W.typeIn K (.ref S) = some (.type "type")) (h4 : PySem.W.subIn K (.ref S) (.ref S) = some true) :
    PySem.W.exmOne K (.ref S) (.ref S) = some true := by
  have e1 : (PySem.W.subIn K (.ref S) (.type "BaseException") == some true) = true := by rw [h1] <;> rfl
  have e2 : ((PySem.W.clsIn K S).isSome && PySem.W.typeIn K (.ref S) == some (.type "type")) = true := by
    have h2' : (PySem.W.clsIn K S).isSome = true := h2
    rw [h2', h3] <;> rfl
  show (if (PySem.W.subIn K (.ref S) (.type "BaseException") == some true) = true then (if ((PySem.W.clsIn K S).isSome && PySem.W.typeIn K (.ref S) == some (.type "type")) = true then PySem.W.subIn K (.ref S) (.ref S) else none) else none) = some true
  rw [if_pos e1, if_pos e2]
  exact h4
/-- an error of the class at C is one of the class at S -/
theorem kit_own {K : PySem.W.Frag} {C S : Addr} (h2 : PySem.W.isClsIn K S = true) (h3 : PySem.W.typeIn K (.ref S) = some (.type "type")) (h4 : PySem.W.subIn K (.ref C) (.ref S) = some true) : PySem.W.kitOne K (.ref C) (.ref S) = some true := by
  have e2 : ((PySem.W.clsIn K S).isSome && PySem.W.typeIn K (.ref S) == some (.type "type")) = true := by
    have h2' : (PySem.W.clsIn K S).isSome = true := h2
    rw [h2', h3] <;> rfl
  show (if (Value.ref C == Value.ref S) = true then some true else if ((PySem.W.clsIn K S).isSome && PySem.W.typeIn K (.ref S) == some (.type "type")) = true then PySem.W.subIn K (.ref C) (.ref S) else none) = some true
  rw [if_pos e2, h4]
  split <;> rfl
/-- an error of the class at C is not one of the class at S -/
theorem kit_not {K : PySem.W.Frag} {C S : Addr} (h1 : (Value.ref C == Value.ref S) = false) (h2 : PySem.W.isClsIn K S = true) (h3 : PySem.W.typeIn K (.ref S) = some (.type "type")) (h4 : PySem.W.subIn K (.ref C) (.ref S) = some false) : PySem.W.kitOne K (.ref C) (.ref S) = some false := by
  have e2 : ((PySem.W.clsIn K S).isSome && PySem.W.typeIn K (.ref S) == some (.type "type")) = true := by
    have h2' : (PySem.W.clsIn K S).isSome = true := h2
    rw [h2', h3] <;> rfl
  show (if (Value.ref C == Value.ref S) = true then some true else if ((PySem.W.clsIn K S).isSome && PySem.W.typeIn K (.ref S) == some (.type "type")) = true then PySem.W.subIn K (.ref C) (.ref S) else none) = some false
  rw [h1, if_pos e2, h4] <;> rfl
/-- a global couple of ints -/
theorem gl_couple {K : PySem.W.Frag} {mg : Str → Option Value} {x : Str} {Z : Addr} {od : Option Addr} {i j : Int} {t u : Tok} {n : Nat} {sl : Array (Option Value)} (m : mg x = some (.ref Z)) (l : K.lookup Z = some ⟨.type "tuple", od, .seq #[.int i t, .int j u] n, sl⟩) : GlD K mg x (.tuple [.int i, .int j]) :=
  ⟨.ref Z, .ref Z, m, rfl, fun H => .tup (xs := [.int i, .int j]) (Or.inr ⟨_, _, _, l, rfl, rfl, (by show 2 ≤ sizeLine; decide), .cons ⟨t, rfl⟩ (.cons ⟨u, rfl⟩ .nil)⟩) (.cons (.int i) (.cons (.int j) .nil))⟩
end DL
set_option Elab.async false
set_option linter.all false
set_option maxRecDepth 100000
/-! Exceptions that carry something; defs with defaults that may raise; calls with keywords; texts. -/
namespace DL
open PySem PySem.Spec PyProof.Rows L2
/-- the exception that a suite holds, and what it carries -/
def excT (a : Addr) (d : Option Addr) (fs : List (Str × Th)) : Th := ⟨fun H v => v = .ref a ∧ XF H d fs, fun _ _ _ e h => ⟨h.1, h.2.up e⟩⟩
section
variable {X : Cx} {Δ : List Sl} {e a b c : Expr} {es : List Expr} {A B C : Th → Prop} {pos : Pos} {P : Post} {rest body els : List Stmt} {st : Stmt} {W : WX}
/-- try: body except x as n: suite, the exception with what it carries -/
theorem sd_tryF (i : Nat) {x n : Str} {cv : Value} {b0 : Stmt} {suite : List Stmt} {np pos' : Pos} {Wout : WX} (XC : Addr → List (Str × Th) → List Sl → Prop) (hN : X.N.Nodup) (hi : X.N[i]? = some n) (hln : X.env.kindOf n = some .local) (hc : Names X x cv) (tk : Takes X Wout)
    (hb : ∀ (W : WX) (pn : List (Addr × Obj)) (xe : Value → Shared → Prop), Takes (X.tr pn xe) W → PassesOwn (model X.prog X.w) X.A X.env xe → SD (X.tr pn xe) W body { P with nx := fun Δ' => SD X Wout rest P Δ', xc := XC } Δ)
    (hcls : ∀ C fs Δ', XC C fs Δ' → PySem.W.exmOne X.K (.ref C) cv = some true)
    (hsu : ∀ C fs Δ', XC C fs Δ' → ∀ (a : Addr) (oe : Obj) (d : Option Addr) (pn : List (Addr × Obj)), Zc (.ref C) d oe → (∃ vs, oe.data = .fields vs) → (fs = [] → d = none) →
      SD (X.suite a ((a, oe) :: pn)) (fun _ _ _ _ => False) (b0 :: suite) { nx := fun Δ2 => SD X Wout rest P (Δ2.set i .no), rt := P.rt, bk := fun Δ2 => P.bk (Δ2.set i .no), ct := fun Δ2 => P.ct (Δ2.set i .no) } (Δ'.set i (.th (excT a d fs))))
    (hsl : ∀ C fs Δ', XC C fs Δ' → ∀ ts, Δ'[i]? ≠ some (.ml ts))
    (hs : X.stack = X.env :: X.outer := by rfl) (hf : X.env.frame = some X.env.locals := by rfl) :
    SD X Wout (.Try body [.ExceptHandler (some (.Name x np)) (some n) (b0 :: suite) pos'] [] [] pos :: rest) P Δ := by
  refine sd_cons ?_
  have pb : ∀ (W : WX) (pn : List (Addr × Obj)) (xe : Value → Shared → Prop), Takes (X.tr pn xe) W → PassesOwn (model X.prog X.w) X.A X.env xe → PSs (X.tr pn xe) body (fun D σ H => ∀ (pn : List (Addr × Obj)) (xe : Value → Shared → Prop), Takes (X.tr pn xe) W → PassesOwn (model X.prog X.w) X.A X.env xe → ∃ t, PSs (X.tr pn xe) body t ∧ t D σ H) :=
    fun W pn xe tk hp => ⟨fun pins s σ H D I h => by
      obtain ⟨t, p, ht⟩ := h pn xe tk hp
      exact p.run pins s σ H D I ht⟩
  have ps : ∀ (a : Addr) (oe : Obj) (cls : Value) (d : Option Addr) (pn : List (Addr × Obj)), Zc cls d oe → (∃ vs, oe.data = .fields vs) → PSs (X.suite a ((a, oe) :: pn)) (b0 :: suite) (fun D σ H => ∀ (oe : Obj) (pn : List (Addr × Obj)), Zc cls d oe → (∃ vs, oe.data = .fields vs) → ∃ t, PSs (X.suite a ((a, oe) :: pn)) (b0 :: suite) t ∧ t D σ H) :=
    fun a oe cls d pn hz hfl => ⟨fun pins s σ H D I h => by
      obtain ⟨t, p, ht⟩ := h oe pn hz hfl
      exact p.run pins s σ H D I ht⟩
  refine ⟨_, ps_try_as (ts := fun a cls d => fun D σ H => ∀ (oe : Obj) (pn : List (Addr × Obj)), Zc cls d oe → (∃ vs, oe.data = .fields vs) → ∃ t, PSs (X.suite a ((a, oe) :: pn)) (b0 :: suite) t ∧ t D σ H) hs hf hN hi hln hc tk pb ps, fun S0 M0 H0 σ H S hA D le xw => ?_⟩
  intro pn xe tk2 hp2
  obtain ⟨t, p, f⟩ := hb _ pn xe tk2 hp2
  refine ⟨t, p, f S0 M0 H0 σ H S hA D ⟨le.nx, le.rt, le.bk, le.ct⟩ ⟨fun σ1 H1 C fs d Δ1 S1 hxc hA1 r nd => ?_, xw.2⟩⟩
  refine ⟨true, hcls C fs Δ1 hxc, fun _ a na oe pn hz hfl => ?_, fun z => nomatch z⟩
  have hd0 : fs = [] → d = none := fun z => by
    rcases r with ⟨_, r⟩ | ⟨ne, _⟩
    · exact r
    · exact absurd z ne
  obtain ⟨u, pu, fu⟩ := hsu C fs Δ1 hxc a oe d pn hz hfl hd0
  refine ⟨u, pu, fu S0 M0 H0 _ H1 S1 (hA1.setS (s := .th (excT a d fs)) rfl ⟨.ref a, rfl, rfl, r⟩) _ ⟨fun σ2 H2 ⟨Δ2, S2, n2, hA2⟩ => le.nx _ _ ⟨_, S2, n2, hA2.setS (s := .no) rfl trivial⟩, le.rt, fun σ2 H2 ⟨Δ2, S2, n2, hA2⟩ => le.bk _ _ ⟨_, S2, n2, hA2.setS (s := .no) rfl trivial⟩, fun σ2 H2 ⟨Δ2, S2, n2, hA2⟩ => le.ct _ _ ⟨_, S2, n2, hA2.setS (s := .no) rfl trivial⟩⟩ ⟨fun _ _ _ _ _ _ _ p => p.elim, fun z => nomatch z⟩⟩
/-- e.f, e the exception that the suite holds -/
theorem pd_xf {q C : Addr} {oe : Obj} {d : Option Addr} {pn : List (Addr × Obj)} {fs : List (Str × Th)} {n : Str} {t : Th} (T : XfC X.K C) (hno : PySem.W.findIn X.K (.ref C) n = some none) (hz : Zc (.ref C) d oe) (hf : ∃ vs, oe.data = .fields vs)
    (he : PD (X.suite q ((q, oe) :: pn)) Δ e (excT q d fs)) (hl : fs.lookup n = some t) (hb : attributeBase e n X.env (eval e X.env) = eval e X.env := by rfl) : PD (X.suite q ((q, oe) :: pn)) Δ (.Attribute e n pos) t := by
  obtain ⟨te, pe, fe⟩ := he
  refine ⟨_, pe_xf T hno hz hf pe hb, fun S0 M0 H0 σ H S hA Q k => fe S0 M0 H0 σ H S hA _ fun th v H1 hth e1 r => ?_⟩
  subst hth
  obtain ⟨rfl, rx⟩ := r
  rcases rx with ⟨e0, _⟩ | ⟨_, dd, kvs, ed, ea, hv⟩
  · rw [e0] at hl
    cases hl
  · obtain ⟨v, h1, h2⟩ := hv n t hl
    exact ⟨rfl, rfl, dd, kvs, v, ed, hide_le _ _ ea, h1, k t v H1 rfl e1 h2⟩
/-! ### raise X(e), raise X(e, e') with an __init__ of its own -/
/-- __init__(self, g): self.g = g -/
def spIni1 (K : PySem.W.Frag) (g : Str) : Sp := fun vs H Q _ => ∃ (a C : Addr) (y : V), vs = [.ref a, y] ∧ OexC K C ∧ PySem.W.findIn K (.ref C) g = some none ∧ H a = some (exo a C none) ∧
  ∀ dx, H dx = none → dx ≠ a → Q .non (upd (upd H dx (exd dx [(g, y)])) a (exo a C (some dx)))
def spIni2 (K : PySem.W.Frag) (g g' : Str) : Sp := fun vs H Q _ => ∃ (a C : Addr) (y y' : V), vs = [.ref a, y, y'] ∧ OexC K C ∧ PySem.W.findIn K (.ref C) g = some none ∧ PySem.W.findIn K (.ref C) g' = some none ∧ H a = some (exo a C none) ∧
  ∀ dx, H dx = none → dx ≠ a → Q .non (upd (upd (upd H dx (exd dx [(g, y)])) a (exo a C (some dx))) dx (exd dx [(g', y'), (g, y)]))
structure ExF1 (P : Program) (w : World) (K : PySem.W.Frag) (mg : Str → Option Value) (base : Heap) (x : Str) (C : Addr) (g : Str) : Prop where
  gC : mg x = some (.ref C)
  T : OexC K C
  no : PySem.W.findIn K (.ref C) g = some none
  ini : ∃ fI fd ps, PySem.W.findIn K (.ref C) "__init__" = some (some (.ref fI)) ∧ PySem.W.typeIn K (.ref fI) = some (.type "function") ∧ Binds K fd ps [] ∧ FnOk P w K mg base CX0 1 fI fd ps (spIni1 K g)
structure ExF2 (P : Program) (w : World) (K : PySem.W.Frag) (mg : Str → Option Value) (base : Heap) (x : Str) (C : Addr) (g g' : Str) : Prop where
  gC : mg x = some (.ref C)
  T : OexC K C
  no : PySem.W.findIn K (.ref C) g = some none
  no' : PySem.W.findIn K (.ref C) g' = some none
  ini : ∃ fI fd ps, PySem.W.findIn K (.ref C) "__init__" = some (some (.ref fI)) ∧ PySem.W.typeIn K (.ref fI) = some (.type "function") ∧ Binds K fd ps [] ∧ FnOk P w K mg base CX0 1 fI fd ps (spIni2 K g g')
theorem lookup_th1 {f g : Str} {t : Th} : List.lookup f [(g, t)] = if f = g then some t else none := by
  by_cases h : f = g
  · rw [if_pos h, h]; simp [List.lookup]
  · have e : (f == g) = false := by simpa using h
    rw [if_neg h]; simp [List.lookup, e]
theorem lookup_th2 {f g g' : Str} {t t' : Th} : List.lookup f [(g', t'), (g, t)] = if f = g' then some t' else if f = g then some t else none := by
  by_cases h : f = g'
  · rw [if_pos h, h]; simp [List.lookup]
  · have e : (f == g') = false := by simpa using h
    rw [if_neg h, ← lookup_th1]; simp [List.lookup, e]
theorem raise_heap {H : Hp} {a dx : Addr} {o1 o2 o3 o4 : HO} (ha : H a = none) (hd : dx ≠ a) : upd (del (upd (upd (upd H a o1) dx o2) a o3) a) dx o4 = upd H dx o4 := by
  funext b
  by_cases h1 : b = dx
  · rw [h1, upd_same, upd_same]
  · rw [upd_ne h1, upd_ne h1]
    by_cases h2 : b = a
    · rw [h2, del_same, ha]
    · rw [del_ne h2, upd_ne h2, upd_ne h1, upd_ne h2]
theorem raise_heap2 {H : Hp} {a dx : Addr} {o1 o2 o3 o4 o5 : HO} (ha : H a = none) (hd : dx ≠ a) : upd (del (upd (upd (upd (upd H a o1) dx o2) a o3) dx o5) a) dx o4 = upd H dx o4 := by
  funext b
  by_cases h1 : b = dx
  · rw [h1, upd_same, upd_same]
  · rw [upd_ne h1, upd_ne h1]
    by_cases h2 : b = a
    · rw [h2, del_same, ha]
    · rw [del_ne h2, upd_ne h1, upd_ne h2, upd_ne h1, upd_ne h2]
theorem sd_raise1 {x g : Str} {Cc : Addr} {p p2 : Pos} {t : Th} (F : ExF1 X.prog X.w X.K X.mg X.base x Cc g) (hr : Room 2 X.A) (he : PD X Δ e t) (tk : Takes X W) (k : P.xc Cc [(g, t)] Δ) (hg : Gl X x := by rfl) (hc : X.calm = true := by rfl) (hdb : (x == ("__debug__" : Str)) = false := by decide)
    (hs : starEach [e] X.env = (false, eval e X.env) :: starEach [] X.env := by rfl) (hpl : (backTo p2 (starEach [] X.env)).any (·.1) = false := by rfl) :
    SD X W (.Raise (some (.Call (.Name x p) [e] [] p2)) none pos :: rest) P Δ := by
  obtain ⟨fI, fd, ps, h1, h2, hb, Fk⟩ := F.ini
  obtain ⟨ta, pa, fa⟩ := pl_cons he pl_nil hs
  refine sd_cons ⟨_, ps_raise hc tk (pmk_oex (dvs := []) F.T h1 h2 Fk hr hb .nil (fun _ _ _ _ _ _ _ z => z.elim) hg F.gC pa hdb hs hpl), fun S0 M0 H0 σ H S hA D le xw => ?_⟩
  refine fa S0 M0 H0 σ H S hA _ fun ths vs H1 hB e1 r => ?_
  subst hB
  obtain ⟨y, rfl, ry⟩ := all1 r
  refine ⟨by show 1 ≤ 1000; decide, fun a ha => ⟨a, Cc, y, rfl, F.T, F.no, upd_same, fun dx hdx hne => ⟨rfl, dx, [(g, y)], upd_same, ?_, ?_, ?_⟩⟩⟩
  · rw [upd_ne hne]; exact upd_same
  · rw [upd_ne hne] at hdx; exact hdx
  · rw [upd_ne hne] at hdx
    rw [raise_heap ha hne]
    have hA1 := hA.up (e1.trans (Ex.new (o := .xd [(g, y)]) hdx))
    have nS : dx ∉ S := (hA.up e1).dom.new hdx
    refine xw.1 σ _ Cc [(g, t)] (some dx) Δ S k hA1 (Or.inr ⟨by simp, dx, [(g, y)], rfl, by rw [hide_out nS]; exact upd_same, fun f t' hf => ?_⟩) (fun a z => by cases z; exact nS)
    rw [lookup_th1] at hf
    by_cases hfg : f = g
    · rw [if_pos hfg] at hf
      cases hf
      exact ⟨y, by rw [hfg]; simp [List.lookup], t.up _ _ _ (hide_ex (Ex.new hdx)) ry⟩
    · rw [if_neg hfg] at hf
      cases hf
end
end DL
set_option Elab.async false
set_option linter.all false
set_option maxRecDepth 100000
/-! Texts. -/
namespace DL
open PySem PySem.Spec PyProof.Rows L2
section
open Builtin Builtin.Str Builtin.Int
variable {prog : Program} {w : World} {A : Around} {E : Value → Shared → Prop} {s : Shared}
/-- sep.join(it), it a reversed(list) -/
theorem join_rev {x : Str} {t : Tok} {ys : List Str} {it l : Addr} {items : Array Value} {Q : Value → Shared → Prop} (hh : A.handled = none) (hit : s.heap.IsRevIter it l ((items.size : Int) - 1)) (hl : s.heap.IsList l items) (hne : l ≠ it) (hn : items.size ≤ sizeLine)
    (hP : ∀ acc : Array Value, ItemsOf (fun i v => items[items.size - 1 - i]? = some v) acc items.size → StrsAre acc.toList ys) (hok : (ys.map (·.length)).sum + ys.length * x.length ≤ 16777216)
    (hq : ∀ (h' : Heap) (tk : Nat) t', (∀ b o, b ≠ it → s.heap.get? b = some o → h'.get? b = some o) → Q (.str (Txt.join x ys) t') { s with heap := h', toks := tk }) :
    wpAny (model prog w) A (call (.builtin "str.join") [.str x t, .ref it]) Q E s := by
  refine wpAny_call (codeAny_call_builtin F.slot_str_join.plain F.entry_str_join (F.slot_str_join.check _ _ _ _ _ _ _ _ (typeIs_str _ _ _) (F.args_str_join_2 _ _) ?_))
  rw [join_tree_other]
  refine wpAny_bind (wpAny_typeOf hit.typeIs ?_)
  show wpAny _ A.in1 ((pyIter (.ref it)).tryCatch _ >>= fun it => collect it >>= fun items => joinTail x items) _ _ s
  refine wpAny_bind (wpAny_tryCatch (wpAny_pyIter_revIter hit ?_))
  have hh1 : A.in1.handled = none := hh
  refine wpAny_bind (RT.collect_rev (A := A.in1) hh1 hit hl hne hn fun h' tk acc hk hacc => ?_)
  obtain ⟨l, hl, ht⟩ := strsAre_values (hP acc hacc)
  subst ht
  rw [hl]
  have hok' := joinOk_of hok
  unfold JoinOk at hok'
  rw [Bool.not_eq_true'] at hok'
  have g : Gives (joinTail x (strValues l)) (joinMade x l) := by
    have g0 := gives_joinTail x l hok'
    cases l with
    | nil => exact g0
    | cons p r => cases r with
      | nil => exact g0
      | cons q r' => exact g0
  exact g prog w A (wants Q E) _ (post_join l ⟨joinFit_length hok', fun t' k => hq h' k t' hk⟩)
end
section
variable {X : Cx} {Δ : List Sl} {e a b c o : Expr} {es : List Expr} {A B C : Th → Prop} {pos : Pos}
theorem strs_of : ∀ {ys : List Str} {us : List Value}, Vals (ys.map V.str) us → StrsAre us ys
  | [], _, .nil => .nil
  | y :: ys, _, .cons ⟨t, h⟩ r => by subst h; exact .cons y t (strs_of r)
/-- sep.join(reversed(xs)), xs a list of texts -/
def tJoinRev (K : PySem.W.Frag) (to te : TE) : TE := fun σ H Q => to σ H fun x H1 => (∃ a, x = .str a) ∧ te σ H1 fun v H2 => ∃ (a : Str) (q : Addr) (ys : List Str),
  x = .str a ∧ v = .ref q ∧ SqL K H2 q (ys.map V.str) ∧ (ys.map (·.length)).sum + ys.length * a.length ≤ 16777216 ∧ Q (.str (Txt.join a ys.reverse)) H2
theorem pe_joinRev {to te : TE} {apos pos p2 : Pos} {pos2 : Pos} (hc : X.calm = true) (ho : PE X o to) (hg2 : Gl X "reversed") (hm2 : X.mg "reversed" = none) (he : PE X e te)
    (hs1 : starEach [.Call (.Name "reversed" p2) [e] [] pos2] X.env = [(false, eval (.Call (.Name "reversed" p2) [e] [] pos2) X.env)] := by rfl)
    (hs : starEach [e] X.env = (false, eval e X.env) :: starEach [] X.env := by rfl)
    (hbase : attributeBase o "join" X.env (eval o X.env) = eval o X.env := by rfl) (hline : (apos.endLine == pos.line) = true := by rfl) :
    PE X (.Call (.Attribute o "join" apos) [.Call (.Name "reversed" p2) [e] [] pos2] [] pos) (tJoinRev X.K to te) := by
  refine ⟨fun pins s σ H Q I h => ?_⟩
  refine PySem.Call_method1 hbase hs1 hline (thn (ho.run pins s σ H _ I h) fun v s1 ⟨x, H1, I1, r1, q1⟩ => ?_)
  obtain ⟨⟨a, rfl⟩, q1⟩ := q1
  obtain ⟨t, rfl⟩ := _root_.id r1
  refine ⟨"str", _, F.plainAttrs_str, F.slot_str_join, F.type_str_join, typeIs_str _ _ _, (fun _ e => nomatch e), Calls.callWith_builtin rfl (Calls.evalArgs_plain (Calls.spliced_cons ?_))⟩
  refine Call_ (ld_blt I1 hg2 hm2 PyProof.Rows.boot_reversed (PyProof.Rows.callWith_type1 (args_cons (thn (he.run pins s1 σ H1 _ I1 q1) fun u s2 ⟨v, H2, I2, r2, q2⟩ => args_nil ?_) hs) hs rfl))
  obtain ⟨a', q, ys, ea, ev, hq, hz, q3⟩ := q2
  cases ea
  subst ev
  obtain rfl : u = Value.ref q := r2
  obtain ⟨its, rv, p', hz2⟩ := I2.list hq
  refine call_reversed_list p'.isList ?_
  have I3 : Inv X pins σ H2 { s2 with heap := s2.heap.push (revObj q ((its.toArray.size : Int) - 1)) } := I2.kept (t' := s2.toks) fun b o e => Heap.get?_push_of_some _ e
  obtain ⟨f0, f1, f2, f3, f4, f5⟩ := I2.fpOk (H' := H2) (b := s2.heap.objs.size) (Nat.le_refl _) (I2.hok.fresh (Nat.le_refl _))
  have hl := p'.isList
  obtain ⟨ol, hol, _⟩ := id hl
  have hne : q ≠ s2.heap.objs.size := Nat.ne_of_lt (Heap.lt_size hol)
  have hn : its.toArray.size ≤ sizeLine := by rw [List.size_toArray, ← rv.length]; exact hz2
  refine Calls.spliced_nil ?_
  refine join_rev (s := { s2 with heap := s2.heap.push (revObj q ((its.toArray.size : Int) - 1)) }) (ys := ys.reverse) (I2.ok.hd hc) ⟨_, Heap.get?_push_size _ rfl, rfl, rfl⟩ (hl.push _) hne hn (fun acc hacc => ?_) ?_ fun h' tk t' hk => ?_
  · have r := RT.vals_rev rv hacc
    rw [← List.map_reverse] at r
    exact strs_of r
  · rw [List.map_reverse, List.sum_reverse, List.length_reverse]
    exact hz
  · exact ⟨.str _, H2, I3.turned (t' := tk) (fun b o hb e => hk b o hb e) f0 f1 f3 f4 f5, ⟨t', rfl⟩, q3⟩
theorem dpa_strs {K : PySem.W.Frag} {H : Hp} : ∀ {xs : List V} {ys : List Str}, DpAll K H xs (ys.map .str) → xs = ys.map V.str
  | [], [], .nil => rfl
  | _ :: _, _ :: _, .cons h t => by rw [dp_str h, dpa_strs t]; rfl
  | [], _ :: _, h => nomatch h
theorem pd_joinRev {ys : List Str} {x : Str} {apos pos p2 : Pos} {pos2 : Pos} (hm2 : X.mg "reversed" = none) (ho : PD X Δ o (dat X.K (.str x))) (he : PD X Δ e (dat X.K (.list (ys.map .str)))) (hz : (ys.map (·.length)).sum + ys.length * x.length ≤ 16777216) (hc : X.calm = true := by rfl) (hg2 : Gl X "reversed" := by rfl)
    (hs1 : starEach [.Call (.Name "reversed" p2) [e] [] pos2] X.env = [(false, eval (.Call (.Name "reversed" p2) [e] [] pos2) X.env)] := by rfl)
    (hs : starEach [e] X.env = (false, eval e X.env) :: starEach [] X.env := by rfl)
    (hbase : attributeBase o "join" X.env (eval o X.env) = eval o X.env := by rfl) (hline : (apos.endLine == pos.line) = true := by rfl) :
    PD X Δ (.Call (.Attribute o "join" apos) [.Call (.Name "reversed" p2) [e] [] pos2] [] pos) (dat X.K (.str (Txt.join x ys.reverse))) := by
  obtain ⟨to, po, fo⟩ := ho
  obtain ⟨te, pe, fe⟩ := he
  refine ⟨_, pe_joinRev hc po hg2 hm2 pe hs1 hs hbase hline, fun S0 M0 H0 σ H S hA Q k => fo S0 M0 H0 σ H S hA _ fun th v H1 hth e1 r => ?_⟩
  subst hth
  obtain rfl := dp_str r
  refine ⟨⟨_, rfl⟩, fe S0 M0 H0 σ H1 S (hA.up e1) _ fun th v H2 hth e2 r2 => ?_⟩
  subst hth
  obtain ⟨q, xs, rfl, hq, hd⟩ := dp_lst r2
  have ex := dpa_strs hd
  subst ex
  exact ⟨x, q, ys, rfl, rfl, ex_l hide_le hq, hz, k _ _ H2 rfl (e1.trans e2) (Dp.str _)⟩
/-- str(i) -/
theorem pd_strI {p : Pos} {i : Int} (hm : X.mg "str" = none) (ha : PD X Δ e (dat X.K (.int i))) (hz : i.natAbs.log2 < 1920) (hg : Gl X "str" := by rfl) (he : starEach [e] X.env = (false, eval e X.env) :: starEach [] X.env := by rfl) (hpl : (backTo pos (starEach [] X.env)).any (·.1) = false := by rfl) :
    PD X Δ (.Call (.Name "str" p) [e] [] pos) (dat X.K (.str (toString i))) :=
  px_bltT call_str_int hm (pl_cons ha pl_nil he) (fun S H ts vs _ hB r Q q => by
    subst hB
    obtain ⟨v, rfl, r0⟩ := all1 r
    obtain rfl := dp_int r0
    exact ⟨i, rfl, hz, q _ _ H rfl (Ex.refl H) (Dp.str _)⟩) (by decide +kernel) hg (by decide) (by decide) he hpl
/-- s + s' -/
theorem pd_adds {x y : Str} (ha : PD X Δ a (dat X.K (.str x))) (hb : PD X Δ b (dat X.K (.str y))) (hz : x.length + y.length ≤ 100000) : PD X Δ (.BinOp a .Add b pos) (dat X.K (.str (x ++ y))) :=
  px_two (fun _ _ pa pb => pe_op op_add_str pa pb) ha hb fun S H x' y' v w _ hx hy rx ry Q q => by
    subst hx; subst hy
    obtain rfl := dp_str rx
    obtain rfl := dp_str ry
    exact ⟨x, y, rfl, rfl, Nat.le_trans hz (by decide), q _ _ H rfl (Ex.refl H) (Dp.str _)⟩
/-- divmod(a, b) -/
theorem pd_divmod {p : Pos} {i j : Int} (hm : X.mg "divmod" = none) (ha : PD X Δ a (dat X.K (.int i))) (hb : PD X Δ b (dat X.K (.int j))) (h : CDivP i j) (hg : Gl X "divmod" := by rfl)
    (hs1 : starEach [a, b] X.env = (false, eval a X.env) :: starEach [b] X.env := by rfl) (hs2 : starEach [b] X.env = (false, eval b X.env) :: starEach [] X.env := by rfl) (hpl : (backTo pos (starEach [b] X.env)).any (·.1) = false := by rfl) :
    PD X Δ (.Call (.Name "divmod" p) [a, b] [] pos) (dat X.K (.tuple [.int (i / j), .int (i % j)])) :=
  px_blt call_divmodW hm (pl_cons ha (pl_cons hb pl_nil hs2) hs1) (fun S H ts vs dom hB r Q q => by
    subst hB
    obtain ⟨v, w, rfl, r0, r1⟩ := all2 r
    obtain rfl := dp_int r0
    obtain rfl := dp_int r1
    refine ⟨i, j, rfl, h, fun p hp => q _ _ _ rfl (Ex.new hp) ?_⟩
    exact Dp.tup (Or.inl (Or.inl (by rw [hide_out (dom.new hp)]; exact upd_same))) (.cons (.int _) (.cons (.int _) .nil))) (by decide +kernel) hg (by decide) (by decide) hs1 hpl
/-- s.zfill(n) -/
theorem pd_zfill {x : Str} {n : Int} {apos : Pos} (ho : PD X Δ o (dat X.K (.str x))) (he : PD X Δ e (dat X.K (.int n))) (hn : PadOk n = true)
    (hbase : attributeBase o "zfill" X.env (eval o X.env) = eval o X.env := by rfl)
    (hfew : ((backTo pos (starEach [e] X.env)).all (fun x => !x.1) && (backToKw pos (keywordEach [] X.env)).all (fun x => x.1.isSome)
      && decide ([e].length + ([] : List Keyword).length + (if ([] : List Keyword).isEmpty then 0 else 1) < 30)) = true := by rfl)
    (hline : (apos.endLine == pos.line) = true := by rfl) (hs : starEach [e] X.env = (false, eval e X.env) :: starEach [] X.env := by rfl) (hplain : (backTo pos (starEach [] X.env)).any (·.1) = false := by rfl) :
    PD X Δ (.Call (.Attribute o "zfill" apos) [e] [] pos) (dat X.K (.str (Txt.zfill x n))) := by
  obtain ⟨to, po, fo⟩ := ho
  obtain ⟨te, pe, fe⟩ := pl_cons he pl_nil hs
  refine ⟨_, pe_bm PySem.F.plainAttrs_str PySem.F.slot_str_zfill PySem.F.type_str_zfill mt_zfill po pe hbase hfew hline hs hplain, fun S0 M0 H0 σ H S hA Q k => fo S0 M0 H0 σ H S hA _ fun th v H1 hth e1 r => ?_⟩
  subst hth
  obtain rfl := dp_str r
  refine ⟨rfl, fe S0 M0 H0 σ H1 S (hA.up e1) _ fun ths vs H2 hB e2 r2 => ?_⟩
  subst hB
  obtain ⟨w, rfl, r3⟩ := all1 r2
  obtain rfl := dp_int r3
  exact ⟨x, n, rfl, rfl, hn, k _ _ H2 rfl (e1.trans e2) (Dp.str _)⟩
theorem ct_notInD {d : PyData} {ds : List PyData} (hu : X.A.units + 65 < cLine) (h1 : SeqAt.shaped d = true) (h2 : SeqAt.shaped (.list ds) = true) : CmpT X .NotIn (dat X.K d) (dat X.K (.list ds)) (!ds.any fun z => PyData.eqv z d) :=
  ⟨_, op_notInD hu, fun S H v w _ rx ry Q q => ⟨d, ds, dp_up hide_le rx, dp_up hide_le ry, h1, h2, q H (Ex.refl H)⟩⟩
theorem ct_inD {d : PyData} {ds : List PyData} (hu : X.A.units + 65 < cLine) (h1 : SeqAt.shaped d = true) (h2 : SeqAt.shaped (.list ds) = true) : CmpT X .In (dat X.K d) (dat X.K (.list ds)) (ds.any fun z => PyData.eqv z d) :=
  ⟨_, op_inD hu, fun S H v w _ rx ry Q q => ⟨d, ds, dp_up hide_le rx, dp_up hide_le ry, h1, h2, q H (Ex.refl H)⟩⟩
end
end DL
set_option Elab.async false
set_option linter.all false
set_option maxRecDepth 100000
/-! Defs with defaults that may raise; calls with one keyword. -/
namespace DL
open PySem PySem.Spec PyProof.Rows L2
structure GdY (P : Program) (w : World) (K : PySem.W.Frag) (mg : Str → Option Value) (base : Heap) (x : Str) (k : Nat) (dts : List Th) (R : CnX) : Prop where
  ex : ∃ f fd ps ds dvs, mg x = some (.ref f) ∧ PySem.W.keepIn K (.ref f) = true ∧ Binds K fd ps ds ∧ Vals dvs ds ∧ (∀ H, All H dts dvs) ∧ FnOk P w K mg base (L2.CX P w) k f fd ps (spX R)
theorem GdX.y {P : Program} {w : World} {K : PySem.W.Frag} {mg : Str → Option Value} {base : Heap} {x : Str} {k : Nat} {R : CnX} (G : GdX P w K mg base x k R) : GdY P w K mg base x k [] R := by
  obtain ⟨f, fd, ps, hm, hk, hb, F⟩ := G.ex
  exact ⟨f, fd, ps, [], [], hm, hk, hb, .nil, fun _ => trivial, F⟩
section
variable {X : Cx} {Δ : List Sl} {e a b c : Expr} {es : List Expr} {A B C : Th → Prop} {pos : Pos} {P : Post} {rest body els : List Stmt} {st : Stmt} {W : WX}
theorem px_callY {x : Str} {k : Nat} {dts : List Th} {R : CnX} {p : Pos} {B : List Th → Prop} (G : GdY X.prog X.w X.K X.mg X.base x k dts R) (hr : Room k X.A) (ha : PL X Δ (e :: es) B) (h : ∀ ts, B ts → ∃ A, R (ts ++ dts) (.val A) ∧ ∀ t, A t → C t)
    (hg : Gl X x := by rfl) (hdb : (x == ("__debug__" : Str)) = false := by decide) (he : starEach (e :: es) X.env = (false, eval e X.env) :: starEach es X.env := by rfl) (hpl : (backTo pos (starEach es X.env)).any (·.1) = false := by rfl) :
    PX X Δ (.Call (.Name x p) (e :: es) [] pos) C := by
  obtain ⟨f, fd, ps, ds, dvs, hm, hk, hb, hd, hdt, F⟩ := G.ex
  obtain ⟨t, pa, fa⟩ := ha
  refine ⟨_, pe_call (E := E0) F hr hg hm hk hb hd passL pa hdb he hpl, fun S0 M0 H0 σ H S hA Q q => ?_⟩
  refine fa S0 M0 H0 σ H S hA _ fun ths vs H1 hB e1 r => ?_
  obtain ⟨A, hR, hC⟩ := h ths hB
  exact ⟨S, ths ++ dts, .val A, (hA.up e1).dom, r.app (hdt _), hR, fun th v H2 hA2 e2 r2 => q th v H2 (hC th hA2) (e1.trans e2) r2⟩
theorem pd_callY {x : Str} {k : Nat} {dts : List Th} {R : CnX} {p : Pos} {ts : List Th} {t : Th} (G : GdY X.prog X.w X.K X.mg X.base x k dts R) (hr : Room k X.A) (ha : PLD X Δ (e :: es) ts) (h : R (ts ++ dts) (.val (· = t)))
    (hg : Gl X x := by rfl) (hdb : (x == ("__debug__" : Str)) = false := by decide) (he : starEach (e :: es) X.env = (false, eval e X.env) :: starEach es X.env := by rfl) (hpl : (backTo pos (starEach es X.env)).any (·.1) = false := by rfl) :
    PD X Δ (.Call (.Name x p) (e :: es) [] pos) t := px_callY G hr ha (fun us hu => ⟨_, by rw [hu]; exact h, fun _ z => z⟩) hg hdb he hpl
end
section
variable {P : Program} {w : World} {K : PySem.W.Frag} {mg : Str → Option Value} {base : Heap}
/-- a def with defaults that may raise -/
theorem fnDX_mk {x qual : Str} {params : Arguments} {bd : List Stmt} {scope : Scope} {dvs : List V} {kws : List (Str × V)} {f : Addr} {fd : FuncData} {N ps : List Str} {k : Nat} {R : CnX} (F : FunD K x qual params bd scope dvs kws f fd) (Sc : FnScope N ps scope) (hl : ∀ ts o, R ts o → ts.length = ps.length)
    (body : ∀ (cdv : Value) (A : Around) (outer : List Env) (s : Shared) (H : Hp) (E : XK), Room k (A.deeper (envOfC qual scope s.heap.objs.size f cdv)) → ∀ ts o, R ts o →
      SD (cxOf (L2.CX P w) P w K mg base N qual scope f cdv A outer s H E) (fun cls d _ H => E cls d H) bd (postX K o) (startΔ N ts)) : FnOk P w K mg base (L2.CX P w) (k + 1) f fd ps (spX R) := by
  refine F.ok Sc (fun vs H Q E ⟨S, ths, o, _, r, hR, _⟩ => by rw [← r.len]; exact hl _ _ hR) fun cdv A outer s H vs Q E hr ⟨S, ths, o, dom, r, hR, k⟩ => ?_
  obtain ⟨t, p, f⟩ := body cdv A outer s H E hr ths o hR
  have ex0 : ∀ {H'}, Ex (hide [] H) H' → Ex H H' := fun {H'} e a o h => e a o (by rw [hide_out (by simp)]; exact h)
  refine ⟨t, p, f S [] H _ H S (at_start dom r) _ ?_ ?_⟩
  · cases o with
    | val A => exact ends_ret k
    | exc C fs => exact ⟨fun _ _ ⟨_, _, p, _⟩ => p.elim, fun _ _ ⟨_, p, _⟩ => p.elim, fun _ _ ⟨_, _, p, _⟩ => p.elim, fun _ _ ⟨_, _, p, _⟩ => p.elim⟩
  · cases o with
    | val A => exact ⟨fun _ _ _ _ _ _ _ p => p.elim, fun _ => ⟨rfl, dom⟩⟩
    | exc C fs =>
      refine ⟨?_, fun _ => ⟨rfl, dom⟩⟩
      rintro σ1 H1 C' fs' d Δ1 S1 ⟨rfl, rfl⟩ hA r nd
      exact k d H1 (ex0 hA.ex) (r.up (hide_sub hA.sub)) fun a h z => nd a h (hA.sub a z)
/-- f(e, .., k = v): n values, one keyword behind them -/
theorem kb1 {x qual : Str} {params : Arguments} {body : List Stmt} {scope : Scope} {dvs : List V} {kws : List (Str × V)} {f : Addr} {fd : FuncData} {ps : List Str} (F : FunD K x qual params body scope dvs kws f fd) (n : Nat) (ks : List Str) (g : {α : Type} → List α → List α → List α → List α) (hd : dvs ≠ [])
    (hrel : ∀ {vs ds zs : List V} {us its ws : List Value}, Vals vs us → Vals ds its → Vals zs ws → Vals (g vs ds zs) (g us its ws))
    (h : ∀ (T : Addr) (kV doc pm : Value) (an : Option Addr) (cdv ct : Value) (us its ws : List Value), us.length = n → its.length = dvs.length → ws.length = ks.length →
      ∃ k, bindArgs (PySem.W.fnOf x qual params body scope (.ref T) kV doc pm an cdv ct) ⟨us, ks.zip ws⟩ = seqItems? (.ref T) >>= k ∧ k (some its.toArray) = pure (ps.zip (g us its ws))) :
    ∃ its : List Value, KBn K fd ps n ks (fun us ws => g us its ws) (fun vs zs => g vs dvs zs) := by
  obtain ⟨oc, od, dV, kV, doc, pm, an, cdv, ct, osl, rfl, lk, hcd, hD, hK⟩ := F.ex
  rcases hD with ⟨e, _⟩ | ⟨_, T, o, its, m, rfl, lT, oT, rT⟩
  · exact absurd e hd
  · refine ⟨its, ⟨fun s us ws X l1 l2 => ?_, fun r1 r2 => hrel r1 rT r2⟩⟩
    obtain ⟨k, e1, e2⟩ := h T kV doc pm an cdv ct us its ws l1 rT.length.symm l2
    refine BindsTo.of_looks fun M => ?_
    rw [e1]
    exact looks_items X lT oT (.of_pure e2)
structure GdK (P : Program) (w : World) (K : PySem.W.Frag) (mg : Str → Option Value) (base : Heap) (x : Str) (k n : Nat) (ks : List Str) (gT : List Th → List Th → List Th) (R : Cn) : Prop where
  ex : ∃ f fd ps g gV, mg x = some (.ref f) ∧ PySem.W.keepIn K (.ref f) = true ∧ KBn K fd ps n ks g gV ∧ (∀ H ts zs vs ws, All H ts vs → All H zs ws → vs.length = n → ws.length = ks.length → All H (gT ts zs) (gV vs ws)) ∧ FnOk P w K mg base CX0 k f fd ps (spT R)
end
section
variable {X : Cx} {Δ : List Sl} {e a b c : Expr} {es : List Expr} {A B C : Th → Prop} {pos : Pos}
theorem pd_callK1 {x nm : Str} {k n : Nat} {gT : List Th → List Th → List Th} {R : Cn} {p kpos : Pos} {ts : List Th} {u t : Th} (G : GdK X.prog X.w X.K X.mg X.base x k n [nm] gT R) (hr : Room k X.A) (ha : PLD X Δ (e :: es) ts) (hn : ts.length = n) (hz : PD X Δ c u) (h : R (gT ts [u]) (· = t))
    (hg : Gl X x := by rfl) (hall : (backToKw pos (keywordEach [⟨some nm, c, kpos⟩] X.env)).all (·.1.isSome) = true := by rfl) (hks : (backToKw pos (keywordEach [⟨some nm, c, kpos⟩] X.env)).filterMap (·.1) = [nm] := by rfl)
    (hdb : (x == ("__debug__" : Str)) = false := by decide) (he : starEach (e :: es) X.env = (false, eval e X.env) :: starEach es X.env := by rfl)
    (hpl : ((backTo pos (starEach (e :: es) X.env)).any (·.1) || (backToKw pos (keywordEach [⟨some nm, c, kpos⟩] X.env)).any (·.1.isNone)) = false := by rfl) :
    PD X Δ (.Call (.Name x p) (e :: es) [⟨some nm, c, kpos⟩] pos) t := by
  obtain ⟨f, fd, ps, g, gV, hm, hk, hb, hgt, F⟩ := G.ex
  obtain ⟨tt, pa, fa⟩ := ha
  obtain ⟨tc, pc, fc⟩ := hz
  refine ⟨_, pe_callN (E := E0) F hr hg hm hk hb pass0 pa (pk_cons pc pk_nil) hall hks hdb he hpl, fun S0 M0 H0 σ H S hA Q q => ?_⟩
  refine fa S0 M0 H0 σ H S hA _ fun ths vs H1 hB e1 r => ?_
  subst hB
  refine fc S0 M0 H0 σ H1 S (hA.up e1) _ fun th v H2 hB e2 r2 => ?_
  subst hB
  have lv : vs.length = n := r.len ▸ hn
  refine ⟨lv, rfl, S, _, _, (hA.up (e1.trans e2)).dom, hgt _ _ _ _ _ (r.up (hide_ex e2)) (show All (hide S H2) [th] [v] from ⟨r2, trivial⟩) lv rfl, h, fun th v H3 hA2 e3 r3 => q th v H3 hA2 (e1.trans (e2.trans e3)) r3⟩
end
end DL
set_option Elab.async false
set_option linter.all false
set_option maxRecDepth 100000
/-! Decimal texts; a loop over a range that is drawn; one ratio over another. -/
namespace DL
open PySem PySem.Spec PyProof.Rows L2
open TL (numL numL_lt numL_step numL_len numL_digits)
open SX (S)
/-! ### the digits of a number, 64 at a time -/
def dg : Nat → Nat → List Nat
  | 0, _ => []
  | k + 1, r => dg k (r / 10) ++ [48 + r % 10]
theorem dg_len (k : Nat) : ∀ r, (dg k r).length = k := by
  induction k with
  | zero => intro r; rfl
  | succ k ih => intro r; show (dg k (r / 10) ++ [48 + r % 10]).length = k + 1; rw [List.length_append, ih]; rfl
theorem numL_split (k : Nat) : ∀ m, 10 ^ k ≤ m → numL m = numL (m / 10 ^ k) ++ dg k m := by
  induction k with
  | zero => intro m _; simp [dg]
  | succ k ih =>
    intro m h
    have h10 : 10 ^ k ≤ m / 10 := by rw [Nat.le_div_iff_mul_le (by decide), ← Nat.pow_succ]; exact h
    have hm : 10 ≤ m := Nat.le_trans (by rw [Nat.pow_succ]; exact Nat.le_mul_of_pos_left 10 (Nat.pow_pos (by decide))) h
    rw [numL_step hm, ih (m / 10) h10, Nat.div_div_eq_div_mul, Nat.mul_comm 10, ← Nat.pow_succ, List.append_assoc]
    rfl
theorem dg_mod (k : Nat) : ∀ m, dg k (m % 10 ^ k) = dg k m := by
  induction k with
  | zero => intro m; rfl
  | succ k ih =>
    intro m
    have e1 : m % 10 ^ (k + 1) / 10 = (m / 10) % 10 ^ k := by rw [Nat.pow_succ, Nat.mul_comm, Nat.mod_mul_right_div_self]
    have e2 : m % 10 ^ (k + 1) % 10 = m % 10 := by rw [Nat.pow_succ, Nat.mul_comm, Nat.mod_mul_right_mod]
    show dg k (m % 10 ^ (k + 1) / 10) ++ [48 + m % 10 ^ (k + 1) % 10] = dg k (m / 10) ++ [48 + m % 10]
    rw [e1, e2, ih]
theorem dg_zero (k : Nat) : dg k 0 = List.replicate k 48 := by
  induction k with
  | zero => rfl
  | succ k ih => show dg k (0 / 10) ++ [48 + 0 % 10] = _; rw [Nat.zero_div, ih, List.replicate_succ']
theorem dg_pad (k : Nat) : ∀ r, r < 10 ^ (k + 1) → (numL r).length ≤ k + 1 ∧ dg (k + 1) r = List.replicate (k + 1 - (numL r).length) 48 ++ numL r := by
  induction k with
  | zero =>
    intro r h
    have h : r < 10 := h
    rw [numL_lt h]
    refine ⟨Nat.le_refl _, ?_⟩
    show [] ++ [48 + r % 10] = _
    rw [Nat.mod_eq_of_lt h]
    rfl
  | succ k ih =>
    intro r h
    by_cases h1 : r < 10
    · rw [numL_lt h1]
      refine ⟨by show 1 ≤ k + 2; omega, ?_⟩
      show dg (k + 1) (r / 10) ++ [48 + r % 10] = _
      rw [Nat.div_eq_of_lt h1, Nat.mod_eq_of_lt h1, dg_zero]
      rfl
    · obtain ⟨l1, l2⟩ := ih (r / 10) (by rw [Nat.div_lt_iff_lt_mul (by decide), ← Nat.pow_succ]; exact h)
      rw [numL_step (by omega)]
      refine ⟨by rw [List.length_append]; show _ + 1 ≤ _; omega, ?_⟩
      show dg (k + 1) (r / 10) ++ [48 + r % 10] = _
      rw [l2, List.length_append, List.append_assoc]
      congr 2
      show k + 1 - (numL (r / 10)).length = k + 1 + 1 - ((numL (r / 10)).length + 1)
      omega
theorem zfill_dg {k r : Nat} (h : r < 10 ^ (k + 1)) : Txt.zfill (Str.ofString (toString ((r : Nat) : Int))) ((k + 1 : Nat) : Int) = S (dg (k + 1) r) := by
  obtain ⟨l1, l2⟩ := dg_pad k r h
  rw [SX.num_S]
  unfold Txt.zfill
  rw [SX.S_len]
  by_cases hl : ((k + 1 : Nat) : Int) ≤ ((numL r).length : Int)
  · rw [if_pos hl, l2, show k + 1 - (numL r).length = 0 by omega]
    rfl
  · rw [if_neg hl, l2]
    have hd := numL_digits r
    have hne := TL.numL_ne r
    have hz : PySem.zfilled (S (numL r)) (k + 1 - (numL r).length) = Builtin.Str.padded (S (numL r)) (k + 1 - (numL r).length) 0 48 := by
      unfold PySem.zfilled
      generalize hc : numL r = L at *
      cases L with
      | nil => exact absurd rfl hne
      | cons c L =>
        have h0 : (S (c :: L)).cps[0]? = some c := by simp
        have hc1 := hd c (List.mem_cons_self ..)
        rw [h0]
        split
        · rename_i e; cases e; omega
        · rename_i e; cases e; omega
        · rfl
    rw [show ((k + 1 : Nat) : Int).toNat = k + 1 from rfl, hz]
    refine TL.ext_tl ?_
    show (Array.replicate (k + 1 - (numL r).length) 48 ++ (numL r).toArray ++ Array.replicate 0 48).toList = _
    simp
theorem joinL_nil : ∀ ps : List (List Nat), TL.joinL [] ps = ps.flatten
  | [] => rfl
  | [p] => by simp [TL.joinL]
  | p :: q :: r => by
    have ih := joinL_nil (q :: r)
    simp only [TL.joinL, List.flatten_cons] at ih ⊢
    rw [ih]
    simp
/-- ''.join of the parts -/
theorem join_parts (ps : List (List Nat)) : Txt.join (S []) (ps.map S) = S ps.flatten := by rw [SX.join_S, joinL_nil]
/-- the text of a whole number below 0 -/
theorem text_neg {i : Int} (h : i < 0) : Str.ofString (toString i) = S [45] ++ Str.ofString (toString (((i.natAbs : Nat)) : Int)) := by
  rw [toString_neg h, show (0 - i : Int) = ((i.natAbs : Nat) : Int) by omega]
  refine TL.ext_tl ?_
  rw [TL.tl_append]
  show (Str.ofString ("-" ++ toString ((i.natAbs : Nat) : Int))).cps.toList = [45] ++ (Str.ofString (toString ((i.natAbs : Nat) : Int))).cps.toList
  rw [Str.ofString_eq_toList, Str.ofString_eq_toList, String.toList_append, List.map_append]
  rfl
section
variable {X : Cx} {Δ : List Sl} {e a b c : Expr} {es : List Expr} {A B C : Th → Prop} {pos : Pos} {P : Post} {rest body els : List Stmt} {st : Stmt} {W : WX}
/-- for x in range(n), n drawn -/
theorem sd_forRX {x : Str} {px p pos2 : Pos} (j : Nat) {Nn : Int → Prop} (I : Int → Nat → List Sl → Prop) (hm : X.mg "range" = none) (he : PX X Δ e (isI X.K Nn)) (hn : ∀ n, Nn n → n < 2 ^ 62 ∧ -(2 ^ 62) ≤ n) (h0 : ∀ n, Nn n → I n 0 Δ)
    (step : ∀ (n : Int) (i : Nat) Δ', Nn n → (i : Int) < n → I n i Δ' → SD X W body { P with nx := I n (i + 1), ct := I n (i + 1), bk := fun Δ2 => SD X W rest P Δ2 } (Δ'.set j (.th (dat X.K (.int (i : Int))))))
    (hd : ∀ n Δ', Nn n → I n n.toNat Δ' → SD X W rest P Δ') (hN : X.N.Nodup) (hc : X.calm = true := by rfl) (hg : Gl X "range" := by rfl) (hi : X.N[j]? = some x := by rfl) (hx : Loc X.env.scope x := by first | exact Or.inl rfl | exact Or.inr rfl)
    (hf : X.fn x = true ∨ X.env.scope.names.lookup x = some .local := by first | exact .inl rfl | exact .inr rfl)
    (hse : starEach [e] X.env = (false, eval e X.env) :: starEach [] X.env := by rfl) (hs1 : starEach [e] X.env = [(false, eval e X.env)] := by rfl)
    (hp : PassesOwn (model X.prog X.w) X.A X.env X.xe := by exact PassesOwn.never) : SD X W (.For (.Name x px) (.Call (.Name "range" p) [e] [] pos2) body [] pos :: rest) P Δ := by
  refine sd_cons ?_
  obtain ⟨t, pa, fa⟩ := pl_consA (C := fun ts => ∃ i, ts = [dat X.K (.int i)] ∧ Nn i) he pl_nil (fun t ts ⟨i, h1, h2⟩ h3 => ⟨i, by rw [h1, h3], h2⟩) hse
  have qb : PSs X body (fun D σ H => ∃ t, PSs X body t ∧ t D σ H) := ⟨fun pins s σ H D J ⟨t, p, h⟩ => p.run pins s σ H D J h⟩
  refine ⟨_, ps_for hp hc (pi_range1 hg hm pa hs1) (pg_name hN hi hx hf) qb, fun S0 M0 H0 σ H S hA D le xw => ?_⟩
  refine fa S0 M0 H0 σ H S hA _ fun ths vs H1 ht e1 r => ?_
  obtain ⟨n, rfl, hnn⟩ := ht
  obtain ⟨v, rfl, r0⟩ := all1 r
  have := dp_int r0
  subst this
  obtain ⟨hn1, hn0⟩ := hn n hnn
  refine ⟨n, rfl, hn0, hn1, for_range (lo := 0) (n := n.toNat) (g := gName j) (tb := fun D σ H => ∃ t, PSs X body t ∧ t D σ H) (fun i σ' H' => ∃ Δ' S', I n i Δ' ∧ At S0 M0 H0 Δ' σ' H' S') ⟨Δ, S, h0 n hnn, hA.up e1⟩ (fun i σ' H' hi' ⟨Δ', S', i', hA'⟩ => ?_) (fun σ' H' ⟨Δ', S', i', hA'⟩ => le.nx _ _ ⟨Δ', S', hd n Δ' hnn i', hA'⟩)⟩
  obtain ⟨u, pu, fu⟩ := step n i Δ' hnn (by omega) i'
  have e0 : (0 : Int) + (i : Int) = (i : Int) := Int.zero_add _
  refine ⟨u, pu, ?_⟩
  rw [e0]
  exact fu S0 M0 H0 _ H' S' (hA'.set (t := dat X.K (.int (i : Int))) (Dp.int _)) _ ⟨fun _ _ z => z, le.rt, le.nx, fun _ _ z => z⟩ (xw_is xw (fun _ _ _ z => z) fun z => z)
end
end DL
set_option Elab.async false
set_option linter.all false
set_option maxRecDepth 100000
/-! What the defs over ratios promise. -/
namespace DL
open PySem PySem.Spec PyProof.Rows L2
open TL (numL)
open SX (S)
def RSumW (K : PySem.W.Frag) : Cn := fun ts A => ∃ (d : PyData) (qs : List Q) (n : Nat), ts = [dat K d] ∧ (d = .tuple (qs.map rD) ∨ d = .list (qs.map rD)) ∧ (∀ q ∈ qs, Sm n q) ∧ qs.length * (n + 1) + n ≤ 7900 ∧ A = (· = dat K (rD (sumQ qs)))
def refD (x : Str) : PyData := .list [.str "refused", .str x]
/-- make_ratio -/
def isIn : PyData → Bool
  | .int _ => true
  | _ => false
def intD : PyData → Int
  | .int i => i
  | _ => 0
theorem isWh_in (d : PyData) : isWh d none none = isIn d := by cases d <;> rfl
def RMake (K : PySem.W.Frag) (C : Addr) : CnX := fun ts o => ∃ d e : PyData, ts = [dat K d, dat K e] ∧ ((isIn d = false ∧ o = .exc C [("what", dat K (.str "top"))]) ∨ (isIn d = true ∧ (isIn e = false ∨ intD e = 0) ∧ o = .exc C [("what", dat K (.str "bottom"))]) ∨
  ∃ (i j : Int) (n : Nat), d = .int i ∧ e = .int j ∧ j ≠ 0 ∧ j.natAbs < 2 ^ n ∧ n < 9000 ∧ o = .val (· = dat K (rD (lowQ i j))))
def madeD (d e : PyData) : PyData := if isIn d = false then refD "top" else if isIn e = false ∨ intD e = 0 then refD "bottom" else rD (lowQ (intD d) (intD e))
def RMadeOf (K : PySem.W.Frag) : Cn := fun ts A => ∃ (d e : PyData) (n : Nat), ts = [dat K d, dat K e] ∧ (intD e).natAbs < 2 ^ n ∧ n < 9000 ∧ A = (· = dat K (madeD d e))
def overQ (a b : Q) : Q := lowQ (a.1 * b.2) (a.2 * b.1)
def ROver (K : PySem.W.Frag) (C : Addr) : CnX := fun ts o => ∃ (a b : Q) (n m : Nat), ts = [dat K (rD a), dat K (rD b)] ∧ Sm n a ∧ Sm m b ∧ n + m ≤ 8000 ∧ ((b.1 = 0 ∧ o = .exc C [("what", dat K (.str "zero"))]) ∨ (b.1 ≠ 0 ∧ o = .val (· = dat K (rD (overQ a b)))))
def RDivd (K : PySem.W.Frag) : Cn := fun ts A => ∃ (a b : Q) (n m : Nat), ts = [dat K (rD a), dat K (rD b)] ∧ Sm n a ∧ Sm m b ∧ n + m ≤ 8000 ∧ A = (· = dat K (if b.1 = 0 then refD "zero" else rD (overQ a b)))
def RLOver (K : PySem.W.Frag) : Cn := fun ts A => ∃ (a b : Q) (n m : Nat), ts = [dat K (rD a), dat K (rD b)] ∧ Sm n a ∧ Sm m b ∧ n + m ≤ 8000 ∧ b.1 ≠ 0 ∧ A = (· = dat K (rD (overQ a b)))
def RSignOf (K : PySem.W.Frag) : Cn := fun ts A => ∃ a : Q, ts = [dat K (rD a)] ∧ A = (· = dat K (.int (signI a.1)))
theorem over_bot {n m : Nat} {a b : Q} (ha : Sm n a) (hb : Sm m b) (h : b.1 ≠ 0) : a.2 * b.1 ≠ 0 := Int.mul_ne_zero (by have := ha.p; omega) h
/-- the least and the greatest of a row -/
def lesser (a b : Q) : Q := if cmpQ b a < 0 then b else a
def greater (a b : Q) : Q := if 0 < cmpQ b a then b else a
def leastQ (a : Q) (qs : List Q) : Q := qs.foldl lesser a
def greatQ (a : Q) (qs : List Q) : Q := qs.foldl greater a
def RBest (K : PySem.W.Frag) (f : Q → List Q → Q) : Cn := fun ts A => ∃ (d : PyData) (q : Q) (qs : List Q) (n : Nat), ts = [dat K d] ∧ (d = .tuple ((q :: qs).map rD) ∨ d = .list ((q :: qs).map rD)) ∧ (∀ z ∈ q :: qs, Sm n z) ∧ n ≤ 4000 ∧ A = (· = dat K (rD (f q (q :: qs))))
theorem ix0_T {d : PyData} {ds : List PyData} : ixD (.tuple (d :: ds)) 0 = some d := atI_nat (xs := d :: ds) (j := 0) rfl
theorem ix0_L {d : PyData} {ds : List PyData} : ixD (.list (d :: ds)) 0 = some d := atI_nat (xs := d :: ds) (j := 0) rfl
/-- texts -/
def txtI (i : Int) : Str := Str.ofString (toString i)
def RText (K : PySem.W.Frag) : Cn := fun ts A => ∃ n : Nat, ts = [dat K (.int n)] ∧ n < 10 ^ 560 ∧ A = (· = dat K (.str (txtI n)))
def ratTxt (q : Q) : Str := if q.2 = 1 then txtI q.1 else txtI q.1 ++ S [47] ++ txtI q.2
def RRatTxt (K : PySem.W.Frag) : Cn := fun ts A => ∃ q : Q, ts = [dat K (rD q)] ∧ q.1.natAbs < 10 ^ 560 ∧ 0 < q.2 ∧ q.2 < 10 ^ 560 ∧ A = (· = dat K (.str (ratTxt q)))
def RNumber (K : PySem.W.Frag) : Cn := fun ts A => ts = [handT] ∧ A = isI K (fun i => i.natAbs < 10 ^ 135)
def RRight (K : PySem.W.Frag) : Cn := fun ts A => ∃ q : Q, ts = [dat K (rD q), dat K (rD q)] ∧ A = (· = dat K (.bool true))
def RKinds (K : PySem.W.Frag) : Cn := fun ts A => ∃ (q : Q) (m : Int), ts = [dat K (rD q), dat K (.int m)] ∧ Low q ∧ q.1.natAbs < 2 ^ 4000 ∧ q.2.natAbs < 2 ^ 4000 ∧ A = (· = dat K (.bool true))
end DL
set_option Elab.async false
set_option linter.all false
set_option maxRecDepth 100000
/-! Lists that a comprehension makes and that grow later. -/
namespace DL
open PySem PySem.Spec PyProof.Rows L2
/-- a new list stands in the i-th slot -/
theorem At.newMl {S0 M0 S : List Addr} {H0 H H' : Hp} {Δ : List Sl} {σ : L2.St} (hA : At S0 M0 H0 Δ σ H S) {l : Addr} (hl : H l = none) (ex1 : Ex H H') {xs : List V} {ts : List Th} (h1 : H' l = some (.lst xs)) (hr : All (hide (l :: S) H') ts xs) (i : Nat) :
    At S0 M0 H0 (Δ.set i (.ml ts)) (σ.set i (some (V.ref l))) H' (l :: S) := by
  have nS : l ∉ S := hA.dom.new hl
  have nl : l ∉ M0 → H0 l = none := ex_none hA.ex hl
  have own0 : l ∈ M0 ∨ H0 l = none := by
    by_cases q : l ∈ M0
    · exact Or.inl q
    · exact Or.inr (nl q)
  have hid : Ex (hide S H) (hide (l :: S) H') := fun a o h => by
    by_cases q : a ∈ S
    · rw [hide_in q] at h; cases h
    · rw [hide_out q] at h
      have ne : a ≠ l := ne_of_none h hl
      rw [hide_out (by simp [ne, q])]
      exact ex1 a o h
  have env1 : SlsR (l :: S) H' Δ σ := by
    have step : ∀ {Δ : List Sl} {σ : L2.St}, SlsR S H Δ σ → SlsR (l :: S) H' Δ σ := fun {Δ σ} h => by
      induction Δ generalizing σ with
      | nil =>
        cases σ with
        | nil => trivial
        | cons _ _ => exact h.elim
      | cons s ss ih =>
        cases σ with
        | nil => exact h.elim
        | cons o os =>
          refine ⟨?_, ih h.2⟩
          have h1 := h.1
          cases s with
          | no => trivial
          | th t => obtain ⟨v, e1, r⟩ := h1; exact ⟨v, e1, t.up _ _ _ hid r⟩
          | ml ts => obtain ⟨a, xs, e1, m, q, r⟩ := h1; exact ⟨a, xs, e1, List.mem_cons_of_mem _ m, ex1 a _ q, r.up hid⟩
    exact step hA.env
  have other : ∀ {m : Nat} {ts : List Th} {a : Addr}, Δ[m]? = some (.ml ts) → σ[m]? = some (some (V.ref a)) → a ≠ l := fun {m ts a} h1 h2 z => by
    obtain ⟨o, e1, a', xs, e2, mm, q, _⟩ := hA.env.get h1
    rw [h2] at e1
    have e3 := Option.some.inj e1
    rw [← e3] at e2
    have e4 : a = a' := V.ref.inj (Option.some.inj e2)
    exact nS (by rw [← z, e4]; exact mm)
  have at_ : ∀ {m : Nat} {us : List Th}, (Δ.set i (.ml ts))[m]? = some (.ml us) → m = i ∨ (m ≠ i ∧ Δ[m]? = some (.ml us)) := fun {m us} h => by
    by_cases q : m = i
    · exact Or.inl q
    · rw [List.getElem?_set_ne (Ne.symm q)] at h
      exact Or.inr ⟨q, h⟩
  have si : ∀ {a : Addr}, (σ.set i (some (V.ref l)))[i]? = some (some (V.ref a)) → a = l := fun {a} h => by
    rw [List.getElem?_set_self'] at h
    cases z : σ[i]? with
    | none => rw [z] at h; simp at h
    | some w =>
      rw [z] at h
      have h' : V.ref l = V.ref a := by simpa using h
      exact (V.ref.inj h').symm
  refine ⟨fun a h => List.mem_cons_of_mem _ (hA.sub a h), hA.msub, fun a h => ?_, hA.ex.trans ex1, fun a h => ?_, SlsR.set (s := .ml ts) ⟨l, xs, rfl, List.mem_cons_self, h1, hr⟩ env1, fun m j ts us a h1 h2 h3 h4 => ?_, fun m ts a h1 h3 => ?_⟩
  · rcases List.mem_cons.mp h with z | z
    · subst z
      rcases own0 with z | z
      · exact Or.inl (hA.msub _ z)
      · exact Or.inr z
    · exact hA.new a z
  · rcases List.mem_cons.mp h with z | z
    · subst z
      rw [h1]
      exact fun z => nomatch z
    · exact (hA.dom.up ex1) a z
  · rcases at_ h1 with z1 | ⟨z1, g1⟩ <;> rcases at_ h2 with z2 | ⟨z2, g2⟩
    · rw [z1, z2]
    · subst z1
      have e1 := si h3
      rw [List.getElem?_set_ne (Ne.symm z2)] at h4
      exact absurd e1 (other g2 h4)
    · subst z2
      have e1 := si h4
      rw [List.getElem?_set_ne (Ne.symm z1)] at h3
      exact absurd e1 (other g1 h3)
    · rw [List.getElem?_set_ne (Ne.symm z1)] at h3
      rw [List.getElem?_set_ne (Ne.symm z2)] at h4
      exact hA.apart m j ts us a g1 g2 h3 h4
  · rcases at_ h1 with z1 | ⟨z1, g1⟩
    · subst z1
      rw [si h3]
      exact own0
    · rw [List.getElem?_set_ne (Ne.symm z1)] at h3
      exact hA.own m ts a g1 h3
section
variable {X : Cx} {Δ : List Sl} {e a b c : Expr} {es : List Expr} {A B C : Th → Prop} {pos : Pos} {P : Post} {rest body els : List Stmt} {st : Stmt} {W : WX}
/-- y = [elt for x in range(n)], y grows later -/
theorem sd_lcRM {x : Str} {px p1 p2 : Pos} {elt : Expr} {scope : Scope} (j : Nat) {Nn : Int → Prop} {L : Nat} (Bw : Nat → PyData → Prop) (hm : X.mg "range" = none) (he : PX X Δ e (isI X.K Nn)) (hn : ∀ n, Nn n → 0 ≤ n ∧ n ≤ L) (hL : L ≤ 40000)
    (ht : ∀ (i : Nat), i < L → ∀ (s : Shared) (H : Hp) (C : Addr) (cl : List (Str × Addr)) (fp : List Addr), PX (X.blk s H scope (compEnvC scope cl C X.env) fp) ((wipeΔ Δ [j]).set j (.th (dat X.K (.int (i : Int))))) elt (fun t => ∃ w, t = dat X.K w ∧ Bw i w))
    (hN : X.N.Nodup) (ok : BlkOk X.N X.env.scope scope [(x, j)])
    (hg : ∀ (s : Shared) (H : Hp) (C : Addr) (cl : List (Str × Addr)) (fp : List Addr), PG (X.blk s H scope (compEnvC scope cl C X.env) fp) (.Name x px) (gName j))
    (i0 : Nat) {y : Str} {py spos : Pos} {rest : List Stmt} (k0 : ∀ (es : List PyData) (n : Int), Nn n → (es.length : Int) = n → (∀ i w, es[i]? = some w → Bw i w) → SD X W rest P (Δ.set i0 (.ml (es.map (dat X.K)))))
    (hy : X.N[i0]? = some y := by rfl) (hyl : X.env.scope.names.lookup y = some .local := by rfl) (hsw : swapsWith (.ListComp elt [⟨.Name x px, .Call (.Name "range" p1) [e] [] p2, [], 0⟩] scope pos) (some (.Name y py)) spos.line X.env = pure true := by exact sw_true rfl rfl rfl (by decide +kernel))
    (hc : X.calm = true := by rfl) (hgl : Gl X "range" := by rfl) (hse : starEach [e] X.env = (false, eval e X.env) :: starEach [] X.env := by rfl) (hs1 : starEach [e] X.env = [(false, eval e X.env)] := by rfl)
    (hs : ∀ x, foldedSetIterable (.Call (.Name "range" p1) [e] [] p2) X.env x = pure x := by intro _; rfl) :
    SD X W (.Assign [.Name y py] (.ListComp elt [⟨.Name x px, .Call (.Name "range" p1) [e] [] p2, [], 0⟩] scope pos) spos :: rest) P Δ := by
  refine sd_cons ?_
  obtain ⟨t, pa, f⟩ := pl_consA (C := fun ts => ∃ i, ts = [dat X.K (.int i)] ∧ Nn i) he pl_nil (fun t ts ⟨i, h1, h2⟩ h3 => ⟨i, by rw [h1, h3], h2⟩) hse
  have q : ∀ (s : Shared) (H : Hp) (C : Addr) (cl : List (Str × Addr)) (fp : List Addr), PE (X.blk s H scope (compEnvC scope cl C X.env) fp) elt (teU X scope elt) := fun s H C cl fp => ⟨fun pins s' σ H' Q I h => by
    obtain ⟨t, pt, ht⟩ := h s H C cl fp
    exact pt.run pins s' σ H' Q I ht⟩
  refine ⟨_, ps_setLc (own := [(x, j)]) (g := gName j) (tt := tYes) hc hN hy hyl hsw (pi_range1 hgl hm pa hs1) ok hg (fun _ _ _ _ _ => pts_nil) q hs, fun S0 M0 H0 σ H S hA D0 le xw => ?_⟩
  refine f S0 M0 H0 σ H S hA _ fun ths vs H1 hth e1 r => ?_
  obtain ⟨n, rfl, nn⟩ := hth
  obtain ⟨v, rfl, r0⟩ := all1 r
  have := dp_int r0
  subst this
  have hb := hn n nn
  have hA1 := hA.up e1
  refine ⟨n, rfl, by omega, by omega, fun D hD => lc_range (lo := 0) (n := n.toNat) (g := gName j) (tt := tYes) (te := teU X scope elt) (vs := [j]) (LcP X.K Bw S H1 D) ⟨Ex.new hD, [], [], upd_same, .nil, rfl, fun j w h => by simp at h⟩ (fun i H' hi p => ?_) fun H' p => ?_⟩
  · have e0 : (0 : Int) + (i : Int) = (i : Int) := Int.zero_add _
    rw [e0]
    exact ⟨wipe_setv, lc_turn hA1 hD (by omega) (Dp.int _) p (ht i (by omega))⟩
  · obtain ⟨e2, acc, es, h1, h2, h3, h4⟩ := p
    exact le.nx _ _ ⟨_, D :: S, k0 es n nn (by omega) h4, hA1.newMl hD e2 h1 (dpa_all h2) i0⟩
/-- list(x), x a list that grows -/
theorem pd_listM (i : Nat) {x : Str} {p p' : Pos} {ds : List PyData} (h : Δ[i]? = some (.ml (ds.map (dat X.K)))) (hm : X.mg "list" = none) (hN : X.N[i]? = some x := by rfl) (hv : Vis X.env.scope x := by first | exact Or.inl rfl | exact Or.inr (Or.inl rfl) | exact Or.inr (Or.inr rfl)) (hd : (x == ("__debug__" : Str)) = false := by decide)
    (hcd : (x == ("__classdict__" : Str)) = false := by decide) (hg : Gl X "list" := by rfl) (na : starEach [.Name x p'] X.env = (false, eval (.Name x p') X.env) :: starEach [] X.env := by rfl) (hpl : (backTo pos (starEach [] X.env)).any (·.1) = false := by rfl) :
    PD X Δ (.Call (.Name "list" p) [.Name x p'] [] pos) (dat X.K (.list ds)) := by
  refine ⟨_, pe_callTy call_list_of hg hm (by decide +kernel) (pa_cons (pe_var hN hv hd hcd) pa_nil na), fun S0 M0 H0 σ H S hA Q q => ?_⟩
  obtain ⟨o, e1, a, xs, e2, hmem, hH, hx⟩ := hA.env.get h
  subst e2
  refine ⟨.ref a, e1, a, xs, rfl, Or.inl (SqL.of hH), fun l hl => q _ _ _ rfl (Ex.new hl) (Dp.lst (SqL.of (by rw [hide_out (hA.dom.new hl)]; exact upd_same)) (dpa_up (hide_ex (Ex.new hl)) (all_dpa hx)))⟩
/-- list + list -/
def rCatL (K : PySem.W.Frag) : R2 := fun x y H Q => ∃ l b xs zs, x = .ref l ∧ y = .ref b ∧ SqL K H l xs ∧ SqL K H b zs ∧ xs.length + zs.length ≤ sizeLine ∧ ∀ p, H p = none → Q (.ref p) (upd H p (.lst (xs ++ zs)))
theorem op_catL : OpR X (binaryOp .Add) (rCatL X.K) := by
  intro pins s σ H x y v u Q I rx ry h
  obtain ⟨l, b, xs, zs, rfl, rfl, hH, hB, hz, q⟩ := h
  cases rx
  cases ry
  obtain ⟨vs, r, p1, _⟩ := I.list hH
  obtain ⟨ws, r2, p2, _⟩ := I.list hB
  have e1 := r.length
  have e2 := r2.length
  obtain ⟨⟨cls, dd, data, sl⟩, ho, hc, n, hd⟩ := p1.isList
  obtain ⟨⟨cls2, dd2, data2, sl2⟩, ho2, hc2, n2, hd2⟩ := p2.isList
  simp only at hc hd hc2 hd2
  subst hc hd hc2 hd2
  refine concat_meets ⟨_, ho, rfl⟩ ⟨_, ho2, rfl⟩ noFill_list_add seq_list_add PySem.F.slot_list_add PySem.F.entry_list_add (PySem.F.args_list_add_2 _ _) (list_addW l b vs.toArray ws.toArray n n2 dd dd2 sl sl2 (by simp only [List.size_toArray]; omega)) ⟨ho, ho2, ?_⟩
  have ea : vs.toArray ++ ws.toArray = (vs ++ ws).toArray := by simp
  rw [ea]
  exact ⟨.ref _, _, I.lnew (t' := s.toks) (r.append r2) (by rw [List.length_append]; omega), rfl, q _ I.fresh⟩
theorem pd_catL {ds es : List PyData} (ha : PD X Δ a (dat X.K (.list ds))) (hb : PD X Δ b (dat X.K (.list es))) (hz : ds.length + es.length ≤ 100000) : PD X Δ (.BinOp a .Add b pos) (dat X.K (.list (ds ++ es))) :=
  px_two (fun _ _ pa pb => pe_op op_catL pa pb) ha hb fun S H x' y' v w dom hx hy rx ry Q q => by
    subst hx; subst hy
    obtain ⟨l, xs, rfl, hq, hd⟩ := dp_lst rx
    obtain ⟨b, zs, rfl, hq2, hd2⟩ := dp_lst ry
    refine ⟨l, b, xs, zs, rfl, rfl, ex_l hide_le hq, ex_l hide_le hq2, by rw [dpa_len hd, dpa_len hd2]; exact Nat.le_trans hz (by decide), fun p hp => q _ _ _ rfl (Ex.new hp) (Dp.lst (SqL.of ?_) (dpa_up (hide_ex (Ex.new hp)) (dpa_app hd hd2)))⟩
    rw [hide_out (dom.new hp)]
    exact upd_same
end
end DL
set_option Elab.async false
set_option linter.all false
set_option maxRecDepth 100000
/-! Ratios in order; rows of ratios as data. -/
namespace DL
open PySem PySem.Spec PyProof.Rows L2
theorem shaped_S {l : List Nat} (h : ∀ c ∈ l, c < 128) : SeqAt.shaped (.str (SX.S l)) = true := by
  simp only [SeqAt.shaped, PyData.canLay0, PyData.depth, PyData.strOk, Bool.and_eq_true]
  refine ⟨?_, rfl⟩
  simp only [SX.S, List.all_toArray, List.all_eq_true, decide_eq_true_eq]
  exact fun c hc => Nat.lt_trans (h c hc) (by decide)
theorem txt_ok (i : Int) : ∃ l, txtI i = SX.S l ∧ ∀ c ∈ l, c < 128 := by
  have pos : ∀ n : Nat, txtI (n : Int) = SX.S (TL.numL n) ∧ ∀ c ∈ TL.numL n, c < 128 := fun n => ⟨SX.num_S n, fun c hc => by have := TL.numL_digits n c hc; omega⟩
  by_cases h : i < 0
  · have e : txtI i = SX.S [45] ++ txtI ((i.natAbs : Nat) : Int) := text_neg h
    rw [e, (pos _).1, SX.S_cat]
    refine ⟨_, rfl, fun c hc => ?_⟩
    rcases List.mem_append.mp hc with z | z
    · rw [List.mem_singleton.mp z]; decide
    · exact (pos _).2 c z
  · have e : i = ((i.natAbs : Nat) : Int) := by omega
    rw [e]
    exact ⟨_, (pos _).1, (pos _).2⟩
theorem shaped_txt (i : Int) : SeqAt.shaped (.str (txtI i)) = true := by
  obtain ⟨l, e, h⟩ := txt_ok i
  rw [e]
  exact shaped_S h
theorem shaped_rat (q : Q) : SeqAt.shaped (.str (ratTxt q)) = true := by
  unfold ratTxt
  obtain ⟨l, e, h⟩ := txt_ok q.1
  obtain ⟨l2, e2, h2⟩ := txt_ok q.2
  split
  · rw [e]; exact shaped_S h
  · rw [e, e2, SX.S_cat, SX.S_cat]
    refine shaped_S fun c hc => ?_
    rcases List.mem_append.mp hc with z | z
    · rcases List.mem_append.mp z with z | z
      · exact h c z
      · rw [List.mem_singleton.mp z]; decide
    · exact h2 c z
theorem shaped_rD (q : Q) : SeqAt.shaped (rD q) = true := by simp [SeqAt.shaped, rD, PyData.canLay0, PyData.canLayAll0, PyData.depth, PyData.depthAll]
theorem u65 {k : Nat} {A : Around} (h : Room k A) : A.units + 65 < cLine := by have := h.un; omega
theorem lf_rD (q : Q) : lf (rD q) = true := by simp [lf, lfs, rD]
theorem low_one' (m : Int) : Low ((m, 1) : Q) := ⟨Nat.gcd_one_right _, show (0 : Int) < 1 by decide⟩
theorem lowQ_one (m : Int) : lowQ m 1 = (m, 1) := low_id (low_one' m)
def GQ (q : Q) : Prop := Sm 900 q ∧ Low q
theorem rats_of {Pq : Q → Prop} : ∀ es : List PyData, (∀ (i : Nat) w, es[i]? = some w → ∃ q, w = rD q ∧ Pq q) → ∃ rs : List Q, es = rs.map rD ∧ ∀ q ∈ rs, Pq q
  | [], _ => ⟨[], rfl, fun _ h => by cases h⟩
  | e :: es, h => by
    obtain ⟨q, rfl, hq⟩ := h 0 e rfl
    obtain ⟨rs, rfl, hr⟩ := rats_of es fun i w hw => h (i + 1) w (by simpa using hw)
    refine ⟨q :: rs, rfl, fun z hz => ?_⟩
    rcases List.mem_cons.mp hz with e | e
    · rw [e]; exact hq
    · exact hr z e
theorem ints_of {Pi : Int → Prop} : ∀ es : List PyData, (∀ (i : Nat) w, es[i]? = some w → ∃ m : Int, w = .int m ∧ Pi m) → ∃ l : List Int, es = l.map .int ∧ ∀ m ∈ l, Pi m
  | [], _ => ⟨[], rfl, fun _ h => by cases h⟩
  | e :: es, h => by
    obtain ⟨q, rfl, hq⟩ := h 0 e rfl
    obtain ⟨rs, rfl, hr⟩ := ints_of es fun i w hw => h (i + 1) w (by simpa using hw)
    refine ⟨q :: rs, rfl, fun z hz => ?_⟩
    rcases List.mem_cons.mp hz with e | e
    · rw [e]; exact hq
    · exact hr z e
theorem six {l : List Int} (h : l.length = 6) : ∃ a b c d e f, l = [a, b, c, d, e, f] := by
  match l, h with
  | [a, b, c, d, e, f], _ => exact ⟨a, b, c, d, e, f, rfl⟩
theorem pick_Q {qs : List Q} {i : Int} (h0 : 0 ≤ i) (h1 : i < ((qs.map rD).length : Int)) : ∃ q ∈ qs, ixD (.list (qs.map rD)) i = some (rD q) := by
  obtain ⟨j, rfl⟩ : ∃ j : Nat, i = (j : Int) := ⟨i.toNat, by omega⟩
  rw [List.length_map] at h1
  have hj : j < qs.length := by omega
  exact ⟨qs[j], List.getElem_mem hj, atI_nat (by rw [List.getElem?_map, List.getElem?_eq_getElem hj]; rfl)⟩
theorem lay_qs : ∀ ps : List Q, PyData.canLayAll0 (ps.map rD) = true
  | [] => by simp [PyData.canLayAll0]
  | p :: ps => by simp [PyData.canLayAll0, PyData.canLay0, rD, lay_qs ps]
theorem depth_qs : ∀ ps : List Q, PyData.depthAll (ps.map rD) ≤ 3
  | [] => by simp [PyData.depthAll]
  | p :: ps => by
    have h := depth_qs ps
    have h2 : (rD p).depth ≤ 3 := by simp [rD, PyData.depth, PyData.depthAll]
    simp only [List.map_cons, PyData.depthAll]
    omega
theorem shaped_qs (ps : List Q) : SeqAt.shaped (.list (ps.map rD)) = true := by
  have h1 := depth_qs ps
  have h2 : PyData.depth (.list (ps.map rD)) ≤ 64 := by
    simp only [PyData.depth]
    omega
  show (PyData.canLay0 (.list (ps.map rD)) && decide (PyData.depth (.list (ps.map rD)) ≤ 64)) = true
  rw [Bool.and_eq_true]
  exact ⟨by simp only [PyData.canLay0]; exact lay_qs ps, decide_eq_true h2⟩
theorem eqv_qs : ∀ ps : List Q, PyData.eqvAll (ps.map rD) (ps.map rD) = true
  | [] => by simp [PyData.eqvAll]
  | p :: ps => by simp [PyData.eqvAll, eqv_rD, eqv_qs ps]
theorem eqv_qL (ps : List Q) : PyData.eqv (.list (ps.map rD)) (.list (ps.map rD)) = true := by
  simp only [PyData.eqv]
  exact eqv_qs ps
theorem any_rD {ps : List Q} {q : Q} (h : q ∈ ps) : ((ps.map rD).any fun z => PyData.eqv z (rD q)) = true := by
  rw [List.any_eq_true]
  exact ⟨rD q, List.mem_map_of_mem h, eqv_rD q⟩
/-! order -/
def leQ (a b : Q) : Prop := a.1 * b.2 ≤ b.1 * a.2
theorem leQ_refl (a : Q) : leQ a a := Int.le_refl _
theorem leQ_trans {a b c : Q} (hb : 0 < b.2) (ha : 0 < a.2) (hc : 0 < c.2) (h : leQ a b) (g : leQ b c) : leQ a c := by
  unfold leQ at *
  have h1 : a.1 * b.2 * c.2 ≤ b.1 * a.2 * c.2 := Int.mul_le_mul_of_nonneg_right h (by omega)
  have h2 : b.1 * c.2 * a.2 ≤ c.1 * b.2 * a.2 := Int.mul_le_mul_of_nonneg_right g (by omega)
  have e1 : a.1 * b.2 * c.2 = (a.1 * c.2) * b.2 := by grind
  have e2 : c.1 * b.2 * a.2 = (c.1 * a.2) * b.2 := by grind
  have e3 : b.1 * a.2 * c.2 = b.1 * c.2 * a.2 := by grind
  exact Int.le_of_mul_le_mul_right (by rw [← e1, ← e2]; omega) hb
theorem cmp_lt {a b : Q} : cmpQ a b < 0 ↔ ¬ leQ b a := by
  unfold cmpQ signI leQ
  constructor
  · intro h
    split at h
    · omega
    · split at h <;> omega
  · intro h
    rw [if_neg (by omega), if_neg (by omega)]
    decide
theorem cmp_gt {a b : Q} : 0 < cmpQ a b ↔ ¬ leQ a b := by
  unfold cmpQ signI leQ
  constructor
  · intro h
    split at h
    · omega
    · split at h <;> omega
  · intro h
    rw [if_neg (by omega), if_pos (by omega)]
    decide
theorem leQ_total (a b : Q) : leQ a b ∨ leQ b a := by unfold leQ; omega
theorem least_ok : ∀ (l : List Q) (a : Q), (∀ z ∈ a :: l, 0 < z.2) → l.foldl lesser a ∈ a :: l ∧ ∀ z ∈ a :: l, leQ (l.foldl lesser a) z
  | [], a, _ => ⟨List.mem_cons_self .., fun z hz => by rw [List.mem_singleton.mp hz]; exact leQ_refl a⟩
  | x :: l, a, h => by
    have hm : lesser a x = a ∨ lesser a x = x := by unfold lesser; split; exact Or.inr rfl; exact Or.inl rfl
    have hp : ∀ z ∈ lesser a x :: l, 0 < z.2 := fun z hz => by
      rcases List.mem_cons.mp hz with e | e
      · rw [e]
        rcases hm with e | e <;> rw [e]
        · exact h a (List.mem_cons_self ..)
        · exact h x (List.mem_cons_of_mem _ (List.mem_cons_self ..))
      · exact h z (List.mem_cons_of_mem _ (List.mem_cons_of_mem _ e))
    obtain ⟨i1, i2⟩ := least_ok l (lesser a x) hp
    have la : leQ (lesser a x) a := by
      unfold lesser
      split
      · rename_i q
        rcases leQ_total x a with g | g
        · exact g
        · exact absurd g (cmp_lt.mp q)
      · exact leQ_refl a
    have lx : leQ (lesser a x) x := by
      unfold lesser
      split
      · exact leQ_refl x
      · rename_i q
        rcases leQ_total a x with g | g
        · exact g
        · exact Classical.byContradiction fun g2 => q (cmp_lt.mpr fun g3 => g2 g3)
    have hr : 0 < (l.foldl lesser (lesser a x)).2 := hp _ i1
    refine ⟨?_, fun z hz => ?_⟩
    · show l.foldl lesser (lesser a x) ∈ _
      rcases List.mem_cons.mp i1 with e | e
      · rw [e]
        rcases hm with e | e <;> rw [e]
        · exact List.mem_cons_self ..
        · exact List.mem_cons_of_mem _ (List.mem_cons_self ..)
      · exact List.mem_cons_of_mem _ (List.mem_cons_of_mem _ e)
    · show leQ (l.foldl lesser (lesser a x)) z
      have i0 := i2 _ (List.mem_cons_self ..)
      have hl := hp _ (List.mem_cons_self ..)
      rcases List.mem_cons.mp hz with e | e
      · rw [e]; exact leQ_trans hl hr (h a (List.mem_cons_self ..)) i0 la
      · rcases List.mem_cons.mp e with e | e
        · rw [e]; exact leQ_trans hl hr (h x (List.mem_cons_of_mem _ (List.mem_cons_self ..))) i0 lx
        · exact i2 z (List.mem_cons_of_mem _ e)
theorem great_ok : ∀ (l : List Q) (a : Q), (∀ z ∈ a :: l, 0 < z.2) → l.foldl greater a ∈ a :: l ∧ ∀ z ∈ a :: l, leQ z (l.foldl greater a)
  | [], a, _ => ⟨List.mem_cons_self .., fun z hz => by rw [List.mem_singleton.mp hz]; exact leQ_refl a⟩
  | x :: l, a, h => by
    have hm : greater a x = a ∨ greater a x = x := by unfold greater; split; exact Or.inr rfl; exact Or.inl rfl
    have hp : ∀ z ∈ greater a x :: l, 0 < z.2 := fun z hz => by
      rcases List.mem_cons.mp hz with e | e
      · rw [e]
        rcases hm with e | e <;> rw [e]
        · exact h a (List.mem_cons_self ..)
        · exact h x (List.mem_cons_of_mem _ (List.mem_cons_self ..))
      · exact h z (List.mem_cons_of_mem _ (List.mem_cons_of_mem _ e))
    obtain ⟨i1, i2⟩ := great_ok l (greater a x) hp
    have la : leQ a (greater a x) := by
      unfold greater
      split
      · rename_i q
        rcases leQ_total a x with g | g
        · exact g
        · exact absurd g (cmp_gt.mp q)
      · exact leQ_refl a
    have lx : leQ x (greater a x) := by
      unfold greater
      split
      · exact leQ_refl x
      · rename_i q
        exact Classical.byContradiction fun g2 => q (cmp_gt.mpr g2)
    have hr : 0 < (l.foldl greater (greater a x)).2 := hp _ i1
    refine ⟨?_, fun z hz => ?_⟩
    · show l.foldl greater (greater a x) ∈ _
      rcases List.mem_cons.mp i1 with e | e
      · rw [e]
        rcases hm with e | e <;> rw [e]
        · exact List.mem_cons_self ..
        · exact List.mem_cons_of_mem _ (List.mem_cons_self ..)
      · exact List.mem_cons_of_mem _ (List.mem_cons_of_mem _ e)
    · show leQ z (l.foldl greater (greater a x))
      have i0 := i2 _ (List.mem_cons_self ..)
      have hl := hp _ (List.mem_cons_self ..)
      rcases List.mem_cons.mp hz with e | e
      · rw [e]; exact leQ_trans hl (h a (List.mem_cons_self ..)) hr la i0
      · rcases List.mem_cons.mp e with e | e
        · rw [e]; exact leQ_trans hl (h x (List.mem_cons_of_mem _ (List.mem_cons_self ..))) hr lx i0
        · exact i2 z (List.mem_cons_of_mem _ e)
theorem mem_dup {a : Q} {l : List Q} {z : Q} (h : z ∈ a :: a :: l) : z ∈ a :: l := by
  rcases List.mem_cons.mp h with e | e
  · rw [e]; exact List.mem_cons_self ..
  · exact e
theorem cmp_anti (a b : Q) : cmpQ b a = -cmpQ a b := by
  unfold cmpQ signI
  by_cases h : a.1 * b.2 - b.1 * a.2 = 0
  · rw [if_pos h, if_pos (by omega)]; rfl
  · rw [if_neg h, if_neg (by omega)]
    by_cases h2 : 0 < a.1 * b.2 - b.1 * a.2
    · rw [if_pos h2, if_neg (by omega)]
    · rw [if_neg h2, if_pos (by omega)]; rfl
theorem cmp_self (a : Q) : cmpQ a a = 0 := by unfold cmpQ signI; rw [if_pos (by omega)]
theorem cmp_zero (a : Q) : cmpQ a (0, 1) = signI a.1 := by unfold cmpQ; congr 1; show a.1 * 1 - 0 * a.2 = a.1; omega
end DL
set_option Elab.async false
set_option linter.all false
set_option maxRecDepth 100000
/-! What the top says of an error class with an __init__ of its own. -/
namespace DL
open PySem PySem.Spec PyProof.Rows L2
def ErrI (K : PySem.W.Frag) (x q : Str) (st : Stmt) (gs : List Str) : Prop := ∃ (C f : Addr) (fd : FuncData), PySem.W.nsIn K mainGlobals x = some (some (.ref C)) ∧ OexC K C ∧ XfC K C ∧ PySem.W.exmOne K (.ref C) (.ref C) = some true ∧ (∀ g ∈ gs, PySem.W.findIn K (.ref C) g = some none) ∧
  PySem.W.findIn K (.ref C) "__init__" = some (some (.ref f)) ∧ PySem.W.typeIn K (.ref f) = some (.type "function") ∧ Fun K "__init__" q st f fd
section
variable {K : PySem.W.Frag} {x qn : Str} {st : Stmt} {C S f : Addr} {nm q : Str} {N : Addr} {bs : List Value} {sn : List Str} {sub : List Value} {ab : Bool} {col : Option Bool} {dd : Option Addr} {m0 m1 m2 m3 m5 : Option Value} {oc : Value} {od an : Option Addr} {osl : Array (Option Value)} {kV doc pm cdv ct : Value} {g g' : Str}
theorem erri_mk1 (aC : PySem.W.nsIn K mainGlobals x = some (some (.ref C)))
    (xL : K.lookup C = some (excClassObj nm q C N bs [.ref S, .type "ValueError", .type "Exception", .type "BaseException", .type "object"] true sn sub ab col dd m0 m1 m2 m3 m5 "ValueError.__new__"))
    (sa : PySem.W.findIn K (.ref C) "__setattr__" = some (some (.builtin "object.__setattr__"))) (ga : PySem.W.findIn K (.ref C) "__getattribute__" = some (some (.builtin "BaseException.__getattribute__"))) (gg : PySem.W.findIn K (.ref C) "__getattr__" = some none) (nb : PySem.W.findIn K (.ref C) g = some none)
    (kC : PySem.W.keepIn K (.ref C) = true) (eC : PySem.W.subIn K (.ref C) (.type "BaseException") = some true) (tC : PySem.W.typeIn K (.ref C) = some (.type "type")) (hC : PySem.W.hasDictIn K C = true) (iC : PySem.W.isClsIn K C = true) (sC : PySem.W.subIn K (.ref C) (.ref C) = some true)
    (a1 : PySem.W.findIn K (.ref C) "__init__" = some (some (.ref f))) (t1 : PySem.W.typeIn K (.ref f) = some (.type "function"))
    (l1 : K.lookup f = some ⟨oc, od, .func (PySem.W.fnOf "__init__" qn (defArgs st) (defBody st) (defScope st) .none kV doc pm an cdv ct), osl⟩) (c1 : PySem.W.codeIn K cdv qn = true) (k1 : PySem.W.keepIn K (.ref f) = true) : ErrI K x qn st [g] :=
  ⟨C, f, _, aC, ⟨⟨nm, q, N, bs, _, sn, sub, ab, col, dd, m0, m1, m2, m3, m5, xL, (show PySem.HandSPX.refsVE [.type "ValueError", .type "Exception", .type "BaseException", .type "object"] = true by decide +kernel)⟩, sa, eC, tC, kC⟩, ⟨ga, gg, eC, hC⟩, exm_own eC iC tC sC, fun z hz => by rw [List.mem_singleton.mp hz]; exact nb, a1, t1, fun_mk l1 c1 k1⟩
theorem erri_mk2 (aC : PySem.W.nsIn K mainGlobals x = some (some (.ref C)))
    (xL : K.lookup C = some (excClassObj nm q C N bs [.ref S, .type "ValueError", .type "Exception", .type "BaseException", .type "object"] true sn sub ab col dd m0 m1 m2 m3 m5 "ValueError.__new__"))
    (sa : PySem.W.findIn K (.ref C) "__setattr__" = some (some (.builtin "object.__setattr__"))) (ga : PySem.W.findIn K (.ref C) "__getattribute__" = some (some (.builtin "BaseException.__getattribute__"))) (gg : PySem.W.findIn K (.ref C) "__getattr__" = some none) (nb : PySem.W.findIn K (.ref C) g = some none) (nb2 : PySem.W.findIn K (.ref C) g' = some none)
    (kC : PySem.W.keepIn K (.ref C) = true) (eC : PySem.W.subIn K (.ref C) (.type "BaseException") = some true) (tC : PySem.W.typeIn K (.ref C) = some (.type "type")) (hC : PySem.W.hasDictIn K C = true) (iC : PySem.W.isClsIn K C = true) (sC : PySem.W.subIn K (.ref C) (.ref C) = some true)
    (a1 : PySem.W.findIn K (.ref C) "__init__" = some (some (.ref f))) (t1 : PySem.W.typeIn K (.ref f) = some (.type "function"))
    (l1 : K.lookup f = some ⟨oc, od, .func (PySem.W.fnOf "__init__" qn (defArgs st) (defBody st) (defScope st) .none kV doc pm an cdv ct), osl⟩) (c1 : PySem.W.codeIn K cdv qn = true) (k1 : PySem.W.keepIn K (.ref f) = true) : ErrI K x qn st [g, g'] :=
  ⟨C, f, _, aC, ⟨⟨nm, q, N, bs, _, sn, sub, ab, col, dd, m0, m1, m2, m3, m5, xL, (show PySem.HandSPX.refsVE [.type "ValueError", .type "Exception", .type "BaseException", .type "object"] = true by decide +kernel)⟩, sa, eC, tC, kC⟩, ⟨ga, gg, eC, hC⟩, exm_own eC iC tC sC, fun z hz => by
    rcases List.mem_cons.mp hz with e | e
    · rw [e]; exact nb
    · rw [List.mem_singleton.mp e]; exact nb2, a1, t1, fun_mk l1 c1 k1⟩
end
theorem paired_take {xs : List V} {us : List Value} (r : Vals xs us) : ∀ n, Vals (xs.take n) (us.take n) := by
  induction r with
  | nil => intro n; rw [List.take_nil, List.take_nil]; exact .nil
  | cons h t ih =>
    intro n
    cases n with
    | zero => exact .nil
    | succ n => exact .cons h (ih n)
end DL
set_option Elab.async false
set_option linter.all false
set_option maxRecDepth 100000
/-! Rows of things; several targets; what raises inside other expressions. -/
namespace DL
open PySem PySem.Spec PyProof.Rows L2
theorem Th.eq {t u : Th} (h : ∀ H v, t.R H v ↔ u.R H v) : t = u := by
  obtain ⟨R, up⟩ := t
  obtain ⟨R', up'⟩ := u
  have e : R = R' := funext fun H => funext fun v => propext (h H v)
  subst e
  rfl
def tupT (K : PySem.W.Frag) (ts : List Th) : Th := ⟨fun H v => ∃ a xs, v = .ref a ∧ SqT K H a xs ∧ All H ts xs, fun _ _ _ e ⟨a, xs, h1, h2, h3⟩ => ⟨a, xs, h1, ex_t e h2, h3.up e⟩⟩
def lstT (K : PySem.W.Frag) (ts : List Th) : Th := ⟨fun H v => ∃ a xs, v = .ref a ∧ SqL K H a xs ∧ All H ts xs, fun _ _ _ e ⟨a, xs, h1, h2, h3⟩ => ⟨a, xs, h1, ex_l e h2, h3.up e⟩⟩
theorem dat_tup {K : PySem.W.Frag} {ds : List PyData} : dat K (.tuple ds) = tupT K (ds.map (dat K)) := Th.eq fun H v =>
  ⟨fun h => let ⟨a, xs, h1, h2, h3⟩ := dp_tup h; ⟨a, xs, h1, h2, dpa_all h3⟩, fun ⟨a, xs, h1, h2, h3⟩ => by subst h1; exact Dp.tup h2 (all_dpa h3)⟩
theorem dat_lst {K : PySem.W.Frag} {ds : List PyData} : dat K (.list ds) = lstT K (ds.map (dat K)) := Th.eq fun H v =>
  ⟨fun h => let ⟨a, xs, h1, h2, h3⟩ := dp_lst h; ⟨a, xs, h1, h2, dpa_all h3⟩, fun ⟨a, xs, h1, h2, h3⟩ => by subst h1; exact Dp.lst h2 (all_dpa h3)⟩
/-! several names as a target -/
def gNames : List Nat → TGs
  | [] => gNil
  | i :: is => gCons (gName i) (gNames is)
def setN (Δ : List Sl) : List Nat → List Th → List Sl
  | i :: is, t :: ts => setN (Δ.set i (.th t)) is ts
  | _, _ => Δ
theorem At.setN0 {S0 M0 S : List Addr} {H0 H : Hp} : ∀ {is : List Nat} {ts : List Th} {vs : List V} {Δ : List Sl} {σ : L2.St}, At S0 M0 H0 Δ σ H S → All (hide S H) ts vs → ts.length = is.length → ∀ {N : L2.St → Hp → Prop}, (∀ σ', At S0 M0 H0 (setN Δ is ts) σ' H S → N σ' H) → gNames is vs σ H N
  | [], [], [], _, σ, hA, _, _, N, k => ⟨rfl, k σ hA⟩
  | i :: is, t :: ts, v :: vs, _, σ, hA, hr, hl, N, k => ⟨v, vs, rfl, At.setN0 (is := is) (hA.set (i := i) (t := t) hr.1) hr.2 (by simpa using hl) k⟩
  | [], _ :: _, _, _, _, _, _, hl, _, _ => by simp at hl
  | _ :: _, [], _, _, _, _, _, hl, _, _ => by simp at hl
  | [], [], _ :: _, _, _, _, h, _, _, _ => h.elim
  | _ :: _, _ :: _, [], _, _, _, h, _, _, _ => h.elim
section
variable {X : Cx} {Δ : List Sl} {e a b c o : Expr} {es : List Expr} {A B C : Th → Prop} {pos : Pos} {P : Post} {rest body els : List Stmt} {st : Stmt} {W : WX}
/-- x, y, .. = e, e a tuple -/
theorem sd_asgN (is : List Nat) {tg : List Expr} {kk : Nat} {pt : Pos} {ts : List Th} (he : PD X Δ e (tupT X.K ts)) (hl : ts.length = is.length) (hpg : PGs X tg (gNames is)) (k : SD X W rest P (setN Δ is ts)) (hc : X.calm = true := by rfl)
    (hn : (assignEach tg X.env).length = is.length := by rfl) (hst : (assignEach tg X.env).findIdx? (·.1) = none := by rfl)
    (hs : swapsWithSole [.Tuple tg kk pt] e pos.line X.env = pure false := by rfl) (hw : swappedStores [.Tuple tg kk pt] e X.env = pure none := by rfl) :
    SD X W (.Assign [.Tuple tg kk pt] e pos :: rest) P Δ := by
  obtain ⟨t, pe, f⟩ := he
  refine sd_cons ⟨_, ps_asg pe (pg_tup hc hpg hn hst) hs hw, fun S0 M0 H0 σ H S hA D le xw => f S0 M0 H0 σ H S hA _ fun th v H2 ha e2 r => ?_⟩
  subst ha
  obtain ⟨p, xs, rfl, hq, hd⟩ := r
  exact ⟨p, xs, rfl, ex_t hide_le hq, by rw [← hd.len, hl], (hA.up e2).setN0 hd hl fun σ' h => le.nx _ _ ⟨_, S, k, h⟩⟩
/-- for x in e, e a row of things -/
theorem sd_forT {x : Str} {px : Pos} (j : Nat) {t : Th} {ts : List Th} (I : Nat → List Sl → Prop) (he : PD X Δ e t) (hd0 : t = tupT X.K ts ∨ t = lstT X.K ts) (h0 : I 0 Δ)
    (step : ∀ (i : Nat) z Δ', ts[i]? = some z → I i Δ' → SD X W body { P with nx := I (i + 1), ct := I (i + 1), bk := fun Δ2 => SD X W rest P Δ2, top := false } (Δ'.set j (.th z)))
    (hd : ∀ Δ', I ts.length Δ' → SD X W rest P Δ') (hN : X.N.Nodup) (hc : X.calm = true := by rfl) (hi : X.N[j]? = some x := by rfl) (hx : Loc X.env.scope x := by first | exact Or.inl rfl | exact Or.inr rfl)
    (hf : X.fn x = true ∨ X.env.scope.names.lookup x = some .local := by first | exact .inl rfl | exact .inr rfl)
    (hp : PassesOwn (model X.prog X.w) X.A X.env X.xe := by exact PassesOwn.never) (hfs : ∀ x, foldedSetIterable e X.env x = pure x := by intro _; rfl) : SD X W (.For (.Name x px) e body [] pos :: rest) P Δ := by
  refine sd_cons ?_
  obtain ⟨t, pe, f⟩ := he
  have qb : PSs X body (fun D σ H => ∃ t, PSs X body t ∧ t D σ H) := ⟨fun pins s σ H D J ⟨t, p, h⟩ => p.run pins s σ H D J h⟩
  have turn : ∀ {S0 M0 S : List Addr} {H0 H H' : Hp} {σ σ' : L2.St} {D : Ends} {xs : List V} {i : Nat} {v : V} {Δ' : List Sl} {S' : List Addr}, At S0 M0 H0 Δ σ H S → Le (ends S0 M0 H0 { P with nx := fun Δ' => SD X W rest P Δ' }) D → XW S0 M0 H0 P W → All (hide S H) ts xs → xs[i]? = some v →
      I i Δ' → At S (mls Δ σ) H Δ' σ' H' S' → (fun D σ H => ∃ t, PSs X body t ∧ t D σ H) { D with nx := fun σ2 H2 => ∃ Δ2 S2, I (i + 1) Δ2 ∧ At S (mls Δ σ) H Δ2 σ2 H2 S2, ct := fun σ2 H2 => ∃ Δ2 S2, I (i + 1) Δ2 ∧ At S (mls Δ σ) H Δ2 σ2 H2 S2, bk := D.nx } (σ'.set j (some v)) H' := by
    intro S0 M0 S H0 H H' σ σ' D xs i v Δ' S' hA le xw hx' hv i' hA'
    obtain ⟨z, hz, r⟩ := hx'.get hv
    obtain ⟨u, pu, fu⟩ := step i z Δ' hz i'
    have le' := ends_lift hA hA.mown le
    exact ⟨u, pu, fu S (mls Δ σ) H _ H' S' (hA'.set (t := z) (z.up _ _ _ hA'.hid r)) _ ⟨fun _ _ q => q, le'.rt, le'.nx, fun _ _ q => q⟩ (xw_lift hA hA.mown xw (fun _ _ _ z => z) rfl)⟩
  have fin : ∀ {S0 M0 S : List Addr} {H0 H H' : Hp} {σ σ' : L2.St} {D : Ends}, At S0 M0 H0 Δ σ H S → Le (ends S0 M0 H0 { P with nx := fun Δ' => SD X W rest P Δ' }) D → (∃ Δ' S', I ts.length Δ' ∧ At S (mls Δ σ) H Δ' σ' H' S') → D.nx σ' H' :=
    fun hA le ⟨Δ', S', i', hA'⟩ => le.nx _ _ ⟨Δ', S', hd Δ' i', hA.lift hA.mown hA'⟩
  rcases hd0 with rfl | rfl
  · refine ⟨_, ps_for hp hc (pi_tup pe) (pg_name hN hi hx hf) qb hfs, fun S0 M0 H0 σ H S hA D le xw => ?_⟩
    refine f S0 M0 H0 σ H S hA _ fun th v H1 ht e1 r => ?_
    subst ht
    obtain ⟨p, xs, rfl, hq, hxs⟩ := r
    have hA1 := hA.up e1
    refine ⟨p, rfl, ⟨xs, ex_t hide_le hq⟩, for_tup (K := X.K) (a := p) (xs := xs) (g := gName j) (tb := fun D σ H => ∃ t, PSs X body t ∧ t D σ H) (fun i σ' H' => ∃ Δ' S', I i Δ' ∧ At S (mls Δ σ) H1 Δ' σ' H' S') ⟨Δ, S, h0, hA1.here⟩ (fun i σ' H' _ ⟨Δ', S', _, hA'⟩ => ex_t hide_le (ex_t hA'.hid hq)) (fun i v σ' H' hv ⟨Δ', S', i', hA'⟩ => turn hA1 le xw hxs hv i' hA') (fun σ' H' w => fin hA1 le (by rw [hxs.len]; exact w))⟩
  · refine ⟨_, ps_for hp hc (pi_list pe) (pg_name hN hi hx hf) qb hfs, fun S0 M0 H0 σ H S hA D le xw => ?_⟩
    refine f S0 M0 H0 σ H S hA _ fun th v H1 ht e1 r => ?_
    subst ht
    obtain ⟨p, xs, rfl, hq, hxs⟩ := r
    have hA1 := hA.up e1
    refine ⟨p, rfl, ⟨xs, ex_l hide_le hq⟩, for_list (K := X.K) (a := p) (xs := xs) (g := gName j) (tb := fun D σ H => ∃ t, PSs X body t ∧ t D σ H) (fun i σ' H' => ∃ Δ' S', I i Δ' ∧ At S (mls Δ σ) H1 Δ' σ' H' S') ⟨Δ, S, h0, hA1.here⟩ (fun i σ' H' _ ⟨Δ', S', _, hA'⟩ => ex_l hide_le (ex_l hA'.hid hq)) (fun i v σ' H' hv ⟨Δ', S', i', hA'⟩ => turn hA1 le xw hxs hv i' hA') (fun σ' H' w => fin hA1 le (by rw [hxs.len]; exact w))⟩
/-- for x, y, .. in e, e a row of tuples of things -/
theorem sd_forN (is : List Nat) {tg : List Expr} {kk : Nat} {pt : Pos} {t : Th} {tss : List (List Th)} (I : Nat → List Sl → Prop) (he : PD X Δ e t) (hd0 : t = tupT X.K (tss.map (tupT X.K)) ∨ t = lstT X.K (tss.map (tupT X.K))) (hl : ∀ ts ∈ tss, ts.length = is.length) (h0 : I 0 Δ)
    (step : ∀ (i : Nat) ts Δ', tss[i]? = some ts → I i Δ' → SD X W body { P with nx := I (i + 1), ct := I (i + 1), bk := fun Δ2 => SD X W rest P Δ2, top := false } (setN Δ' is ts))
    (hd : ∀ Δ', I tss.length Δ' → SD X W rest P Δ') (hpg : PGs X tg (gNames is)) (hc : X.calm = true := by rfl)
    (hn : (assignEach tg X.env).length = is.length := by rfl) (hst : (assignEach tg X.env).findIdx? (·.1) = none := by rfl)
    (hp : PassesOwn (model X.prog X.w) X.A X.env X.xe := by exact PassesOwn.never) (hfs : ∀ x, foldedSetIterable e X.env x = pure x := by intro _; rfl) : SD X W (.For (.Tuple tg kk pt) e body [] pos :: rest) P Δ := by
  refine sd_cons ?_
  obtain ⟨t, pe, f⟩ := he
  have qb : PSs X body (fun D σ H => ∃ t, PSs X body t ∧ t D σ H) := ⟨fun pins s σ H D J ⟨t, p, h⟩ => p.run pins s σ H D J h⟩
  have turn : ∀ {S0 M0 S : List Addr} {H0 H H' : Hp} {σ σ' : L2.St} {D : Ends} {xs : List V} {i : Nat} {v : V} {Δ' : List Sl} {S' : List Addr}, At S0 M0 H0 Δ σ H S → Le (ends S0 M0 H0 { P with nx := fun Δ' => SD X W rest P Δ' }) D → XW S0 M0 H0 P W → All (hide S H) (tss.map (tupT X.K)) xs → xs[i]? = some v →
      I i Δ' → At S (mls Δ σ) H Δ' σ' H' S' → gTup X.K is.length (gNames is) v σ' H' (fun σ'' H'' => (fun D σ H => ∃ t, PSs X body t ∧ t D σ H) { D with nx := fun σ2 H2 => ∃ Δ2 S2, I (i + 1) Δ2 ∧ At S (mls Δ σ) H Δ2 σ2 H2 S2, ct := fun σ2 H2 => ∃ Δ2 S2, I (i + 1) Δ2 ∧ At S (mls Δ σ) H Δ2 σ2 H2 S2, bk := D.nx } σ'' H'') := by
    intro S0 M0 S H0 H H' σ σ' D xs i v Δ' S' hA le xw hx' hv i' hA'
    obtain ⟨z, hz, r⟩ := hx'.get hv
    rw [List.getElem?_map] at hz
    obtain ⟨ts, hts, rfl⟩ := Option.map_eq_some_iff.mp hz
    obtain ⟨u, pu, fu⟩ := step i ts Δ' hts i'
    have le' := ends_lift hA hA.mown le
    obtain ⟨p, ys, rfl, hq, hys⟩ := (tupT X.K ts).up _ _ _ hA'.hid r
    have hlen := hl ts (List.mem_of_getElem? hts)
    exact ⟨p, ys, rfl, ex_t hide_le hq, by rw [← hys.len, hlen], hA'.setN0 hys hlen fun σ'' hA'' => ⟨u, pu, fu S (mls Δ σ) H _ H' S' hA'' _ ⟨fun _ _ q => q, le'.rt, le'.nx, fun _ _ q => q⟩ (xw_lift hA hA.mown xw (fun _ _ _ z => z) rfl)⟩⟩
  have fin : ∀ {S0 M0 S : List Addr} {H0 H H' : Hp} {σ σ' : L2.St} {D : Ends}, At S0 M0 H0 Δ σ H S → Le (ends S0 M0 H0 { P with nx := fun Δ' => SD X W rest P Δ' }) D → (∃ Δ' S', I tss.length Δ' ∧ At S (mls Δ σ) H Δ' σ' H' S') → D.nx σ' H' :=
    fun hA le ⟨Δ', S', i', hA'⟩ => le.nx _ _ ⟨Δ', S', hd Δ' i', hA.lift hA.mown hA'⟩
  rcases hd0 with rfl | rfl
  · refine ⟨_, ps_for hp hc (pi_tup pe) (pg_tup hc hpg hn hst) qb hfs, fun S0 M0 H0 σ H S hA D le xw => ?_⟩
    refine f S0 M0 H0 σ H S hA _ fun th v H1 ht e1 r => ?_
    subst ht
    obtain ⟨p, xs, rfl, hq, hxs⟩ := r
    have hA1 := hA.up e1
    refine ⟨p, rfl, ⟨xs, ex_t hide_le hq⟩, for_tup (K := X.K) (a := p) (xs := xs) (g := gTup X.K is.length (gNames is)) (tb := fun D σ H => ∃ t, PSs X body t ∧ t D σ H) (fun i σ' H' => ∃ Δ' S', I i Δ' ∧ At S (mls Δ σ) H1 Δ' σ' H' S') ⟨Δ, S, h0, hA1.here⟩ (fun i σ' H' _ ⟨Δ', S', _, hA'⟩ => ex_t hide_le (ex_t hA'.hid hq)) (fun i v σ' H' hv ⟨Δ', S', i', hA'⟩ => turn hA1 le xw hxs hv i' hA') (fun σ' H' w => fin hA1 le (by have := hxs.len; rw [List.length_map] at this; rw [this]; exact w))⟩
  · refine ⟨_, ps_for hp hc (pi_list pe) (pg_tup hc hpg hn hst) qb hfs, fun S0 M0 H0 σ H S hA D le xw => ?_⟩
    refine f S0 M0 H0 σ H S hA _ fun th v H1 ht e1 r => ?_
    subst ht
    obtain ⟨p, xs, rfl, hq, hxs⟩ := r
    have hA1 := hA.up e1
    refine ⟨p, rfl, ⟨xs, ex_l hide_le hq⟩, for_list (K := X.K) (a := p) (xs := xs) (g := gTup X.K is.length (gNames is)) (tb := fun D σ H => ∃ t, PSs X body t ∧ t D σ H) (fun i σ' H' => ∃ Δ' S', I i Δ' ∧ At S (mls Δ σ) H1 Δ' σ' H' S') ⟨Δ, S, h0, hA1.here⟩ (fun i σ' H' _ ⟨Δ', S', _, hA'⟩ => ex_l hide_le (ex_l hA'.hid hq)) (fun i v σ' H' hv ⟨Δ', S', i', hA'⟩ => turn hA1 le xw hxs hv i' hA') (fun σ' H' w => fin hA1 le (by have := hxs.len; rw [List.length_map] at this; rw [this]; exact w))⟩
end
end DL
set_option Elab.async false
set_option linter.all false
set_option maxRecDepth 100000
/-! Walks over rows, enumerate, zip, ranges, by any target: loops and comprehensions. -/
namespace DL
open PySem PySem.Spec PyProof.Rows L2
/-- what is walked over: the things it gives, turn by turn -/
def PIt (X : Cx) (Δ : List Sl) (tg it : Expr) (ts : List Th) : Prop :=
  ∃ ti : TI, PI X tg it ti ∧ ∀ S0 M0 H0 σ H S, At S0 M0 H0 Δ σ H S → ∀ R : It → Hp → Prop,
    (∀ (J : It) (H1 : Hp) (G : Hp → Prop) (Y : Nat → Hp → V → Hp → Prop), Ex H H1 → Walk J ts.length G Y → (∀ Hb Hc, Ex Hb Hc → G Hb → G Hc) → G (hide S H1) →
      (∀ i Hc v Hd (S' : List Addr), Y i Hc v Hd → Dom S' Hc → Ex (hide S H1) (hide S' Hc) → Ex Hc Hd ∧ ∃ t, ts[i]? = some t ∧ t.R (hide S' Hd) v) → R J H1) → ti σ H R
/-- a target: what the slots are behind it -/
def PTg (X : Cx) (tg : Expr) (is : List Nat) (Z : Th → (List Sl → List Sl) → Prop) : Prop :=
  ∃ g : TG, PG X tg g ∧ ∀ t u, Z t u → ∀ S0 M0 H0 Δ σ H S v, At S0 M0 H0 Δ σ H S → t.R (hide S H) v → ∀ N : L2.St → Hp → Prop, (∀ σ', At S0 M0 H0 (u Δ) σ' H S → L2.wipe σ' is = L2.wipe σ is → N σ' H) → g v σ H N
theorem wipe_comm {σ : L2.St} {i : Nat} {o : Option V} : ∀ is : List Nat, (i ∈ is → L2.wipe (σ.set i o) is = L2.wipe σ is) ∧ (i ∉ is → L2.wipe (σ.set i o) is = (L2.wipe σ is).set i o)
  | [] => ⟨(fun h => by cases h), fun _ => rfl⟩
  | j :: is => by
    obtain ⟨h1, h2⟩ := wipe_comm (σ := σ) (i := i) (o := o) is
    refine ⟨fun h => ?_, fun h => ?_⟩
    · show (L2.wipe (σ.set i o) is).set j none = (L2.wipe σ is).set j none
      by_cases m : i ∈ is
      · rw [h1 m]
      · rw [h2 m]
        have e : i = j := by
          rcases List.mem_cons.mp h with z | z
          · exact z
          · exact absurd z m
        rw [e, List.set_set]
    · show (L2.wipe (σ.set i o) is).set j none = ((L2.wipe σ is).set j none).set i o
      have m : i ∉ is := fun z => h (List.mem_cons_of_mem _ z)
      have ne : i ≠ j := fun z => h (by rw [z]; exact List.mem_cons_self ..)
      rw [h2 m, List.set_comm _ _ ne]
theorem wipe_set {σ : L2.St} {i : Nat} {o : Option V} {is : List Nat} (h : i ∈ is) : L2.wipe (σ.set i o) is = L2.wipe σ is := (wipe_comm is).1 h
theorem At.setAllW {S0 M0 S : List Addr} {H0 H : Hp} {js : List Nat} : ∀ {is : List Nat} {ts : List Th} {vs : List V} {Δ : List Sl} {σ : L2.St}, At S0 M0 H0 Δ σ H S → All (hide S H) ts vs → ts.length = is.length → (∀ i ∈ is, i ∈ js) → ∀ {N : L2.St → Hp → Prop}, (∀ σ', At S0 M0 H0 (setN Δ is ts) σ' H S → L2.wipe σ' js = L2.wipe σ js → N σ' H) → gNames is vs σ H N
  | [], [], [], _, σ, hA, _, _, _, N, k => ⟨rfl, k σ hA rfl⟩
  | i :: is, t :: ts, v :: vs, _, σ, hA, hr, hl, hs, N, k => ⟨v, vs, rfl, At.setAllW (is := is) (js := js) (hA.set (i := i) (t := t) hr.1) hr.2 (by simpa using hl) (fun j hj => hs j (List.mem_cons_of_mem _ hj)) fun σ' h1 h2 => k σ' h1 (h2.trans (wipe_set (hs i (List.mem_cons_self ..))))⟩
  | [], _ :: _, _, _, _, _, _, hl, _, _, _ => by simp at hl
  | _ :: _, [], _, _, _, _, _, hl, _, _, _ => by simp at hl
  | [], [], _ :: _, _, _, _, h, _, _, _, _ => h.elim
  | _ :: _, _ :: _, [], _, _, _, h, _, _, _, _ => h.elim
section
variable {X : Cx} {Δ : List Sl} {e a b c o : Expr} {es : List Expr} {A B C : Th → Prop} {pos : Pos} {P : Post} {rest body els : List Stmt} {st : Stmt} {W : WX}
theorem ptg_name (i : Nat) {x : Str} {p : Pos} (hN : X.N.Nodup) (hi : X.N[i]? = some x := by rfl) (hx : Loc X.env.scope x := by first | exact Or.inl rfl | exact Or.inr rfl)
    (hf : X.fn x = true ∨ X.env.scope.names.lookup x = some .local := by first | exact .inl rfl | exact .inr rfl) : PTg X (.Name x p) [i] (fun t u => u = fun Δ => Δ.set i (.th t)) :=
  ⟨_, pg_name hN hi hx hf, fun t u hu S0 M0 H0 Δ σ H S v hA r N k => by subst hu; exact k _ (hA.set r) (wipe_set (List.mem_cons_self ..))⟩
theorem ptg_names (is : List Nat) {tg : List Expr} {kk : Nat} {p : Pos} (hpg : PGs X tg (gNames is)) (hc : X.calm = true := by rfl) (hn : (assignEach tg X.env).length = is.length := by rfl) (hst : (assignEach tg X.env).findIdx? (·.1) = none := by rfl) :
    PTg X (.Tuple tg kk p) is (fun t u => ∃ ts, t = tupT X.K ts ∧ ts.length = is.length ∧ u = fun Δ => setN Δ is ts) :=
  ⟨_, pg_tup hc hpg hn hst, fun t u ⟨ts, ht, hl, hu⟩ S0 M0 H0 Δ σ H S v hA r N k => by
    subst ht; subst hu
    obtain ⟨q, xs, rfl, hq, hd⟩ := r
    exact ⟨q, xs, rfl, ex_t hide_le hq, by rw [← hd.len, hl], hA.setAllW hd hl (fun i h => h) k⟩⟩
/-! the walks -/
theorem hide_own {S : List Addr} {H : Hp} {K : PySem.W.Frag} {a : Addr} {xs : List V} (h : SqL K (hide S H) a xs) : SqL K H a xs := ex_l hide_le h
theorem pit_list {tg : Expr} {ts : List Th} (he : PD X Δ e (lstT X.K ts)) : PIt X Δ tg e ts := by
  obtain ⟨t, pe, f⟩ := he
  refine ⟨_, pi_list pe, fun S0 M0 H0 σ H S hA R k => f S0 M0 H0 σ H S hA _ fun th v H1 ha e1 r => ?_⟩
  subst ha
  obtain ⟨p, xs, rfl, hq, hd⟩ := r
  refine ⟨p, rfl, ⟨xs, ex_l hide_le hq⟩, k _ H1 _ _ e1 (by rw [hd.len]; exact walk_list (K := X.K) (a := p) (xs := xs)) (fun Hb Hc e h => ex_l e h) hq fun i Hc v Hd S' y dom e2 => ?_⟩
  obtain ⟨rfl, hv⟩ := y
  obtain ⟨t, ht, r⟩ := hd.get hv
  exact ⟨Ex.refl _, t, ht, t.up _ _ _ e2 r⟩
theorem pit_tup {tg : Expr} {ts : List Th} (he : PD X Δ e (tupT X.K ts)) : PIt X Δ tg e ts := by
  obtain ⟨t, pe, f⟩ := he
  refine ⟨_, pi_tup pe, fun S0 M0 H0 σ H S hA R k => f S0 M0 H0 σ H S hA _ fun th v H1 ha e1 r => ?_⟩
  subst ha
  obtain ⟨p, xs, rfl, hq, hd⟩ := r
  refine ⟨p, rfl, ⟨xs, ex_t hide_le hq⟩, k _ H1 _ _ e1 (by rw [hd.len]; exact walk_tup (K := X.K) (a := p) (xs := xs)) (fun Hb Hc e h => ex_t e h) hq fun i Hc v Hd S' y dom e2 => ?_⟩
  obtain ⟨rfl, hv⟩ := y
  obtain ⟨t, ht, r⟩ := hd.get hv
  exact ⟨Ex.refl _, t, ht, t.up _ _ _ e2 r⟩
/-- a new pair -/
theorem pair_new {K : PySem.W.Frag} {S' : List Addr} {Hc : Hp} {T : Addr} {x y : V} {t u : Th} (hT : Hc T = none) (dom : Dom S' Hc) (r1 : t.R (hide S' Hc) x) (r2 : u.R (hide S' Hc) y) : Ex Hc (upd Hc T (.tup [x, y])) ∧ (tupT K [t, u]).R (hide S' (upd Hc T (.tup [x, y]))) (.ref T) :=
  ⟨Ex.new hT, T, [x, y], rfl, SqT.of (by rw [hide_out (dom.new hT)]; exact upd_same), t.up _ _ _ (hide_ex (Ex.new hT)) r1, u.up _ _ _ (hide_ex (Ex.new hT)) r2, trivial⟩
def enumT (K : PySem.W.Frag) (ts : List Th) : List Th := (ts.zipIdx).map fun p => tupT K [dat K (.int (p.2 : Nat)), p.1]
theorem pit_enum {tg : List Expr} {kk : Nat} {tp p : Pos} {ts : List Th} (hm : X.mg "enumerate" = none) (he : PD X Δ e (lstT X.K ts)) (hg : Gl X "enumerate" := by rfl) (hs : starEach [e] X.env = [(false, eval e X.env)] := by rfl) (hse : starEach [e] X.env = (false, eval e X.env) :: starEach [] X.env := by rfl) :
    PIt X Δ (.Tuple tg kk tp) (.Call (.Name "enumerate" p) [e] [] pos) (enumT X.K ts) := by
  obtain ⟨t, pa, f⟩ := pl_cons he pl_nil hse
  refine ⟨_, pi_enum hg hm pa hs, fun S0 M0 H0 σ H S hA R k => f S0 M0 H0 σ H S hA _ fun ths vs H1 ha e1 r => ?_⟩
  subst ha
  obtain ⟨v, rfl, p, xs, rfl, hq, hd⟩ := all1 r
  have hl : (enumT X.K ts).length = xs.length := by unfold enumT; rw [List.length_map, List.length_zipIdx, hd.len]
  refine ⟨p, xs, rfl, ex_l hide_le hq, k _ H1 _ _ e1 (by rw [hl]; exact walk_enum (K := X.K) (a := p) (xs := xs)) (fun Hb Hc e h => ex_l e h) hq fun i Hc v Hd S' y dom e2 => ?_⟩
  obtain ⟨T, x, z, rfl, hT, rfl, h1, h2⟩ := y
  obtain ⟨t, ht, r2⟩ := hd.get h2
  obtain ⟨q1, q2⟩ := pair_new (K := X.K) (x := x) (y := z) (t := dat X.K (.int (i : Nat))) (u := t) hT dom (by rw [← Option.some.inj h1]; exact Dp.int _) (t.up _ _ _ e2 r2)
  exact ⟨q1, _, by unfold enumT; rw [List.getElem?_map, List.getElem?_zipIdx, ht]; simp, q2⟩
def zipT (K : PySem.W.Frag) (ts us : List Th) : List Th := (ts.zip us).map fun p => tupT K [p.1, p.2]
theorem pit_zip {tg : List Expr} {kk : Nat} {tp p : Pos} {ts us : List Th} (hm : X.mg "zip" = none) (hb : (PD X Δ a (lstT X.K ts) ∧ PD X Δ b (lstT X.K us)) ∨ (PD X Δ a (tupT X.K ts) ∧ PD X Δ b (tupT X.K us))) (hlen : ts.length = us.length) (hg : Gl X "zip" := by rfl)
    (hs : starEach [a, b] X.env = (false, eval a X.env) :: starEach [b] X.env := by rfl) (hpl : (backTo pos (starEach [b] X.env)).any (·.1) = false := by rfl) (hs2 : starEach [b] X.env = (false, eval b X.env) :: starEach [] X.env := by rfl) :
    PIt X Δ (.Tuple tg kk tp) (.Call (.Name "zip" p) [a, b] [] pos) (zipT X.K ts us) := by
  have hz : ∀ {xs ys : List V} {H : Hp}, All H ts xs → All H us ys → (zipT X.K ts us).length = xs.length ∧ ys.length = xs.length := fun h1 h2 => by
    have := h1.len; have := h2.len
    unfold zipT; rw [List.length_map, List.length_zip]; omega
  have el : ∀ {xs ys : List V} {S S' : List Addr} {H1 Hc Hd : Hp} {i : Nat} {v : V}, All (hide S H1) ts xs → All (hide S H1) us ys → YPair (fun i => xs[i]?) (fun i => ys[i]?) i Hc v Hd → Dom S' Hc → Ex (hide S H1) (hide S' Hc) → Ex Hc Hd ∧ ∃ t, (zipT X.K ts us)[i]? = some t ∧ t.R (hide S' Hd) v := by
    intro xs ys S S' H1 Hc Hd i v d1 d2 y dom e2
    obtain ⟨T, x, z, rfl, hT, rfl, h1, h2⟩ := y
    obtain ⟨t, ht, r1⟩ := d1.get h1
    obtain ⟨u, hu, r2⟩ := d2.get h2
    obtain ⟨q1, q2⟩ := pair_new (K := X.K) (t := t) (u := u) hT dom (t.up _ _ _ e2 r1) (u.up _ _ _ e2 r2)
    exact ⟨q1, _, by unfold zipT; rw [List.getElem?_map, List.getElem?_zip_eq_some (z := (t, u)) |>.mpr ⟨ht, hu⟩]; rfl, q2⟩
  rcases hb with ⟨ha, hb⟩ | ⟨ha, hb⟩
  · obtain ⟨t, pa, f⟩ := pl_cons ha (pl_cons hb pl_nil hs2) hs
    refine ⟨_, RZ.pi_zipA hg hm pa hs hpl, fun S0 M0 H0 σ H S hA R k => f S0 M0 H0 σ H S hA _ fun ths vs H1 ha e1 r => ?_⟩
    subst ha
    obtain ⟨v, w, rfl, ⟨p, xs, rfl, hq, hd⟩, ⟨q, ys, rfl, hq2, hd2⟩⟩ := all2 r
    obtain ⟨l1, l2⟩ := hz hd hd2
    refine ⟨p, q, xs, ys, rfl, Or.inl ⟨ex_l hide_le hq, ex_l hide_le hq2, k _ H1 _ _ e1 (walk_zip (K := X.K) (a := p) (b := q) (xs := xs) (ys := ys) (by omega)) (fun Hb Hc e h => ⟨ex_l e h.1, ex_l e h.2⟩) ⟨hq, hq2⟩ fun i Hc v Hd S' y dom e2 => el hd hd2 y dom e2⟩⟩
  · obtain ⟨t, pa, f⟩ := pl_cons ha (pl_cons hb pl_nil hs2) hs
    refine ⟨_, RZ.pi_zipA hg hm pa hs hpl, fun S0 M0 H0 σ H S hA R k => f S0 M0 H0 σ H S hA _ fun ths vs H1 ha e1 r => ?_⟩
    subst ha
    obtain ⟨v, w, rfl, ⟨p, xs, rfl, hq, hd⟩, ⟨q, ys, rfl, hq2, hd2⟩⟩ := all2 r
    obtain ⟨l1, l2⟩ := hz hd hd2
    have wk : Walk (RZ.ItzT X.K p q) (zipT X.K ts us).length (fun H => SqT X.K H p xs ∧ SqT X.K H q ys) (YPair (fun i => xs[i]?) (fun i => ys[i]?)) := by
      rw [l1]
      refine ⟨fun i _ hi q => ?_, fun _ q => ⟨xs, ys, q.1, q.2, by omega⟩, fun i H v H' _ q y => ?_⟩
      · have h2 : i < ys.length := by omega
        exact ⟨xs, ys, xs[i], ys[i], q.1, q.2, by simp [hi], by simp [h2]⟩
      · obtain ⟨T, x, z, h1, h2, h3, h4, h5⟩ := y
        exact ⟨T, x, z, h1, h2, h3, h4 xs q.1, h5 ys q.2⟩
    refine ⟨p, q, xs, ys, rfl, Or.inr ⟨ex_t hide_le hq, ex_t hide_le hq2, k _ H1 _ _ e1 wk (fun Hb Hc e h => ⟨ex_t e h.1, ex_t e h.2⟩) ⟨hq, hq2⟩ fun i Hc v Hd S' y dom e2 => el hd hd2 y dom e2⟩⟩
/-- for target in what is walked over -/
theorem sd_forI {tg it : Expr} {is : List Nat} {Z : Th → (List Sl → List Sl) → Prop} {ts : List Th} (I : Nat → List Sl → Prop) (hi : PIt X Δ tg it ts) (ht : PTg X tg is Z) (h0 : I 0 Δ)
    (step : ∀ (i : Nat) z Δ', ts[i]? = some z → I i Δ' → ∃ u, Z z u ∧ SD X W body { P with nx := I (i + 1), ct := I (i + 1), bk := fun Δ2 => SD X W rest P Δ2, top := false } (u Δ'))
    (hd : ∀ Δ', I ts.length Δ' → SD X W rest P Δ') (hc : X.calm = true := by rfl) (hp : PassesOwn (model X.prog X.w) X.A X.env X.xe := by exact PassesOwn.never) (hfs : ∀ x, foldedSetIterable it X.env x = pure x := by intro _; rfl) : SD X W (.For tg it body [] pos :: rest) P Δ := by
  refine sd_cons ?_
  obtain ⟨ti, pi, f⟩ := hi
  obtain ⟨g, pg, fg⟩ := ht
  have qb : PSs X body (fun D σ H => ∃ t, PSs X body t ∧ t D σ H) := ⟨fun pins s σ H D J ⟨t, p, h⟩ => p.run pins s σ H D J h⟩
  refine ⟨_, ps_for hp hc pi pg qb hfs, fun S0 M0 H0 σ H S hA D le xw => ?_⟩
  refine f S0 M0 H0 σ H S hA _ fun J H1 G Y e1 wk gm g0 hy => ?_
  have hA1 := hA.up e1
  refine for_it wk (g := g) (tb := fun D σ H => ∃ t, PSs X body t ∧ t D σ H) (fun i σ' H' => ∃ Δ' S', I i Δ' ∧ At S (mls Δ σ) H1 Δ' σ' H' S') ⟨Δ, S, h0, hA1.here⟩ (fun i σ' H' _ ⟨Δ', S', _, hA'⟩ => gm _ _ hide_le (gm _ _ hA'.hid g0)) (fun i x σ' H' H'' hlt ⟨Δ', S', i', hA'⟩ y => ?_) (fun σ' H' ⟨Δ', S', i', hA'⟩ => le.nx _ _ ⟨Δ', S', hd Δ' i', hA1.lift hA1.mown hA'⟩)
  obtain ⟨e2, t, ht, r⟩ := hy i H' x H'' S' y hA'.dom hA'.hid
  obtain ⟨u, hu, pu, ppu, fu⟩ := step i t Δ' ht i'
  have le' := ends_lift hA1 hA1.mown le
  exact fg t u hu S (mls Δ σ) H1 Δ' σ' H'' S' x (hA'.up e2) r _ fun σ'' hA'' _ => ⟨pu, ppu, fu S (mls Δ σ) H1 _ H'' S' hA'' _ ⟨fun _ _ q => q, le'.rt, le'.nx, fun _ _ q => q⟩ (xw_lift hA1 hA1.mown xw (fun _ _ _ z => z) rfl)⟩
end
end DL
set_option Elab.async false
set_option linter.all false
set_option maxRecDepth 100000
/-! Comprehensions over any walk, by any target. -/
namespace DL
open PySem PySem.Spec PyProof.Rows L2
section
variable {X : Cx} {Δ : List Sl} {e a b c o : Expr} {es : List Expr} {A B C : Th → Prop} {pos : Pos} {P : Post} {rest body els : List Stmt} {st : Stmt} {W : WX}
/-- one more element -/
theorem lc_more {K : PySem.W.Frag} {Bw : Nat → PyData → Prop} {S : List Addr} {H1 H' H4 : Hp} {D : Addr} {i : Nat} {w : PyData} {y : V} (hD : H1 D = none) (hi : i < 50000) (p : LcP K Bw S H1 D i H') (e4 : Ex H' H4) (r : Dp K (hide (D :: S) H4) y w) (bw : Bw i w) :
    ∃ acc, H4 D = some (.lst acc) ∧ acc.length < sizeLine ∧ LcP K Bw S H1 D (i + 1) (upd H4 D (.lst (acc ++ [y]))) := by
  obtain ⟨e1, acc, es, h1, h2, h3, h4⟩ := p
  have hlen := dpa_len h2
  refine ⟨acc, e4 D _ h1, Nat.lt_of_lt_of_le (by omega) (by decide : 100000 ≤ sizeLine), fun a o h => ?_, acc ++ [y], es ++ [w], upd_same, ?_, by rw [List.length_append, h3, List.length_singleton], fun k w' hk => ?_⟩
  · rw [upd_ne (ne_of_none h hD)]
    exact e4 a o (e1 a o h)
  · rw [hide_upd (List.mem_cons_self)]
    exact dpa_app (dpa_up (hide_ex e4) h2) (.cons r .nil)
  · rw [List.getElem?_append] at hk
    split at hk
    · exact h4 k w' hk
    · have hk0 : k - es.length = 0 := by
        by_cases q : k - es.length = 0
        · exact q
        · rw [List.getElem?_eq_none (by simp; omega)] at hk
          cases hk
      rw [hk0] at hk
      have e5 : w = w' := Option.some.inj hk
      have e6 : k = i := by omega
      rw [← e5, e6]
      exact bw
/-- what a comprehension's own block does with its names -/
def PTb (X : Cx) (scope : Scope) (tg : Expr) (is : List Nat) (Z : Th → (List Sl → List Sl) → Prop) : Prop :=
  ∃ g : TG, (∀ (s : Shared) (H : Hp) (C : Addr) (cl : List (Str × Addr)) (fp : List Addr), PG (X.blk s H scope (compEnvC scope cl C X.env) fp) tg g) ∧
    ∀ t u, Z t u → ∀ S0 M0 H0 Δ σ H S v, At S0 M0 H0 Δ σ H S → t.R (hide S H) v → ∀ N : L2.St → Hp → Prop, (∀ σ', At S0 M0 H0 (u Δ) σ' H S → L2.wipe σ' is = L2.wipe σ is → N σ' H) → g v σ H N
theorem ptb_name (j : Nat) {scope : Scope} {tg : Expr} (hg : ∀ (s : Shared) (H : Hp) (C : Addr) (cl : List (Str × Addr)) (fp : List Addr), PG (X.blk s H scope (compEnvC scope cl C X.env) fp) tg (gName j)) : PTb X scope tg [j] (fun t u => u = fun Δ => Δ.set j (.th t)) :=
  ⟨_, hg, fun t u hu S0 M0 H0 Δ σ H S v hA r N k => by subst hu; exact k _ (hA.set r) (wipe_set (List.mem_cons_self ..))⟩
theorem ptb_names (is : List Nat) {scope : Scope} {tg : List Expr} {kk : Nat} {p : Pos} (hg : ∀ (s : Shared) (H : Hp) (C : Addr) (cl : List (Str × Addr)) (fp : List Addr), PG (X.blk s H scope (compEnvC scope cl C X.env) fp) (.Tuple tg kk p) (gTup X.K is.length (gNames is))) :
    PTb X scope (.Tuple tg kk p) is (fun t u => ∃ ts, t = tupT X.K ts ∧ ts.length = is.length ∧ u = fun Δ => setN Δ is ts) :=
  ⟨_, hg, fun t u ⟨ts, ht, hl, hu⟩ S0 M0 H0 Δ σ H S v hA r N k => by
    subst ht; subst hu
    obtain ⟨q, xs, rfl, hq, hd⟩ := r
    exact ⟨q, xs, rfl, ex_t hide_le hq, by rw [← hd.len, hl], hA.setAllW hd hl (fun i h => h) k⟩⟩
theorem wipe_wipe {σ : L2.St} : ∀ is : List Nat, L2.wipe (L2.wipe σ is) is = L2.wipe σ is := by
  have key : ∀ (js is : List Nat), (∀ j ∈ js, j ∈ is) → L2.wipe (L2.wipe σ js) is = L2.wipe σ is := by
    intro js
    induction js with
    | nil => intro is _; rfl
    | cons j js ih =>
      intro is h
      show L2.wipe ((L2.wipe σ js).set j none) is = _
      rw [wipe_set (h j (List.mem_cons_self ..))]
      exact ih is fun k hk => h k (List.mem_cons_of_mem _ hk)
  exact fun is => key is is fun _ h => h
/-- [elt for tg in it] -/
theorem px_lcI {tg it elt : Expr} {scope : Scope} {own : List (Str × Nat)} {ts : List Th} {Z : Th → (List Sl → List Sl) → Prop} (Bw : Nat → PyData → Prop) (hi : PIt X Δ tg it ts) (hz : ts.length ≤ 40000) (hg : PTb X scope tg (own.map (·.2)) Z)
    (ht : ∀ (i : Nat) z, ts[i]? = some z → ∃ u, Z z u ∧ ∀ (s : Shared) (H : Hp) (C : Addr) (cl : List (Str × Addr)) (fp : List Addr), PX (X.blk s H scope (compEnvC scope cl C X.env) fp) (u (wipeΔ Δ (own.map (·.2)))) elt (fun t => ∃ w, t = dat X.K w ∧ Bw i w))
    (hN : X.N.Nodup) (ok : BlkOk X.N X.env.scope scope own) (hc : X.calm = true := by rfl) (hs : ∀ x, foldedSetIterable it X.env x = pure x := by intro _; rfl) :
    PX X Δ (.ListComp elt [⟨tg, it, [], 0⟩] scope pos) (fun t => ∃ es, t = dat X.K (.list es) ∧ es.length = ts.length ∧ ∀ i w, es[i]? = some w → Bw i w) := by
  obtain ⟨ti, pi, f⟩ := hi
  obtain ⟨g, pg, fg⟩ := hg
  have q : ∀ (s : Shared) (H : Hp) (C : Addr) (cl : List (Str × Addr)) (fp : List Addr), PE (X.blk s H scope (compEnvC scope cl C X.env) fp) elt (teU X scope elt) := fun s H C cl fp => ⟨fun pins s' σ H' Q I h => by
    obtain ⟨t, pt, ht⟩ := h s H C cl fp
    exact pt.run pins s' σ H' Q I ht⟩
  refine ⟨_, pe_lc (own := own) (g := g) (tt := tYes) hc hN pi ok pg (fun _ _ _ _ _ => pts_nil) q hs, fun S0 M0 H0 σ H S hA Q k => ?_⟩
  refine f S0 M0 H0 σ H S hA _ fun J H1 G Y e1 wk gm g0 hy => ?_
  have hA1 := hA.up e1
  intro D hD
  refine lc_it wk (g := g) (tt := tYes) (te := teU X scope elt) (vs := own.map (·.2)) (LcP X.K Bw S H1 D) ⟨Ex.new hD, [], [], upd_same, .nil, rfl, fun j w h => by simp at h⟩ (fun i H' _ p => ?_) (fun i x H' H'' hlt p y => ?_) fun H' p => ?_
  · refine gm _ _ ?_ g0
    exact fun a o h => p.1 a o (by
      have n0 : a ∉ S := fun z => by rw [hide_in z] at h; cases h
      rw [hide_out n0] at h
      exact h)
  · have hD' : H' D ≠ none := by
      obtain ⟨_, acc, es, h1, _⟩ := p
      rw [h1]; exact fun z => nomatch z
    have hA2 := hA1.newD hD p.1 hD'
    have hid : Ex (hide S H1) (hide (D :: S) H') := fun a o h => by
      have n0 : a ∉ S := fun z => by rw [hide_in z] at h; cases h
      have h' : H1 a = some o := by rw [hide_out n0] at h; exact h
      have ne : a ≠ D := ne_of_none h' hD
      rw [hide_out (by simp [ne, n0])]
      exact p.1 a o h'
    obtain ⟨e2, t, ht', r⟩ := hy i H' x H'' (D :: S) y hA2.dom hid
    obtain ⟨u, hu, hel⟩ := ht i t ht'
    have p2 : LcP X.K Bw S H1 D i H'' := by
      obtain ⟨q1, acc, es, h1, h2, h3, h4⟩ := p
      exact ⟨q1.trans e2, acc, es, e2 _ _ h1, dpa_up (hide_ex e2) h2, h3, h4⟩
    refine fg t u hu S (mls Δ σ) H1 (wipeΔ Δ (own.map (·.2))) (L2.wipe σ (own.map (·.2))) H'' (D :: S) x ((hA2.up e2).wipe _) r _ fun σ' hA' hw => ?_
    refine ⟨by rw [hw, wipe_wipe], ?_⟩
    unfold tYes
    simp only [if_true]
    intro s H0' C cl fp
    obtain ⟨t', pt, ft⟩ := hel s H0' C cl fp
    refine ⟨t', pt, ft S (mls Δ σ) H1 σ' H'' (D :: S) hA' _ fun th y H4 ⟨w, hw', bw⟩ e4 r' => ?_⟩
    subst hw'
    exact lc_more hD (by omega) p2 e4 r' bw
  · exact lc_fin hA1 hD p fun th v H2 c e2 r2 => k th v H2 c (e1.trans e2) r2
end
end DL
set_option Elab.async false
set_option linter.all false
set_option maxRecDepth 100000
/-! Exceptions as values; rows of things as lists; several except clauses. -/
namespace DL
open PySem PySem.Spec PyProof.Rows L2
/-- an exception object of the class at C, what it carries -/
def exV (C : Addr) (fs : List (Str × Th)) : Th := ⟨fun H v => ∃ a, v = .ref a ∧ ((fs = [] ∧ H a = some (ExO (.ref C) a)) ∨ ∃ dx kvs, H a = some (exo a C (some dx)) ∧ H dx = some (exd dx kvs) ∧ ∀ f t, fs.lookup f = some t → ∃ w, kvs.lookup f = some w ∧ t.R H w),
  fun H H' v e ⟨a, h1, h2⟩ => ⟨a, h1, h2.elim (fun ⟨h3, h4⟩ => Or.inl ⟨h3, e a _ h4⟩) fun ⟨dx, kvs, h3, h4, h5⟩ => Or.inr ⟨dx, kvs, e a _ h3, e dx _ h4, fun f t hf => let ⟨w, q1, q2⟩ := h5 f t hf; ⟨w, q1, t.up _ _ _ e q2⟩⟩⟩⟩
/-- a class as a value -/
def clsT (u : Value) : Th := ⟨fun _ v => ClsV v u, fun _ _ _ _ h => h⟩
section
variable {X : Cx} {pins : List (Addr × Obj)} {σ : L2.St} {H H' : Hp} {s : Shared}
theorem exv_look (I : Inv X pins σ H s) (ex : Ex H' H) {C : Addr} {fs : List (Str × Th)} {v : V} {u : Value} (r : (exV C fs).R H' v) (ru : RelV v u) :
    ∃ (a : Addr) (ox : Obj) (od : Option Obj), v = .ref a ∧ u = .ref a ∧ PySem.W.InstAt s.heap a ox C od ∧ ∀ f t, fs.lookup f = some t → ∃ o y w, od = some o ∧ PySem.W.lookIn f o = some (some y) ∧ RelV w y ∧ t.R H' w := by
  obtain ⟨a, rfl, h⟩ := r
  obtain rfl : u = Value.ref a := ru
  rcases h with ⟨rfl, ea⟩ | ⟨dx, kvs, ea, ed, hl⟩
  · obtain ⟨⟨oe, vs, ho, hz, hd, _⟩, _, _⟩ := (show ObjOk X.prog X.w H s.heap a (ExO (.ref C) a) from I.hok a _ (ex a _ ea))
    exact ⟨a, oe, none, rfl, rfl, ⟨ho, hz.1, by unfold PySem.W.notCls; rw [hd] <;> rfl, by rw [hz.2]; trivial⟩, fun f t h => by simp at h⟩
  · obtain ⟨t1, ho⟩ := exo_at I.hok (ex a _ ea)
    obtain ⟨mA, hns, hr⟩ := exd_at I.hok (ex dx _ ed)
    obtain ⟨od, hod, hlk⟩ := lookIn_ns hns
    refine ⟨a, _, some od, rfl, rfl, ⟨ho, rfl, rfl, hod⟩, fun f t h => ?_⟩
    obtain ⟨w, h1, h2⟩ := hl f t h
    obtain ⟨y, hy, ry⟩ := RelO.some_of (v := w) (o := mA f) (by rw [← h1]; exact hr f)
    exact ⟨od, y, w, rfl, by rw [hlk, hy], ry, h2⟩
end
/-- isinstance(e, c), e an exception as a value -/
def rIsV (K : PySem.W.Frag) (C : Addr) : List V → Hp → VK → Prop := fun xs H Q => ∃ (x c : V) (fs : List (Str × Th)) (u : Value) (b : Bool) (H' : Hp), xs = [x, c] ∧ ClsV c u ∧ Ex H' H ∧ (exV C fs).R H' x ∧ PySem.W.kitOne K (.ref C) u = some b ∧ Q (.bl b) H
theorem kitE {K : PySem.W.Frag} {C x : Addr} {ox : Obj} {od : Option Obj} (T : L2.ExcC K C) : PySem.W.KitX K (.ref x) (.ref C) (fun h => PySem.W.InstAt h x ox C od) :=
  PySem.W.kitx_exc (by obtain ⟨cd, hc, _⟩ := PySem.W.any_some T.hd; rw [hc]; rfl) T.hg T.hk T.hs T.ha T.hn T.ht T.hm
theorem call_isV {X : Cx} {C : Addr} (T : L2.ExcC X.K C) : CallR X (.builtin "isinstance") (rIsV X.K C) := by
  intro pins s σ H xs us Q I r h
  obtain ⟨x, c, fs, u, b, H', rfl, k, ex, rx, e, q⟩ := h
  obtain ⟨u1, u2, rfl, r1, r2⟩ := vals2 r
  have e2 := k.eq r2
  subst e2
  obtain ⟨a, ox, od, rfl, rfl, J, _⟩ := exv_look I ex rx r1
  exact PySem.W.kia_one (kitE T) I.kIn J e (fun z => nomatch z) fun tk => ⟨.bl b, H, I.tok tk, rfl, q⟩
/-- isinstance(e, c), e the exception that the suite holds -/
def rIsX (K : PySem.W.Frag) (C a : Addr) (d : Option Addr) : List V → Hp → VK → Prop := fun xs H Q => ∃ (c : V) (u : Value) (b : Bool), xs = [.ref a, c] ∧ ClsV c u ∧ (d = none ∨ ∃ dd fs, d = some dd ∧ H dd = some (.xd fs)) ∧ PySem.W.kitOne K (.ref C) u = some b ∧ Q (.bl b) H
theorem call_isX {X : Cx} {a C : Addr} {oe : Obj} {d : Option Addr} {pn : List (Addr × Obj)} (T : L2.ExcC X.K C) (hz : Zc (.ref C) d oe) (hf : ∃ vs, oe.data = .fields vs) : CallR (X.suite a ((a, oe) :: pn)) (.builtin "isinstance") (rIsX X.K C a d) := by
  intro pins s σ H xs us Q I r h
  obtain ⟨c, u, b, rfl, k, hd, e, q⟩ := h
  obtain ⟨u1, u2, rfl, r1, r2⟩ := vals2 r
  have e2 := k.eq r2
  subst e2
  obtain rfl : u1 = Value.ref a := r1
  obtain ⟨hget, _⟩ := I.pin (a, oe) (List.mem_append_left _ List.mem_cons_self)
  obtain ⟨vs, hv⟩ := hf
  have J : ∃ od, PySem.W.InstAt s.heap a oe C od := by
    rcases hd with rfl | ⟨dd, fs, rfl, ea⟩
    · exact ⟨none, hget, hz.1, by unfold PySem.W.notCls; rw [hv] <;> rfl, by rw [hz.2]; trivial⟩
    · have hx : ObjOk X.prog X.w H s.heap dd (.xd fs) := I.hok dd _ ea
      obtain ⟨mA, hns, hr⟩ := hx
      obtain ⟨od, ho, hl⟩ := lookIn_ns hns
      exact ⟨some od, hget, hz.1, by unfold PySem.W.notCls; rw [hv] <;> rfl, by rw [hz.2]; exact ho⟩
  obtain ⟨od, J⟩ := J
  exact PySem.W.kia_one (kitE T) I.kIn J e (fun z => nomatch z) fun tk => ⟨.bl b, H, I.tok tk, rfl, q⟩
/-- e.f, e an exception as a value -/
def tXv (C : Addr) (n : Str) (t : Th) (te : TE) : TE := fun σ H Q => te σ H fun x H1 => ∃ fs H', Ex H' H1 ∧ (exV C fs).R H' x ∧ fs.lookup n = some t ∧ ∀ w, t.R H' w → Q w H1
theorem pe_xv {X : Cx} {C : Addr} {e : Expr} {te : TE} {pos : Pos} {n : Str} {t : Th} (T : XfC X.K C) (hno : PySem.W.findIn X.K (.ref C) n = some none) (he : PE X e te) (hb : attributeBase e n X.env (eval e X.env) = eval e X.env := by rfl) : PE X (.Attribute e n pos) (tXv C n t te) := by
  refine ⟨fun pins s σ H Q I h => ?_⟩
  refine attr_of hb (thn (he.run pins s σ H _ I h) fun u s1 hh => ?_)
  obtain ⟨x, H1, I1, rx, fs, H', ex, r, hl, q⟩ := hh
  obtain ⟨a, ox, od, rfl, rfl, J, look⟩ := exv_look I1 ex r rx
  obtain ⟨o, y, w, rfl, hy, ry, rt⟩ := look n t hl
  exact HandSPX.exc_get I1.kIn J T.ga T.gg T.exC (PySem.W.findObj_own T.hdC hno rfl hy) (handed_of ry) ⟨w, H1, I1.tok _, ry, q w rt⟩
/-- C(e, ..) with an __init__ of its own, as a value -/
def tMkV (C : Addr) (sp : Sp) (ta : TA) : TE := fun σ H Q => ta σ H fun vs H1 => vs.length ≤ 1000 ∧ ∀ a, H1 a = none → sp (.ref a :: vs) (upd H1 a (exo a C none)) (fun v H2 => v = .non ∧ Q (.ref a) H2) (fun _ _ _ => False)
theorem pe_oex {X : Cx} {CX : CXT} {x : Str} {C fI : Addr} {k : Nat} {fd : FuncData} {ps : List Str} {sp : Sp} {e : Expr} {es : List Expr} {ta : TA} {p pos : Pos} (T : OexC X.K C) (iC : PySem.W.findIn X.K (.ref C) "__init__" = some (some (.ref fI))) (tI : PySem.W.typeIn X.K (.ref fI) = some (.type "function"))
    (F1 : FnOk X.prog X.w X.K X.mg X.base CX k fI fd ps sp) (hr : Room (k + 1) X.A) (hb : Binds X.K fd ps []) (hx : Passes CX X (fun _ _ _ => False)) (hg : Gl X x) (hm : X.mg x = some (.ref C)) (ha : PA X (e :: es) ta)
    (hdb : (x == ("__debug__" : Str)) = false := by decide) (he : starEach (e :: es) X.env = (false, eval e X.env) :: starEach es X.env := by rfl) (hpl : (backTo pos (starEach es X.env)).any (·.1) = false := by rfl) :
    PE X (.Call (.Name x p) (e :: es) [] pos) (tMkV C sp ta) := by
  refine ⟨fun pins s σ H Q I h => ?_⟩
  obtain ⟨nm, q, N, bs, bm, sn, sub, ab, col, dd, k0, k1, k2, k3, k5, hC, hbm⟩ := T.cls
  refine wpAny_Call_Name_kw (ld_glob I hg hm ?_ hdb)
  refine PySem.W.callWith_K (h₀ := X.base) I.ok.mod.kin T.kC (thn (ha.run pos pins s σ H _ I h) fun us s1 ⟨vs, H1, I1, r1, hz, q1⟩ => ⟨I1.kIn, ?_⟩) he hpl
  show wpAny _ _ (call (.ref C) us) _ _ _
  obtain ⟨hp, g, dr, tk, os⟩ := s1
  have hsz : hp.objs.size ≤ hp.objs.size + 1 := Nat.le_succ _
  have hn : H1 (hp.objs.size + 1) = none := I1.hok.fresh hsz
  have hq := q1 (hp.objs.size + 1) hn
  have kk : ∀ b o, hp.get? b = some o → ((hp.push (PySem.W.kdv_tup us)).push (PySem.HandSPX.excO C hp.objs.size)).get? b = some o := fun b o e => Heap.get?_push_of_some _ (Heap.get?_push_of_some _ e)
  have hget : ((hp.push (PySem.W.kdv_tup us)).push (PySem.HandSPX.excO C hp.objs.size)).get? (hp.objs.size + 1) = some (PySem.HandSPX.excO C hp.objs.size) := by heap_get
  have I2 : Inv X pins σ (upd H1 (hp.objs.size + 1) (exo (hp.objs.size + 1) C none)) ⟨(hp.push (PySem.W.kdv_tup us)).push (PySem.HandSPX.excO C hp.objs.size), g, dr, tk, os⟩ :=
    I1.laid (t' := tk) (a := hp.objs.size + 1) (o := exo (hp.objs.size + 1) C none) (h' := (hp.push (PySem.W.kdv_tup us)).push (PySem.HandSPX.excO C hp.objs.size)) kk hsz (exo_ok hget)
  have r2 : Vals (V.ref (hp.objs.size + 1) :: vs) (Value.ref (hp.objs.size + 1) :: us) := .cons rfl r1
  have hl : (Value.ref (hp.objs.size + 1) :: us).length = ps.length := by
    have e := r2.length
    rw [F1.len _ _ _ _ hq] at e
    exact e.symm
  have hus : us.length ≤ sizeLine := by
    rw [← Paired.length r1, sizeLine_eq]
    omega
  refine wpAny_call (PySem.HandSPX.call_own F.excBase_ValueError (fun Y => PySem.HandSPX.refsVE_contains Y bm hbm) (I1.kIn _ _ hC) (PySem.W.looks_findIn I1.kIn iC) (fun self => PySem.W.bind_fn I1.kIn self tI) hus
    (codeAny_mono (F1.run _ X.stack _ _ ⟨Value.ref (hp.objs.size + 1) :: us, []⟩ (Value.ref (hp.objs.size + 1) :: us) _ _ (fun _ _ _ => False) (hr.make C us []) (I2.env0.make C us []) (by
      have hb' := hb _ (Value.ref (hp.objs.size + 1) :: us) I2.kIn (by rw [List.append_nil]; exact hl)
      rw [List.append_nil] at hb'
      exact hb') r2 hq) fun r s' hq' => ?_))
  cases r with
  | error er => exact hx pins σ _ _ er s' I2 hq'
  | ok fl =>
    cases fl with
    | ret u =>
      obtain ⟨v, H2, os2, bare2, un2, hok2, rv, ev, q2⟩ := hq'
      subst ev
      exact ⟨rv, .ref _, H2, I2.call' (ch := []) os2 un2 hok2 bare2 (fun b z => absurd z (by simp)), rfl, q2⟩
    | next => exact False.elim hq'
    | brk => exact False.elim hq'
    | cont => exact False.elim hq'
/-- C(), without an __init__ of its own, as a value -/
theorem pe_own0 {X : Cx} {x : Str} {p pos : Pos} {C : Addr} (T : ExC0 X.K X.mg x C) (hg : Gl X x) (hdb : (x == ("__debug__" : Str)) = false := by decide) : PE X (.Call (.Name x p) [] [] pos) (fun σ H Q => ∀ a, H a = none → Q (.ref a) (upd H a (ExO (.ref C) a))) := by
  refine ⟨fun pins s σ H Q I h => ?_⟩
  refine wpAny_Call_Name_kw (ld_glob I hg T.gC ?_ hdb)
  refine PySem.W.callWith_K0 I.kIn T.kC ?_
  obtain ⟨bm, N, nm, qn, bs, hdct, sn, sub, ab, col, dd, k0, k1, k2, k3, k5, mN, hC, hN, hni, T2⟩ := exc_obj I.kIn T.q
  refine wpAny_call_exc_subT PySem.F.excBase_ValueError T2 hC hN hni (fun h' a hm => ?_) (Nat.zero_le _)
  have hn : H a = none := I.hok.gone hm.new
  obtain ⟨t, ht, _, _⟩ := hm.there
  exact ⟨.ref a, upd H a (ExO (.ref C) a), I.laidN hm.keeps hm.new hn (exO_ok ht ⟨rfl, rfl⟩ rfl rfl rfl (show 4 < 6 by decide)), rfl, h a hn⟩
/-! ### values -/
section
variable {X : Cx} {Δ : List Sl} {e a b c : Expr} {es : List Expr} {A B : Th → Prop} {pos : Pos} {P : Post} {rest body els : List Stmt} {st : Stmt} {W : WX}
theorem pd_cls {x : Str} {C : Addr} (hm : X.mg x = some (.ref C)) (hg : Gl X x := by rfl) (hd : (x == ("__debug__" : Str)) = false := by decide) : PD X Δ (.Name x pos) (clsT (.ref C)) :=
  ⟨_, pe_glob (v := .ref C) hg hm rfl hd, fun _ _ _ _ H S _ Q q => q _ _ H rfl (Ex.refl H) (.own C)⟩
theorem pd_clsB {x : Str} {n : String} (hm : X.mg x = none) (hv : bootBuiltins x = some (.type n) := by decide +kernel) (hg : Gl X x := by rfl) (hn : x ≠ "__name__" := by decide) (hd : (x == ("__debug__" : Str)) = false := by decide) : PD X Δ (.Name x pos) (clsT (.type n)) :=
  ⟨_, pe_bltn hg hm hv (show RelV (.ty n) _ from rfl) hn hd, fun _ _ _ _ H S _ Q q => q _ _ H rfl (Ex.refl H) (.ty n)⟩
theorem pd_isV {p : Pos} {C : Addr} {fs : List (Str × Th)} {u : Value} {k : Bool} (T : L2.ExcC X.K C) (hm : X.mg "isinstance" = none) (ha : PD X Δ a (exV C fs)) (hb : PD X Δ b (clsT u)) (hk : PySem.W.kitOne X.K (.ref C) u = some k) (hg : Gl X "isinstance" := by rfl)
    (he1 : starEach [b] X.env = (false, eval b X.env) :: starEach [] X.env := by rfl) (he : starEach [a, b] X.env = (false, eval a X.env) :: starEach [b] X.env := by rfl) (hpl : (backTo pos (starEach [b] X.env)).any (·.1) = false := by rfl) :
    PD X Δ (.Call (.Name "isinstance" p) [a, b] [] pos) (dat X.K (.bool k)) :=
  px_blt (call_isV T) hm (pl_cons ha (pl_cons hb pl_nil he1) he) (fun S H ts vs _ hB r Q q => by
    subst hB
    obtain ⟨v, w, rfl, r0, r2⟩ := all2 r
    exact ⟨v, w, fs, u, k, _, rfl, r2, hide_le, r0, hk, q _ _ H rfl (Ex.refl H) (Dp.bl k)⟩) (by decide +kernel) hg (by decide) (by decide) he hpl
theorem pd_isX {p : Pos} {q C : Addr} {oe : Obj} {d : Option Addr} {pn : List (Addr × Obj)} {fs : List (Str × Th)} {u : Value} {k : Bool} (T : L2.ExcC X.K C) (hz : Zc (.ref C) d oe) (hf : ∃ vs, oe.data = .fields vs) (hm : X.mg "isinstance" = none) (ha : PD (X.suite q ((q, oe) :: pn)) Δ a (excT q d fs)) (hb : PD (X.suite q ((q, oe) :: pn)) Δ b (clsT u))
    (hk : PySem.W.kitOne X.K (.ref C) u = some k) (hg : Gl (X.suite q ((q, oe) :: pn)) "isinstance" := by rfl)
    (he1 : starEach [b] X.env = (false, eval b X.env) :: starEach [] X.env := by rfl) (he : starEach [a, b] X.env = (false, eval a X.env) :: starEach [b] X.env := by rfl) (hpl : (backTo pos (starEach [b] X.env)).any (·.1) = false := by rfl) :
    PD (X.suite q ((q, oe) :: pn)) Δ (.Call (.Name "isinstance" p) [a, b] [] pos) (dat X.K (.bool k)) :=
  px_blt (call_isX T hz hf) hm (pl_cons ha (pl_cons hb pl_nil he1) he) (fun S H ts vs _ hB r Q q => by
    subst hB
    obtain ⟨v, w, rfl, r0, r2⟩ := all2 r
    obtain ⟨rfl, rx⟩ := r0
    refine ⟨w, u, k, rfl, r2, ?_, hk, q _ _ H rfl (Ex.refl H) (Dp.bl k)⟩
    rcases rx with ⟨_, e0⟩ | ⟨_, dd, kvs, e1, e2, _⟩
    · exact Or.inl e0
    · exact Or.inr ⟨dd, kvs, e1, hide_le _ _ e2⟩) (by decide +kernel) hg (by decide) (by decide) he hpl
theorem pd_xv {C : Addr} {fs : List (Str × Th)} {n : Str} {t : Th} (T : XfC X.K C) (hno : PySem.W.findIn X.K (.ref C) n = some none) (he : PD X Δ e (exV C fs)) (hl : fs.lookup n = some t) (hb : attributeBase e n X.env (eval e X.env) = eval e X.env := by rfl) : PD X Δ (.Attribute e n pos) t := by
  obtain ⟨te, pe, fe⟩ := he
  refine ⟨_, pe_xv (t := t) T hno pe hb, fun S0 M0 H0 σ H S hA Q k => fe S0 M0 H0 σ H S hA _ fun th v H1 hth e1 r => ?_⟩
  subst hth
  exact ⟨fs, _, hide_le, r, hl, fun w rw => k t w H1 rfl e1 rw⟩
theorem pd_mk0 {x : Str} {C : Addr} {p : Pos} (T : ExC0 X.K X.mg x C) (hg : Gl X x := by rfl) (hdb : (x == ("__debug__" : Str)) = false := by decide) : PD X Δ (.Call (.Name x p) [] [] pos) (exV C []) :=
  ⟨_, pe_own0 T hg hdb, fun S0 M0 H0 σ H S hA Q q a ha => q _ _ _ rfl (Ex.new ha) ⟨a, rfl, Or.inl ⟨rfl, by rw [hide_out (hA.dom.new ha)]; exact upd_same⟩⟩⟩
theorem pd_mk1 {x g : Str} {C : Addr} {p : Pos} {t : Th} (F : ExF1 X.prog X.w X.K X.mg X.base x C g) (hr : Room 2 X.A) (he : PD X Δ e t) (hg : Gl X x := by rfl) (hdb : (x == ("__debug__" : Str)) = false := by decide)
    (hs : starEach [e] X.env = (false, eval e X.env) :: starEach [] X.env := by rfl) (hpl : (backTo pos (starEach [] X.env)).any (·.1) = false := by rfl) : PD X Δ (.Call (.Name x p) [e] [] pos) (exV C [(g, t)]) := by
  obtain ⟨fI, fd, ps, h1, h2, hb, Fk⟩ := F.ini
  obtain ⟨ta, pa, fa⟩ := pl_cons he pl_nil hs
  refine ⟨_, pe_oex F.T h1 h2 Fk hr hb (fun _ _ _ _ _ _ _ z => z.elim) hg F.gC pa hdb hs hpl, fun S0 M0 H0 σ H S hA Q q => ?_⟩
  refine fa S0 M0 H0 σ H S hA _ fun ths vs H1 hB e1 r => ?_
  subst hB
  obtain ⟨y, rfl, ry⟩ := all1 r
  refine ⟨by show 1 ≤ 1000; decide, fun a ha => ⟨a, C, y, rfl, F.T, F.no, upd_same, fun dx hdx hne => ⟨rfl, ?_⟩⟩⟩
  rw [upd_ne hne] at hdx
  have ex2 : Ex H1 (upd (upd (upd H1 a (exo a C none)) dx (exd dx [(g, y)])) a (exo a C (some dx))) := fun b o h => by
    have n1 : b ≠ a := ne_of_none h ha
    have n2 : b ≠ dx := ne_of_none h hdx
    rw [upd_ne n1, upd_ne n2, upd_ne n1]
    exact h
  have dm := (hA.up e1).dom
  refine q _ _ _ rfl (e1.trans ex2) ⟨a, rfl, Or.inr ⟨dx, [(g, y)], ?_, ?_, fun f t' hf => ?_⟩⟩
  · rw [hide_out (dm.new ha)]; exact upd_same
  · rw [hide_out (dm.new hdx), upd_ne hne]; exact upd_same
  · rw [lookup_th1] at hf
    by_cases hfg : f = g
    · rw [if_pos hfg] at hf
      cases hf
      exact ⟨y, by rw [hfg]; simp [List.lookup], t.up _ _ _ (hide_ex ex2) ry⟩
    · rw [if_neg hfg] at hf
      cases hf
theorem pd_mk2 {x g g' : Str} {C : Addr} {p : Pos} {e' : Expr} {t t' : Th} (F : ExF2 X.prog X.w X.K X.mg X.base x C g g') (hr : Room 2 X.A) (he : PD X Δ e t) (he' : PD X Δ e' t') (hgg : g' ≠ g := by decide) (hg : Gl X x := by rfl) (hdb : (x == ("__debug__" : Str)) = false := by decide)
    (hs1 : starEach [e'] X.env = (false, eval e' X.env) :: starEach [] X.env := by rfl) (hs : starEach [e, e'] X.env = (false, eval e X.env) :: starEach [e'] X.env := by rfl) (hpl : (backTo pos (starEach [e'] X.env)).any (·.1) = false := by rfl) : PD X Δ (.Call (.Name x p) [e, e'] [] pos) (exV C [(g', t'), (g, t)]) := by
  obtain ⟨fI, fd, ps, h1, h2, hb, Fk⟩ := F.ini
  obtain ⟨ta, pa, fa⟩ := pl_cons he (pl_cons he' pl_nil hs1) hs
  refine ⟨_, pe_oex F.T h1 h2 Fk hr hb (fun _ _ _ _ _ _ _ z => z.elim) hg F.gC pa hdb hs hpl, fun S0 M0 H0 σ H S hA Q q => ?_⟩
  refine fa S0 M0 H0 σ H S hA _ fun ths vs H1 hB e1 r => ?_
  subst hB
  obtain ⟨y, y', rfl, ry, ry'⟩ := all2 r
  refine ⟨by show 2 ≤ 1000; decide, fun a ha => ⟨a, C, y, y', rfl, F.T, F.no, F.no', upd_same, fun dx hdx hne => ⟨rfl, ?_⟩⟩⟩
  rw [upd_ne hne] at hdx
  have ex2 : Ex H1 (upd (upd (upd (upd H1 a (exo a C none)) dx (exd dx [(g, y)])) a (exo a C (some dx))) dx (exd dx [(g', y'), (g, y)])) := fun b o h => by
    have n1 : b ≠ a := ne_of_none h ha
    have n2 : b ≠ dx := ne_of_none h hdx
    rw [upd_ne n2, upd_ne n1, upd_ne n2, upd_ne n1]
    exact h
  have dm := (hA.up e1).dom
  refine q _ _ _ rfl (e1.trans ex2) ⟨a, rfl, Or.inr ⟨dx, [(g', y'), (g, y)], ?_, ?_, fun f t1 hf => ?_⟩⟩
  · rw [hide_out (dm.new ha), upd_ne (Ne.symm hne)]; exact upd_same
  · rw [hide_out (dm.new hdx)]; exact upd_same
  · rw [lookup_th2] at hf
    by_cases hfg : f = g'
    · rw [if_pos hfg] at hf
      cases hf
      exact ⟨y', by rw [hfg]; simp [List.lookup], t'.up _ _ _ (hide_ex ex2) ry'⟩
    · rw [if_neg hfg] at hf
      have hfb : (f == g') = false := by simpa using hfg
      by_cases hfg2 : f = g
      · rw [if_pos hfg2] at hf
        cases hf
        exact ⟨y, by simp only [List.lookup, hfb]; rw [hfg2]; simp, t.up _ _ _ (hide_ex ex2) ry⟩
      · rw [if_neg hfg2] at hf
        cases hf
/-! ### rows of things -/
theorem pd_tupT {ts : List Th} {x1} (h : PLD X Δ es ts) (hl : ts.length ≤ 100000 := by exact Nat.le_of_ble_eq_true rfl) : PD X Δ (.Tuple es x1 pos) (tupT X.K ts) := by
  obtain ⟨t, p, f⟩ := h
  refine ⟨_, pe_tup p, fun S0 M0 H0 σ H S hA Q q => f S0 M0 H0 σ H S hA _ fun ths vs H2 ht e2 r => ?_⟩
  subst ht
  refine ⟨sz_of (by rw [← r.len]; exact hl), fun p hp => q _ _ _ rfl (e2.trans (Ex.new hp)) ⟨p, vs, rfl, SqT.of ?_, r.up (hide_ex (Ex.new hp))⟩⟩
  rw [hide_out (((hA.up e2).dom).new hp)]
  exact upd_same
theorem pd_lstT {ts : List Th} (h : PLD X Δ es ts) (hl : ts.length ≤ 100000 := by exact Nat.le_of_ble_eq_true rfl) : PD X Δ (.List es pos) (lstT X.K ts) := by
  obtain ⟨t, p, f⟩ := h
  refine ⟨_, pe_lst p, fun S0 M0 H0 σ H S hA Q q => f S0 M0 H0 σ H S hA _ fun ths vs H2 ht e2 r => ?_⟩
  subst ht
  refine ⟨sz_of (by rw [← r.len]; exact hl), fun p hp => q _ _ _ rfl (e2.trans (Ex.new hp)) ⟨p, vs, rfl, SqL.of ?_, r.up (hide_ex (Ex.new hp))⟩⟩
  rw [hide_out (((hA.up e2).dom).new hp)]
  exact upd_same
theorem pd_catT {ts us : List Th} (ha : PD X Δ a (lstT X.K ts)) (hb : PD X Δ b (lstT X.K us)) (hz : ts.length + us.length ≤ 100000 := by exact Nat.le_of_ble_eq_true rfl) : PD X Δ (.BinOp a .Add b pos) (lstT X.K (ts ++ us)) :=
  px_two (fun _ _ pa pb => pe_op op_catL pa pb) ha hb fun S H x' y' v w dom hx hy rx ry Q q => by
    subst hx; subst hy
    obtain ⟨l, xs, rfl, hq, hd⟩ := rx
    obtain ⟨b, zs, rfl, hq2, hd2⟩ := ry
    refine ⟨l, b, xs, zs, rfl, rfl, ex_l hide_le hq, ex_l hide_le hq2, by rw [← hd.len, ← hd2.len]; exact Nat.le_trans hz (by decide), fun p hp => q _ _ _ rfl (Ex.new hp) ⟨p, xs ++ zs, rfl, SqL.of ?_, (hd.app hd2).up (hide_ex (Ex.new hp))⟩⟩
    rw [hide_out (dom.new hp)]
    exact upd_same
theorem pd_lenT {p : Pos} {ts : List Th} (hm : X.mg "len" = none) (ha : PD X Δ e (lstT X.K ts)) (hg : Gl X "len" := by rfl) (he : starEach [e] X.env = (false, eval e X.env) :: starEach [] X.env := by rfl) (hpl : (backTo pos (starEach [] X.env)).any (·.1) = false := by rfl) :
    PD X Δ (.Call (.Name "len" p) [e] [] pos) (dat X.K (.int (ts.length : Nat))) :=
  px_blt call_len_seq hm (pl_cons ha pl_nil he) (fun S H us vs _ hB r Q q => by
    subst hB
    obtain ⟨v, rfl, r0⟩ := all1 r
    obtain ⟨a, xs, rfl, hq, hd⟩ := r0
    refine ⟨a, xs, rfl, Or.inl (ex_l hide_le hq), ?_⟩
    rw [← hd.len]
    exact q _ _ H rfl (Ex.refl H) (Dp.int _)) (by decide +kernel) hg (by decide) (by decide) he hpl
theorem pd_ixT {ts : List Th} {t : Th} {k : Nat} (ha : PD X Δ a (lstT X.K ts)) (hb : PD X Δ b (dat X.K (.int (k : Int)))) (h : ts[k]? = some t) (hs : PlainIx b := by exact fun _ _ => rfl) : PD X Δ (.Subscript a b pos) t :=
  px_two (r := fun x y H Q => rIxL X.K x y H Q ∨ rIxT X.K x y H Q) (fun _ _ pa pb => pe_ix (ix_list.or ix_tup) pa pb hs) ha hb fun S H x y v w _ hx hy rx ry Q q => by
    subst hx; subst hy
    have e2 := dp_int ry
    subst e2
    obtain ⟨p, xs, rfl, hq, hd⟩ := rx
    obtain ⟨u, e1, r⟩ := hd.get' h
    exact Or.inl ⟨p, xs, (k : Int), u, rfl, rfl, ex_l hide_le hq, atI_nat e1, q _ u H rfl (Ex.refl H) r⟩
end
end DL
set_option Elab.async false
set_option linter.all false
set_option maxRecDepth 100000
/-! Two except clauses; a text's letter; a repeated list. -/
namespace DL
open PySem PySem.Spec PyProof.Rows L2
/-- what 'except x0 ..: .. except x as n' wishes of an exception that only the second one takes -/
def wAs2 (K : PySem.W.Frag) (c0 c : Value) (i : Nat) (ts : Addr → Value → Option Addr → TS) (D : Ends) : WX := fun cls d σ H =>
  PySem.W.exmOne K cls c0 = some false ∧ PySem.W.exmOne K cls c = some true ∧ ∀ a, H a = none → ts a cls d { nx := fun σ' H' => D.nx (σ'.set i none) H', rt := D.rt, bk := fun σ' H' => D.bk (σ'.set i none) H', ct := fun σ' H' => D.ct (σ'.set i none) H' } (σ.set i (some (.ref a))) H
theorem ps_try_as2 {X : Cx} {x0 x n : Str} {c0 c : Value} {i : Nat} {body suite suite0 : List Stmt} {b₀ : Stmt} {nm0 : Option Str} {np0 pos0 np pos pos' : Pos} {tb : WX → TS} {ts : Addr → Value → Option Addr → TS} (hs : X.stack = X.env :: X.outer) (hf : X.env.frame = some X.env.locals) (hN : X.N.Nodup) (hi : X.N[i]? = some n) (hln : X.env.kindOf n = some .local) (hc0 : Names X x0 c0) (hc : Names X x c)
    (hb : ∀ (W : WX) (pn : List (Addr × Obj)) (xe : Value → Shared → Prop), Takes (X.tr pn xe) W → PassesOwn (model X.prog X.w) X.A X.env xe → PSs (X.tr pn xe) body (tb W))
    (hsu : ∀ (a : Addr) (oe : Obj) (cls : Value) (d : Option Addr) (pn : List (Addr × Obj)), Zc cls d oe → (∃ vs, oe.data = .fields vs) → PSs (X.suite a ((a, oe) :: pn)) (b₀ :: suite) (ts a cls d)) :
    PS X (.Try body [.ExceptHandler (some (.Name x0 np0)) nm0 suite0 pos0, .ExceptHandler (some (.Name x np)) (some n) (b₀ :: suite) pos'] [] [] pos) (fun D σ H => tb (wAs2 X.K c0 c i ts D) D σ H) := by
  refine ⟨fun pins s σ H D I h => ?_⟩
  have ok := I.ok
  have hfr : X.A.frames = some (X.env :: X.outer) := by rw [ok.frames, hs]
  have hloc : Loc X.env.scope n := .inl hln
  refine wpAny_Try_except ?_
  refine wpAny_mono ((hb (wAs2 X.K c0 c i ts D) (X.pn ++ pins) (fun e s₁ => wpAny (model X.prog X.w) X.A (noteFrame e X.env) (fun _ s₂ => wpAny (model X.prog X.w) X.A (setFlight e none) (fun _ s₃ =>
    wpAny (model X.prog X.w) X.A (handleBy e X.env [.ExceptHandler (some (.Name x0 np0)) nm0 suite0 pos0, .ExceptHandler (some (.Name x np)) (some n) (b₀ :: suite) pos']) (SP X pins D) X.xe s₃) X.xe s₂) X.xe s₁) (fun u s' xx => ?_) PassesOwn.looking).run [] s σ H D (I.toTry _) h) (fun f s1 hsp => ?_) (fun e s1 he => he)
  · obtain ⟨a, B, sI, pins', σ', H', cls, d, rfl, J', nb, up, sky, na, os, ag, hb0, hb1, hyes⟩ := xx
    have J : Inv X pins σ' H' sI := J'.ofTry ok
    have sky' : Sky B (X.env :: X.outer) a (Zc cls d) X.env.locals s'.heap := by rw [← hs]; exact sky
    show wpAny (model X.prog X.w) X.A (noteFrame (.ref a) X.env) _ _ _
    refine Sky.land Zc.steady hfr hf sky' fun h3 fl3 up3 => ?_
    have J3 : Inv X pins σ' H' { s' with heap := h3 } := J.landed nb fl3.1 (up.trans up3) os ag
    obtain ⟨oe3, vs3, he3, hz3, hd3⟩ := fl3.there
    have notFr : ∀ {h : Heap} {o : Obj} {vs : Array Value}, h.FunFrames B (X.env :: X.outer) → h.get? a = some o → o.data = .fields vs → a ∉ frs (X.env :: X.outer) := fun {h o vs} ff e dd hm => by
      obtain ⟨_, o', e', hnf⟩ := ff.mem hm
      rw [e] at e'; cases e'
      exact hnf _ dd
    have nfr := notFr fl3.2.2.1 he3 hd3
    have nL : a ≠ X.env.locals := fun z => nfr (List.mem_filterMap.mpr ⟨X.env, List.mem_cons_self, by rw [hf, z]⟩)
    have nF : a ∉ X.fs := fun hm => by
      obtain ⟨e, he, q⟩ := List.mem_filterMap.mp hm
      exact nfr (List.mem_filterMap.mpr ⟨e, List.mem_cons_of_mem _ he, q⟩)
    have S3 := J3.suite he3 hd3 na nL nF
    have LT : PySem.W.Looks (model X.prog X.w) h3 (typeOf (.ref a)) cls := fun A Q E s k q => wpAny_typeOf_ref (k _ _ he3) (by rw [hz3.1]; exact q)
    have test : ∀ {y : Str} {yp : Pos} {u : Value} {Q : Value → Shared → Prop} {E : Value → Shared → Prop}, Names X y u → Q u { s' with heap := h3 } → wpAny (model X.prog X.w) (X.A.mark (some (.ref a))) (eval (.Name y yp) X.env) Q E { s' with heap := h3 } := fun {y yp u Q E} hc q => by
      obtain ⟨hg, hdbg, hm | ⟨hm, hv, hnn⟩⟩ := hc
      · exact ld_glob (X := X.suite a ((a, oe3) :: (X.pn ++ pins))) S3 hg hm q hdbg
      · exact ld_blt (X := X.suite a ((a, oe3) :: (X.pn ++ pins))) S3 hg hm hv q hnn hdbg
    refine wpAny_handleBy_cons (codeAny_handlers_test ?_) (by intro q; cases q)
    refine test hc0 ((PySem.W.exm_one (M := model X.prog X.w) (J3.kIn) LT hb0).here ?_)
    show wpAny _ X.A (handleBy (.ref a) X.env [.ExceptHandler (some (.Name x np)) (some n) (b₀ :: suite) pos']) _ _ _
    refine wpAny_handleBy_cons (codeAny_handlers_test ?_) (by intro q; cases q)
    refine test hc ((PySem.W.exm_one (M := model X.prog X.w) (J3.kIn) LT hb1).here ?_)
    refine codeAny_handlers_suite_as ?_
    refine HandSPX.lands_againZ fl3 fun h4 fl4 up4 => ?_
    have J4 : Inv X pins σ' H' { s' with heap := h4 } := J.landed nb fl4.1 ((up.trans up3).trans up4) os ag
    obtain ⟨oe4, vs4, he4, hz4, hd4⟩ := fl4.there
    have S4 := J4.suite he4 hd4 na nL nF
    refine store_ok (X := X.suite a ((a, oe4) :: (X.pn ++ pins))) (v := .ref a) S4 hN hi hloc rfl (fun s5 S5 => ?_) (.inr hln)
    refine wpAny_mono ((hsu a oe4 cls d (X.pn ++ pins) hz4 ⟨_, hd4⟩).run [] s5 _ H' _ S5 (hyes a na)) (fun f s6 hsp => ?_) (fun _ _ z => False.elim z)
    have end_ : ∀ {σ6 : L2.St} {H6 : Hp} {Q : Shared → Prop}, Inv (X.suite a ((a, oe4) :: (X.pn ++ pins))) [] σ6 H6 s6 → (∀ s7, Inv X pins (σ6.set i none) H6 s7 → Q s7) →
        wpAny (model X.prog X.w) X.A (do bindName X.env n .none; unbindBehindTheSuite X.env n pos') (fun _ s7 => Q s7) X.xe s6 := fun {σ6 H6 Q} S6 hq => gone_ok (S6.unsuite ok) hN hi hln hq
    cases f with
    | next =>
      obtain ⟨σ6, H6, S6, q6⟩ := hsp
      exact end_ S6 fun s7 J7 => ⟨_, _, J7, q6⟩
    | brk =>
      obtain ⟨σ6, H6, S6, q6⟩ := hsp
      exact end_ S6 fun s7 J7 => ⟨_, _, J7, q6⟩
    | cont =>
      obtain ⟨σ6, H6, S6, q6⟩ := hsp
      exact end_ S6 fun s7 J7 => ⟨_, _, J7, q6⟩
    | ret u =>
      obtain ⟨v6, σ6, H6, S6, r6, q6⟩ := hsp
      exact end_ S6 fun s7 J7 => ⟨_, _, _, J7, r6, q6⟩
  · cases f with
    | next =>
      obtain ⟨σ', H', J', q⟩ := hsp
      exact wpAny_execs_nil ⟨σ', H', J'.ofTry ok, q⟩
    | brk =>
      obtain ⟨σ', H', J', q⟩ := hsp
      exact ⟨σ', H', J'.ofTry ok, q⟩
    | cont =>
      obtain ⟨σ', H', J', q⟩ := hsp
      exact ⟨σ', H', J'.ofTry ok, q⟩
    | ret u =>
      obtain ⟨v, σ', H', J', r, q⟩ := hsp
      exact ⟨v, σ', H', J'.ofTry ok, r, q⟩
section
variable {X : Cx} {Δ : List Sl} {e a b c : Expr} {es : List Expr} {A B C : Th → Prop} {pos : Pos} {P : Post} {rest body els : List Stmt} {st : Stmt} {W : WX}
/-- try: body except x0 ..: .. except x as n: suite -/
theorem sd_tryF2 (i : Nat) {x0 x n : Str} {c0 cv : Value} {b0 : Stmt} {suite suite0 : List Stmt} {nm0 : Option Str} {np0 pos0 np pos' : Pos} {Wout : WX} (XC : Addr → List (Str × Th) → List Sl → Prop) (hN : X.N.Nodup) (hi : X.N[i]? = some n) (hln : X.env.kindOf n = some .local) (hc0 : Names X x0 c0) (hc : Names X x cv)
    (hb : ∀ (W : WX) (pn : List (Addr × Obj)) (xe : Value → Shared → Prop), Takes (X.tr pn xe) W → PassesOwn (model X.prog X.w) X.A X.env xe → SD (X.tr pn xe) W body { P with nx := fun Δ' => SD X Wout rest P Δ', xc := XC } Δ)
    (hcls : ∀ C fs Δ', XC C fs Δ' → PySem.W.exmOne X.K (.ref C) c0 = some false ∧ PySem.W.exmOne X.K (.ref C) cv = some true)
    (hsu : ∀ C fs Δ', XC C fs Δ' → ∀ (a : Addr) (oe : Obj) (d : Option Addr) (pn : List (Addr × Obj)), Zc (.ref C) d oe → (∃ vs, oe.data = .fields vs) → (fs = [] → d = none) →
      SD (X.suite a ((a, oe) :: pn)) (fun _ _ _ _ => False) (b0 :: suite) { nx := fun Δ2 => SD X Wout rest P (Δ2.set i .no), rt := P.rt, bk := fun Δ2 => P.bk (Δ2.set i .no), ct := fun Δ2 => P.ct (Δ2.set i .no) } (Δ'.set i (.th (excT a d fs))))
    (hsl : ∀ C fs Δ', XC C fs Δ' → ∀ ts, Δ'[i]? ≠ some (.ml ts))
    (hs : X.stack = X.env :: X.outer := by rfl) (hf : X.env.frame = some X.env.locals := by rfl) :
    SD X Wout (.Try body [.ExceptHandler (some (.Name x0 np0)) nm0 suite0 pos0, .ExceptHandler (some (.Name x np)) (some n) (b0 :: suite) pos'] [] [] pos :: rest) P Δ := by
  refine sd_cons ?_
  have pb : ∀ (W : WX) (pn : List (Addr × Obj)) (xe : Value → Shared → Prop), Takes (X.tr pn xe) W → PassesOwn (model X.prog X.w) X.A X.env xe → PSs (X.tr pn xe) body (fun D σ H => ∀ (pn : List (Addr × Obj)) (xe : Value → Shared → Prop), Takes (X.tr pn xe) W → PassesOwn (model X.prog X.w) X.A X.env xe → ∃ t, PSs (X.tr pn xe) body t ∧ t D σ H) :=
    fun W pn xe tk hp => ⟨fun pins s σ H D I h => by
      obtain ⟨t, p, ht⟩ := h pn xe tk hp
      exact p.run pins s σ H D I ht⟩
  have ps : ∀ (a : Addr) (oe : Obj) (cls : Value) (d : Option Addr) (pn : List (Addr × Obj)), Zc cls d oe → (∃ vs, oe.data = .fields vs) → PSs (X.suite a ((a, oe) :: pn)) (b0 :: suite) (fun D σ H => ∀ (oe : Obj) (pn : List (Addr × Obj)), Zc cls d oe → (∃ vs, oe.data = .fields vs) → ∃ t, PSs (X.suite a ((a, oe) :: pn)) (b0 :: suite) t ∧ t D σ H) :=
    fun a oe cls d pn hz hfl => ⟨fun pins s σ H D I h => by
      obtain ⟨t, p, ht⟩ := h oe pn hz hfl
      exact p.run pins s σ H D I ht⟩
  refine ⟨_, ps_try_as2 (ts := fun a cls d => fun D σ H => ∀ (oe : Obj) (pn : List (Addr × Obj)), Zc cls d oe → (∃ vs, oe.data = .fields vs) → ∃ t, PSs (X.suite a ((a, oe) :: pn)) (b0 :: suite) t ∧ t D σ H) hs hf hN hi hln hc0 hc pb ps, fun S0 M0 H0 σ H S hA D le xw => ?_⟩
  intro pn xe tk2 hp2
  obtain ⟨t, p, f⟩ := hb _ pn xe tk2 hp2
  refine ⟨t, p, f S0 M0 H0 σ H S hA D ⟨le.nx, le.rt, le.bk, le.ct⟩ ⟨fun σ1 H1 C fs d Δ1 S1 hxc hA1 r nd => ?_, xw.2⟩⟩
  refine ⟨(hcls C fs Δ1 hxc).1, (hcls C fs Δ1 hxc).2, fun a na oe pn hz hfl => ?_⟩
  have hd0 : fs = [] → d = none := fun z => by
    rcases r with ⟨_, r⟩ | ⟨ne, _⟩
    · exact r
    · exact absurd z ne
  obtain ⟨u, pu, fu⟩ := hsu C fs Δ1 hxc a oe d pn hz hfl hd0
  refine ⟨u, pu, fu S0 M0 H0 _ H1 S1 (hA1.setS (s := .th (excT a d fs)) rfl ⟨.ref a, rfl, rfl, r⟩) _ ⟨fun σ2 H2 ⟨Δ2, S2, n2, hA2⟩ => le.nx _ _ ⟨_, S2, n2, hA2.setS (s := .no) rfl trivial⟩, le.rt, fun σ2 H2 ⟨Δ2, S2, n2, hA2⟩ => le.bk _ _ ⟨_, S2, n2, hA2.setS (s := .no) rfl trivial⟩, fun σ2 H2 ⟨Δ2, S2, n2, hA2⟩ => le.ct _ _ ⟨_, S2, n2, hA2.setS (s := .no) rfl trivial⟩⟩ ⟨fun _ _ _ _ _ _ _ p => p.elim, fun z => nomatch z⟩⟩
/-- raise X(e, e') with an __init__ of its own -/
theorem sd_raise2 {x g g' : Str} {Cc : Addr} {p p2 : Pos} {e' : Expr} {t t' : Th} (F : ExF2 X.prog X.w X.K X.mg X.base x Cc g g') (hr : Room 2 X.A) (he : PD X Δ e t) (he' : PD X Δ e' t') (tk : Takes X W) (k : P.xc Cc [(g', t'), (g, t)] Δ) (hg : Gl X x := by rfl) (hc : X.calm = true := by rfl) (hdb : (x == ("__debug__" : Str)) = false := by decide)
    (hs1 : starEach [e'] X.env = (false, eval e' X.env) :: starEach [] X.env := by rfl) (hs : starEach [e, e'] X.env = (false, eval e X.env) :: starEach [e'] X.env := by rfl) (hpl : (backTo p2 (starEach [e'] X.env)).any (·.1) = false := by rfl) :
    SD X W (.Raise (some (.Call (.Name x p) [e, e'] [] p2)) none pos :: rest) P Δ := by
  obtain ⟨fI, fd, ps, h1, h2, hb, Fk⟩ := F.ini
  obtain ⟨ta, pa, fa⟩ := pl_cons he (pl_cons he' pl_nil hs1) hs
  refine sd_cons ⟨_, ps_raise hc tk (pmk_oex (dvs := []) F.T h1 h2 Fk hr hb .nil (fun _ _ _ _ _ _ _ z => z.elim) hg F.gC pa hdb hs hpl), fun S0 M0 H0 σ H S hA D le xw => ?_⟩
  refine fa S0 M0 H0 σ H S hA _ fun ths vs H1 hB e1 r => ?_
  subst hB
  obtain ⟨y, y', rfl, ry, ry'⟩ := all2 r
  refine ⟨by show 2 ≤ 1000; decide, fun a ha => ⟨a, Cc, y, y', rfl, F.T, F.no, F.no', upd_same, fun dx hdx hne => ⟨rfl, dx, [(g', y'), (g, y)], ?_, upd_same, ?_, ?_⟩⟩⟩
  · rw [upd_ne (Ne.symm hne)]; exact upd_same
  · rw [upd_ne hne] at hdx; exact hdx
  · rw [upd_ne hne] at hdx
    rw [raise_heap2 ha hne]
    have hA1 := hA.up (e1.trans (Ex.new (o := .xd [(g', y'), (g, y)]) hdx))
    have nS : dx ∉ S := (hA.up e1).dom.new hdx
    refine xw.1 σ _ Cc [(g', t'), (g, t)] (some dx) Δ S k hA1 (Or.inr ⟨by simp, dx, [(g', y'), (g, y)], rfl, by rw [hide_out nS]; exact upd_same, fun f t1 hf => ?_⟩) (fun a z => by cases z; exact nS)
    rw [lookup_th2] at hf
    by_cases hfg : f = g'
    · rw [if_pos hfg] at hf
      cases hf
      exact ⟨y', by rw [hfg]; simp [List.lookup], t'.up _ _ _ (hide_ex (Ex.new hdx)) ry'⟩
    · rw [if_neg hfg] at hf
      have hfb : (f == g') = false := by simpa using hfg
      by_cases hfg2 : f = g
      · rw [if_pos hfg2] at hf
        cases hf
        exact ⟨y, by simp only [List.lookup, hfb]; rw [hfg2]; simp, t.up _ _ _ (hide_ex (Ex.new hdx)) ry⟩
      · rw [if_neg hfg2] at hf
        cases hf
/-- a letter of a text -/
theorem px_ixS {z : Str} {Pi : Int → Prop} (ha : PD X Δ a (dat X.K (.str z))) (hb : PX X Δ b (isI X.K Pi)) (hz : z.length ≤ 100000) (h : ∀ i, Pi i → 0 ≤ i ∧ i < z.length) (hs : PlainIx b := by exact fun _ _ => rfl) :
    PX X Δ (.Subscript a b pos) (fun t => ∃ y : Str, t = dat X.K (.str y) ∧ y.length = 1 ∧ (PyData.strOk z = true → PyData.strOk y = true)) :=
  px_two (r := rIxS) (fun _ _ pa pb => pe_ix ix_str pa pb hs) ha hb fun S H x y v w _ hx ⟨k, hy, hk⟩ rx ry Q q => by
    subst hx; subst hy
    have e2 := dp_int ry
    subst e2
    have rx' : Dp X.K (hide S H) v (.str z) := rx
    cases rx'
    obtain ⟨h0, h1⟩ := h k hk
    obtain ⟨j, rfl⟩ : ∃ j : Nat, k = (j : Int) := ⟨k.toNat, by omega⟩
    have hj : j < z.cps.toList.length := by
      rw [Array.length_toList]
      have : (j : Int) < (z.cps.size : Nat) := h1
      omega
    exact ⟨z, (j : Int), z.cps.toList[j], rfl, rfl, sz_of hz, atI_nat (List.getElem?_eq_getElem hj), q _ _ H ⟨_, rfl, rfl, fun hk => by
      unfold PyData.strOk at *
      have hm : z.cps.toList[j] ∈ z.cps := by simp
      have := (Array.all_eq_true_iff_forall_mem.mp hk) _ hm
      simpa using this⟩ (Ex.refl H) (Dp.str _)⟩
/-- text + text, some of it not known -/
theorem px_addS {Pa Pb : Str → Prop} {R : Str → Prop} (ha : PX X Δ a (fun t => ∃ y, t = dat X.K (.str y) ∧ Pa y)) (hb : PX X Δ b (fun t => ∃ y, t = dat X.K (.str y) ∧ Pb y)) (h : ∀ x y, Pa x → Pb y → x.length + y.length ≤ 100000 ∧ R (x ++ y)) :
    PX X Δ (.BinOp a .Add b pos) (fun t => ∃ y, t = dat X.K (.str y) ∧ R y) := by
  obtain ⟨ta, pa, fa⟩ := ha
  obtain ⟨tb, pb, fb⟩ := hb
  refine ⟨_, pe_op op_add_str pa pb, fun S0 M0 H0 σ H S hA Q q => ?_⟩
  refine fa S0 M0 H0 σ H S hA _ fun x v H1 ⟨z, hx, hz⟩ e1 rx => fb S0 M0 H0 σ H1 S (hA.up e1) _ fun y w H2 ⟨z', hy, hz'⟩ e2 ry => ?_
  subst hx; subst hy
  obtain ⟨h1, h2⟩ := h z z' hz hz'
  have rx' : Dp X.K (hide S H1) v (.str z) := rx
  have ry' : Dp X.K (hide S H2) w (.str z') := ry
  cases rx'
  cases ry'
  exact ⟨z, z', rfl, rfl, sz_of h1, q _ _ H2 ⟨_, rfl, h2⟩ (e1.trans e2) (Dp.str _)⟩
theorem dpa_rep {K : PySem.W.Frag} {H : Hp} {vs : List V} {ds : List PyData} (h : DpAll K H vs ds) : ∀ n : Nat, DpAll K H (List.replicate n vs).flatten (List.replicate n ds).flatten
  | 0 => .nil
  | n + 1 => by
    rw [List.replicate_succ, List.replicate_succ, List.flatten_cons, List.flatten_cons]
    exact dpa_app h (dpa_rep h n)
/-- [ ... ] * n -/
theorem pd_rep {ds : List PyData} {n : Nat} {p : Pos} (h : PLD X Δ es (ds.map (dat X.K))) (hb : PD X Δ b (dat X.K (.int (n : Int)))) (hl : ds.length ≤ 1000 := by decide) (hn : n ≤ 50 := by decide) : PD X Δ (.BinOp (.List es p) .Mult b pos) (dat X.K (.list (List.replicate n ds).flatten)) := by
  obtain ⟨ta, pa, fa⟩ := h
  obtain ⟨tb, pb, fb⟩ := hb
  refine ⟨_, pe_op op_rep (pe_lst pa) pb, fun S0 M0 H0 σ H S hA Q q => ?_⟩
  refine fa S0 M0 H0 σ H S hA _ fun ths vs H1 ht e1 r => ?_
  subst ht
  have hd := all_dpa r
  refine ⟨sz_of (by rw [dpa_len hd]; omega), fun p hp => ?_⟩
  have e2 : Ex H1 (upd H1 p (.lst vs)) := Ex.new hp
  refine fb S0 M0 H0 σ _ S (hA.up (e1.trans e2)) _ fun y w H2 hy e3 ry => ?_
  subst hy
  have e4 := dp_int ry
  subst e4
  refine ⟨p, (n : Int), vs, rfl, rfl, e3 _ _ upd_same, by omega, by omega, ?_, fun p2 hp2 => q _ _ _ rfl (e1.trans (e2.trans (e3.trans (Ex.new hp2)))) ?_⟩
  · rw [dpa_len hd, Int.toNat_natCast]
    refine sz_of (Nat.le_trans (Nat.mul_le_mul hl hn) (by decide))
  · rw [Int.toNat_natCast]
    have dm := ((hA.up (e1.trans e2)).up e3).dom
    have hd2 := dpa_up (hide_ex (S := S) (e2.trans (e3.trans (Ex.new (o := .lst (List.replicate n vs).flatten) hp2)))) hd
    exact Dp.lst (SqL.of (by rw [hide_out (dm.new hp2)]; exact upd_same)) (dpa_rep hd2 n)
end
end DL
set_option Elab.async false
set_option linter.all false
set_option maxRecDepth 100000
/-! Error classes of the program: which is of which. -/
namespace DL
open PySem PySem.Spec PyProof.Rows L2
section
variable {K : PySem.W.Frag} {bm bm' : List Value} {C D : Addr}
theorem ErS.sub (T : ErS K bm C) (u : Value) : PySem.W.subIn K (.ref C) u = some ((Value.ref C :: bm).contains u) := by
  obtain ⟨nm, q, N, bs, sn, sub, ab, col, dd, k0, k1, k2, k3, k5, h⟩ := T.xL
  show (PySem.W.clsIn K C).bind _ = _
  unfold PySem.W.clsIn
  rw [h]
  rfl
theorem ErS.cls (T : ErS K bm C) : PySem.W.isClsIn K C = true := by
  obtain ⟨nm, q, N, bs, sn, sub, ab, col, dd, k0, k1, k2, k3, k5, h⟩ := T.xL
  show (PySem.W.clsIn K C).isSome = true
  unfold PySem.W.clsIn
  rw [h]
  rfl
theorem ErS.hd (T : ErS K bm C) : PySem.W.hasDictIn K C = true := by
  obtain ⟨nm, q, N, bs, sn, sub, ab, col, dd, k0, k1, k2, k3, k5, h⟩ := T.xL
  show (PySem.W.clsIn K C).any _ = true
  unfold PySem.W.clsIn
  rw [h]
  rfl
theorem ErS.ty (T : ErS K bm C) : PySem.W.typeIn K (.ref C) = some (.type "type") := by
  obtain ⟨nm, q, N, bs, sn, sub, ab, col, dd, k0, k1, k2, k3, k5, h⟩ := T.xL
  show (K.lookup C).map _ = _
  rw [h]
  rfl
theorem cls_if (T : ErS K bm D) : ((PySem.W.clsIn K D).isSome && PySem.W.typeIn K (.ref D) == some (.type "type")) = true := by
  have h2' : (PySem.W.clsIn K D).isSome = true := T.cls
  rw [h2', T.ty] <;> rfl
theorem ErS.kit (T : ErS K bm C) (U : ErS K bm' D) : PySem.W.kitOne K (.ref C) (.ref D) = some ((Value.ref C :: bm).contains (.ref D)) := by
  show (if (Value.ref C == Value.ref D) = true then some true else if ((PySem.W.clsIn K D).isSome && PySem.W.typeIn K (.ref D) == some (.type "type")) = true then PySem.W.subIn K (.ref C) (.ref D) else none) = _
  rw [if_pos (cls_if U), T.sub]
  split
  · rename_i h
    have e := Value.ref.inj (beq_iff_eq.mp h)
    subst e
    rw [List.contains_cons, BEq.rfl, Bool.true_or]
  · rfl
theorem ErS.kitB (T : ErS K bm C) (n : String) (hn : PySem.W.kitMeta n = true := by decide +kernel) : PySem.W.kitOne K (.ref C) (.type n) = some ((Value.ref C :: bm).contains (.type n)) := by
  show (if (Value.ref C == Value.type n) = true then some true else if PySem.W.kitMeta n = true then PySem.W.subIn K (.ref C) (.type n) else none) = _
  rw [if_neg (show ¬ (Value.ref C == Value.type n) = true by intro h; cases (beq_iff_eq.mp h)), if_pos hn, T.sub]
theorem ErS.exm (T : ErS K bm C) (U : ErS K bm' D) (hB : bm'.contains (.type "BaseException") = true) : PySem.W.exmOne K (.ref C) (.ref D) = some ((Value.ref C :: bm).contains (.ref D)) := by
  have e1 : (PySem.W.subIn K (.ref D) (.type "BaseException") == some true) = true := by
    rw [U.sub, List.contains_cons, hB, Bool.or_true] <;> rfl
  show (if (PySem.W.subIn K (.ref D) (.type "BaseException") == some true) = true then (if ((PySem.W.clsIn K D).isSome && PySem.W.typeIn K (.ref D) == some (.type "type")) = true then PySem.W.subIn K (.ref C) (.ref D) else none) else none) = _
  rw [if_pos e1, if_pos (cls_if U), T.sub]
theorem ErS.exc (T : ErS K bm C) (hB : bm.contains (.type "BaseException") = true) (hO : bm.contains (.type "object") = true) (sp : PySem.W.specialIn K (.builtin "object.__class__") "__get__" = some (some (.builtin "getset_descriptor.__get__"))) (ta : PySem.W.takesIn K (.builtin "object.__class__") = some true) : L2.ExcC K C :=
  ⟨T.ga, T.gg, by rw [T.sub, List.contains_cons, hB, Bool.or_true], T.hd, T.ha, sp, ta, by
    have h := T.sub (.type "object")
    rw [List.contains_cons, hO, Bool.or_true] at h
    exact h⟩
theorem ErS.xf (T : ErS K bm C) (hB : bm.contains (.type "BaseException") = true) : XfC K C := ⟨T.ga, T.gg, by rw [T.sub, List.contains_cons, hB, Bool.or_true], T.hd⟩
theorem vref_beq (a b : Addr) : (Value.ref a == Value.ref b) = decide (a = b) := by
  by_cases h : a = b
  · subst h
    rw [decide_eq_true rfl]
    exact BEq.rfl
  · rw [decide_eq_false h]
    exact Bool.eq_false_iff.mpr fun z => h (Value.ref.inj (beq_iff_eq.mp z))
theorem ve_ref (D : Addr) : VEs.contains (Value.ref D) = false := by
  have h : ∀ n : String, (Value.ref D == Value.type n) = false := fun n => Bool.eq_false_iff.mpr fun z => by cases (beq_iff_eq.mp z)
  simp only [VEs, List.contains_cons, h, List.contains_nil, Bool.or_false]
/-- which of the classes directly below S an error is of -/
theorem con_at {C S D : Addr} (h : D ≠ S) : (Value.ref C :: Value.ref S :: VEs).contains (.ref D) = decide (D = C) := by
  rw [List.contains_cons, List.contains_cons, ve_ref, vref_beq, vref_beq, decide_eq_false h, Bool.or_false, Bool.or_false]
theorem con_S {S D : Addr} (h : D ≠ S) : (Value.ref S :: VEs).contains (.ref D) = false := by
  rw [List.contains_cons, ve_ref, vref_beq, decide_eq_false h, Bool.or_false]
end
section
variable {X : Cx} {Δ : List Sl} {e a b c : Expr} {es : List Expr} {A B C : Th → Prop} {pos : Pos} {P : Post} {rest body els : List Stmt} {st : Stmt} {W : WX}
/-- x, y = a, b -/
theorem sd_par2 (i j : Nat) {x y : Str} {px py pt pt2 : Pos} {kt k2 : Nat} {t u : Th} (ha : PD X Δ a t) (hb : PD X Δ b u) (k : SD X W rest P ((Δ.set i (.th t)).set j (.th u))) (hN : X.N.Nodup) (hc : X.calm = true := by rfl) (hi : X.N[i]? = some x := by rfl) (hj : X.N[j]? = some y := by rfl) (hij : i ≠ j := by decide)
    (hx : X.env.scope.names.lookup x = some .local := by rfl) (hy : X.env.scope.names.lookup y = some .local := by rfl) (hw : swappedStores [.Tuple [.Name x px, .Name y py] kt pt] (.Tuple [a, b] k2 pt2) X.env = pure (some [x, y]) := by rfl)
    (hs : swapsWithSole [.Tuple [.Name x px, .Name y py] kt pt] (.Tuple [a, b] k2 pt2) pos.line X.env = pure false := by rfl)
    (hs1 : starEach [b] X.env = (false, eval b X.env) :: starEach [] X.env := by rfl) (hs2 : starEach [a, b] X.env = (false, eval a X.env) :: starEach [b] X.env := by rfl) :
    SD X W (.Assign [.Tuple [.Name x px, .Name y py] kt pt] (.Tuple [a, b] k2 pt2) pos :: rest) P Δ := by
  obtain ⟨ta, pa, fa⟩ := pl_cons ha (pl_cons hb pl_nil hs1) hs2
  refine sd_cons ⟨_, ps_par hc hN hi hj hij hx hy pa hw, fun S0 M0 H0 σ H S hA D le xw => ?_⟩
  refine fa S0 M0 H0 σ H S hA _ fun ths vs H1 hB e1 r => ?_
  subst hB
  obtain ⟨v, w, rfl, r1, r2⟩ := all2 r
  exact ⟨v, w, rfl, le.nx _ _ ⟨_, S, k, ((hA.up e1).set r1).set r2⟩⟩
/-- x, y, z = a, b, c -/
theorem sd_par3 (i j l : Nat) {x y z : Str} {px py pz pt pt2 : Pos} {kt k2 : Nat} {t u w : Th} (ha : PD X Δ a t) (hb : PD X Δ b u) (hc' : PD X Δ c w) (k : SD X W rest P (((Δ.set i (.th t)).set j (.th u)).set l (.th w))) (hN : X.N.Nodup) (hc : X.calm = true := by rfl) (hi : X.N[i]? = some x := by rfl) (hj : X.N[j]? = some y := by rfl) (hl : X.N[l]? = some z := by rfl) (hij : i ≠ j := by decide) (hil : i ≠ l := by decide) (hjl : j ≠ l := by decide)
    (hx : X.env.scope.names.lookup x = some .local := by rfl) (hy : X.env.scope.names.lookup y = some .local := by rfl) (hz : X.env.scope.names.lookup z = some .local := by rfl) (hw : swappedStores [.Tuple [.Name x px, .Name y py, .Name z pz] kt pt] (.Tuple [a, b, c] k2 pt2) X.env = pure (some [x, y, z]) := by rfl)
    (hs : swapsWithSole [.Tuple [.Name x px, .Name y py, .Name z pz] kt pt] (.Tuple [a, b, c] k2 pt2) pos.line X.env = pure false := by rfl)
    (hs0 : starEach [c] X.env = (false, eval c X.env) :: starEach [] X.env := by rfl) (hs1 : starEach [b, c] X.env = (false, eval b X.env) :: starEach [c] X.env := by rfl) (hs2 : starEach [a, b, c] X.env = (false, eval a X.env) :: starEach [b, c] X.env := by rfl) :
    SD X W (.Assign [.Tuple [.Name x px, .Name y py, .Name z pz] kt pt] (.Tuple [a, b, c] k2 pt2) pos :: rest) P Δ := by
  obtain ⟨ta, pa, fa⟩ := pl_cons ha (pl_cons hb (pl_cons hc' pl_nil hs0) hs1) hs2
  refine sd_cons ⟨_, ps_par3 hc hN hi hj hl hij hil hjl hx hy hz pa hw, fun S0 M0 H0 σ H S hA D le xw => ?_⟩
  refine fa S0 M0 H0 σ H S hA _ fun ths vs H1 hB e1 r => ?_
  subst hB
  match vs, r with
  | [v1, v2, v3], r => exact ⟨v1, v2, v3, rfl, le.nx _ _ ⟨_, S, k, (((hA.up e1).set r.1).set r.2.1).set r.2.2.1⟩⟩
end
end DL
set_option Elab.async false
set_option linter.all false
set_option maxRecDepth 100000
/-! What the top says of many error classes directly below one. -/
namespace DL
open PySem PySem.Spec PyProof.Rows L2
section
variable {P : Program} {w : World} {K : PySem.W.Frag} {mg : Str → Option Value} {base h : Heap} {x q : Str} {st : Stmt} {S C : Addr} {g g' : Str}
theorem ErS.oex {bm : List Value} (T : ErS K bm C) (hb : bm.contains (.type "BaseException") = true) (hr : PySem.HandSPX.refsVE bm = true) (sa : PySem.W.findIn K (.ref C) "__setattr__" = some (some (.builtin "object.__setattr__"))) : OexC K C :=
  ⟨by obtain ⟨nm, q, N, bs, sn, sub, ab, col, dd, k0, k1, k2, k3, k5, h⟩ := T.xL
      exact ⟨nm, q, N, bs, bm, sn, sub, ab, col, dd, k0, k1, k2, k3, k5, h, hr⟩, sa, by rw [T.sub, List.contains_cons, hb, Bool.or_true], T.ty, T.kC⟩
theorem EKS.ex0 (E : EKS K x S) (X : K.In h) (G : h.Ns mainGlobals mg) : ExC0 K mg x S := ⟨PySem.W.mg_of X G E.1, E.2.2, E.2.1.kC, by rw [E.2.1.sub, List.contains_cons]; rfl, E.2.1.ty⟩
theorem EK0.ex0 (E : EK0 K x S C) (X : K.In h) (G : h.Ns mainGlobals mg) : ExC0 K mg x C := ⟨PySem.W.mg_of X G E.1, E.2.2, E.2.1.kC, by rw [E.2.1.sub, List.contains_cons]; rfl, E.2.1.ty⟩
theorem EK1.ers {gs : List Str} (E : EK1 K x q st gs S C) : ErS K (.ref S :: VEs) C := by
  obtain ⟨f, fd, h1, h2, _⟩ := E
  exact h2
theorem EK1.ex1 (E : EK1 K x q st [g] S C) (X : K.In h) (G : h.Ns mainGlobals mg) {ps : List Str} (I : ∀ {f : Addr} {fd : FuncData}, Fun K "__init__" q st f fd → Binds K fd ps [] ∧ FnOk P w K mg base CX0 1 f fd ps (spIni1 K g)) : ExF1 P w K mg base x C g := by
  obtain ⟨f, fd, h1, h2, h3, h4, h5, h6, h7⟩ := E
  exact ⟨PySem.W.mg_of X G h1, h2.oex rfl (by show PySem.HandSPX.refsVE (.ref S :: VEs) = true; rfl) h3, h4 g (by simp), f, fd, ps, h5, h6, (I h7).1, (I h7).2⟩
theorem EK1.ex2 (E : EK1 K x q st [g, g'] S C) (X : K.In h) (G : h.Ns mainGlobals mg) {ps : List Str} (I : ∀ {f : Addr} {fd : FuncData}, Fun K "__init__" q st f fd → Binds K fd ps [] ∧ FnOk P w K mg base CX0 1 f fd ps (spIni2 K g g')) : ExF2 P w K mg base x C g g' := by
  obtain ⟨f, fd, h1, h2, h3, h4, h5, h6, h7⟩ := E
  exact ⟨PySem.W.mg_of X G h1, h2.oex rfl (by show PySem.HandSPX.refsVE (.ref S :: VEs) = true; rfl) h3, h4 g (by simp), h4 g' (by simp), f, fd, ps, h5, h6, (I h7).1, (I h7).2⟩
end
end DL
set_option Elab.async false
set_option linter.all false
set_option maxRecDepth 100000
namespace K00
open PySem PySem.Spec PyProof.Rows L2 DL
def top (i : Nat) : Stmt := PySem.Challenge.pw_firmstops_k00_errors_side_by_side.main.body.getD i (.Pass ⟨0, 0, 0, 0⟩)
abbrev s__law_mix : Stmt := top 45
abbrev s__law_hand : Stmt := top 46
abbrev s__law_draw : Stmt := top 47
abbrev s__law_name : Stmt := top 48
abbrev s__law_first : Stmt := top 49
abbrev s__law_second : Stmt := top 50
abbrev s__law_third : Stmt := top 51
abbrev s__law_fourth : Stmt := top 52
abbrev s__law_classes : Stmt := top 53
abbrev s__law_raised : Stmt := top 54
abbrev s_law : Stmt := top 55
theorem sc__law_mix : FnScope ["_law_number", "_law_turn", "_law_once", "_law_twice"] ["_law_number", "_law_turn"] (defScope s__law_mix) := ⟨rfl, rfl, rfl, by decide +kernel, rfl, by decide +kernel, by decide +kernel⟩
theorem sc__law_hand : FnScope ["_law_script", "_law_total", "_law_k", "_law_cell"] ["_law_script"] (defScope s__law_hand) := ⟨rfl, rfl, rfl, by decide +kernel, rfl, by decide +kernel, by decide +kernel⟩
theorem sc__law_draw : FnScope ["_law_hand_here", "_law_many", "_law_cell", "_law_rest"] ["_law_hand_here", "_law_many"] (defScope s__law_draw) := ⟨rfl, rfl, rfl, by decide +kernel, rfl, by decide +kernel, by decide +kernel⟩
theorem sc__law_name : FnScope ["_law_hand_here", "_law_word", "_law_k"] ["_law_hand_here"] (defScope s__law_name) := ⟨rfl, rfl, rfl, by decide +kernel, rfl, by decide +kernel, by decide +kernel⟩
theorem sc__law_first : FnScope ["_law_at", "_law_to", "_law_word", "_law_name_here", "_law_a", "_law_b", "_law_c", "_law_d", "_law_e", "_law_f", "_law_g", "_law_found"] ["_law_at", "_law_to", "_law_word", "_law_name_here"] (defScope s__law_first) := ⟨rfl, rfl, rfl, by decide +kernel, rfl, by decide +kernel, by decide +kernel⟩
theorem sc__law_second : FnScope ["_law_at", "_law_to", "_law_word", "_law_name_here", "_law_a", "_law_b", "_law_c", "_law_d", "_law_e", "_law_f", "_law_g", "_law_found"] ["_law_at", "_law_to", "_law_word", "_law_name_here"] (defScope s__law_second) := ⟨rfl, rfl, rfl, by decide +kernel, rfl, by decide +kernel, by decide +kernel⟩
theorem sc__law_third : FnScope ["_law_at", "_law_to", "_law_word", "_law_name_here", "_law_a", "_law_b", "_law_c", "_law_d", "_law_e", "_law_f", "_law_g", "_law_h", "_law_found"] ["_law_at", "_law_to", "_law_word", "_law_name_here"] (defScope s__law_third) := ⟨rfl, rfl, rfl, by decide +kernel, rfl, by decide +kernel, by decide +kernel⟩
theorem sc__law_fourth : FnScope ["_law_at", "_law_to", "_law_word", "_law_name_here", "_law_a", "_law_b", "_law_found"] ["_law_at", "_law_to", "_law_word", "_law_name_here"] (defScope s__law_fourth) := ⟨rfl, rfl, rfl, by decide +kernel, rfl, by decide +kernel, by decide +kernel⟩
theorem sc__law_classes : FnScope ["_law_e", "_law_found"] ["_law_e"] (defScope s__law_classes) := ⟨rfl, rfl, rfl, by decide +kernel, rfl, by decide +kernel, by decide +kernel⟩
theorem sc__law_raised : FnScope ["_law_at", "_law_word", "_law_told", "_law_e"] ["_law_at", "_law_word"] (defScope s__law_raised) := ⟨rfl, rfl, rfl, by decide +kernel, rfl, by decide +kernel, by decide +kernel⟩
theorem sc_law : FnScope ["_law_script", "_law_hand_here", "_law_at", "_law_to", "_law_word", "_law_name_here", "_law_made", "_law_k", "_law_error", "_law_told", "_law_due", "_law_base", "_law_other"] ["_law_script"] (defScope s_law) := ⟨rfl, rfl, rfl, by decide +kernel, rfl, by decide +kernel, by decide +kernel⟩
structure Txt (K : PySem.W.Frag) (mg : Str → Option Value) : Prop where
  z_int : mg "int" = none
  z_abs : mg "abs" = none
  z_len : mg "len" = none
  z_enumerate : mg "enumerate" = none
  z_isinstance : mg "isinstance" = none
  z_range : mg "range" = none
  z_VE : mg "ValueError" = none
structure Ad where
  S : Addr
  BadRatio : Addr
  BadPlace : Addr
  BadWork : Addr
  NoSide : Addr
  BadSize : Addr
  BadStop : Addr
  BadText : Addr
  BadMotion : Addr
  BadDirection : Addr
  BadWay : Addr
  NoCentre : Addr
  BadPull : Addr
  BadRows : Addr
  BadNumbers : Addr
  LowRank : Addr
  NoStop : Addr
  BadShares : Addr
  WornOut : Addr
  NoMeeting : Addr
  BadHalves : Addr
  NoMiddle : Addr
  BadSwing : Addr
  BadSteps : Addr
  BadStretch : Addr
  BadChoice : Addr
  BadStep : Addr
  BadMost : Addr
  BadBounds : Addr
  BadAim : Addr
  BadCount : Addr
  BadSides : Addr
  BadFar : Addr
  BadPosts : Addr
  BadSlides : Addr
  BadLot : Addr
  NoSeats : Addr
  BadSlips : Addr
  BadSlacks : Addr
  NoTouch : Addr
  BadChange : Addr
  BadWish : Addr
  NothingDone : Addr
def Ad.all (A : Ad) : List Addr := [A.BadRatio, A.BadPlace, A.BadWork, A.NoSide, A.BadSize, A.BadStop, A.BadText, A.BadMotion, A.BadDirection, A.BadWay, A.NoCentre, A.BadPull, A.BadRows, A.BadNumbers, A.LowRank, A.NoStop, A.BadShares, A.WornOut, A.NoMeeting, A.BadHalves, A.NoMiddle, A.BadSwing, A.BadSteps, A.BadStretch, A.BadChoice, A.BadStep, A.BadMost, A.BadBounds, A.BadAim, A.BadCount, A.BadSides, A.BadFar, A.BadPosts, A.BadSlides, A.BadLot, A.NoSeats, A.BadSlips, A.BadSlacks, A.NoTouch, A.BadChange, A.BadWish, A.NothingDone]

structure Er (P : Program) (w : World) (K : PySem.W.Frag) (mg : Str → Option Value) (base : Heap) (A : Ad) : Prop where
  nd : A.all.Nodup
  ns : ∀ D ∈ A.all, D ≠ A.S
  sp : PySem.W.specialIn K (.builtin "object.__class__") "__get__" = some (some (.builtin "getset_descriptor.__get__"))
  ta : PySem.W.takesIn K (.builtin "object.__class__") = some true
  cS : ErS K VEs A.S
  mS : ExC0 K mg "StopError" A.S
  c_BadRatio : ErS K (.ref A.S :: VEs) A.BadRatio
  m_BadRatio : ExF1 P w K mg base "BadRatio" A.BadRatio "what"
  c_BadPlace : ErS K (.ref A.S :: VEs) A.BadPlace
  m_BadPlace : ExC0 K mg "BadPlace" A.BadPlace
  c_BadWork : ErS K (.ref A.S :: VEs) A.BadWork
  m_BadWork : ExF2 P w K mg base "BadWork" A.BadWork "index" "what"
  c_NoSide : ErS K (.ref A.S :: VEs) A.NoSide
  m_NoSide : ExF1 P w K mg base "NoSide" A.NoSide "side"
  c_BadSize : ErS K (.ref A.S :: VEs) A.BadSize
  m_BadSize : ExC0 K mg "BadSize" A.BadSize
  c_BadStop : ErS K (.ref A.S :: VEs) A.BadStop
  m_BadStop : ExF2 P w K mg base "BadStop" A.BadStop "index" "what"
  c_BadText : ErS K (.ref A.S :: VEs) A.BadText
  m_BadText : ExF2 P w K mg base "BadText" A.BadText "word" "what"
  c_BadMotion : ErS K (.ref A.S :: VEs) A.BadMotion
  m_BadMotion : ExC0 K mg "BadMotion" A.BadMotion
  c_BadDirection : ErS K (.ref A.S :: VEs) A.BadDirection
  m_BadDirection : ExC0 K mg "BadDirection" A.BadDirection
  c_BadWay : ErS K (.ref A.S :: VEs) A.BadWay
  m_BadWay : ExC0 K mg "BadWay" A.BadWay
  c_NoCentre : ErS K (.ref A.S :: VEs) A.NoCentre
  m_NoCentre : ExC0 K mg "NoCentre" A.NoCentre
  c_BadPull : ErS K (.ref A.S :: VEs) A.BadPull
  m_BadPull : ExC0 K mg "BadPull" A.BadPull
  c_BadRows : ErS K (.ref A.S :: VEs) A.BadRows
  m_BadRows : ExC0 K mg "BadRows" A.BadRows
  c_BadNumbers : ErS K (.ref A.S :: VEs) A.BadNumbers
  m_BadNumbers : ExF1 P w K mg base "BadNumbers" A.BadNumbers "what"
  c_LowRank : ErS K (.ref A.S :: VEs) A.LowRank
  m_LowRank : ExF1 P w K mg base "LowRank" A.LowRank "rank"
  c_NoStop : ErS K (.ref A.S :: VEs) A.NoStop
  m_NoStop : ExF1 P w K mg base "NoStop" A.NoStop "number"
  c_BadShares : ErS K (.ref A.S :: VEs) A.BadShares
  m_BadShares : ExF1 P w K mg base "BadShares" A.BadShares "index"
  c_WornOut : ErS K (.ref A.S :: VEs) A.WornOut
  m_WornOut : ExF1 P w K mg base "WornOut" A.WornOut "side"
  c_NoMeeting : ErS K (.ref A.S :: VEs) A.NoMeeting
  m_NoMeeting : ExF1 P w K mg base "NoMeeting" A.NoMeeting "index"
  c_BadHalves : ErS K (.ref A.S :: VEs) A.BadHalves
  m_BadHalves : ExF1 P w K mg base "BadHalves" A.BadHalves "index"
  c_NoMiddle : ErS K (.ref A.S :: VEs) A.NoMiddle
  m_NoMiddle : ExC0 K mg "NoMiddle" A.NoMiddle
  c_BadSwing : ErS K (.ref A.S :: VEs) A.BadSwing
  m_BadSwing : ExC0 K mg "BadSwing" A.BadSwing
  c_BadSteps : ErS K (.ref A.S :: VEs) A.BadSteps
  m_BadSteps : ExC0 K mg "BadSteps" A.BadSteps
  c_BadStretch : ErS K (.ref A.S :: VEs) A.BadStretch
  m_BadStretch : ExF2 P w K mg base "BadStretch" A.BadStretch "index" "what"
  c_BadChoice : ErS K (.ref A.S :: VEs) A.BadChoice
  m_BadChoice : ExC0 K mg "BadChoice" A.BadChoice
  c_BadStep : ErS K (.ref A.S :: VEs) A.BadStep
  m_BadStep : ExC0 K mg "BadStep" A.BadStep
  c_BadMost : ErS K (.ref A.S :: VEs) A.BadMost
  m_BadMost : ExF1 P w K mg base "BadMost" A.BadMost "most"
  c_BadBounds : ErS K (.ref A.S :: VEs) A.BadBounds
  m_BadBounds : ExF2 P w K mg base "BadBounds" A.BadBounds "index" "what"
  c_BadAim : ErS K (.ref A.S :: VEs) A.BadAim
  m_BadAim : ExF1 P w K mg base "BadAim" A.BadAim "aim"
  c_BadCount : ErS K (.ref A.S :: VEs) A.BadCount
  m_BadCount : ExF1 P w K mg base "BadCount" A.BadCount "count"
  c_BadSides : ErS K (.ref A.S :: VEs) A.BadSides
  m_BadSides : ExF1 P w K mg base "BadSides" A.BadSides "sides"
  c_BadFar : ErS K (.ref A.S :: VEs) A.BadFar
  m_BadFar : ExC0 K mg "BadFar" A.BadFar
  c_BadPosts : ErS K (.ref A.S :: VEs) A.BadPosts
  m_BadPosts : ExF2 P w K mg base "BadPosts" A.BadPosts "index" "what"
  c_BadSlides : ErS K (.ref A.S :: VEs) A.BadSlides
  m_BadSlides : ExC0 K mg "BadSlides" A.BadSlides
  c_BadLot : ErS K (.ref A.S :: VEs) A.BadLot
  m_BadLot : ExC0 K mg "BadLot" A.BadLot
  c_NoSeats : ErS K (.ref A.S :: VEs) A.NoSeats
  m_NoSeats : ExF1 P w K mg base "NoSeats" A.NoSeats "what"
  c_BadSlips : ErS K (.ref A.S :: VEs) A.BadSlips
  m_BadSlips : ExF2 P w K mg base "BadSlips" A.BadSlips "index" "what"
  c_BadSlacks : ErS K (.ref A.S :: VEs) A.BadSlacks
  m_BadSlacks : ExF2 P w K mg base "BadSlacks" A.BadSlacks "index" "what"
  c_NoTouch : ErS K (.ref A.S :: VEs) A.NoTouch
  m_NoTouch : ExC0 K mg "NoTouch" A.NoTouch
  c_BadChange : ErS K (.ref A.S :: VEs) A.BadChange
  m_BadChange : ExF2 P w K mg base "BadChange" A.BadChange "index" "what"
  c_BadWish : ErS K (.ref A.S :: VEs) A.BadWish
  m_BadWish : ExF2 P w K mg base "BadWish" A.BadWish "index" "what"
  c_NothingDone : ErS K (.ref A.S :: VEs) A.NothingDone
  m_NothingDone : ExC0 K mg "NothingDone" A.NothingDone

def rowT (K : PySem.W.Frag) (r : Addr × List (Str × Th) × List PyData) : Th := tupT K [exV r.1 r.2.1, dat K (.list r.2.2), dat K (.list r.2.2)]
theorem cB (S : Addr) : (Value.ref S :: VEs).contains (.type "BaseException") = true := by rfl
theorem cO (S : Addr) : (Value.ref S :: VEs).contains (.type "object") = true := by rfl
theorem cV (S : Addr) : (Value.ref S :: VEs).contains (.type "ValueError") = true := by rfl
section
variable {P : Program} {w : World} {K : PySem.W.Frag} {mg : Str → Option Value} {base : Heap} {f : Addr} {fd : FuncData}

theorem ok_mix (F : Fun K "_law_mix" "_law_mix" s__law_mix f fd) (T : Txt K mg) : FnOk P w K mg base CX0 1 f fd ["_law_number", "_law_turn"] (spT (RMix K)) := by
  refine fn_mk F sc__law_mix (fun ts A ⟨a, b, e, _⟩ => by rw [e]; rfl) fun cdv Ar outer s H E hr ts B hR => ?_
  obtain ⟨a, b, rfl, rfl⟩ := hR
  refine sd_asg 2 (pd_mod (pd_int T.z_int (pd_add (pd_add (pd_mul (px_var 0 rfl) px_int (mulR (by decide))) (pd_mul (px_var 1 rfl) px_int (mulR (by decide)))) px_int)) px_int (by decide)) ?_ sc__law_mix.nd
  obtain ⟨o0, o1⟩ := fmod_lt (a := a * 48271 + b * 16807 + 11) (b := 2147483647) (by decide)
  generalize (a * 48271 + b * 16807 + 11).fmod 2147483647 = o at *
  refine sd_asg 3 (pd_mod (pd_int T.z_int (pd_add (pd_add (pd_mul (px_var 2 rfl) (px_var 2 rfl) (mulL ⟨by omega, by omega⟩)) (pd_mul (pd_fdiv (px_var 2 rfl) px_int (dvS (by decide) (by decide))) px_int (mulR (by decide)))) (pd_mul (px_var 1 rfl) px_int (mulR (by decide))))) px_int (by decide)) ?_ sc__law_mix.nd
  obtain ⟨u0, u1⟩ := fmod_lt (a := o * o + o.fdiv 127 * 40692 + b * 69621) (b := 2147483399) (by decide)
  generalize (o * o + o.fdiv 127 * 40692 + b * 69621).fmod 2147483399 = u at *
  exact sd_ret (pd_fdiv (pd_mod (pd_int T.z_int (pd_add (pd_fdiv (pd_mul (px_var 3 rfl) (px_var 3 rfl) (mulL ⟨by omega, by omega⟩)) px_int (dvS (by decide) (by decide))) (px_var 2 rfl))) px_int (by decide)) px_int (dvS (by decide) (by decide))) ⟨_, rfl, trivial⟩
theorem ok_hand (F : Fun K "_law_hand" "_law_hand" s__law_hand f fd) (T : Txt K mg) : FnOk P w K mg base CX0 1 f fd ["_law_script"] (spT (RHand K)) := by
  refine hand_view rfl ?_
  refine F.ok sc__law_hand (fun vs H Q E h => ?_) (fun cdv A outer s H vs Q E hr h => ?_)
  · obtain ⟨a, ns, rfl, _⟩ := h
    rfl
  · obtain ⟨a, ns, rfl, hS, hn, k⟩ := h
    refine ⟨_, pss_cons (ps_set (i := 1) sc__law_hand.nd rfl (Or.inl rfl) pe_int)
      (pss_cons (ps_for PassesOwn.never rfl (pi_enum (by rfl) T.z_enumerate (pa_cons (pv 0) pa_nil)) (pg_tup rfl (pgs_cons (pg_name (i := 2) sc__law_hand.nd rfl (Or.inl rfl)) (pgs_cons (pg_name (i := 3) sc__law_hand.nd rfl (Or.inl rfl)) pgs_nil)))
        (pss_one (ps_set (i := 1) sc__law_hand.nd rfl (Or.inl rfl) (pe_op op_modN (pe_callTy call_int1 (by rfl) T.z_int (by decide +kernel) (pa_cons (pe_op op_add (pe_op op_mulO (pv 1) pe_int) (pe_op op_mulO (pe_callTy call_int1 (by rfl) T.z_int (by decide +kernel) (pa_cons (pv 3) pa_nil)) (pe_op op_add (pv 2) pe_int))) pa_nil)) pe_int))))
      (pss_one (ps_ret (pe_lst (pa_cons (pe_lc (own := [("_law_cell", 3)]) (g := gName 3) (tt := tYes) rfl sc__law_hand.nd (pi_list (pv 0)) (blkOk_by (own := [("_law_cell", 3)]) (N := ["_law_script", "_law_total", "_law_k", "_law_cell"]) (sc := defScope s__law_hand) (by decide +kernel)) (fun _ _ _ _ _ => pg_name (i := 3) sc__law_hand.nd rfl (Or.inl rfl)) (fun _ _ _ _ _ => pts_nil)
        (fun _ _ _ _ _ => pe_callB call_abs (by rfl) T.z_abs (by decide +kernel) (pa_cons (pe_callTy call_int1 (by rfl) T.z_int (by decide +kernel) (pa_cons (pv 3) pa_nil)) pa_nil))) (pa_cons pe_int (pa_cons pe_int (pa_cons (pv 1) pa_nil)))))))), ?_⟩
    refine ⟨_, rfl, a, _, rfl, hS, for_it (walk_enum (K := K) (a := a) (xs := List.map V.int ns)) (fun i σ H' => ∃ (t : Int) (v2 v3 : Option V), σ = [some (.ref a), some (.int t), v2, v3] ∧ Ex H H') ⟨0, none, none, rfl, Ex.refl H⟩ (fun i σ H' _ ⟨_, _, _, _, e⟩ => ex_l e hS) ?_ ?_⟩
    · rintro i x σ H1 H1' hi ⟨t, v2, v3, rfl, e⟩ ⟨T', x1, y1, rfl, hT, rfl, e1, e2⟩
      have ex1 : x1 = .int (i : Int) := (Option.some.inj e1).symm
      subst ex1
      obtain ⟨z, hz⟩ : ∃ z : Int, y1 = .int z := by
        have e2 : (List.map V.int ns)[i]? = some y1 := e2
        rw [List.getElem?_map] at e2
        cases q : ns[i]? with
        | none => rw [q] at e2; cases e2
        | some z => rw [q] at e2; exact ⟨z, (Option.some.inj e2).symm⟩
      subst hz
      have hi' : i < 1000 := by
        rw [List.length_map] at hi
        omega
      refine ⟨T', _, rfl, SqT.of upd_same, rfl, _, _, rfl, _, _, rfl, rfl, ?_⟩
      exact ⟨_, rfl, t, 31, rfl, rfl, mulR (by decide), _, rfl, .inl ⟨z, rfl, _, rfl, _, _, rfl, rfl, _, _, rfl, rfl, mulR ⟨by omega, by omega⟩, _, _, rfl, rfl, .inl ⟨_, rfl, _, _, rfl, rfl, (show (2147483629 : Int) ≠ 0 by decide), _, _, _, rfl, e.trans (Ex.new hT)⟩⟩⟩
    · rintro σ H1 ⟨t, v2, v3, rfl, e⟩
      refine ⟨_, rfl, a, rfl, ⟨_, ex_l e hS⟩, fun D hD => lc_list (K := K) (a := a) (xs := List.map V.int ns) (fun i H' => Ex H1 H' ∧ ∃ ms : List Int, H' D = some (.lst (List.map V.int ms)) ∧ ms.length = i) ⟨Ex.new hD, [], upd_same, rfl⟩ (fun i H' _ p => ex_l (e.trans p.1) hS) (fun i x H' hx p => ?_) fun H' p => ?_⟩
      · obtain ⟨e2, ms, h1, h2⟩ := p
        obtain ⟨z, hz⟩ : ∃ z : Int, x = .int z := by
          rw [List.getElem?_map] at hx
          cases q : ns[i]? with
          | none => rw [q] at hx; cases hx
          | some z => rw [q] at hx; exact ⟨z, (Option.some.inj hx).symm⟩
        subst hz
        have hi' : i < 1000 := by
          have := (List.getElem?_eq_some_iff.mp hx).1
          rw [List.length_map] at this
          omega
        refine ⟨rfl, ?_⟩
        unfold tYes
        simp only [if_true]
        refine ⟨_, rfl, .inl ⟨z, rfl, z, rfl, _, h1, ?_, ?_, ?_⟩⟩
        · rw [List.length_map]
          exact Nat.lt_of_lt_of_le (by omega) (by decide : 100000 ≤ sizeLine)
        · exact fun b o hb => by rw [upd_ne (ne_of_none hb hD)]; exact e2 b o hb
        · exact ⟨ms ++ [if z < 0 then -z else z], by rw [upd_same, List.map_append]; rfl, by rw [List.length_append, h2]; rfl⟩
      · obtain ⟨e2, ms, h1, h2⟩ := p
        refine ⟨_, rfl, (by show 4 ≤ sizeLine; decide), fun p hp => ?_⟩
        have ncp : D ≠ p := ne_of_none h1 hp
        have e3 : Ex H (upd H' p (.lst [V.ref D, .int 0, .int 0, .int t])) := (e.trans e2).trans (Ex.new hp)
        have back : ∀ {b : Addr} {G : Hp}, Ex H G → G b = none → H b = none := fun {b G} eg hg => by
          cases q : H b with
          | none => rfl
          | some o => rw [eg b o q] at hg; cases hg
        refine k p D t ms _ (back (e.trans e2) hp) (back e hD) e3 upd_same ?_
        rw [upd_ne ncp]
        exact h1
theorem ok_draw (F : Fun K "_law_draw" "_law_draw" s__law_draw f fd) (T : Txt K mg) (Gm : Gd P w K mg base "_law_mix" 1 [] (RMix K)) : FnOk P w K mg base CX0 2 f fd ["_law_hand_here", "_law_many"] (spT (RDraw K)) := by
  obtain ⟨fM, fdM, psM, dsM, dvM, mM, kM, bM, vM, aM, GM⟩ := Gm.ex
  refine draw_view rfl ?_
  refine F.ok sc__law_draw (fun vs H Q E h => ?_) (fun cdv A outer s H vs Q E hr h => ?_)
  · obtain ⟨h, c, m, i, r, t, ns, rfl, _⟩ := h
    rfl
  · obtain ⟨h, c, m, i, r, t, ns, rfl, hm, hm2, hH, hi, hc, k⟩ := h
    have hr1 : Room 1 _ := hr.mono (by decide)
    have nch : c ≠ h := fun z => by
      rw [z, hH] at hc
      have z2 := HO.lst.inj (Option.some.inj hc)
      cases ns with
      | nil => cases z2
      | cons m ms => injection z2 with z3 _; cases z3
    have dv0 : dvM = [] := by
      have := aM H
      cases dvM with
      | nil => rfl
      | cons _ _ => exact this.elim
    subst dv0
    refine ⟨_, Evl.pss_cut (ps_if (PW.pt (pw_and (pt_cmpR op_eq (pe_ix ix_list (pv 0) pe_int fun _ _ => rfl) pe_int (nomark _)) (pw_and1 (pt_cmpR op_lt (pe_ix ix_list (pv 0) pe_int fun _ _ => rfl) (pe_callB call_len_seq (by rfl) T.z_len PySem.boot_len (pa_cons (pe_ix ix_list (pv 0) pe_int fun _ _ => rfl) pa_nil)) (nomark _)))))
        (pss_cons (ps_set (i := 2) sc__law_draw.nd rfl (Or.inl rfl) (pe_ix ix_list (pe_ix ix_list (pv 0) pe_int fun _ _ => rfl) (pe_ix ix_list (pv 0) pe_int fun _ _ => rfl) fun _ _ => rfl))
        (pss_cons (ps_asg (pe_op op_add (pe_ix ix_list (pv 0) pe_int fun _ _ => rfl) pe_int) (pg_sub (pv 0) pe_int set_list))
        (pss_cons (ps_if (pt_cmpR op_lt (pv 2) (pe_op op_pow pe_int pe_int) (nomark _))
            (pss_one (ps_ret (pe_op op_modN (pe_callTy call_int1 (by rfl) T.z_int (by decide +kernel) (pa_cons (pe_call (E := E0) GM hr1 (by rfl) mM kM bM vM pass0 (pa_cons (pe_op op_modN (pe_callTy call_int1 (by rfl) T.z_int (by decide +kernel) (pa_cons (pv 2) pa_nil)) pe_int) (pa_cons (pe_ix ix_list (pv 0) pe_int fun _ _ => rfl) pa_nil))) pa_nil)) (pv 1)))) pss_nil)
        (pss_one (ps_asg (pv 2) (pg_sub (pv 0) pe_int set_list)))))) pss_nil)
      (pss_cons (ps_if (pt_cmpR op_gt (pe_ix ix_list (pv 0) pe_int fun _ _ => rfl) pe_int (nomark _))
        (pss_cons (ps_set (i := 3) sc__law_draw.nd rfl (Or.inl rfl) (pe_ix ix_list (pv 0) pe_int fun _ _ => rfl))
        (pss_cons (ps_asg (pe_op op_fdivO (pv 3) (pv 1)) (pg_sub (pv 0) pe_int set_list))
        (pss_one (ps_ret (pe_op op_modN (pe_callTy call_int1 (by rfl) T.z_int (by decide +kernel) (pa_cons (pv 3) pa_nil)) (pv 1)))))) pss_nil)
      (pss_cons (ps_asg (pe_op op_modN (pe_callTy call_int1 (by rfl) T.z_int (by decide +kernel) (pa_cons (pe_op op_add (pe_ix ix_list (pv 0) pe_int fun _ _ => rfl) pe_int) pa_nil)) pe_int) (pg_sub (pv 0) pe_int set_list))
      (pss_one (ps_ret (pe_op op_modN (pe_callTy call_int1 (by rfl) T.z_int (by decide +kernel) (pa_cons (pe_call (E := E0) GM hr1 (by rfl) mM kM bM vM pass0 (pa_cons (pe_ix ix_list (pv 0) pe_int fun _ _ => rfl) (pa_cons (pe_ix ix_list (pv 0) pe_int fun _ _ => rfl) pa_nil))) pa_nil)) (pv 1)))))), ?_⟩
    have hm0 : m ≠ 0 := by omega
    have hdv : ∀ x : Int, CDv x m := fun x => dvS hm0 (by omega)
    have fin : ∀ {i' r' t' : Int} {H'' : Hp}, H'' h = some (.lst [.ref c, .int i', .int r', .int t']) → (∀ b o, b ≠ h → H b = some o → H'' b = some o) → Ex (upd H h (.lst [.ref c, .int i', .int r', .int t'])) H'' := fun {i' r' t' H''} h1 h2 b o hb => by
      by_cases z : b = h
      · rw [z, upd_same] at hb
        rw [z, h1]
        exact hb
      · rw [upd_ne z] at hb
        exact h2 b o z hb
    -- a mixed number
    have mixed : ∀ {x y : Int} {G : Hp} {Qv : VK}, (∀ q G', Ex G G' → Qv (.int q) G') → spT (RMix K) ([V.int x, V.int y] ++ []) G Qv E0 := fun {x y G Qv} q =>
      ⟨[], [dat K (.int x), dat K (.int y)], _, (fun _ z => by cases z), ⟨Dp.int _, Dp.int _, trivial⟩, ⟨_, _, rfl, rfl⟩, fun t v H' ⟨z, et, _⟩ ex r => by
        subst et
        have := dp_int r
        subst this
        exact q z H' ex⟩
    refine ⟨fun σ' H' => ∃ (i2 r2 : Int) (v2 v3 : Option V), σ' = [some (.ref h), some (.int m), v2, v3] ∧ 0 ≤ i2 ∧ H' h = some (.lst [.ref c, .int i2, .int r2, .int t]) ∧ ∀ b o, b ≠ h → H b = some o → H' b = some o, ?_, ?_⟩
    · refine rd rfl hH rfl ⟨rfl, _, rfl, ?_⟩
      refine ite2 (fun hr0 => ?_) (fun hr0 => iteF ⟨i, r, none, none, rfl, hi, hH, fun b o _ e => e⟩)
      refine rd rfl hH rfl (rd rfl hH rfl ⟨c, _, rfl, .inl (SqL.of hc), _, _, rfl, rfl, _, rfl, ?_⟩)
      refine ite2 (fun hlt => ?_) (fun _ => ⟨i, r, none, none, rfl, hi, hH, fun b o _ e => e⟩)
      have hlt' : i < (((List.map V.int ns).length : Nat) : Int) := of_decide_eq_true hlt
      rw [List.length_map] at hlt'
      obtain ⟨j, rfl⟩ : ∃ j : Nat, i = (j : Int) := ⟨i.toNat, by omega⟩
      have hj : j < ns.length := by omega
      have hat : atI (List.map V.int ns) (j : Int) = some (.int ns[j]) := atI_nat (by rw [List.getElem?_map, List.getElem?_eq_getElem hj]; rfl)
      generalize ns[j] = z at hat
      refine rd rfl hH rfl (rd rfl hH rfl ⟨c, _, _, _, rfl, rfl, SqL.of hc, hat, ?_⟩)
      refine rd rfl hH rfl ⟨_, 1, rfl, rfl, _, rfl, h, _, 1, 1, rfl, rfl, hH, rfl, ?_⟩
      refine ⟨_, rfl, 10, 18, rfl, rfl, ⟨by decide, by decide, by decide⟩, _, _, rfl, rfl, _, rfl, ?_⟩
      refine ite2 (fun _ => ?_) (fun _ => ?_)
      · refine ⟨_, rfl, .inl ⟨z, rfl, z, _, rfl, rfl, (show (2147483647 : Int) ≠ 0 by decide), rd rfl upd_same rfl (mixed fun q G' ex => .inl ⟨q, rfl, _, rfl, q, m, rfl, rfl, hm0, ?_⟩)⟩⟩
        exact k _ ((j : Int) + 1) r t G' (fmod_lt hm).1 (fmod_lt hm).2 (by omega) ex
      · exact ⟨_, rfl, _, rfl, h, _, 2, 2, rfl, rfl, upd_same, rfl, (j : Int) + 1, z, _, _, rfl, by omega, upd_same, fun b o hb e => by rw [upd_ne hb, upd_ne hb]; exact e⟩
    · rintro σ' H' ⟨i2, r2, v2, v3, rfl, hi2, hH2, kp⟩
      refine rd rfl hH2 rfl ⟨_, _, rfl, rfl, _, rfl, ?_⟩
      refine ite2 (fun _ => ?_) (fun _ => ?_)
      · refine rd rfl hH2 rfl ?_
        refine ⟨_, rfl, _, rfl, r2, m, rfl, rfl, hdv _, _, rfl, h, _, 2, 2, rfl, rfl, hH2, rfl, ?_⟩
        refine ⟨_, rfl, .inl ⟨r2, rfl, _, rfl, r2, m, rfl, rfl, hm0, ?_⟩⟩
        exact k _ i2 (r2.fdiv m) t _ (fmod_lt hm).1 (fmod_lt hm).2 hi2 (fin upd_same fun b o hb e => by rw [upd_ne hb]; exact kp b o hb e)
      · refine rd rfl hH2 rfl ⟨_, 1, rfl, rfl, .inl ⟨_, rfl, _, _, rfl, rfl, (show (2147483629 : Int) ≠ 0 by decide), _, rfl, h, _, 3, 3, rfl, rfl, hH2, rfl, ?_⟩⟩
        refine rd rfl upd_same rfl (rd rfl upd_same rfl (mixed fun q G' ex => .inl ⟨q, rfl, _, rfl, q, m, rfl, rfl, hm0, ?_⟩))
        refine k _ i2 r2 ((t + 1).fmod 2147483629) G' (fmod_lt hm).1 (fmod_lt hm).2 hi2 (fin (ex h _ upd_same) fun b o hb e => ex b o (by rw [upd_ne hb]; exact kp b o hb e))

end
end K00
set_option Elab.async false
set_option linter.all false
set_option maxRecDepth 100000
set_option maxHeartbeats 4000000
namespace K00
open PySem PySem.Spec PyProof.Rows L2 DL
def rows_first (K : PySem.W.Frag) (A : Ad) (at_ to_ : Int) (wo na : Str) : List (Addr × List (Str × Th) × List PyData) := [(A.BadRatio, [("what", dat K (.str wo))], [.str wo]),
    (A.BadPlace, [], []),
    (A.BadWork, [("what", dat K (.str wo)), ("index", dat K (.int at_))], [.int at_, .str wo]),
    (A.NoSide, [("side", dat K (.int to_))], [.int to_]),
    (A.BadSize, [], []),
    (A.BadStop, [("what", dat K (.str na)), ("index", dat K (.int at_))], [.int at_, .str na]),
    (A.BadText, [("what", dat K (.str wo)), ("word", dat K (.int to_))], [.int to_, .str wo]),
    (A.BadMotion, [], []),
    (A.BadDirection, [], []),
    (A.BadWay, [], []),
    (A.NoCentre, [], []),
    (A.BadPull, [], []),
    (A.BadRows, [], []),
    (A.BadNumbers, [("what", dat K (.str na))], [.str na]),
    (A.LowRank, [("rank", dat K (.int at_))], [.int at_])]
def Rfirst (K : PySem.W.Frag) (A : Ad) : Cn := fun ts B => ∃ (at_ to_ : Int) (wo na : Str), ts = [dat K (.int at_), dat K (.int to_), dat K (.str wo), dat K (.str na)] ∧ B = (· = lstT K ((rows_first K A at_ to_ wo na).map (rowT K)))
def rows_second (K : PySem.W.Frag) (A : Ad) (at_ to_ : Int) (wo na : Str) : List (Addr × List (Str × Th) × List PyData) := [(A.NoStop, [("number", dat K (.int to_))], [.int to_]),
    (A.BadShares, [("index", dat K (.int at_))], [.int at_]),
    (A.WornOut, [("side", dat K (.int to_))], [.int to_]),
    (A.NoMeeting, [("index", dat K (.int at_))], [.int at_]),
    (A.BadHalves, [("index", dat K (.int to_))], [.int to_]),
    (A.NoMiddle, [], []),
    (A.BadSwing, [], []),
    (A.BadSteps, [], []),
    (A.BadStretch, [("what", dat K (.str wo)), ("index", dat K (.int at_))], [.int at_, .str wo]),
    (A.BadChoice, [], []),
    (A.BadStep, [], []),
    (A.BadMost, [("most", dat K (.str na))], [.str na])]
def Rsecond (K : PySem.W.Frag) (A : Ad) : Cn := fun ts B => ∃ (at_ to_ : Int) (wo na : Str), ts = [dat K (.int at_), dat K (.int to_), dat K (.str wo), dat K (.str na)] ∧ B = (· = lstT K ((rows_second K A at_ to_ wo na).map (rowT K)))
def rows_third (K : PySem.W.Frag) (A : Ad) (at_ to_ : Int) (wo na : Str) : List (Addr × List (Str × Th) × List PyData) := [(A.BadBounds, [("what", dat K (.str na)), ("index", dat K (.int at_))], [.int at_, .str na]),
    (A.BadAim, [("aim", dat K (.str wo))], [.str wo]),
    (A.BadCount, [("count", dat K (.int to_))], [.int to_]),
    (A.BadSides, [("sides", dat K (.tuple [.int at_, .int to_]))], [.tuple [.int at_, .int to_]]),
    (A.BadFar, [], []),
    (A.BadPosts, [("what", dat K (.str wo)), ("index", dat K (.int to_))], [.int to_, .str wo]),
    (A.BadSlides, [], []),
    (A.BadLot, [], []),
    (A.NoSeats, [("what", dat K (.str na))], [.str na]),
    (A.BadSlips, [("what", dat K (.str wo)), ("index", dat K (.int at_))], [.int at_, .str wo]),
    (A.BadSlacks, [("what", dat K (.str na)), ("index", dat K (.int to_))], [.int to_, .str na])]
def Rthird (K : PySem.W.Frag) (A : Ad) : Cn := fun ts B => ∃ (at_ to_ : Int) (wo na : Str), ts = [dat K (.int at_), dat K (.int to_), dat K (.str wo), dat K (.str na)] ∧ B = (· = lstT K ((rows_third K A at_ to_ wo na).map (rowT K)))
def rows_fourth (K : PySem.W.Frag) (A : Ad) (at_ to_ : Int) (wo na : Str) : List (Addr × List (Str × Th) × List PyData) := [(A.NoTouch, [], []),
    (A.BadChange, [("what", dat K (.str wo)), ("index", dat K (.int at_))], [.int at_, .str wo]),
    (A.BadWish, [("what", dat K (.str na)), ("index", dat K (.int to_))], [.int to_, .str na]),
    (A.NothingDone, [], [])]
def Rfourth (K : PySem.W.Frag) (A : Ad) : Cn := fun ts B => ∃ (at_ to_ : Int) (wo na : Str), ts = [dat K (.int at_), dat K (.int to_), dat K (.str wo), dat K (.str na)] ∧ B = (· = lstT K ((rows_fourth K A at_ to_ wo na).map (rowT K)))
def clsD (A : Ad) (C : Addr) (bm : List Value) : PyData := .list (A.all.map fun D => .bool ((Value.ref C :: bm).contains (.ref D)))
def RClasses (K : PySem.W.Frag) (A : Ad) : Cn := fun ts B => ∃ (C : Addr) (bm : List Value) (fs : List (Str × Th)), ts = [exV C fs] ∧ ErS K bm C ∧ bm.contains (.type "BaseException") = true ∧ bm.contains (.type "object") = true ∧ B = (· = dat K (clsD A C bm))

section
variable {P : Program} {w : World} {K : PySem.W.Frag} {mg : Str → Option Value} {base : Heap} {f : Addr} {fd : FuncData}
theorem ok_first (F : Fun K "_law_first" "_law_first" s__law_first f fd) (T : Txt K mg) {A : Ad} (Z : Er P w K mg base A) : FnOk P w K mg base CX0 3 f fd ["_law_at", "_law_to", "_law_word", "_law_name_here"] (spT (Rfirst K A)) := by
  refine fn_mk F sc__law_first (fun ts B ⟨_, _, _, _, e, _⟩ => by rw [e]; rfl) fun cdv Ar outer s H E hr ts B hR => ?_
  obtain ⟨at_, to_, wo, na, rfl, rfl⟩ := hR
  have hr2 : Room 2 _ := hr
  refine sd_asgN [4, 5, 6, 7] (pd_tupT (pl_cons (pd_mk1 Z.m_BadRatio hr2 (px_var 2 rfl)) (pl_cons (pd_mk2 Z.m_BadWork hr2 (px_var 0 rfl) (px_var 2 rfl)) (pl_cons (pd_mk1 Z.m_NoSide hr2 (px_var 1 rfl)) (pl_cons (pd_mk2 Z.m_BadStop hr2 (px_var 0 rfl) (px_var 3 rfl)) pl_nil))))) rfl (pgs_cons (pg_name (i := 4) sc__law_first.nd rfl (Or.inl rfl)) (pgs_cons (pg_name (i := 5) sc__law_first.nd rfl (Or.inl rfl)) (pgs_cons (pg_name (i := 6) sc__law_first.nd rfl (Or.inl rfl)) (pgs_cons (pg_name (i := 7) sc__law_first.nd rfl (Or.inl rfl)) pgs_nil)))) ?_
  refine sd_par3 8 9 10 (pd_mk2 Z.m_BadText hr2 (px_var 1 rfl) (px_var 2 rfl)) (pd_mk1 Z.m_BadNumbers hr2 (px_var 3 rfl)) (pd_mk1 Z.m_LowRank hr2 (px_var 0 rfl)) ?_ sc__law_first.nd
  refine sd_asg 11 (pd_lstT (pl_cons (pd_tupT (pl_cons (px_var 4 rfl) (pl_cons (pd_lst (ds := [.str wo]) (pl_cons (pd_xv (Z.c_BadRatio.xf (cB _)) Z.m_BadRatio.no (px_var 4 rfl) rfl) pl_nil)) (pl_cons (pd_lst (ds := [.str wo]) (pl_cons (px_var 2 rfl) pl_nil)) pl_nil)))) (pl_cons (pd_tupT (pl_cons (pd_mk0 Z.m_BadPlace) (pl_cons (pd_lst (ds := []) pl_nil) (pl_cons (pd_lst (ds := []) pl_nil) pl_nil)))) (pl_cons (pd_tupT (pl_cons (px_var 5 rfl) (pl_cons (pd_lst (ds := [.int at_, .str wo]) (pl_cons (pd_xv (Z.c_BadWork.xf (cB _)) Z.m_BadWork.no (px_var 5 rfl) rfl) (pl_cons (pd_xv (Z.c_BadWork.xf (cB _)) Z.m_BadWork.no' (px_var 5 rfl) rfl) pl_nil))) (pl_cons (pd_lst (ds := [.int at_, .str wo]) (pl_cons (px_var 0 rfl) (pl_cons (px_var 2 rfl) pl_nil))) pl_nil)))) (pl_cons (pd_tupT (pl_cons (px_var 6 rfl) (pl_cons (pd_lst (ds := [.int to_]) (pl_cons (pd_xv (Z.c_NoSide.xf (cB _)) Z.m_NoSide.no (px_var 6 rfl) rfl) pl_nil)) (pl_cons (pd_lst (ds := [.int to_]) (pl_cons (px_var 1 rfl) pl_nil)) pl_nil)))) pl_nil))))) ?_ sc__law_first.nd
  refine sd_asg 11 (pd_catT (px_var 11 rfl) (pd_lstT (pl_cons (pd_tupT (pl_cons (pd_mk0 Z.m_BadSize) (pl_cons (pd_lst (ds := []) pl_nil) (pl_cons (pd_lst (ds := []) pl_nil) pl_nil)))) (pl_cons (pd_tupT (pl_cons (px_var 7 rfl) (pl_cons (pd_lst (ds := [.int at_, .str na]) (pl_cons (pd_xv (Z.c_BadStop.xf (cB _)) Z.m_BadStop.no (px_var 7 rfl) rfl) (pl_cons (pd_xv (Z.c_BadStop.xf (cB _)) Z.m_BadStop.no' (px_var 7 rfl) rfl) pl_nil))) (pl_cons (pd_lst (ds := [.int at_, .str na]) (pl_cons (px_var 0 rfl) (pl_cons (px_var 3 rfl) pl_nil))) pl_nil)))) (pl_cons (pd_tupT (pl_cons (px_var 8 rfl) (pl_cons (pd_lst (ds := [.int to_, .str wo]) (pl_cons (pd_xv (Z.c_BadText.xf (cB _)) Z.m_BadText.no (px_var 8 rfl) rfl) (pl_cons (pd_xv (Z.c_BadText.xf (cB _)) Z.m_BadText.no' (px_var 8 rfl) rfl) pl_nil))) (pl_cons (pd_lst (ds := [.int to_, .str wo]) (pl_cons (px_var 1 rfl) (pl_cons (px_var 2 rfl) pl_nil))) pl_nil)))) pl_nil))))) ?_ sc__law_first.nd
  refine sd_asg 11 (pd_catT (px_var 11 rfl) (pd_lstT (pl_cons (pd_tupT (pl_cons (pd_mk0 Z.m_BadMotion) (pl_cons (pd_lst (ds := []) pl_nil) (pl_cons (pd_lst (ds := []) pl_nil) pl_nil)))) (pl_cons (pd_tupT (pl_cons (pd_mk0 Z.m_BadDirection) (pl_cons (pd_lst (ds := []) pl_nil) (pl_cons (pd_lst (ds := []) pl_nil) pl_nil)))) (pl_cons (pd_tupT (pl_cons (pd_mk0 Z.m_BadWay) (pl_cons (pd_lst (ds := []) pl_nil) (pl_cons (pd_lst (ds := []) pl_nil) pl_nil)))) (pl_cons (pd_tupT (pl_cons (pd_mk0 Z.m_NoCentre) (pl_cons (pd_lst (ds := []) pl_nil) (pl_cons (pd_lst (ds := []) pl_nil) pl_nil)))) pl_nil)))))) ?_ sc__law_first.nd
  exact sd_ret (pd_catT (px_var 11 rfl) (pd_lstT (pl_cons (pd_tupT (pl_cons (pd_mk0 Z.m_BadPull) (pl_cons (pd_lst (ds := []) pl_nil) (pl_cons (pd_lst (ds := []) pl_nil) pl_nil)))) (pl_cons (pd_tupT (pl_cons (pd_mk0 Z.m_BadRows) (pl_cons (pd_lst (ds := []) pl_nil) (pl_cons (pd_lst (ds := []) pl_nil) pl_nil)))) (pl_cons (pd_tupT (pl_cons (px_var 9 rfl) (pl_cons (pd_lst (ds := [.str na]) (pl_cons (pd_xv (Z.c_BadNumbers.xf (cB _)) Z.m_BadNumbers.no (px_var 9 rfl) rfl) pl_nil)) (pl_cons (pd_lst (ds := [.str na]) (pl_cons (px_var 3 rfl) pl_nil)) pl_nil)))) (pl_cons (pd_tupT (pl_cons (px_var 10 rfl) (pl_cons (pd_lst (ds := [.int at_]) (pl_cons (pd_xv (Z.c_LowRank.xf (cB _)) Z.m_LowRank.no (px_var 10 rfl) rfl) pl_nil)) (pl_cons (pd_lst (ds := [.int at_]) (pl_cons (px_var 0 rfl) pl_nil)) pl_nil)))) pl_nil)))))) rfl

theorem ok_second (F : Fun K "_law_second" "_law_second" s__law_second f fd) (T : Txt K mg) {A : Ad} (Z : Er P w K mg base A) : FnOk P w K mg base CX0 3 f fd ["_law_at", "_law_to", "_law_word", "_law_name_here"] (spT (Rsecond K A)) := by
  refine fn_mk F sc__law_second (fun ts B ⟨_, _, _, _, e, _⟩ => by rw [e]; rfl) fun cdv Ar outer s H E hr ts B hR => ?_
  obtain ⟨at_, to_, wo, na, rfl, rfl⟩ := hR
  have hr2 : Room 2 _ := hr
  refine sd_asgN [4, 5, 6, 7] (pd_tupT (pl_cons (pd_mk1 Z.m_NoStop hr2 (px_var 1 rfl)) (pl_cons (pd_mk1 Z.m_BadShares hr2 (px_var 0 rfl)) (pl_cons (pd_mk1 Z.m_WornOut hr2 (px_var 1 rfl)) (pl_cons (pd_mk1 Z.m_NoMeeting hr2 (px_var 0 rfl)) pl_nil))))) rfl (pgs_cons (pg_name (i := 4) sc__law_second.nd rfl (Or.inl rfl)) (pgs_cons (pg_name (i := 5) sc__law_second.nd rfl (Or.inl rfl)) (pgs_cons (pg_name (i := 6) sc__law_second.nd rfl (Or.inl rfl)) (pgs_cons (pg_name (i := 7) sc__law_second.nd rfl (Or.inl rfl)) pgs_nil)))) ?_
  refine sd_par3 8 9 10 (pd_mk1 Z.m_BadHalves hr2 (px_var 1 rfl)) (pd_mk2 Z.m_BadStretch hr2 (px_var 0 rfl) (px_var 2 rfl)) (pd_mk1 Z.m_BadMost hr2 (px_var 3 rfl)) ?_ sc__law_second.nd
  refine sd_asg 11 (pd_lstT (pl_cons (pd_tupT (pl_cons (px_var 4 rfl) (pl_cons (pd_lst (ds := [.int to_]) (pl_cons (pd_xv (Z.c_NoStop.xf (cB _)) Z.m_NoStop.no (px_var 4 rfl) rfl) pl_nil)) (pl_cons (pd_lst (ds := [.int to_]) (pl_cons (px_var 1 rfl) pl_nil)) pl_nil)))) (pl_cons (pd_tupT (pl_cons (px_var 5 rfl) (pl_cons (pd_lst (ds := [.int at_]) (pl_cons (pd_xv (Z.c_BadShares.xf (cB _)) Z.m_BadShares.no (px_var 5 rfl) rfl) pl_nil)) (pl_cons (pd_lst (ds := [.int at_]) (pl_cons (px_var 0 rfl) pl_nil)) pl_nil)))) (pl_cons (pd_tupT (pl_cons (px_var 6 rfl) (pl_cons (pd_lst (ds := [.int to_]) (pl_cons (pd_xv (Z.c_WornOut.xf (cB _)) Z.m_WornOut.no (px_var 6 rfl) rfl) pl_nil)) (pl_cons (pd_lst (ds := [.int to_]) (pl_cons (px_var 1 rfl) pl_nil)) pl_nil)))) (pl_cons (pd_tupT (pl_cons (px_var 7 rfl) (pl_cons (pd_lst (ds := [.int at_]) (pl_cons (pd_xv (Z.c_NoMeeting.xf (cB _)) Z.m_NoMeeting.no (px_var 7 rfl) rfl) pl_nil)) (pl_cons (pd_lst (ds := [.int at_]) (pl_cons (px_var 0 rfl) pl_nil)) pl_nil)))) (pl_cons (pd_tupT (pl_cons (px_var 8 rfl) (pl_cons (pd_lst (ds := [.int to_]) (pl_cons (pd_xv (Z.c_BadHalves.xf (cB _)) Z.m_BadHalves.no (px_var 8 rfl) rfl) pl_nil)) (pl_cons (pd_lst (ds := [.int to_]) (pl_cons (px_var 1 rfl) pl_nil)) pl_nil)))) pl_nil)))))) ?_ sc__law_second.nd
  refine sd_asg 11 (pd_catT (px_var 11 rfl) (pd_lstT (pl_cons (pd_tupT (pl_cons (pd_mk0 Z.m_NoMiddle) (pl_cons (pd_lst (ds := []) pl_nil) (pl_cons (pd_lst (ds := []) pl_nil) pl_nil)))) (pl_cons (pd_tupT (pl_cons (pd_mk0 Z.m_BadSwing) (pl_cons (pd_lst (ds := []) pl_nil) (pl_cons (pd_lst (ds := []) pl_nil) pl_nil)))) (pl_cons (pd_tupT (pl_cons (pd_mk0 Z.m_BadSteps) (pl_cons (pd_lst (ds := []) pl_nil) (pl_cons (pd_lst (ds := []) pl_nil) pl_nil)))) (pl_cons (pd_tupT (pl_cons (px_var 9 rfl) (pl_cons (pd_lst (ds := [.int at_, .str wo]) (pl_cons (pd_xv (Z.c_BadStretch.xf (cB _)) Z.m_BadStretch.no (px_var 9 rfl) rfl) (pl_cons (pd_xv (Z.c_BadStretch.xf (cB _)) Z.m_BadStretch.no' (px_var 9 rfl) rfl) pl_nil))) (pl_cons (pd_lst (ds := [.int at_, .str wo]) (pl_cons (px_var 0 rfl) (pl_cons (px_var 2 rfl) pl_nil))) pl_nil)))) pl_nil)))))) ?_ sc__law_second.nd
  exact sd_ret (pd_catT (px_var 11 rfl) (pd_lstT (pl_cons (pd_tupT (pl_cons (pd_mk0 Z.m_BadChoice) (pl_cons (pd_lst (ds := []) pl_nil) (pl_cons (pd_lst (ds := []) pl_nil) pl_nil)))) (pl_cons (pd_tupT (pl_cons (pd_mk0 Z.m_BadStep) (pl_cons (pd_lst (ds := []) pl_nil) (pl_cons (pd_lst (ds := []) pl_nil) pl_nil)))) (pl_cons (pd_tupT (pl_cons (px_var 10 rfl) (pl_cons (pd_lst (ds := [.str na]) (pl_cons (pd_xv (Z.c_BadMost.xf (cB _)) Z.m_BadMost.no (px_var 10 rfl) rfl) pl_nil)) (pl_cons (pd_lst (ds := [.str na]) (pl_cons (px_var 3 rfl) pl_nil)) pl_nil)))) pl_nil))))) rfl

theorem ok_third (F : Fun K "_law_third" "_law_third" s__law_third f fd) (T : Txt K mg) {A : Ad} (Z : Er P w K mg base A) : FnOk P w K mg base CX0 3 f fd ["_law_at", "_law_to", "_law_word", "_law_name_here"] (spT (Rthird K A)) := by
  refine fn_mk F sc__law_third (fun ts B ⟨_, _, _, _, e, _⟩ => by rw [e]; rfl) fun cdv Ar outer s H E hr ts B hR => ?_
  obtain ⟨at_, to_, wo, na, rfl, rfl⟩ := hR
  have hr2 : Room 2 _ := hr
  refine sd_asgN [4, 5, 6, 7] (pd_tupT (pl_cons (pd_mk2 Z.m_BadBounds hr2 (px_var 0 rfl) (px_var 3 rfl)) (pl_cons (pd_mk1 Z.m_BadAim hr2 (px_var 2 rfl)) (pl_cons (pd_mk1 Z.m_BadCount hr2 (px_var 1 rfl)) (pl_cons (pd_mk1 Z.m_BadSides hr2 (pd_tup (ds := [.int at_, .int to_]) (pl_cons (px_var 0 rfl) (pl_cons (px_var 1 rfl) pl_nil)))) pl_nil))))) rfl (pgs_cons (pg_name (i := 4) sc__law_third.nd rfl (Or.inl rfl)) (pgs_cons (pg_name (i := 5) sc__law_third.nd rfl (Or.inl rfl)) (pgs_cons (pg_name (i := 6) sc__law_third.nd rfl (Or.inl rfl)) (pgs_cons (pg_name (i := 7) sc__law_third.nd rfl (Or.inl rfl)) pgs_nil)))) ?_
  refine sd_asgN [8, 9, 10, 11] (pd_tupT (pl_cons (pd_mk2 Z.m_BadPosts hr2 (px_var 1 rfl) (px_var 2 rfl)) (pl_cons (pd_mk1 Z.m_NoSeats hr2 (px_var 3 rfl)) (pl_cons (pd_mk2 Z.m_BadSlips hr2 (px_var 0 rfl) (px_var 2 rfl)) (pl_cons (pd_mk2 Z.m_BadSlacks hr2 (px_var 1 rfl) (px_var 3 rfl)) pl_nil))))) rfl (pgs_cons (pg_name (i := 8) sc__law_third.nd rfl (Or.inl rfl)) (pgs_cons (pg_name (i := 9) sc__law_third.nd rfl (Or.inl rfl)) (pgs_cons (pg_name (i := 10) sc__law_third.nd rfl (Or.inl rfl)) (pgs_cons (pg_name (i := 11) sc__law_third.nd rfl (Or.inl rfl)) pgs_nil)))) ?_
  refine sd_asg 12 (pd_lstT (pl_cons (pd_tupT (pl_cons (px_var 4 rfl) (pl_cons (pd_lst (ds := [.int at_, .str na]) (pl_cons (pd_xv (Z.c_BadBounds.xf (cB _)) Z.m_BadBounds.no (px_var 4 rfl) rfl) (pl_cons (pd_xv (Z.c_BadBounds.xf (cB _)) Z.m_BadBounds.no' (px_var 4 rfl) rfl) pl_nil))) (pl_cons (pd_lst (ds := [.int at_, .str na]) (pl_cons (px_var 0 rfl) (pl_cons (px_var 3 rfl) pl_nil))) pl_nil)))) (pl_cons (pd_tupT (pl_cons (px_var 5 rfl) (pl_cons (pd_lst (ds := [.str wo]) (pl_cons (pd_xv (Z.c_BadAim.xf (cB _)) Z.m_BadAim.no (px_var 5 rfl) rfl) pl_nil)) (pl_cons (pd_lst (ds := [.str wo]) (pl_cons (px_var 2 rfl) pl_nil)) pl_nil)))) (pl_cons (pd_tupT (pl_cons (px_var 6 rfl) (pl_cons (pd_lst (ds := [.int to_]) (pl_cons (pd_xv (Z.c_BadCount.xf (cB _)) Z.m_BadCount.no (px_var 6 rfl) rfl) pl_nil)) (pl_cons (pd_lst (ds := [.int to_]) (pl_cons (px_var 1 rfl) pl_nil)) pl_nil)))) (pl_cons (pd_tupT (pl_cons (px_var 7 rfl) (pl_cons (pd_lst (ds := [.tuple [.int at_, .int to_]]) (pl_cons (pd_xv (Z.c_BadSides.xf (cB _)) Z.m_BadSides.no (px_var 7 rfl) rfl) pl_nil)) (pl_cons (pd_lst (ds := [.tuple [.int at_, .int to_]]) (pl_cons (pd_tup (ds := [.int at_, .int to_]) (pl_cons (px_var 0 rfl) (pl_cons (px_var 1 rfl) pl_nil))) pl_nil)) pl_nil)))) pl_nil))))) ?_ sc__law_third.nd
  refine sd_asg 12 (pd_catT (px_var 12 rfl) (pd_lstT (pl_cons (pd_tupT (pl_cons (pd_mk0 Z.m_BadFar) (pl_cons (pd_lst (ds := []) pl_nil) (pl_cons (pd_lst (ds := []) pl_nil) pl_nil)))) (pl_cons (pd_tupT (pl_cons (px_var 8 rfl) (pl_cons (pd_lst (ds := [.int to_, .str wo]) (pl_cons (pd_xv (Z.c_BadPosts.xf (cB _)) Z.m_BadPosts.no (px_var 8 rfl) rfl) (pl_cons (pd_xv (Z.c_BadPosts.xf (cB _)) Z.m_BadPosts.no' (px_var 8 rfl) rfl) pl_nil))) (pl_cons (pd_lst (ds := [.int to_, .str wo]) (pl_cons (px_var 1 rfl) (pl_cons (px_var 2 rfl) pl_nil))) pl_nil)))) (pl_cons (pd_tupT (pl_cons (pd_mk0 Z.m_BadSlides) (pl_cons (pd_lst (ds := []) pl_nil) (pl_cons (pd_lst (ds := []) pl_nil) pl_nil)))) (pl_cons (pd_tupT (pl_cons (pd_mk0 Z.m_BadLot) (pl_cons (pd_lst (ds := []) pl_nil) (pl_cons (pd_lst (ds := []) pl_nil) pl_nil)))) pl_nil)))))) ?_ sc__law_third.nd
  exact sd_ret (pd_catT (px_var 12 rfl) (pd_lstT (pl_cons (pd_tupT (pl_cons (px_var 9 rfl) (pl_cons (pd_lst (ds := [.str na]) (pl_cons (pd_xv (Z.c_NoSeats.xf (cB _)) Z.m_NoSeats.no (px_var 9 rfl) rfl) pl_nil)) (pl_cons (pd_lst (ds := [.str na]) (pl_cons (px_var 3 rfl) pl_nil)) pl_nil)))) (pl_cons (pd_tupT (pl_cons (px_var 10 rfl) (pl_cons (pd_lst (ds := [.int at_, .str wo]) (pl_cons (pd_xv (Z.c_BadSlips.xf (cB _)) Z.m_BadSlips.no (px_var 10 rfl) rfl) (pl_cons (pd_xv (Z.c_BadSlips.xf (cB _)) Z.m_BadSlips.no' (px_var 10 rfl) rfl) pl_nil))) (pl_cons (pd_lst (ds := [.int at_, .str wo]) (pl_cons (px_var 0 rfl) (pl_cons (px_var 2 rfl) pl_nil))) pl_nil)))) (pl_cons (pd_tupT (pl_cons (px_var 11 rfl) (pl_cons (pd_lst (ds := [.int to_, .str na]) (pl_cons (pd_xv (Z.c_BadSlacks.xf (cB _)) Z.m_BadSlacks.no (px_var 11 rfl) rfl) (pl_cons (pd_xv (Z.c_BadSlacks.xf (cB _)) Z.m_BadSlacks.no' (px_var 11 rfl) rfl) pl_nil))) (pl_cons (pd_lst (ds := [.int to_, .str na]) (pl_cons (px_var 1 rfl) (pl_cons (px_var 3 rfl) pl_nil))) pl_nil)))) pl_nil))))) rfl

theorem ok_fourth (F : Fun K "_law_fourth" "_law_fourth" s__law_fourth f fd) (T : Txt K mg) {A : Ad} (Z : Er P w K mg base A) : FnOk P w K mg base CX0 3 f fd ["_law_at", "_law_to", "_law_word", "_law_name_here"] (spT (Rfourth K A)) := by
  refine fn_mk F sc__law_fourth (fun ts B ⟨_, _, _, _, e, _⟩ => by rw [e]; rfl) fun cdv Ar outer s H E hr ts B hR => ?_
  obtain ⟨at_, to_, wo, na, rfl, rfl⟩ := hR
  have hr2 : Room 2 _ := hr
  refine sd_par2 4 5 (pd_mk2 Z.m_BadChange hr2 (px_var 0 rfl) (px_var 2 rfl)) (pd_mk2 Z.m_BadWish hr2 (px_var 1 rfl) (px_var 3 rfl)) ?_ sc__law_fourth.nd
  refine sd_asg 6 (pd_lstT (pl_cons (pd_tupT (pl_cons (pd_mk0 Z.m_NoTouch) (pl_cons (pd_lst (ds := []) pl_nil) (pl_cons (pd_lst (ds := []) pl_nil) pl_nil)))) (pl_cons (pd_tupT (pl_cons (px_var 4 rfl) (pl_cons (pd_lst (ds := [.int at_, .str wo]) (pl_cons (pd_xv (Z.c_BadChange.xf (cB _)) Z.m_BadChange.no (px_var 4 rfl) rfl) (pl_cons (pd_xv (Z.c_BadChange.xf (cB _)) Z.m_BadChange.no' (px_var 4 rfl) rfl) pl_nil))) (pl_cons (pd_lst (ds := [.int at_, .str wo]) (pl_cons (px_var 0 rfl) (pl_cons (px_var 2 rfl) pl_nil))) pl_nil)))) pl_nil))) ?_ sc__law_fourth.nd
  exact sd_ret (pd_catT (px_var 6 rfl) (pd_lstT (pl_cons (pd_tupT (pl_cons (px_var 5 rfl) (pl_cons (pd_lst (ds := [.int to_, .str na]) (pl_cons (pd_xv (Z.c_BadWish.xf (cB _)) Z.m_BadWish.no (px_var 5 rfl) rfl) (pl_cons (pd_xv (Z.c_BadWish.xf (cB _)) Z.m_BadWish.no' (px_var 5 rfl) rfl) pl_nil))) (pl_cons (pd_lst (ds := [.int to_, .str na]) (pl_cons (px_var 1 rfl) (pl_cons (px_var 3 rfl) pl_nil))) pl_nil)))) (pl_cons (pd_tupT (pl_cons (pd_mk0 Z.m_NothingDone) (pl_cons (pd_lst (ds := []) pl_nil) (pl_cons (pd_lst (ds := []) pl_nil) pl_nil)))) pl_nil)))) rfl

theorem ok_classes (F : Fun K "_law_classes" "_law_classes" s__law_classes f fd) (T : Txt K mg) {A : Ad} (Z : Er P w K mg base A) : FnOk P w K mg base CX0 1 f fd ["_law_e"] (spT (RClasses K A)) := by
  refine fn_mk F sc__law_classes (fun ts B ⟨_, _, _, e, _⟩ => by rw [e]; rfl) fun cdv Ar outer s H E hr ts B hR => ?_
  obtain ⟨C, bm, fs, rfl, he, hb, ho, rfl⟩ := hR
  have hx : L2.ExcC K C := he.exc hb ho Z.sp Z.ta
  refine sd_asg 1 (pd_lst (ds := [.bool ((Value.ref C :: bm).contains (.ref A.BadRatio)), .bool ((Value.ref C :: bm).contains (.ref A.BadPlace)), .bool ((Value.ref C :: bm).contains (.ref A.BadWork)), .bool ((Value.ref C :: bm).contains (.ref A.NoSide)), .bool ((Value.ref C :: bm).contains (.ref A.BadSize))]) (pl_cons (pd_isV hx T.z_isinstance (px_var 0 rfl) (pd_cls Z.m_BadRatio.gC) (he.kit Z.c_BadRatio)) (pl_cons (pd_isV hx T.z_isinstance (px_var 0 rfl) (pd_cls Z.m_BadPlace.gC) (he.kit Z.c_BadPlace)) (pl_cons (pd_isV hx T.z_isinstance (px_var 0 rfl) (pd_cls Z.m_BadWork.gC) (he.kit Z.c_BadWork)) (pl_cons (pd_isV hx T.z_isinstance (px_var 0 rfl) (pd_cls Z.m_NoSide.gC) (he.kit Z.c_NoSide)) (pl_cons (pd_isV hx T.z_isinstance (px_var 0 rfl) (pd_cls Z.m_BadSize.gC) (he.kit Z.c_BadSize)) pl_nil)))))) ?_ sc__law_classes.nd
  refine sd_asg 1 (pd_catL (px_var 1 rfl) (pd_lst (ds := [.bool ((Value.ref C :: bm).contains (.ref A.BadStop)), .bool ((Value.ref C :: bm).contains (.ref A.BadText)), .bool ((Value.ref C :: bm).contains (.ref A.BadMotion)), .bool ((Value.ref C :: bm).contains (.ref A.BadDirection))]) (pl_cons (pd_isV hx T.z_isinstance (px_var 0 rfl) (pd_cls Z.m_BadStop.gC) (he.kit Z.c_BadStop)) (pl_cons (pd_isV hx T.z_isinstance (px_var 0 rfl) (pd_cls Z.m_BadText.gC) (he.kit Z.c_BadText)) (pl_cons (pd_isV hx T.z_isinstance (px_var 0 rfl) (pd_cls Z.m_BadMotion.gC) (he.kit Z.c_BadMotion)) (pl_cons (pd_isV hx T.z_isinstance (px_var 0 rfl) (pd_cls Z.m_BadDirection.gC) (he.kit Z.c_BadDirection)) pl_nil))))) (Nat.le_of_ble_eq_true rfl)) ?_ sc__law_classes.nd
  refine sd_asg 1 (pd_catL (px_var 1 rfl) (pd_lst (ds := [.bool ((Value.ref C :: bm).contains (.ref A.BadWay)), .bool ((Value.ref C :: bm).contains (.ref A.NoCentre)), .bool ((Value.ref C :: bm).contains (.ref A.BadPull)), .bool ((Value.ref C :: bm).contains (.ref A.BadRows))]) (pl_cons (pd_isV hx T.z_isinstance (px_var 0 rfl) (pd_cls Z.m_BadWay.gC) (he.kit Z.c_BadWay)) (pl_cons (pd_isV hx T.z_isinstance (px_var 0 rfl) (pd_cls Z.m_NoCentre.gC) (he.kit Z.c_NoCentre)) (pl_cons (pd_isV hx T.z_isinstance (px_var 0 rfl) (pd_cls Z.m_BadPull.gC) (he.kit Z.c_BadPull)) (pl_cons (pd_isV hx T.z_isinstance (px_var 0 rfl) (pd_cls Z.m_BadRows.gC) (he.kit Z.c_BadRows)) pl_nil))))) (Nat.le_of_ble_eq_true rfl)) ?_ sc__law_classes.nd
  refine sd_asg 1 (pd_catL (px_var 1 rfl) (pd_lst (ds := [.bool ((Value.ref C :: bm).contains (.ref A.BadNumbers)), .bool ((Value.ref C :: bm).contains (.ref A.LowRank))]) (pl_cons (pd_isV hx T.z_isinstance (px_var 0 rfl) (pd_cls Z.m_BadNumbers.gC) (he.kit Z.c_BadNumbers)) (pl_cons (pd_isV hx T.z_isinstance (px_var 0 rfl) (pd_cls Z.m_LowRank.gC) (he.kit Z.c_LowRank)) pl_nil))) (Nat.le_of_ble_eq_true rfl)) ?_ sc__law_classes.nd
  refine sd_asg 1 (pd_catL (px_var 1 rfl) (pd_lst (ds := [.bool ((Value.ref C :: bm).contains (.ref A.NoStop)), .bool ((Value.ref C :: bm).contains (.ref A.BadShares)), .bool ((Value.ref C :: bm).contains (.ref A.WornOut)), .bool ((Value.ref C :: bm).contains (.ref A.NoMeeting))]) (pl_cons (pd_isV hx T.z_isinstance (px_var 0 rfl) (pd_cls Z.m_NoStop.gC) (he.kit Z.c_NoStop)) (pl_cons (pd_isV hx T.z_isinstance (px_var 0 rfl) (pd_cls Z.m_BadShares.gC) (he.kit Z.c_BadShares)) (pl_cons (pd_isV hx T.z_isinstance (px_var 0 rfl) (pd_cls Z.m_WornOut.gC) (he.kit Z.c_WornOut)) (pl_cons (pd_isV hx T.z_isinstance (px_var 0 rfl) (pd_cls Z.m_NoMeeting.gC) (he.kit Z.c_NoMeeting)) pl_nil))))) (Nat.le_of_ble_eq_true rfl)) ?_ sc__law_classes.nd
  refine sd_asg 1 (pd_catL (px_var 1 rfl) (pd_lst (ds := [.bool ((Value.ref C :: bm).contains (.ref A.BadHalves)), .bool ((Value.ref C :: bm).contains (.ref A.NoMiddle)), .bool ((Value.ref C :: bm).contains (.ref A.BadSwing)), .bool ((Value.ref C :: bm).contains (.ref A.BadSteps))]) (pl_cons (pd_isV hx T.z_isinstance (px_var 0 rfl) (pd_cls Z.m_BadHalves.gC) (he.kit Z.c_BadHalves)) (pl_cons (pd_isV hx T.z_isinstance (px_var 0 rfl) (pd_cls Z.m_NoMiddle.gC) (he.kit Z.c_NoMiddle)) (pl_cons (pd_isV hx T.z_isinstance (px_var 0 rfl) (pd_cls Z.m_BadSwing.gC) (he.kit Z.c_BadSwing)) (pl_cons (pd_isV hx T.z_isinstance (px_var 0 rfl) (pd_cls Z.m_BadSteps.gC) (he.kit Z.c_BadSteps)) pl_nil))))) (Nat.le_of_ble_eq_true rfl)) ?_ sc__law_classes.nd
  refine sd_asg 1 (pd_catL (px_var 1 rfl) (pd_lst (ds := [.bool ((Value.ref C :: bm).contains (.ref A.BadStretch)), .bool ((Value.ref C :: bm).contains (.ref A.BadChoice)), .bool ((Value.ref C :: bm).contains (.ref A.BadStep)), .bool ((Value.ref C :: bm).contains (.ref A.BadMost))]) (pl_cons (pd_isV hx T.z_isinstance (px_var 0 rfl) (pd_cls Z.m_BadStretch.gC) (he.kit Z.c_BadStretch)) (pl_cons (pd_isV hx T.z_isinstance (px_var 0 rfl) (pd_cls Z.m_BadChoice.gC) (he.kit Z.c_BadChoice)) (pl_cons (pd_isV hx T.z_isinstance (px_var 0 rfl) (pd_cls Z.m_BadStep.gC) (he.kit Z.c_BadStep)) (pl_cons (pd_isV hx T.z_isinstance (px_var 0 rfl) (pd_cls Z.m_BadMost.gC) (he.kit Z.c_BadMost)) pl_nil))))) (Nat.le_of_ble_eq_true rfl)) ?_ sc__law_classes.nd
  refine sd_asg 1 (pd_catL (px_var 1 rfl) (pd_lst (ds := [.bool ((Value.ref C :: bm).contains (.ref A.BadBounds)), .bool ((Value.ref C :: bm).contains (.ref A.BadAim)), .bool ((Value.ref C :: bm).contains (.ref A.BadCount)), .bool ((Value.ref C :: bm).contains (.ref A.BadSides))]) (pl_cons (pd_isV hx T.z_isinstance (px_var 0 rfl) (pd_cls Z.m_BadBounds.gC) (he.kit Z.c_BadBounds)) (pl_cons (pd_isV hx T.z_isinstance (px_var 0 rfl) (pd_cls Z.m_BadAim.gC) (he.kit Z.c_BadAim)) (pl_cons (pd_isV hx T.z_isinstance (px_var 0 rfl) (pd_cls Z.m_BadCount.gC) (he.kit Z.c_BadCount)) (pl_cons (pd_isV hx T.z_isinstance (px_var 0 rfl) (pd_cls Z.m_BadSides.gC) (he.kit Z.c_BadSides)) pl_nil))))) (Nat.le_of_ble_eq_true rfl)) ?_ sc__law_classes.nd
  refine sd_asg 1 (pd_catL (px_var 1 rfl) (pd_lst (ds := [.bool ((Value.ref C :: bm).contains (.ref A.BadFar)), .bool ((Value.ref C :: bm).contains (.ref A.BadPosts)), .bool ((Value.ref C :: bm).contains (.ref A.BadSlides)), .bool ((Value.ref C :: bm).contains (.ref A.BadLot))]) (pl_cons (pd_isV hx T.z_isinstance (px_var 0 rfl) (pd_cls Z.m_BadFar.gC) (he.kit Z.c_BadFar)) (pl_cons (pd_isV hx T.z_isinstance (px_var 0 rfl) (pd_cls Z.m_BadPosts.gC) (he.kit Z.c_BadPosts)) (pl_cons (pd_isV hx T.z_isinstance (px_var 0 rfl) (pd_cls Z.m_BadSlides.gC) (he.kit Z.c_BadSlides)) (pl_cons (pd_isV hx T.z_isinstance (px_var 0 rfl) (pd_cls Z.m_BadLot.gC) (he.kit Z.c_BadLot)) pl_nil))))) (Nat.le_of_ble_eq_true rfl)) ?_ sc__law_classes.nd
  refine sd_asg 1 (pd_catL (px_var 1 rfl) (pd_lst (ds := [.bool ((Value.ref C :: bm).contains (.ref A.NoSeats)), .bool ((Value.ref C :: bm).contains (.ref A.BadSlips)), .bool ((Value.ref C :: bm).contains (.ref A.BadSlacks))]) (pl_cons (pd_isV hx T.z_isinstance (px_var 0 rfl) (pd_cls Z.m_NoSeats.gC) (he.kit Z.c_NoSeats)) (pl_cons (pd_isV hx T.z_isinstance (px_var 0 rfl) (pd_cls Z.m_BadSlips.gC) (he.kit Z.c_BadSlips)) (pl_cons (pd_isV hx T.z_isinstance (px_var 0 rfl) (pd_cls Z.m_BadSlacks.gC) (he.kit Z.c_BadSlacks)) pl_nil)))) (Nat.le_of_ble_eq_true rfl)) ?_ sc__law_classes.nd
  exact sd_ret (pd_catL (px_var 1 rfl) (pd_lst (ds := [.bool ((Value.ref C :: bm).contains (.ref A.NoTouch)), .bool ((Value.ref C :: bm).contains (.ref A.BadChange)), .bool ((Value.ref C :: bm).contains (.ref A.BadWish)), .bool ((Value.ref C :: bm).contains (.ref A.NothingDone))]) (pl_cons (pd_isV hx T.z_isinstance (px_var 0 rfl) (pd_cls Z.m_NoTouch.gC) (he.kit Z.c_NoTouch)) (pl_cons (pd_isV hx T.z_isinstance (px_var 0 rfl) (pd_cls Z.m_BadChange.gC) (he.kit Z.c_BadChange)) (pl_cons (pd_isV hx T.z_isinstance (px_var 0 rfl) (pd_cls Z.m_BadWish.gC) (he.kit Z.c_BadWish)) (pl_cons (pd_isV hx T.z_isinstance (px_var 0 rfl) (pd_cls Z.m_NothingDone.gC) (he.kit Z.c_NothingDone)) pl_nil))))) (Nat.le_of_ble_eq_true rfl)) rfl

end
end K00
set_option Elab.async false
set_option linter.all false
set_option maxRecDepth 100000
set_option maxHeartbeats 4000000
namespace K00
open PySem PySem.Spec PyProof.Rows L2 DL
mutual
def noD : PyData → Bool
  | .list ds => noDs ds
  | .tuple ds => noDs ds
  | .dict _ => false
  | _ => true
def noDs : List PyData → Bool
  | [] => true
  | d :: ds => noD d && noDs ds
end
mutual
theorem eqv_me : ∀ d : PyData, noD d = true → PyData.eqv d d = true
  | .none, _ => rfl
  | .bool b, _ => by show (b == b) = true; exact beq_self_eq_true b
  | .int i, _ => by show (i == i) = true; exact beq_self_eq_true i
  | .str x, _ => by show (x == x) = true; exact beq_self_eq_true x
  | .list ds, h => eqv_all ds h
  | .tuple ds, h => eqv_all ds h
  | .dict _, h => by cases h
theorem eqv_all : ∀ ds : List PyData, noDs ds = true → PyData.eqvAll ds ds = true
  | [], _ => rfl
  | d :: ds, h => by
    have h' : noD d = true ∧ noDs ds = true := Bool.and_eq_true_iff.mp h
    show (PyData.eqv d d && PyData.eqvAll ds ds) = true
    rw [eqv_me d h'.1, eqv_all ds h'.2]
    rfl
end
theorem nd_iff {l : List Addr} (h : l.Nodup) {i j : Nat} (hi : i < l.length) (hj : j < l.length) : l[i] = l[j] ↔ i = j := by
  have p := List.pairwise_iff_getElem.mp h
  constructor
  · intro e
    rcases Nat.lt_trichotomy i j with q | q | q
    · exact absurd e (p i j hi hj q)
    · exact q
    · exact absurd e.symm (p j i hj hi q)
  · intro e
    subst e
    rfl
def rows (K : PySem.W.Frag) (A : Ad) (a t : Int) (wo na : Str) : List (Addr × List (Str × Th) × List PyData) := rows_first K A a t wo na ++ rows_second K A a t wo na ++ rows_third K A a t wo na ++ rows_fourth K A a t wo na
theorem rows_adr {K : PySem.W.Frag} {A : Ad} {a t : Int} {wo na : Str} : (rows K A a t wo na).map (·.1) = A.all := rfl
theorem rows_len {K : PySem.W.Frag} {A : Ad} {a t : Int} {wo na : Str} : (rows K A a t wo na).length = 42 := rfl
theorem rows_ok {K : PySem.W.Frag} {A : Ad} {a t : Int} {wo na : Str} (hw : PyData.strOk wo = true) (hn : PyData.strOk na = true) : ((rows K A a t wo na).all fun r => noD (.list r.2.2) && SeqAt.shaped (.list r.2.2)) = true := by
  simp [rows, rows_first, rows_second, rows_third, rows_fourth, noD, noDs, SeqAt.shaped, PyData.canLay0, PyData.canLayAll0, PyData.depth, PyData.depthAll, hw, hn]
theorem sh_str {y : Str} (h : PyData.strOk y = true) : SeqAt.shaped (.str y) = true := by
  simp [SeqAt.shaped, PyData.canLay0, PyData.depth, h]
theorem ok_app {x y : Str} (h : PyData.strOk x = true) (g : PyData.strOk y = true) : PyData.strOk (x ++ y) = true := by
  have e : (x ++ y).cps = x.cps ++ y.cps := rfl
  unfold PyData.strOk at *
  rw [e, Array.all_append, h, g]
  rfl
theorem cls_at {P : Program} {w : World} {K : PySem.W.Frag} {mg : Str → Option Value} {base : Heap} {A : Ad} (Z : Er P w K mg base A) : ∀ D ∈ A.all, ErS K (.ref A.S :: VEs) D := by
  have h : ErS K (.ref A.S :: VEs) A.BadRatio ∧ ErS K (.ref A.S :: VEs) A.BadPlace ∧ ErS K (.ref A.S :: VEs) A.BadWork ∧ ErS K (.ref A.S :: VEs) A.NoSide ∧ ErS K (.ref A.S :: VEs) A.BadSize ∧ ErS K (.ref A.S :: VEs) A.BadStop ∧ ErS K (.ref A.S :: VEs) A.BadText ∧ ErS K (.ref A.S :: VEs) A.BadMotion ∧ ErS K (.ref A.S :: VEs) A.BadDirection ∧ ErS K (.ref A.S :: VEs) A.BadWay ∧ ErS K (.ref A.S :: VEs) A.NoCentre ∧ ErS K (.ref A.S :: VEs) A.BadPull ∧ ErS K (.ref A.S :: VEs) A.BadRows ∧ ErS K (.ref A.S :: VEs) A.BadNumbers ∧ ErS K (.ref A.S :: VEs) A.LowRank ∧ ErS K (.ref A.S :: VEs) A.NoStop ∧ ErS K (.ref A.S :: VEs) A.BadShares ∧ ErS K (.ref A.S :: VEs) A.WornOut ∧ ErS K (.ref A.S :: VEs) A.NoMeeting ∧ ErS K (.ref A.S :: VEs) A.BadHalves ∧ ErS K (.ref A.S :: VEs) A.NoMiddle ∧ ErS K (.ref A.S :: VEs) A.BadSwing ∧ ErS K (.ref A.S :: VEs) A.BadSteps ∧ ErS K (.ref A.S :: VEs) A.BadStretch ∧ ErS K (.ref A.S :: VEs) A.BadChoice ∧ ErS K (.ref A.S :: VEs) A.BadStep ∧ ErS K (.ref A.S :: VEs) A.BadMost ∧ ErS K (.ref A.S :: VEs) A.BadBounds ∧ ErS K (.ref A.S :: VEs) A.BadAim ∧ ErS K (.ref A.S :: VEs) A.BadCount ∧ ErS K (.ref A.S :: VEs) A.BadSides ∧ ErS K (.ref A.S :: VEs) A.BadFar ∧ ErS K (.ref A.S :: VEs) A.BadPosts ∧ ErS K (.ref A.S :: VEs) A.BadSlides ∧ ErS K (.ref A.S :: VEs) A.BadLot ∧ ErS K (.ref A.S :: VEs) A.NoSeats ∧ ErS K (.ref A.S :: VEs) A.BadSlips ∧ ErS K (.ref A.S :: VEs) A.BadSlacks ∧ ErS K (.ref A.S :: VEs) A.NoTouch ∧ ErS K (.ref A.S :: VEs) A.BadChange ∧ ErS K (.ref A.S :: VEs) A.BadWish ∧ ErS K (.ref A.S :: VEs) A.NothingDone := ⟨Z.c_BadRatio, Z.c_BadPlace, Z.c_BadWork, Z.c_NoSide, Z.c_BadSize, Z.c_BadStop, Z.c_BadText, Z.c_BadMotion, Z.c_BadDirection, Z.c_BadWay, Z.c_NoCentre, Z.c_BadPull, Z.c_BadRows, Z.c_BadNumbers, Z.c_LowRank, Z.c_NoStop, Z.c_BadShares, Z.c_WornOut, Z.c_NoMeeting, Z.c_BadHalves, Z.c_NoMiddle, Z.c_BadSwing, Z.c_BadSteps, Z.c_BadStretch, Z.c_BadChoice, Z.c_BadStep, Z.c_BadMost, Z.c_BadBounds, Z.c_BadAim, Z.c_BadCount, Z.c_BadSides, Z.c_BadFar, Z.c_BadPosts, Z.c_BadSlides, Z.c_BadLot, Z.c_NoSeats, Z.c_BadSlips, Z.c_BadSlacks, Z.c_NoTouch, Z.c_BadChange, Z.c_BadWish, Z.c_NothingDone⟩
  intro D hD
  unfold Ad.all at hD
  simp only [List.mem_cons, List.not_mem_nil, or_false] at hD
  obtain ⟨h0, h1, h2, h3, h4, h5, h6, h7, h8, h9, h10, h11, h12, h13, h14, h15, h16, h17, h18, h19, h20, h21, h22, h23, h24, h25, h26, h27, h28, h29, h30, h31, h32, h33, h34, h35, h36, h37, h38, h39, h40, h41⟩ := h
  rcases hD with e | e | e | e | e | e | e | e | e | e | e | e | e | e | e | e | e | e | e | e | e | e | e | e | e | e | e | e | e | e | e | e | e | e | e | e | e | e | e | e | e | e <;> subst D <;> assumption
theorem cls_row {P : Program} {w : World} {K : PySem.W.Frag} {mg : Str → Option Value} {base : Heap} {A : Ad} (Z : Er P w K mg base A) {k : Nat} (hk : k < A.all.length) : clsD A A.all[k] (.ref A.S :: VEs) = .list ((List.range 42).map fun i => .bool (decide (i = k))) := by
  unfold clsD
  congr 1
  refine List.ext_getElem (by simp; rfl) fun i h1 h2 => ?_
  rw [List.getElem_map, List.getElem_map, List.getElem_range]
  have hi : i < A.all.length := by simpa using h1
  rw [con_at (Z.ns _ (List.getElem_mem hi))]
  have e : (A.all[i] = A.all[k]) = (i = k) := propext (nd_iff Z.nd _ _)
  simp only [e]
theorem cls_base {P : Program} {w : World} {K : PySem.W.Frag} {mg : Str → Option Value} {base : Heap} {A : Ad} (Z : Er P w K mg base A) : clsD A A.S VEs = .list (List.replicate 42 [PyData.bool false]).flatten := by
  unfold clsD
  have h : (A.all.map fun D => PyData.bool ((Value.ref A.S :: VEs).contains (.ref D))) = A.all.map fun _ => PyData.bool false := List.map_congr_left fun D hD => by rw [con_S (Z.ns D hD)]
  rw [h]
  rfl
theorem ne_at {P : Program} {w : World} {K : PySem.W.Frag} {mg : Str → Option Value} {base : Heap} {A : Ad} (Z : Er P w K mg base A) (i j : Nat) (hi : i < A.all.length) (hj : j < A.all.length) (h : i ≠ j) : A.all[i] ≠ A.all[j] := fun z => h ((nd_iff Z.nd hi hj).mp z)
end K00
set_option Elab.async false
set_option linter.all false
set_option maxRecDepth 100000
set_option maxHeartbeats 4000000
namespace K00
open PySem PySem.Spec PyProof.Rows L2 DL
section
variable {P : Program} {w : World} {K : PySem.W.Frag} {mg : Str → Option Value} {base : Heap} {f : Addr} {fd : FuncData}

def RName (K : PySem.W.Frag) : Cn := fun ts B => ts = [handT] ∧ B = (fun t => ∃ y : Str, t = dat K (.str y) ∧ y.length ≤ 8 ∧ PyData.strOk y = true)
theorem slen (x y : Str) : (x ++ y).length = x.length + y.length := Array.size_append
theorem ok_name (F : Fun K "_law_name" "_law_name" s__law_name f fd) (T : Txt K mg) (G__law_draw : Gd P w K mg base "_law_draw" 2 [] (RDraw K)) : FnOk P w K mg base CX0 3 f fd ["_law_hand_here"] (spT (RName K)) := by
  refine fn_mk F sc__law_name (fun ts B ⟨e, _⟩ => by rw [e]; rfl) fun cdv Ar outer s H E hr ts B hR => ?_
  obtain ⟨rfl, rfl⟩ := hR
  refine sd_asg 1 px_str ?_ sc__law_name.nd
  refine sd_forRX 2 (Nn := fun n => 1 ≤ n ∧ n ≤ 8) (fun n i Δ' => ∃ (y : Str) (s2 : Sl), Δ' = [.th handT, .th (dat K (.str y)), s2] ∧ y.length ≤ i ∧ PyData.strOk y = true) T.z_range (px_opI0 op_add (pi_of px_int) (px_draw (i := 0) G__law_draw (hr.mono (by decide)) rfl (pi_of px_int) (fun m hm => by subst hm; decide)) (fun i j hi ⟨m, hm, h0, h1⟩ => by subst hi; subst hm; omega)) (fun n h => by omega) (fun n _ => ⟨_, .no, rfl, Nat.zero_le _, by decide +kernel⟩) ?_ ?_ sc__law_name.nd
  · rintro n i Δ' hn hi ⟨y, s2, rfl, hy, hyk⟩
    refine sd_asgX 1 (px_addS (Pa := (· = y)) (Pb := fun z => z.length = 1 ∧ PyData.strOk z = true) (R := fun z => z.length ≤ i + 1 ∧ PyData.strOk z = true) ((px_var 1 rfl : PD _ _ _ (dat K (.str y))).imp fun t h => ⟨y, h, rfl⟩) ((px_ixS px_str (px_draw (i := 0) G__law_draw (hr.mono (by decide)) rfl (pi_of px_int) (fun m hm => by subst hm; decide)) (by decide) (fun i ⟨m, hm, h0, h1⟩ => by subst hm; exact ⟨h0, h1⟩)).imp fun t ⟨z, h1, h2, h3⟩ => ⟨z, h1, h2, h3 (by decide +kernel)⟩) (fun x z hx hz => by subst hx; rw [slen]; exact ⟨by omega, by omega, ok_app hyk hz.2⟩)) (fun t ⟨z, ht, hz⟩ => ?_) sc__law_name.nd
    subst ht
    exact sd_nil ⟨z, _, rfl, hz.1, hz.2⟩
  · rintro n Δ' hn ⟨y, s2, rfl, hy, hyk⟩
    exact sd_ret (px_var 1 rfl) ⟨y, rfl, by omega, hyk⟩

def RRaised (K : PySem.W.Frag) : Cn := fun ts B => ∃ (at_ : Int) (wo : Str), ts = [dat K (.int at_), dat K (.str wo)] ∧ PyData.strOk wo = true ∧ B = (· = dat K (.list [.bool true, .bool true, .bool true]))
theorem ok_raised (F : Fun K "_law_raised" "_law_raised" s__law_raised f fd) (T : Txt K mg) {A : Ad} (Z : Er P w K mg base A) : FnOk P w K mg base CX0 3 f fd ["_law_at", "_law_word"] (spT (RRaised K)) := by
  refine fn_mk F sc__law_raised (fun ts B ⟨_, _, e, _⟩ => by rw [e]; rfl) fun cdv Ar outer s H E hr ts B hR => ?_
  obtain ⟨at_, wo, rfl, hwk, rfl⟩ := hR
  have k3 : SD (cxOf CX0 P w K mg base ["_law_at", "_law_word", "_law_told", "_law_e"] "_law_raised" (defScope s__law_raised) f cdv Ar outer s H E).nox (fun _ _ _ _ => False) ((defBody s__law_raised).drop 4) (retOf K (· = dat K (.list [.bool true, .bool true, .bool true]))) [.th (dat K (.int at_)), .th (dat K (.str wo)), .ml ((([.bool true, .bool true, .bool true] : List PyData)).map (dat K)), .no] := by
    exact sd_freeze 2 rfl rfl (sd_ret (px_var 2 rfl) rfl)
  have k2 : SD (cxOf CX0 P w K mg base ["_law_at", "_law_word", "_law_told", "_law_e"] "_law_raised" (defScope s__law_raised) f cdv Ar outer s H E).nox (fun _ _ _ _ => False) ((defBody s__law_raised).drop 3) (retOf K (· = dat K (.list [.bool true, .bool true, .bool true]))) [.th (dat K (.int at_)), .th (dat K (.str wo)), .ml ((([.bool true, .bool true] : List PyData)).map (dat K)), .no] := by
    refine sd_tryF2 3 (c0 := .ref A.NoMeeting) (cv := .ref A.S) (Wout := fun _ _ _ _ => False) (fun C' fs Δ' => C' = A.NoTouch ∧ fs = [] ∧ Δ' = [.th (dat K (.int at_)), .th (dat K (.str wo)), .ml ((([.bool true, .bool true] : List PyData)).map (dat K)), .no]) sc__law_raised.nd rfl rfl ⟨rfl, by decide, Or.inl Z.m_NoMeeting.gC⟩ ⟨rfl, by decide, Or.inl Z.mS.gC⟩ ?_ ?_ ?_ ?_
    · intro W pn xe tk hp
      exact sd_raise0 Z.m_NoTouch tk ⟨rfl, rfl, rfl⟩
    · rintro C' fs Δ' ⟨rfl, rfl, rfl⟩
      exact ⟨((Z.c_NoTouch.exm Z.c_NoMeeting (cB _)).trans (by rw [con_at (Z.ns _ (by simp [Ad.all])), decide_eq_false (p := A.NoMeeting = A.NoTouch) (ne_at Z 18 38 (by show _ < 42; decide) (by show _ < 42; decide) (by decide))])), ((Z.c_NoTouch.exm Z.cS rfl).trans (by rw [List.contains_cons, List.contains_cons, BEq.rfl, Bool.true_or, Bool.or_true]))⟩
    · rintro C' fs Δ' ⟨rfl, rfl, rfl⟩ a oe d pn hz hf hn
      have hx : L2.ExcC K A.NoTouch := Z.c_NoTouch.exc (cB _) (cO _) Z.sp Z.ta
      refine sd_app (A := (· = dat K (.bool true))) 2 rfl (PD.is (pd_and (pd_isX hx hz hf T.z_isinstance (px_var 3 rfl) (pd_cls Z.m_NoTouch.gC) ((Z.c_NoTouch.kit Z.c_NoTouch).trans (by rw [List.contains_cons, BEq.rfl, Bool.true_or]))) (pd_one (pd_isX hx hz hf T.z_isinstance (px_var 3 rfl) (pd_clsB T.z_VE) ((Z.c_NoTouch.kitB "ValueError").trans (congrArg some (show _ = true from rfl)))))) rfl) (by rw [List.length_map]; decide) (fun t ht => ?_) rfl (by first | exact Or.inl rfl | exact Or.inr (Or.inl rfl)) (fun te pe => pe_bm PySem.F.plainAttrs_list PySem.F.slot_list_append PySem.F.type_list_append mt_append (pv 2) (pa_cons pe pa_nil))
      subst ht
      refine sd_nil ?_
      show SD _ _ ((defBody s__law_raised).drop 4) _ [.th (dat K (.int at_)), .th (dat K (.str wo)), .ml ((([.bool true, .bool true, .bool true] : List PyData)).map (dat K)), .no]
      exact k3
    · rintro C' fs Δ' ⟨_, _, rfl⟩ ts h
      cases h
  have k1 : SD (cxOf CX0 P w K mg base ["_law_at", "_law_word", "_law_told", "_law_e"] "_law_raised" (defScope s__law_raised) f cdv Ar outer s H E).nox (fun _ _ _ _ => False) ((defBody s__law_raised).drop 2) (retOf K (· = dat K (.list [.bool true, .bool true, .bool true]))) [.th (dat K (.int at_)), .th (dat K (.str wo)), .ml ((([.bool true] : List PyData)).map (dat K)), .no] := by
    refine sd_tryF2 3 (c0 := .ref A.NoStop) (cv := .ref A.S) (Wout := fun _ _ _ _ => False) (fun C' fs Δ' => C' = A.LowRank ∧ fs = [(("rank" : Str), dat K (.int at_))] ∧ Δ' = [.th (dat K (.int at_)), .th (dat K (.str wo)), .ml ((([.bool true] : List PyData)).map (dat K)), .no]) sc__law_raised.nd rfl rfl ⟨rfl, by decide, Or.inl Z.m_NoStop.gC⟩ ⟨rfl, by decide, Or.inl Z.mS.gC⟩ ?_ ?_ ?_ ?_
    · intro W pn xe tk hp
      exact sd_raise1 Z.m_LowRank hr (px_var 0 rfl) tk ⟨rfl, rfl, rfl⟩
    · rintro C' fs Δ' ⟨rfl, rfl, rfl⟩
      exact ⟨((Z.c_LowRank.exm Z.c_NoStop (cB _)).trans (by rw [con_at (Z.ns _ (by simp [Ad.all])), decide_eq_false (p := A.NoStop = A.LowRank) (ne_at Z 15 14 (by show _ < 42; decide) (by show _ < 42; decide) (by decide))])), ((Z.c_LowRank.exm Z.cS rfl).trans (by rw [List.contains_cons, List.contains_cons, BEq.rfl, Bool.true_or, Bool.or_true]))⟩
    · rintro C' fs Δ' ⟨rfl, rfl, rfl⟩ a oe d pn hz hf hn
      have hx : L2.ExcC K A.LowRank := Z.c_LowRank.exc (cB _) (cO _) Z.sp Z.ta
      refine sd_app (A := (· = dat K (.bool true))) 2 rfl (PD.is (pd_and (pd_isX hx hz hf T.z_isinstance (px_var 3 rfl) (pd_cls Z.m_LowRank.gC) ((Z.c_LowRank.kit Z.c_LowRank).trans (by rw [List.contains_cons, BEq.rfl, Bool.true_or]))) (pd_and (pd_isX hx hz hf T.z_isinstance (px_var 3 rfl) (pd_clsB T.z_VE) ((Z.c_LowRank.kitB "ValueError").trans (congrArg some (show _ = true from rfl)))) (pd_one (pd_cmp (ct_eq hr.units rfl rfl) (pd_xf (t := dat K (.int at_)) (Z.c_LowRank.xf (cB _)) Z.m_LowRank.no hz hf (px_var 3 rfl) rfl) (px_var 0 rfl) (nomark _))))) (by rw [eqv_me _ rfl]; rfl)) (by rw [List.length_map]; decide) (fun t ht => ?_) rfl (by first | exact Or.inl rfl | exact Or.inr (Or.inl rfl)) (fun te pe => pe_bm PySem.F.plainAttrs_list PySem.F.slot_list_append PySem.F.type_list_append mt_append (pv 2) (pa_cons pe pa_nil))
      subst ht
      refine sd_nil ?_
      show SD _ _ ((defBody s__law_raised).drop 3) _ [.th (dat K (.int at_)), .th (dat K (.str wo)), .ml ((([.bool true, .bool true] : List PyData)).map (dat K)), .no]
      exact k2
    · rintro C' fs Δ' ⟨_, _, rfl⟩ ts h
      cases h
  refine sd_new 2 ?_ sc__law_raised.nd
  refine sd_tryF2 3 (c0 := .ref A.BadStop) (cv := .ref A.S) (Wout := fun _ _ _ _ => False) (fun C' fs Δ' => C' = A.BadWork ∧ fs = [(("what" : Str), dat K (.str wo)), (("index" : Str), dat K (.int at_))] ∧ Δ' = [.th (dat K (.int at_)), .th (dat K (.str wo)), .ml ((([] : List PyData)).map (dat K)), .no]) sc__law_raised.nd rfl rfl ⟨rfl, by decide, Or.inl Z.m_BadStop.gC⟩ ⟨rfl, by decide, Or.inl Z.mS.gC⟩ ?_ ?_ ?_ ?_
  · intro W pn xe tk hp
    exact sd_raise2 Z.m_BadWork hr (px_var 0 rfl) (px_var 1 rfl) tk ⟨rfl, rfl, rfl⟩
  · rintro C' fs Δ' ⟨rfl, rfl, rfl⟩
    exact ⟨((Z.c_BadWork.exm Z.c_BadStop (cB _)).trans (by rw [con_at (Z.ns _ (by simp [Ad.all])), decide_eq_false (p := A.BadStop = A.BadWork) (ne_at Z 5 2 (by show _ < 42; decide) (by show _ < 42; decide) (by decide))])), ((Z.c_BadWork.exm Z.cS rfl).trans (by rw [List.contains_cons, List.contains_cons, BEq.rfl, Bool.true_or, Bool.or_true]))⟩
  · rintro C' fs Δ' ⟨rfl, rfl, rfl⟩ a oe d pn hz hf hn
    have hx : L2.ExcC K A.BadWork := Z.c_BadWork.exc (cB _) (cO _) Z.sp Z.ta
    refine sd_app (A := (· = dat K (.bool true))) 2 rfl (PD.is (pd_and (pd_isX hx hz hf T.z_isinstance (px_var 3 rfl) (pd_cls Z.m_BadWork.gC) ((Z.c_BadWork.kit Z.c_BadWork).trans (by rw [List.contains_cons, BEq.rfl, Bool.true_or]))) (pd_and (pd_cmp (ct_eq hr.units rfl rfl) (pd_xf (t := dat K (.int at_)) (Z.c_BadWork.xf (cB _)) Z.m_BadWork.no hz hf (px_var 3 rfl) rfl) (px_var 0 rfl) (nomark _)) (pd_one (pd_cmp (ct_eq hr.units (sh_str hwk) (sh_str hwk)) (pd_xf (t := dat K (.str wo)) (Z.c_BadWork.xf (cB _)) Z.m_BadWork.no' hz hf (px_var 3 rfl) rfl) (px_var 1 rfl) (nomark _))))) (by rw [eqv_me _ rfl, eqv_me _ rfl]; rfl)) (by rw [List.length_map]; decide) (fun t ht => ?_) rfl (by first | exact Or.inl rfl | exact Or.inr (Or.inl rfl)) (fun te pe => pe_bm PySem.F.plainAttrs_list PySem.F.slot_list_append PySem.F.type_list_append mt_append (pv 2) (pa_cons pe pa_nil))
    subst ht
    refine sd_nil ?_
    show SD _ _ ((defBody s__law_raised).drop 2) _ [.th (dat K (.int at_)), .th (dat K (.str wo)), .ml ((([.bool true] : List PyData)).map (dat K)), .no]
    exact k1
  · rintro C' fs Δ' ⟨_, _, rfl⟩ ts h
    cases h

end
end K00
set_option Elab.async false
set_option linter.all false
set_option maxRecDepth 100000
set_option maxHeartbeats 4000000
namespace K00
open PySem PySem.Spec PyProof.Rows L2 DL
section
variable {P : Program} {w : World} {K : PySem.W.Frag} {mg : Str → Option Value} {base : Heap} {f : Addr} {fd : FuncData}

theorem con_self {C S : Addr} : (Value.ref C :: Value.ref S :: VEs).contains (.ref S) = true := by rw [List.contains_cons, List.contains_cons, BEq.rfl, Bool.true_or, Bool.or_true]
theorem ok_law (F : Fun K "law" "law" s_law f fd) (T : Txt K mg) {A : Ad} (Z : Er P w K mg base A) (G__law_hand : Gd P w K mg base "_law_hand" 1 [] (RHand K)) (G__law_draw : Gd P w K mg base "_law_draw" 2 [] (RDraw K)) (G__law_name : Gd P w K mg base "_law_name" 3 [] (RName K)) (G__law_first : Gd P w K mg base "_law_first" 3 [] (Rfirst K A)) (G__law_second : Gd P w K mg base "_law_second" 3 [] (Rsecond K A)) (G__law_third : Gd P w K mg base "_law_third" 3 [] (Rthird K A)) (G__law_fourth : Gd P w K mg base "_law_fourth" 3 [] (Rfourth K A)) (G__law_classes : Gd P w K mg base "_law_classes" 1 [] (RClasses K A)) (G__law_raised : Gd P w K mg base "_law_raised" 3 [] (RRaised K)) : FnOk P w K mg base CX0 4 f fd ["_law_script"] (spT (RLaw K)) := by
  refine fn_mk F sc_law (fun ts A ⟨ns, e, _⟩ => by rw [e]; rfl) fun cdv Ar outer s H E hr ts B hR => ?_
  obtain ⟨ns, rfl, hns, rfl⟩ := hR
  refine sd_asg 1 (pd_call G__law_hand (hr.mono (by decide)) (pl_cons (px_var 0 rfl) pl_nil) ⟨_, rfl, by omega, rfl⟩) ?_ sc_law.nd
  refine sd_asgX 2 (px_opI0 op_add (P := fun _ => True) (R := fun _ => True) (px_opI op_mulO (R := fun _ => True) (px_draw (i := 1) G__law_draw (hr.mono (by decide)) rfl (pi_of (PD.is (t' := dat K (.int 1000000000)) (pd_pow px_int px_int ⟨by decide, by decide, by decide⟩) rfl)) (fun m hm => by subst hm; decide)) (pi_of (PD.is (t' := dat K (.int 1000000000)) (pd_pow px_int px_int ⟨by decide, by decide, by decide⟩) rfl)) (fun i j hi hj => ⟨mulR (by subst hj; decide), trivial⟩)) (px_draw (i := 1) G__law_draw (hr.mono (by decide)) rfl (pi_of (PD.is (t' := dat K (.int 1000000000)) (pd_pow px_int px_int ⟨by decide, by decide, by decide⟩) rfl)) (fun m hm => by subst hm; decide)) (fun _ _ _ _ => trivial)) (fun t ⟨at_, ht, _⟩ => ?_) sc_law.nd
  subst ht
  refine sd_asgX 3 (px_opI0 op_sub (R := fun _ => True) (pi_of (pd_neg px_int)) (px_draw (i := 1) G__law_draw (hr.mono (by decide)) rfl (pi_of (PD.is (t' := dat K (.int 1000000000)) (pd_pow px_int px_int ⟨by decide, by decide, by decide⟩) rfl)) (fun m hm => by subst hm; decide)) (fun _ _ _ _ => trivial)) (fun t ⟨to_, ht, _⟩ => ?_) sc_law.nd
  subst ht
  refine sd_asgX 4 (px_call G__law_name hr (pl_cons (px_var 1 rfl) pl_nil) (fun ts h => ⟨_, ⟨by rw [h]; rfl, rfl⟩, fun t h => h⟩)) (fun t ⟨wo, ht, hwo, hwk⟩ => ?_) sc_law.nd
  subst ht
  refine sd_asgX 5 (px_addS (Pa := fun z => z.length ≤ 9 ∧ PyData.strOk z = true) (Pb := (· = wo)) (R := fun z => PyData.strOk z = true) (px_addS (Pa := fun z => z.length ≤ 8 ∧ PyData.strOk z = true) (Pb := fun z => z.length ≤ 1 ∧ PyData.strOk z = true) (px_call G__law_name hr (pl_cons (px_var 1 rfl) pl_nil) (fun ts h => ⟨_, ⟨by rw [h]; rfl, rfl⟩, fun t h => h⟩)) (px_str.imp fun t h => ⟨_, h, by decide, by decide +kernel⟩) (fun x y hx hy => by rw [slen]; exact ⟨by omega, by omega, ok_app hx.2 hy.2⟩)) ((px_var 4 rfl : PD _ _ _ (dat K (.str wo))).imp fun t h => ⟨wo, h, rfl⟩) (fun x y hx hy => by subst hy; exact ⟨by omega, ok_app hx.2 hwk⟩)) (fun t ⟨na, ht, hnk⟩ => ?_) sc_law.nd
  subst ht
  refine sd_asg 6 (pd_catT (pd_catT (pd_call G__law_first hr (pl_cons (px_var 2 rfl) (pl_cons (px_var 3 rfl) (pl_cons (px_var 4 rfl) (pl_cons (px_var 5 rfl) pl_nil)))) ⟨at_, to_, wo, na, rfl, rfl⟩) (pd_call G__law_second hr (pl_cons (px_var 2 rfl) (pl_cons (px_var 3 rfl) (pl_cons (px_var 4 rfl) (pl_cons (px_var 5 rfl) pl_nil)))) ⟨at_, to_, wo, na, rfl, rfl⟩)) (pd_call G__law_third hr (pl_cons (px_var 2 rfl) (pl_cons (px_var 3 rfl) (pl_cons (px_var 4 rfl) (pl_cons (px_var 5 rfl) pl_nil)))) ⟨at_, to_, wo, na, rfl, rfl⟩)) ?_ sc_law.nd
  refine sd_asg 6 (PD.is (t' := lstT K ((rows K A at_ to_ wo na).map (rowT K))) (pd_catT (px_var 6 rfl) (pd_call G__law_fourth hr (pl_cons (px_var 2 rfl) (pl_cons (px_var 3 rfl) (pl_cons (px_var 4 rfl) (pl_cons (px_var 5 rfl) pl_nil)))) ⟨at_, to_, wo, na, rfl, rfl⟩)) (by unfold rows; rw [List.map_append, List.map_append, List.map_append]; rfl)) ?_ sc_law.nd
  have hml : ((rows K A at_ to_ wo na).map (rowT K)).length = 42 := rfl
  have hal : A.all.length = 42 := rfl
  generalize hrw : rows K A at_ to_ wo na = rw at *
  have hadr : rw.map (·.1) = A.all := by rw [← hrw]; rfl
  have hok : (rw.all fun r => noD (.list r.2.2) && SeqAt.shaped (.list r.2.2)) = true := by rw [← hrw]; exact rows_ok hwk hnk
  clear hrw
  refine sd_forR 7 (n := 42) (fun i Δ' => ∃ s7 s8 s9 s10 : Sl, Δ' = [.th (dat K (.list (ns.map .int))), .th handT, .th (dat K (.int at_)), .th (dat K (.int to_)), .th (dat K (.str wo)), .th (dat K (.str na)), .th (lstT K (rw.map (rowT K))), s7, s8, s9, s10, .no, .no]) T.z_range (PD.is (pd_lenT T.z_len (px_var 6 rfl)) (by rw [hml]; rfl)) (by decide) (by decide) ⟨.no, .no, .no, .no, rfl⟩ ?_ ?_ sc_law.nd
  · rintro i Δ' hi ⟨s7, s8, s9, s10, rfl⟩
    have hi2 : i < rw.length := by rw [List.length_map] at hml; omega
    have hi3 : i < A.all.length := by omega
    have hget : (rw.map (rowT K))[i]? = some (rowT K rw[i]) := by rw [List.getElem?_map, List.getElem?_eq_getElem hi2]; rfl
    have hC : rw[i].1 = A.all[i] := by
      have h : (rw.map (·.1))[i]? = A.all[i]? := by rw [hadr]
      rw [List.getElem?_map, List.getElem?_eq_getElem hi2, List.getElem?_eq_getElem hi3] at h
      exact Option.some.inj h
    have hsh := Bool.and_eq_true_iff.mp (List.all_eq_true.mp hok rw[i] (List.getElem_mem hi2))
    have he : ErS K (.ref A.S :: VEs) A.all[i] := cls_at Z _ (List.getElem_mem hi3)
    have hrow := cls_row Z hi3
    generalize rw[i] = r at *
    obtain ⟨C, fs, ds⟩ := r
    subst hC
    dsimp only at he hsh hrow
    have hx : L2.ExcC K A.all[i] := he.exc (cB _) (cO _) Z.sp Z.ta
    generalize A.all[i] = C at *
    refine sd_asgN [8, 9, 10] (ts := [exV C fs, dat K (.list ds), dat K (.list ds)]) (pd_ixT (px_var 6 rfl) (px_var 7 rfl) hget) rfl (pgs_cons (pg_name (i := 8) sc_law.nd rfl (Or.inl rfl)) (pgs_cons (pg_name (i := 9) sc_law.nd rfl (Or.inl rfl)) (pgs_cons (pg_name (i := 10) sc_law.nd rfl (Or.inl rfl)) pgs_nil))) ?_
    refine sd_skip (PB.is (PBW.pb (pwo (pb_cmp (ct_ne hr.units hsh.2 hsh.2) (px_var 9 rfl) (px_var 10 rfl) (nomark _)) (pwo (pb_not (pb_val (pd_isV hx T.z_isinstance (px_var 8 rfl) (pd_cls Z.mS.gC) (he.kit Z.cS)))) (pw1o (pb_not (pb_val (pd_isV hx T.z_isinstance (px_var 8 rfl) (pd_clsB T.z_VE) (he.kitB "ValueError")))))))) (by rw [eqv_me _ hsh.1, con_self]; rfl)) ?_
    refine sd_skip (PB.is (pb_cmp (ct_ne (d := clsD A C (.ref A.S :: VEs)) (d' := .list ((List.range 42).map fun j => .bool (decide (j = i)))) hr.units rfl rfl) (pd_call G__law_classes (hr.mono (by decide)) (pl_cons (px_var 8 rfl) pl_nil) ⟨C, _, fs, rfl, he, cB _, cO _, rfl⟩) ((px_lcR 12 (Nn := fun n => n = 42) (L := 42) (fun j w => w = .bool (decide (j = i))) T.z_range (pi_of (PD.is (pd_lenT T.z_len (px_var 6 rfl)) (by rw [hml]; rfl))) (fun n h => by omega) (by decide) (fun j hj _ _ _ _ _ => (pd_cmp (ct_eq hr.units rfl rfl) (px_var 12 rfl) (px_var 7 rfl) (nomark _)).imp fun t h => ⟨_, h, by congr 1; show ((j : Int) == (i : Int)) = _; exact Bool.eq_iff_iff.mpr (by simp; omega)⟩) sc_law.nd (blkOk_by (own := [("_law_other", 12)]) (N := ["_law_script", "_law_hand_here", "_law_at", "_law_to", "_law_word", "_law_name_here", "_law_made", "_law_k", "_law_error", "_law_told", "_law_due", "_law_base", "_law_other"]) (sc := defScope s_law) (by decide +kernel)) (fun _ _ _ _ _ => pg_name (i := 12) sc_law.nd rfl (Or.inl rfl))).imp fun t ⟨es, n, h1, h2, h3, h4⟩ => by
        rw [h1]
        congr 2
        refine List.ext_getElem (by rw [List.length_map, List.length_range]; omega) fun j q1 q2 => ?_
        rw [List.getElem_map, List.getElem_range]
        exact h4 j _ (List.getElem?_eq_getElem q1)) (by rfl)) (by rw [hrow, eqv_me _ rfl]; rfl)) ?_
    exact sd_nil ⟨_, _, _, _, rfl⟩
  · rintro Δ' ⟨s7, s8, s9, s10, rfl⟩
    have hx : L2.ExcC K A.S := Z.cS.exc rfl rfl Z.sp Z.ta
    refine sd_asg 11 (pd_mk0 Z.mS) ?_ sc_law.nd
    refine sd_skip (PB.is (PBW.pb (pwo (pb_not (pb_val (pd_isV hx T.z_isinstance (px_var 11 rfl) (pd_clsB T.z_VE) (Z.cS.kitB "ValueError")))) (pw1o (pb_cmp (ct_ne (d := clsD A A.S VEs) (d' := .list (List.replicate 42 [PyData.bool false]).flatten) hr.units rfl rfl) (pd_call G__law_classes (hr.mono (by decide)) (pl_cons (px_var 11 rfl) pl_nil) ⟨_, _, [], rfl, Z.cS, rfl, rfl, rfl⟩) (pd_rep (n := 42) (ds := [.bool false]) (pl_cons px_bool pl_nil) (PD.is (pd_lenT T.z_len (px_var 6 rfl)) (by rw [hml]))) (by rfl))))) (by rw [cls_base Z, eqv_me _ rfl]; rfl)) ?_
    refine sd_ret (PD.is (pd_and (pd_cmp (ct_eq hr.units rfl rfl) (PD.is (t' := dat K (.int 42)) (pd_lenT T.z_len (px_var 6 rfl)) (by rw [hml]; rfl)) px_int (nomark _)) (pd_one (pd_cmp (ct_eq hr.units rfl rfl) (pd_call G__law_raised hr (pl_cons (px_var 2 rfl) (pl_cons (px_var 4 rfl) pl_nil)) ⟨at_, wo, rfl, hwk, rfl⟩) (pd_lst (ds := [.bool true, .bool true, .bool true]) (pl_cons px_bool (pl_cons px_bool (pl_cons px_bool pl_nil)))) (by rfl)))) rfl) rfl

end
end K00
set_option Elab.async false
set_option linter.all false
set_option maxRecDepth 100000
namespace K00
open PySem PySem.Spec PyProof.Rows L2 DL
section
abbrev s_init_BadRatio : Stmt := inClass (top 2) 0
theorem sc_init_BadRatio : FnScope ["self", "what"] ["self", "what"] (defScope s_init_BadRatio) := ⟨rfl, rfl, rfl, by decide +kernel, rfl, by decide +kernel, by decide +kernel⟩
theorem ini_BadRatio {P : Program} {w : World} {K : PySem.W.Frag} {mg : Str → Option Value} {base : Heap} {f : Addr} {fd : FuncData} (F : Fun K "__init__" "BadRatio.__init__" s_init_BadRatio f fd) : Binds K fd ["self", "what"] [] ∧ FnOk P w K mg base CX0 1 f fd ["self", "what"] (spIni1 K "what") := by
  refine ⟨F.binds fun _ _ _ _ _ _ us hl => match us, hl with | [_, _], _ => rfl, ?_⟩
  refine F.ok sc_init_BadRatio (fun vs H Q E ⟨a, C, y, e, _⟩ => by rw [e]; rfl) fun cdv A outer s H vs Q E hr ⟨a, C, y, e, T, hno, ha, k⟩ => ?_
  subst e
  refine ⟨_, pss_one (ps_ost (pv 0) (pv 1)), ?_⟩
  exact ⟨_, rfl, _, rfl, a, C, rfl, T, hno, Or.inl ⟨ha, fun dx hd hne => k dx hd hne⟩⟩
abbrev s_init_BadWork : Stmt := inClass (top 4) 0
theorem sc_init_BadWork : FnScope ["self", "index", "what"] ["self", "index", "what"] (defScope s_init_BadWork) := ⟨rfl, rfl, rfl, by decide +kernel, rfl, by decide +kernel, by decide +kernel⟩
theorem ini_BadWork {P : Program} {w : World} {K : PySem.W.Frag} {mg : Str → Option Value} {base : Heap} {f : Addr} {fd : FuncData} (F : Fun K "__init__" "BadWork.__init__" s_init_BadWork f fd) : Binds K fd ["self", "index", "what"] [] ∧ FnOk P w K mg base CX0 1 f fd ["self", "index", "what"] (spIni2 K "index" "what") := by
  refine ⟨F.binds fun _ _ _ _ _ _ us hl => match us, hl with | [_, _, _], _ => rfl, ?_⟩
  refine F.ok sc_init_BadWork (fun vs H Q E ⟨a, C, y, y', e, _⟩ => by rw [e]; rfl) fun cdv A outer s H vs Q E hr ⟨a, C, y, y', e, T, hno, hno', ha, k⟩ => ?_
  subst e
  refine ⟨_, pss_cons (ps_ost (pv 0) (pv 1)) (pss_one (ps_ost (pv 0) (pv 2))), ?_⟩
  exact ⟨_, rfl, _, rfl, a, C, rfl, T, hno, Or.inl ⟨ha, fun dx hd hne => ⟨_, rfl, _, rfl, a, C, rfl, T, hno', Or.inr ⟨dx, _, upd_same, by rw [upd_ne hne]; exact upd_same, by show 1 ≤ 900; decide, k dx hd hne⟩⟩⟩⟩
abbrev s_init_NoSide : Stmt := inClass (top 5) 0
theorem sc_init_NoSide : FnScope ["self", "side"] ["self", "side"] (defScope s_init_NoSide) := ⟨rfl, rfl, rfl, by decide +kernel, rfl, by decide +kernel, by decide +kernel⟩
theorem ini_NoSide {P : Program} {w : World} {K : PySem.W.Frag} {mg : Str → Option Value} {base : Heap} {f : Addr} {fd : FuncData} (F : Fun K "__init__" "NoSide.__init__" s_init_NoSide f fd) : Binds K fd ["self", "side"] [] ∧ FnOk P w K mg base CX0 1 f fd ["self", "side"] (spIni1 K "side") := by
  refine ⟨F.binds fun _ _ _ _ _ _ us hl => match us, hl with | [_, _], _ => rfl, ?_⟩
  refine F.ok sc_init_NoSide (fun vs H Q E ⟨a, C, y, e, _⟩ => by rw [e]; rfl) fun cdv A outer s H vs Q E hr ⟨a, C, y, e, T, hno, ha, k⟩ => ?_
  subst e
  refine ⟨_, pss_one (ps_ost (pv 0) (pv 1)), ?_⟩
  exact ⟨_, rfl, _, rfl, a, C, rfl, T, hno, Or.inl ⟨ha, fun dx hd hne => k dx hd hne⟩⟩
abbrev s_init_BadStop : Stmt := inClass (top 7) 0
theorem sc_init_BadStop : FnScope ["self", "index", "what"] ["self", "index", "what"] (defScope s_init_BadStop) := ⟨rfl, rfl, rfl, by decide +kernel, rfl, by decide +kernel, by decide +kernel⟩
theorem ini_BadStop {P : Program} {w : World} {K : PySem.W.Frag} {mg : Str → Option Value} {base : Heap} {f : Addr} {fd : FuncData} (F : Fun K "__init__" "BadStop.__init__" s_init_BadStop f fd) : Binds K fd ["self", "index", "what"] [] ∧ FnOk P w K mg base CX0 1 f fd ["self", "index", "what"] (spIni2 K "index" "what") := by
  refine ⟨F.binds fun _ _ _ _ _ _ us hl => match us, hl with | [_, _, _], _ => rfl, ?_⟩
  refine F.ok sc_init_BadStop (fun vs H Q E ⟨a, C, y, y', e, _⟩ => by rw [e]; rfl) fun cdv A outer s H vs Q E hr ⟨a, C, y, y', e, T, hno, hno', ha, k⟩ => ?_
  subst e
  refine ⟨_, pss_cons (ps_ost (pv 0) (pv 1)) (pss_one (ps_ost (pv 0) (pv 2))), ?_⟩
  exact ⟨_, rfl, _, rfl, a, C, rfl, T, hno, Or.inl ⟨ha, fun dx hd hne => ⟨_, rfl, _, rfl, a, C, rfl, T, hno', Or.inr ⟨dx, _, upd_same, by rw [upd_ne hne]; exact upd_same, by show 1 ≤ 900; decide, k dx hd hne⟩⟩⟩⟩
abbrev s_init_BadText : Stmt := inClass (top 8) 0
theorem sc_init_BadText : FnScope ["self", "word", "what"] ["self", "word", "what"] (defScope s_init_BadText) := ⟨rfl, rfl, rfl, by decide +kernel, rfl, by decide +kernel, by decide +kernel⟩
theorem ini_BadText {P : Program} {w : World} {K : PySem.W.Frag} {mg : Str → Option Value} {base : Heap} {f : Addr} {fd : FuncData} (F : Fun K "__init__" "BadText.__init__" s_init_BadText f fd) : Binds K fd ["self", "word", "what"] [] ∧ FnOk P w K mg base CX0 1 f fd ["self", "word", "what"] (spIni2 K "word" "what") := by
  refine ⟨F.binds fun _ _ _ _ _ _ us hl => match us, hl with | [_, _, _], _ => rfl, ?_⟩
  refine F.ok sc_init_BadText (fun vs H Q E ⟨a, C, y, y', e, _⟩ => by rw [e]; rfl) fun cdv A outer s H vs Q E hr ⟨a, C, y, y', e, T, hno, hno', ha, k⟩ => ?_
  subst e
  refine ⟨_, pss_cons (ps_ost (pv 0) (pv 1)) (pss_one (ps_ost (pv 0) (pv 2))), ?_⟩
  exact ⟨_, rfl, _, rfl, a, C, rfl, T, hno, Or.inl ⟨ha, fun dx hd hne => ⟨_, rfl, _, rfl, a, C, rfl, T, hno', Or.inr ⟨dx, _, upd_same, by rw [upd_ne hne]; exact upd_same, by show 1 ≤ 900; decide, k dx hd hne⟩⟩⟩⟩
abbrev s_init_BadNumbers : Stmt := inClass (top 15) 0
theorem sc_init_BadNumbers : FnScope ["self", "what"] ["self", "what"] (defScope s_init_BadNumbers) := ⟨rfl, rfl, rfl, by decide +kernel, rfl, by decide +kernel, by decide +kernel⟩
theorem ini_BadNumbers {P : Program} {w : World} {K : PySem.W.Frag} {mg : Str → Option Value} {base : Heap} {f : Addr} {fd : FuncData} (F : Fun K "__init__" "BadNumbers.__init__" s_init_BadNumbers f fd) : Binds K fd ["self", "what"] [] ∧ FnOk P w K mg base CX0 1 f fd ["self", "what"] (spIni1 K "what") := by
  refine ⟨F.binds fun _ _ _ _ _ _ us hl => match us, hl with | [_, _], _ => rfl, ?_⟩
  refine F.ok sc_init_BadNumbers (fun vs H Q E ⟨a, C, y, e, _⟩ => by rw [e]; rfl) fun cdv A outer s H vs Q E hr ⟨a, C, y, e, T, hno, ha, k⟩ => ?_
  subst e
  refine ⟨_, pss_one (ps_ost (pv 0) (pv 1)), ?_⟩
  exact ⟨_, rfl, _, rfl, a, C, rfl, T, hno, Or.inl ⟨ha, fun dx hd hne => k dx hd hne⟩⟩
abbrev s_init_LowRank : Stmt := inClass (top 16) 0
theorem sc_init_LowRank : FnScope ["self", "rank"] ["self", "rank"] (defScope s_init_LowRank) := ⟨rfl, rfl, rfl, by decide +kernel, rfl, by decide +kernel, by decide +kernel⟩
theorem ini_LowRank {P : Program} {w : World} {K : PySem.W.Frag} {mg : Str → Option Value} {base : Heap} {f : Addr} {fd : FuncData} (F : Fun K "__init__" "LowRank.__init__" s_init_LowRank f fd) : Binds K fd ["self", "rank"] [] ∧ FnOk P w K mg base CX0 1 f fd ["self", "rank"] (spIni1 K "rank") := by
  refine ⟨F.binds fun _ _ _ _ _ _ us hl => match us, hl with | [_, _], _ => rfl, ?_⟩
  refine F.ok sc_init_LowRank (fun vs H Q E ⟨a, C, y, e, _⟩ => by rw [e]; rfl) fun cdv A outer s H vs Q E hr ⟨a, C, y, e, T, hno, ha, k⟩ => ?_
  subst e
  refine ⟨_, pss_one (ps_ost (pv 0) (pv 1)), ?_⟩
  exact ⟨_, rfl, _, rfl, a, C, rfl, T, hno, Or.inl ⟨ha, fun dx hd hne => k dx hd hne⟩⟩
abbrev s_init_NoStop : Stmt := inClass (top 17) 0
theorem sc_init_NoStop : FnScope ["self", "number"] ["self", "number"] (defScope s_init_NoStop) := ⟨rfl, rfl, rfl, by decide +kernel, rfl, by decide +kernel, by decide +kernel⟩
theorem ini_NoStop {P : Program} {w : World} {K : PySem.W.Frag} {mg : Str → Option Value} {base : Heap} {f : Addr} {fd : FuncData} (F : Fun K "__init__" "NoStop.__init__" s_init_NoStop f fd) : Binds K fd ["self", "number"] [] ∧ FnOk P w K mg base CX0 1 f fd ["self", "number"] (spIni1 K "number") := by
  refine ⟨F.binds fun _ _ _ _ _ _ us hl => match us, hl with | [_, _], _ => rfl, ?_⟩
  refine F.ok sc_init_NoStop (fun vs H Q E ⟨a, C, y, e, _⟩ => by rw [e]; rfl) fun cdv A outer s H vs Q E hr ⟨a, C, y, e, T, hno, ha, k⟩ => ?_
  subst e
  refine ⟨_, pss_one (ps_ost (pv 0) (pv 1)), ?_⟩
  exact ⟨_, rfl, _, rfl, a, C, rfl, T, hno, Or.inl ⟨ha, fun dx hd hne => k dx hd hne⟩⟩
abbrev s_init_BadShares : Stmt := inClass (top 18) 0
theorem sc_init_BadShares : FnScope ["self", "index"] ["self", "index"] (defScope s_init_BadShares) := ⟨rfl, rfl, rfl, by decide +kernel, rfl, by decide +kernel, by decide +kernel⟩
theorem ini_BadShares {P : Program} {w : World} {K : PySem.W.Frag} {mg : Str → Option Value} {base : Heap} {f : Addr} {fd : FuncData} (F : Fun K "__init__" "BadShares.__init__" s_init_BadShares f fd) : Binds K fd ["self", "index"] [] ∧ FnOk P w K mg base CX0 1 f fd ["self", "index"] (spIni1 K "index") := by
  refine ⟨F.binds fun _ _ _ _ _ _ us hl => match us, hl with | [_, _], _ => rfl, ?_⟩
  refine F.ok sc_init_BadShares (fun vs H Q E ⟨a, C, y, e, _⟩ => by rw [e]; rfl) fun cdv A outer s H vs Q E hr ⟨a, C, y, e, T, hno, ha, k⟩ => ?_
  subst e
  refine ⟨_, pss_one (ps_ost (pv 0) (pv 1)), ?_⟩
  exact ⟨_, rfl, _, rfl, a, C, rfl, T, hno, Or.inl ⟨ha, fun dx hd hne => k dx hd hne⟩⟩
abbrev s_init_WornOut : Stmt := inClass (top 19) 0
theorem sc_init_WornOut : FnScope ["self", "side"] ["self", "side"] (defScope s_init_WornOut) := ⟨rfl, rfl, rfl, by decide +kernel, rfl, by decide +kernel, by decide +kernel⟩
theorem ini_WornOut {P : Program} {w : World} {K : PySem.W.Frag} {mg : Str → Option Value} {base : Heap} {f : Addr} {fd : FuncData} (F : Fun K "__init__" "WornOut.__init__" s_init_WornOut f fd) : Binds K fd ["self", "side"] [] ∧ FnOk P w K mg base CX0 1 f fd ["self", "side"] (spIni1 K "side") := by
  refine ⟨F.binds fun _ _ _ _ _ _ us hl => match us, hl with | [_, _], _ => rfl, ?_⟩
  refine F.ok sc_init_WornOut (fun vs H Q E ⟨a, C, y, e, _⟩ => by rw [e]; rfl) fun cdv A outer s H vs Q E hr ⟨a, C, y, e, T, hno, ha, k⟩ => ?_
  subst e
  refine ⟨_, pss_one (ps_ost (pv 0) (pv 1)), ?_⟩
  exact ⟨_, rfl, _, rfl, a, C, rfl, T, hno, Or.inl ⟨ha, fun dx hd hne => k dx hd hne⟩⟩
abbrev s_init_NoMeeting : Stmt := inClass (top 20) 0
theorem sc_init_NoMeeting : FnScope ["self", "index"] ["self", "index"] (defScope s_init_NoMeeting) := ⟨rfl, rfl, rfl, by decide +kernel, rfl, by decide +kernel, by decide +kernel⟩
theorem ini_NoMeeting {P : Program} {w : World} {K : PySem.W.Frag} {mg : Str → Option Value} {base : Heap} {f : Addr} {fd : FuncData} (F : Fun K "__init__" "NoMeeting.__init__" s_init_NoMeeting f fd) : Binds K fd ["self", "index"] [] ∧ FnOk P w K mg base CX0 1 f fd ["self", "index"] (spIni1 K "index") := by
  refine ⟨F.binds fun _ _ _ _ _ _ us hl => match us, hl with | [_, _], _ => rfl, ?_⟩
  refine F.ok sc_init_NoMeeting (fun vs H Q E ⟨a, C, y, e, _⟩ => by rw [e]; rfl) fun cdv A outer s H vs Q E hr ⟨a, C, y, e, T, hno, ha, k⟩ => ?_
  subst e
  refine ⟨_, pss_one (ps_ost (pv 0) (pv 1)), ?_⟩
  exact ⟨_, rfl, _, rfl, a, C, rfl, T, hno, Or.inl ⟨ha, fun dx hd hne => k dx hd hne⟩⟩
abbrev s_init_BadHalves : Stmt := inClass (top 21) 0
theorem sc_init_BadHalves : FnScope ["self", "index"] ["self", "index"] (defScope s_init_BadHalves) := ⟨rfl, rfl, rfl, by decide +kernel, rfl, by decide +kernel, by decide +kernel⟩
theorem ini_BadHalves {P : Program} {w : World} {K : PySem.W.Frag} {mg : Str → Option Value} {base : Heap} {f : Addr} {fd : FuncData} (F : Fun K "__init__" "BadHalves.__init__" s_init_BadHalves f fd) : Binds K fd ["self", "index"] [] ∧ FnOk P w K mg base CX0 1 f fd ["self", "index"] (spIni1 K "index") := by
  refine ⟨F.binds fun _ _ _ _ _ _ us hl => match us, hl with | [_, _], _ => rfl, ?_⟩
  refine F.ok sc_init_BadHalves (fun vs H Q E ⟨a, C, y, e, _⟩ => by rw [e]; rfl) fun cdv A outer s H vs Q E hr ⟨a, C, y, e, T, hno, ha, k⟩ => ?_
  subst e
  refine ⟨_, pss_one (ps_ost (pv 0) (pv 1)), ?_⟩
  exact ⟨_, rfl, _, rfl, a, C, rfl, T, hno, Or.inl ⟨ha, fun dx hd hne => k dx hd hne⟩⟩
abbrev s_init_BadStretch : Stmt := inClass (top 25) 0
theorem sc_init_BadStretch : FnScope ["self", "index", "what"] ["self", "index", "what"] (defScope s_init_BadStretch) := ⟨rfl, rfl, rfl, by decide +kernel, rfl, by decide +kernel, by decide +kernel⟩
theorem ini_BadStretch {P : Program} {w : World} {K : PySem.W.Frag} {mg : Str → Option Value} {base : Heap} {f : Addr} {fd : FuncData} (F : Fun K "__init__" "BadStretch.__init__" s_init_BadStretch f fd) : Binds K fd ["self", "index", "what"] [] ∧ FnOk P w K mg base CX0 1 f fd ["self", "index", "what"] (spIni2 K "index" "what") := by
  refine ⟨F.binds fun _ _ _ _ _ _ us hl => match us, hl with | [_, _, _], _ => rfl, ?_⟩
  refine F.ok sc_init_BadStretch (fun vs H Q E ⟨a, C, y, y', e, _⟩ => by rw [e]; rfl) fun cdv A outer s H vs Q E hr ⟨a, C, y, y', e, T, hno, hno', ha, k⟩ => ?_
  subst e
  refine ⟨_, pss_cons (ps_ost (pv 0) (pv 1)) (pss_one (ps_ost (pv 0) (pv 2))), ?_⟩
  exact ⟨_, rfl, _, rfl, a, C, rfl, T, hno, Or.inl ⟨ha, fun dx hd hne => ⟨_, rfl, _, rfl, a, C, rfl, T, hno', Or.inr ⟨dx, _, upd_same, by rw [upd_ne hne]; exact upd_same, by show 1 ≤ 900; decide, k dx hd hne⟩⟩⟩⟩
abbrev s_init_BadMost : Stmt := inClass (top 28) 0
theorem sc_init_BadMost : FnScope ["self", "most"] ["self", "most"] (defScope s_init_BadMost) := ⟨rfl, rfl, rfl, by decide +kernel, rfl, by decide +kernel, by decide +kernel⟩
theorem ini_BadMost {P : Program} {w : World} {K : PySem.W.Frag} {mg : Str → Option Value} {base : Heap} {f : Addr} {fd : FuncData} (F : Fun K "__init__" "BadMost.__init__" s_init_BadMost f fd) : Binds K fd ["self", "most"] [] ∧ FnOk P w K mg base CX0 1 f fd ["self", "most"] (spIni1 K "most") := by
  refine ⟨F.binds fun _ _ _ _ _ _ us hl => match us, hl with | [_, _], _ => rfl, ?_⟩
  refine F.ok sc_init_BadMost (fun vs H Q E ⟨a, C, y, e, _⟩ => by rw [e]; rfl) fun cdv A outer s H vs Q E hr ⟨a, C, y, e, T, hno, ha, k⟩ => ?_
  subst e
  refine ⟨_, pss_one (ps_ost (pv 0) (pv 1)), ?_⟩
  exact ⟨_, rfl, _, rfl, a, C, rfl, T, hno, Or.inl ⟨ha, fun dx hd hne => k dx hd hne⟩⟩
abbrev s_init_BadBounds : Stmt := inClass (top 29) 0
theorem sc_init_BadBounds : FnScope ["self", "index", "what"] ["self", "index", "what"] (defScope s_init_BadBounds) := ⟨rfl, rfl, rfl, by decide +kernel, rfl, by decide +kernel, by decide +kernel⟩
theorem ini_BadBounds {P : Program} {w : World} {K : PySem.W.Frag} {mg : Str → Option Value} {base : Heap} {f : Addr} {fd : FuncData} (F : Fun K "__init__" "BadBounds.__init__" s_init_BadBounds f fd) : Binds K fd ["self", "index", "what"] [] ∧ FnOk P w K mg base CX0 1 f fd ["self", "index", "what"] (spIni2 K "index" "what") := by
  refine ⟨F.binds fun _ _ _ _ _ _ us hl => match us, hl with | [_, _, _], _ => rfl, ?_⟩
  refine F.ok sc_init_BadBounds (fun vs H Q E ⟨a, C, y, y', e, _⟩ => by rw [e]; rfl) fun cdv A outer s H vs Q E hr ⟨a, C, y, y', e, T, hno, hno', ha, k⟩ => ?_
  subst e
  refine ⟨_, pss_cons (ps_ost (pv 0) (pv 1)) (pss_one (ps_ost (pv 0) (pv 2))), ?_⟩
  exact ⟨_, rfl, _, rfl, a, C, rfl, T, hno, Or.inl ⟨ha, fun dx hd hne => ⟨_, rfl, _, rfl, a, C, rfl, T, hno', Or.inr ⟨dx, _, upd_same, by rw [upd_ne hne]; exact upd_same, by show 1 ≤ 900; decide, k dx hd hne⟩⟩⟩⟩
abbrev s_init_BadAim : Stmt := inClass (top 30) 0
theorem sc_init_BadAim : FnScope ["self", "aim"] ["self", "aim"] (defScope s_init_BadAim) := ⟨rfl, rfl, rfl, by decide +kernel, rfl, by decide +kernel, by decide +kernel⟩
theorem ini_BadAim {P : Program} {w : World} {K : PySem.W.Frag} {mg : Str → Option Value} {base : Heap} {f : Addr} {fd : FuncData} (F : Fun K "__init__" "BadAim.__init__" s_init_BadAim f fd) : Binds K fd ["self", "aim"] [] ∧ FnOk P w K mg base CX0 1 f fd ["self", "aim"] (spIni1 K "aim") := by
  refine ⟨F.binds fun _ _ _ _ _ _ us hl => match us, hl with | [_, _], _ => rfl, ?_⟩
  refine F.ok sc_init_BadAim (fun vs H Q E ⟨a, C, y, e, _⟩ => by rw [e]; rfl) fun cdv A outer s H vs Q E hr ⟨a, C, y, e, T, hno, ha, k⟩ => ?_
  subst e
  refine ⟨_, pss_one (ps_ost (pv 0) (pv 1)), ?_⟩
  exact ⟨_, rfl, _, rfl, a, C, rfl, T, hno, Or.inl ⟨ha, fun dx hd hne => k dx hd hne⟩⟩
abbrev s_init_BadCount : Stmt := inClass (top 31) 0
theorem sc_init_BadCount : FnScope ["self", "count"] ["self", "count"] (defScope s_init_BadCount) := ⟨rfl, rfl, rfl, by decide +kernel, rfl, by decide +kernel, by decide +kernel⟩
theorem ini_BadCount {P : Program} {w : World} {K : PySem.W.Frag} {mg : Str → Option Value} {base : Heap} {f : Addr} {fd : FuncData} (F : Fun K "__init__" "BadCount.__init__" s_init_BadCount f fd) : Binds K fd ["self", "count"] [] ∧ FnOk P w K mg base CX0 1 f fd ["self", "count"] (spIni1 K "count") := by
  refine ⟨F.binds fun _ _ _ _ _ _ us hl => match us, hl with | [_, _], _ => rfl, ?_⟩
  refine F.ok sc_init_BadCount (fun vs H Q E ⟨a, C, y, e, _⟩ => by rw [e]; rfl) fun cdv A outer s H vs Q E hr ⟨a, C, y, e, T, hno, ha, k⟩ => ?_
  subst e
  refine ⟨_, pss_one (ps_ost (pv 0) (pv 1)), ?_⟩
  exact ⟨_, rfl, _, rfl, a, C, rfl, T, hno, Or.inl ⟨ha, fun dx hd hne => k dx hd hne⟩⟩
abbrev s_init_BadSides : Stmt := inClass (top 32) 0
theorem sc_init_BadSides : FnScope ["self", "sides"] ["self", "sides"] (defScope s_init_BadSides) := ⟨rfl, rfl, rfl, by decide +kernel, rfl, by decide +kernel, by decide +kernel⟩
theorem ini_BadSides {P : Program} {w : World} {K : PySem.W.Frag} {mg : Str → Option Value} {base : Heap} {f : Addr} {fd : FuncData} (F : Fun K "__init__" "BadSides.__init__" s_init_BadSides f fd) : Binds K fd ["self", "sides"] [] ∧ FnOk P w K mg base CX0 1 f fd ["self", "sides"] (spIni1 K "sides") := by
  refine ⟨F.binds fun _ _ _ _ _ _ us hl => match us, hl with | [_, _], _ => rfl, ?_⟩
  refine F.ok sc_init_BadSides (fun vs H Q E ⟨a, C, y, e, _⟩ => by rw [e]; rfl) fun cdv A outer s H vs Q E hr ⟨a, C, y, e, T, hno, ha, k⟩ => ?_
  subst e
  refine ⟨_, pss_one (ps_ost (pv 0) (pv 1)), ?_⟩
  exact ⟨_, rfl, _, rfl, a, C, rfl, T, hno, Or.inl ⟨ha, fun dx hd hne => k dx hd hne⟩⟩
abbrev s_init_BadPosts : Stmt := inClass (top 34) 0
theorem sc_init_BadPosts : FnScope ["self", "index", "what"] ["self", "index", "what"] (defScope s_init_BadPosts) := ⟨rfl, rfl, rfl, by decide +kernel, rfl, by decide +kernel, by decide +kernel⟩
theorem ini_BadPosts {P : Program} {w : World} {K : PySem.W.Frag} {mg : Str → Option Value} {base : Heap} {f : Addr} {fd : FuncData} (F : Fun K "__init__" "BadPosts.__init__" s_init_BadPosts f fd) : Binds K fd ["self", "index", "what"] [] ∧ FnOk P w K mg base CX0 1 f fd ["self", "index", "what"] (spIni2 K "index" "what") := by
  refine ⟨F.binds fun _ _ _ _ _ _ us hl => match us, hl with | [_, _, _], _ => rfl, ?_⟩
  refine F.ok sc_init_BadPosts (fun vs H Q E ⟨a, C, y, y', e, _⟩ => by rw [e]; rfl) fun cdv A outer s H vs Q E hr ⟨a, C, y, y', e, T, hno, hno', ha, k⟩ => ?_
  subst e
  refine ⟨_, pss_cons (ps_ost (pv 0) (pv 1)) (pss_one (ps_ost (pv 0) (pv 2))), ?_⟩
  exact ⟨_, rfl, _, rfl, a, C, rfl, T, hno, Or.inl ⟨ha, fun dx hd hne => ⟨_, rfl, _, rfl, a, C, rfl, T, hno', Or.inr ⟨dx, _, upd_same, by rw [upd_ne hne]; exact upd_same, by show 1 ≤ 900; decide, k dx hd hne⟩⟩⟩⟩
abbrev s_init_NoSeats : Stmt := inClass (top 37) 0
theorem sc_init_NoSeats : FnScope ["self", "what"] ["self", "what"] (defScope s_init_NoSeats) := ⟨rfl, rfl, rfl, by decide +kernel, rfl, by decide +kernel, by decide +kernel⟩
theorem ini_NoSeats {P : Program} {w : World} {K : PySem.W.Frag} {mg : Str → Option Value} {base : Heap} {f : Addr} {fd : FuncData} (F : Fun K "__init__" "NoSeats.__init__" s_init_NoSeats f fd) : Binds K fd ["self", "what"] [] ∧ FnOk P w K mg base CX0 1 f fd ["self", "what"] (spIni1 K "what") := by
  refine ⟨F.binds fun _ _ _ _ _ _ us hl => match us, hl with | [_, _], _ => rfl, ?_⟩
  refine F.ok sc_init_NoSeats (fun vs H Q E ⟨a, C, y, e, _⟩ => by rw [e]; rfl) fun cdv A outer s H vs Q E hr ⟨a, C, y, e, T, hno, ha, k⟩ => ?_
  subst e
  refine ⟨_, pss_one (ps_ost (pv 0) (pv 1)), ?_⟩
  exact ⟨_, rfl, _, rfl, a, C, rfl, T, hno, Or.inl ⟨ha, fun dx hd hne => k dx hd hne⟩⟩
abbrev s_init_BadSlips : Stmt := inClass (top 38) 0
theorem sc_init_BadSlips : FnScope ["self", "index", "what"] ["self", "index", "what"] (defScope s_init_BadSlips) := ⟨rfl, rfl, rfl, by decide +kernel, rfl, by decide +kernel, by decide +kernel⟩
theorem ini_BadSlips {P : Program} {w : World} {K : PySem.W.Frag} {mg : Str → Option Value} {base : Heap} {f : Addr} {fd : FuncData} (F : Fun K "__init__" "BadSlips.__init__" s_init_BadSlips f fd) : Binds K fd ["self", "index", "what"] [] ∧ FnOk P w K mg base CX0 1 f fd ["self", "index", "what"] (spIni2 K "index" "what") := by
  refine ⟨F.binds fun _ _ _ _ _ _ us hl => match us, hl with | [_, _, _], _ => rfl, ?_⟩
  refine F.ok sc_init_BadSlips (fun vs H Q E ⟨a, C, y, y', e, _⟩ => by rw [e]; rfl) fun cdv A outer s H vs Q E hr ⟨a, C, y, y', e, T, hno, hno', ha, k⟩ => ?_
  subst e
  refine ⟨_, pss_cons (ps_ost (pv 0) (pv 1)) (pss_one (ps_ost (pv 0) (pv 2))), ?_⟩
  exact ⟨_, rfl, _, rfl, a, C, rfl, T, hno, Or.inl ⟨ha, fun dx hd hne => ⟨_, rfl, _, rfl, a, C, rfl, T, hno', Or.inr ⟨dx, _, upd_same, by rw [upd_ne hne]; exact upd_same, by show 1 ≤ 900; decide, k dx hd hne⟩⟩⟩⟩
abbrev s_init_BadSlacks : Stmt := inClass (top 39) 0
theorem sc_init_BadSlacks : FnScope ["self", "index", "what"] ["self", "index", "what"] (defScope s_init_BadSlacks) := ⟨rfl, rfl, rfl, by decide +kernel, rfl, by decide +kernel, by decide +kernel⟩
theorem ini_BadSlacks {P : Program} {w : World} {K : PySem.W.Frag} {mg : Str → Option Value} {base : Heap} {f : Addr} {fd : FuncData} (F : Fun K "__init__" "BadSlacks.__init__" s_init_BadSlacks f fd) : Binds K fd ["self", "index", "what"] [] ∧ FnOk P w K mg base CX0 1 f fd ["self", "index", "what"] (spIni2 K "index" "what") := by
  refine ⟨F.binds fun _ _ _ _ _ _ us hl => match us, hl with | [_, _, _], _ => rfl, ?_⟩
  refine F.ok sc_init_BadSlacks (fun vs H Q E ⟨a, C, y, y', e, _⟩ => by rw [e]; rfl) fun cdv A outer s H vs Q E hr ⟨a, C, y, y', e, T, hno, hno', ha, k⟩ => ?_
  subst e
  refine ⟨_, pss_cons (ps_ost (pv 0) (pv 1)) (pss_one (ps_ost (pv 0) (pv 2))), ?_⟩
  exact ⟨_, rfl, _, rfl, a, C, rfl, T, hno, Or.inl ⟨ha, fun dx hd hne => ⟨_, rfl, _, rfl, a, C, rfl, T, hno', Or.inr ⟨dx, _, upd_same, by rw [upd_ne hne]; exact upd_same, by show 1 ≤ 900; decide, k dx hd hne⟩⟩⟩⟩
abbrev s_init_BadChange : Stmt := inClass (top 41) 0
theorem sc_init_BadChange : FnScope ["self", "index", "what"] ["self", "index", "what"] (defScope s_init_BadChange) := ⟨rfl, rfl, rfl, by decide +kernel, rfl, by decide +kernel, by decide +kernel⟩
theorem ini_BadChange {P : Program} {w : World} {K : PySem.W.Frag} {mg : Str → Option Value} {base : Heap} {f : Addr} {fd : FuncData} (F : Fun K "__init__" "BadChange.__init__" s_init_BadChange f fd) : Binds K fd ["self", "index", "what"] [] ∧ FnOk P w K mg base CX0 1 f fd ["self", "index", "what"] (spIni2 K "index" "what") := by
  refine ⟨F.binds fun _ _ _ _ _ _ us hl => match us, hl with | [_, _, _], _ => rfl, ?_⟩
  refine F.ok sc_init_BadChange (fun vs H Q E ⟨a, C, y, y', e, _⟩ => by rw [e]; rfl) fun cdv A outer s H vs Q E hr ⟨a, C, y, y', e, T, hno, hno', ha, k⟩ => ?_
  subst e
  refine ⟨_, pss_cons (ps_ost (pv 0) (pv 1)) (pss_one (ps_ost (pv 0) (pv 2))), ?_⟩
  exact ⟨_, rfl, _, rfl, a, C, rfl, T, hno, Or.inl ⟨ha, fun dx hd hne => ⟨_, rfl, _, rfl, a, C, rfl, T, hno', Or.inr ⟨dx, _, upd_same, by rw [upd_ne hne]; exact upd_same, by show 1 ≤ 900; decide, k dx hd hne⟩⟩⟩⟩
abbrev s_init_BadWish : Stmt := inClass (top 42) 0
theorem sc_init_BadWish : FnScope ["self", "index", "what"] ["self", "index", "what"] (defScope s_init_BadWish) := ⟨rfl, rfl, rfl, by decide +kernel, rfl, by decide +kernel, by decide +kernel⟩
theorem ini_BadWish {P : Program} {w : World} {K : PySem.W.Frag} {mg : Str → Option Value} {base : Heap} {f : Addr} {fd : FuncData} (F : Fun K "__init__" "BadWish.__init__" s_init_BadWish f fd) : Binds K fd ["self", "index", "what"] [] ∧ FnOk P w K mg base CX0 1 f fd ["self", "index", "what"] (spIni2 K "index" "what") := by
  refine ⟨F.binds fun _ _ _ _ _ _ us hl => match us, hl with | [_, _, _], _ => rfl, ?_⟩
  refine F.ok sc_init_BadWish (fun vs H Q E ⟨a, C, y, y', e, _⟩ => by rw [e]; rfl) fun cdv A outer s H vs Q E hr ⟨a, C, y, y', e, T, hno, hno', ha, k⟩ => ?_
  subst e
  refine ⟨_, pss_cons (ps_ost (pv 0) (pv 1)) (pss_one (ps_ost (pv 0) (pv 2))), ?_⟩
  exact ⟨_, rfl, _, rfl, a, C, rfl, T, hno, Or.inl ⟨ha, fun dx hd hne => ⟨_, rfl, _, rfl, a, C, rfl, T, hno', Or.inr ⟨dx, _, upd_same, by rw [upd_ne hne]; exact upd_same, by show 1 ≤ 900; decide, k dx hd hne⟩⟩⟩⟩
theorem bd__law_mix {K : PySem.W.Frag} {f : Addr} {fd : FuncData} (F : Fun K "_law_mix" "_law_mix" s__law_mix f fd) : Binds K fd ["_law_number", "_law_turn"] [] := F.binds fun _ _ _ _ _ _ us hl => match us, hl with | [_, _], _ => rfl
theorem bd__law_hand {K : PySem.W.Frag} {f : Addr} {fd : FuncData} (F : Fun K "_law_hand" "_law_hand" s__law_hand f fd) : Binds K fd ["_law_script"] [] := F.binds fun _ _ _ _ _ _ us hl => match us, hl with | [_], _ => rfl
theorem bd__law_draw {K : PySem.W.Frag} {f : Addr} {fd : FuncData} (F : Fun K "_law_draw" "_law_draw" s__law_draw f fd) : Binds K fd ["_law_hand_here", "_law_many"] [] := F.binds fun _ _ _ _ _ _ us hl => match us, hl with | [_, _], _ => rfl
theorem bd__law_name {K : PySem.W.Frag} {f : Addr} {fd : FuncData} (F : Fun K "_law_name" "_law_name" s__law_name f fd) : Binds K fd ["_law_hand_here"] [] := F.binds fun _ _ _ _ _ _ us hl => match us, hl with | [_], _ => rfl
theorem bd__law_first {K : PySem.W.Frag} {f : Addr} {fd : FuncData} (F : Fun K "_law_first" "_law_first" s__law_first f fd) : Binds K fd ["_law_at", "_law_to", "_law_word", "_law_name_here"] [] := F.binds fun _ _ _ _ _ _ us hl => match us, hl with | [_, _, _, _], _ => rfl
theorem bd__law_second {K : PySem.W.Frag} {f : Addr} {fd : FuncData} (F : Fun K "_law_second" "_law_second" s__law_second f fd) : Binds K fd ["_law_at", "_law_to", "_law_word", "_law_name_here"] [] := F.binds fun _ _ _ _ _ _ us hl => match us, hl with | [_, _, _, _], _ => rfl
theorem bd__law_third {K : PySem.W.Frag} {f : Addr} {fd : FuncData} (F : Fun K "_law_third" "_law_third" s__law_third f fd) : Binds K fd ["_law_at", "_law_to", "_law_word", "_law_name_here"] [] := F.binds fun _ _ _ _ _ _ us hl => match us, hl with | [_, _, _, _], _ => rfl
theorem bd__law_fourth {K : PySem.W.Frag} {f : Addr} {fd : FuncData} (F : Fun K "_law_fourth" "_law_fourth" s__law_fourth f fd) : Binds K fd ["_law_at", "_law_to", "_law_word", "_law_name_here"] [] := F.binds fun _ _ _ _ _ _ us hl => match us, hl with | [_, _, _, _], _ => rfl
theorem bd__law_classes {K : PySem.W.Frag} {f : Addr} {fd : FuncData} (F : Fun K "_law_classes" "_law_classes" s__law_classes f fd) : Binds K fd ["_law_e"] [] := F.binds fun _ _ _ _ _ _ us hl => match us, hl with | [_], _ => rfl
theorem bd__law_raised {K : PySem.W.Frag} {f : Addr} {fd : FuncData} (F : Fun K "_law_raised" "_law_raised" s__law_raised f fd) : Binds K fd ["_law_at", "_law_word"] [] := F.binds fun _ _ _ _ _ _ us hl => match us, hl with | [_, _], _ => rfl
set_option maxHeartbeats 8000000 in
theorem all_mk {l : PySem.W.OpenLaw} {w : World} {K : PySem.W.Frag} {h : Heap} {mg : Str → Option Value} {fa : Addr} (X : K.In h) (G : h.Ns mainGlobals mg) (hfa : mg "law" = some (.ref fa))
    {S : Addr} {c_BadRatio c_BadPlace c_BadWork c_NoSide c_BadSize c_BadStop c_BadText c_BadMotion c_BadDirection c_BadWay c_NoCentre c_BadPull c_BadRows c_BadNumbers c_LowRank c_NoStop c_BadShares c_WornOut c_NoMeeting c_BadHalves c_NoMiddle c_BadSwing c_BadSteps c_BadStretch c_BadChoice c_BadStep c_BadMost c_BadBounds c_BadAim c_BadCount c_BadSides c_BadFar c_BadPosts c_BadSlides c_BadLot c_NoSeats c_BadSlips c_BadSlacks c_NoTouch c_BadChange c_BadWish c_NothingDone : Addr}
    (d1 : Df K "_law_mix" s__law_mix)
    (d2 : Df K "_law_hand" s__law_hand)
    (d3 : Df K "_law_draw" s__law_draw)
    (d4 : Df K "_law_name" s__law_name)
    (d5 : Df K "_law_first" s__law_first)
    (d6 : Df K "_law_second" s__law_second)
    (d7 : Df K "_law_third" s__law_third)
    (d8 : Df K "_law_fourth" s__law_fourth)
    (d9 : Df K "_law_classes" s__law_classes)
    (d10 : Df K "_law_raised" s__law_raised)
    (d11 : Df K "law" s_law)
    (e_StopError : EKS K "StopError" S)
    (e_BadRatio : EK1 K "BadRatio" "BadRatio.__init__" s_init_BadRatio ["what"] S c_BadRatio)
    (e_BadPlace : EK0 K "BadPlace" S c_BadPlace)
    (e_BadWork : EK1 K "BadWork" "BadWork.__init__" s_init_BadWork ["index", "what"] S c_BadWork)
    (e_NoSide : EK1 K "NoSide" "NoSide.__init__" s_init_NoSide ["side"] S c_NoSide)
    (e_BadSize : EK0 K "BadSize" S c_BadSize)
    (e_BadStop : EK1 K "BadStop" "BadStop.__init__" s_init_BadStop ["index", "what"] S c_BadStop)
    (e_BadText : EK1 K "BadText" "BadText.__init__" s_init_BadText ["word", "what"] S c_BadText)
    (e_BadMotion : EK0 K "BadMotion" S c_BadMotion)
    (e_BadDirection : EK0 K "BadDirection" S c_BadDirection)
    (e_BadWay : EK0 K "BadWay" S c_BadWay)
    (e_NoCentre : EK0 K "NoCentre" S c_NoCentre)
    (e_BadPull : EK0 K "BadPull" S c_BadPull)
    (e_BadRows : EK0 K "BadRows" S c_BadRows)
    (e_BadNumbers : EK1 K "BadNumbers" "BadNumbers.__init__" s_init_BadNumbers ["what"] S c_BadNumbers)
    (e_LowRank : EK1 K "LowRank" "LowRank.__init__" s_init_LowRank ["rank"] S c_LowRank)
    (e_NoStop : EK1 K "NoStop" "NoStop.__init__" s_init_NoStop ["number"] S c_NoStop)
    (e_BadShares : EK1 K "BadShares" "BadShares.__init__" s_init_BadShares ["index"] S c_BadShares)
    (e_WornOut : EK1 K "WornOut" "WornOut.__init__" s_init_WornOut ["side"] S c_WornOut)
    (e_NoMeeting : EK1 K "NoMeeting" "NoMeeting.__init__" s_init_NoMeeting ["index"] S c_NoMeeting)
    (e_BadHalves : EK1 K "BadHalves" "BadHalves.__init__" s_init_BadHalves ["index"] S c_BadHalves)
    (e_NoMiddle : EK0 K "NoMiddle" S c_NoMiddle)
    (e_BadSwing : EK0 K "BadSwing" S c_BadSwing)
    (e_BadSteps : EK0 K "BadSteps" S c_BadSteps)
    (e_BadStretch : EK1 K "BadStretch" "BadStretch.__init__" s_init_BadStretch ["index", "what"] S c_BadStretch)
    (e_BadChoice : EK0 K "BadChoice" S c_BadChoice)
    (e_BadStep : EK0 K "BadStep" S c_BadStep)
    (e_BadMost : EK1 K "BadMost" "BadMost.__init__" s_init_BadMost ["most"] S c_BadMost)
    (e_BadBounds : EK1 K "BadBounds" "BadBounds.__init__" s_init_BadBounds ["index", "what"] S c_BadBounds)
    (e_BadAim : EK1 K "BadAim" "BadAim.__init__" s_init_BadAim ["aim"] S c_BadAim)
    (e_BadCount : EK1 K "BadCount" "BadCount.__init__" s_init_BadCount ["count"] S c_BadCount)
    (e_BadSides : EK1 K "BadSides" "BadSides.__init__" s_init_BadSides ["sides"] S c_BadSides)
    (e_BadFar : EK0 K "BadFar" S c_BadFar)
    (e_BadPosts : EK1 K "BadPosts" "BadPosts.__init__" s_init_BadPosts ["index", "what"] S c_BadPosts)
    (e_BadSlides : EK0 K "BadSlides" S c_BadSlides)
    (e_BadLot : EK0 K "BadLot" S c_BadLot)
    (e_NoSeats : EK1 K "NoSeats" "NoSeats.__init__" s_init_NoSeats ["what"] S c_NoSeats)
    (e_BadSlips : EK1 K "BadSlips" "BadSlips.__init__" s_init_BadSlips ["index", "what"] S c_BadSlips)
    (e_BadSlacks : EK1 K "BadSlacks" "BadSlacks.__init__" s_init_BadSlacks ["index", "what"] S c_BadSlacks)
    (e_NoTouch : EK0 K "NoTouch" S c_NoTouch)
    (e_BadChange : EK1 K "BadChange" "BadChange.__init__" s_init_BadChange ["index", "what"] S c_BadChange)
    (e_BadWish : EK1 K "BadWish" "BadWish.__init__" s_init_BadWish ["index", "what"] S c_BadWish)
    (e_NothingDone : EK0 K "NothingDone" S c_NothingDone)
    (nd : [c_BadRatio, c_BadPlace, c_BadWork, c_NoSide, c_BadSize, c_BadStop, c_BadText, c_BadMotion, c_BadDirection, c_BadWay, c_NoCentre, c_BadPull, c_BadRows, c_BadNumbers, c_LowRank, c_NoStop, c_BadShares, c_WornOut, c_NoMeeting, c_BadHalves, c_NoMiddle, c_BadSwing, c_BadSteps, c_BadStretch, c_BadChoice, c_BadStep, c_BadMost, c_BadBounds, c_BadAim, c_BadCount, c_BadSides, c_BadFar, c_BadPosts, c_BadSlides, c_BadLot, c_NoSeats, c_BadSlips, c_BadSlacks, c_NoTouch, c_BadChange, c_BadWish, c_NothingDone].Nodup)
    (ns : ∀ D ∈ [c_BadRatio, c_BadPlace, c_BadWork, c_NoSide, c_BadSize, c_BadStop, c_BadText, c_BadMotion, c_BadDirection, c_BadWay, c_NoCentre, c_BadPull, c_BadRows, c_BadNumbers, c_LowRank, c_NoStop, c_BadShares, c_WornOut, c_NoMeeting, c_BadHalves, c_NoMiddle, c_BadSwing, c_BadSteps, c_BadStretch, c_BadChoice, c_BadStep, c_BadMost, c_BadBounds, c_BadAim, c_BadCount, c_BadSides, c_BadFar, c_BadPosts, c_BadSlides, c_BadLot, c_NoSeats, c_BadSlips, c_BadSlacks, c_NoTouch, c_BadChange, c_BadWish, c_NothingDone], D ≠ S)
    (sp : PySem.W.specialIn K (.builtin "object.__class__") "__get__" = some (some (.builtin "getset_descriptor.__get__")))
    (ta : PySem.W.takesIn K (.builtin "object.__class__") = some true)
    (z_int : PySem.W.nsIn K mainGlobals "int" = some none)
    (z_abs : PySem.W.nsIn K mainGlobals "abs" = some none)
    (z_len : PySem.W.nsIn K mainGlobals "len" = some none)
    (z_enumerate : PySem.W.nsIn K mainGlobals "enumerate" = some none)
    (z_isinstance : PySem.W.nsIn K mainGlobals "isinstance" = some none)
    (z_range : PySem.W.nsIn K mainGlobals "range" = some none)
    (z_ValueError : PySem.W.nsIn K mainGlobals "ValueError" = some none) :
    ∃ fd : FuncData, (∀ (s : Shared) (v : Value), BindsTo s fd ⟨[v], []⟩ [("_law_script", v)]) ∧ ∀ base : Heap, K.In base → base.Ns mainGlobals mg → FnOk l.prog w K mg base CX0 4 fa fd ["_law_script"] (spLaw K) := by
  have T : Txt K mg := { z_int := PySem.W.mg_none_of X G z_int, z_abs := PySem.W.mg_none_of X G z_abs, z_len := PySem.W.mg_none_of X G z_len, z_enumerate := PySem.W.mg_none_of X G z_enumerate, z_isinstance := PySem.W.mg_none_of X G z_isinstance, z_range := PySem.W.mg_none_of X G z_range, z_VE := PySem.W.mg_none_of X G z_ValueError }
  obtain ⟨f1, fd1, m1, F1⟩ := d1.gd X G
  have b1 := bd__law_mix F1
  obtain ⟨f2, fd2, m2, F2⟩ := d2.gd X G
  have b2 := bd__law_hand F2
  obtain ⟨f3, fd3, m3, F3⟩ := d3.gd X G
  have b3 := bd__law_draw F3
  obtain ⟨f4, fd4, m4, F4⟩ := d4.gd X G
  have b4 := bd__law_name F4
  obtain ⟨f5, fd5, m5, F5⟩ := d5.gd X G
  have b5 := bd__law_first F5
  obtain ⟨f6, fd6, m6, F6⟩ := d6.gd X G
  have b6 := bd__law_second F6
  obtain ⟨f7, fd7, m7, F7⟩ := d7.gd X G
  have b7 := bd__law_third F7
  obtain ⟨f8, fd8, m8, F8⟩ := d8.gd X G
  have b8 := bd__law_fourth F8
  obtain ⟨f9, fd9, m9, F9⟩ := d9.gd X G
  have b9 := bd__law_classes F9
  obtain ⟨f10, fd10, m10, F10⟩ := d10.gd X G
  have b10 := bd__law_raised F10
  obtain ⟨f11, fd11, a11, F11, kV, doc, pm, an, cdv, ct, efd⟩ := d11
  have e := hfa.symm.trans (PySem.W.mg_of X G a11)
  cases e
  refine ⟨fd11, fun s v => by subst efd; exact .of_eq rfl, fun base _ _ => law_end (F := ?_)⟩
  obtain ⟨A, Z⟩ : ∃ A : Ad, Er l.prog w K mg base A := ⟨⟨S, c_BadRatio, c_BadPlace, c_BadWork, c_NoSide, c_BadSize, c_BadStop, c_BadText, c_BadMotion, c_BadDirection, c_BadWay, c_NoCentre, c_BadPull, c_BadRows, c_BadNumbers, c_LowRank, c_NoStop, c_BadShares, c_WornOut, c_NoMeeting, c_BadHalves, c_NoMiddle, c_BadSwing, c_BadSteps, c_BadStretch, c_BadChoice, c_BadStep, c_BadMost, c_BadBounds, c_BadAim, c_BadCount, c_BadSides, c_BadFar, c_BadPosts, c_BadSlides, c_BadLot, c_NoSeats, c_BadSlips, c_BadSlacks, c_NoTouch, c_BadChange, c_BadWish, c_NothingDone⟩, { nd := nd, ns := ns, sp := sp, ta := ta, cS := e_StopError.2.1, mS := e_StopError.ex0 X G, c_BadRatio := e_BadRatio.ers, m_BadRatio := e_BadRatio.ex1 X G ini_BadRatio, c_BadPlace := e_BadPlace.2.1, m_BadPlace := e_BadPlace.ex0 X G, c_BadWork := e_BadWork.ers, m_BadWork := e_BadWork.ex2 X G ini_BadWork, c_NoSide := e_NoSide.ers, m_NoSide := e_NoSide.ex1 X G ini_NoSide, c_BadSize := e_BadSize.2.1, m_BadSize := e_BadSize.ex0 X G, c_BadStop := e_BadStop.ers, m_BadStop := e_BadStop.ex2 X G ini_BadStop, c_BadText := e_BadText.ers, m_BadText := e_BadText.ex2 X G ini_BadText, c_BadMotion := e_BadMotion.2.1, m_BadMotion := e_BadMotion.ex0 X G, c_BadDirection := e_BadDirection.2.1, m_BadDirection := e_BadDirection.ex0 X G, c_BadWay := e_BadWay.2.1, m_BadWay := e_BadWay.ex0 X G, c_NoCentre := e_NoCentre.2.1, m_NoCentre := e_NoCentre.ex0 X G, c_BadPull := e_BadPull.2.1, m_BadPull := e_BadPull.ex0 X G, c_BadRows := e_BadRows.2.1, m_BadRows := e_BadRows.ex0 X G, c_BadNumbers := e_BadNumbers.ers, m_BadNumbers := e_BadNumbers.ex1 X G ini_BadNumbers, c_LowRank := e_LowRank.ers, m_LowRank := e_LowRank.ex1 X G ini_LowRank, c_NoStop := e_NoStop.ers, m_NoStop := e_NoStop.ex1 X G ini_NoStop, c_BadShares := e_BadShares.ers, m_BadShares := e_BadShares.ex1 X G ini_BadShares, c_WornOut := e_WornOut.ers, m_WornOut := e_WornOut.ex1 X G ini_WornOut, c_NoMeeting := e_NoMeeting.ers, m_NoMeeting := e_NoMeeting.ex1 X G ini_NoMeeting, c_BadHalves := e_BadHalves.ers, m_BadHalves := e_BadHalves.ex1 X G ini_BadHalves, c_NoMiddle := e_NoMiddle.2.1, m_NoMiddle := e_NoMiddle.ex0 X G, c_BadSwing := e_BadSwing.2.1, m_BadSwing := e_BadSwing.ex0 X G, c_BadSteps := e_BadSteps.2.1, m_BadSteps := e_BadSteps.ex0 X G, c_BadStretch := e_BadStretch.ers, m_BadStretch := e_BadStretch.ex2 X G ini_BadStretch, c_BadChoice := e_BadChoice.2.1, m_BadChoice := e_BadChoice.ex0 X G, c_BadStep := e_BadStep.2.1, m_BadStep := e_BadStep.ex0 X G, c_BadMost := e_BadMost.ers, m_BadMost := e_BadMost.ex1 X G ini_BadMost, c_BadBounds := e_BadBounds.ers, m_BadBounds := e_BadBounds.ex2 X G ini_BadBounds, c_BadAim := e_BadAim.ers, m_BadAim := e_BadAim.ex1 X G ini_BadAim, c_BadCount := e_BadCount.ers, m_BadCount := e_BadCount.ex1 X G ini_BadCount, c_BadSides := e_BadSides.ers, m_BadSides := e_BadSides.ex1 X G ini_BadSides, c_BadFar := e_BadFar.2.1, m_BadFar := e_BadFar.ex0 X G, c_BadPosts := e_BadPosts.ers, m_BadPosts := e_BadPosts.ex2 X G ini_BadPosts, c_BadSlides := e_BadSlides.2.1, m_BadSlides := e_BadSlides.ex0 X G, c_BadLot := e_BadLot.2.1, m_BadLot := e_BadLot.ex0 X G, c_NoSeats := e_NoSeats.ers, m_NoSeats := e_NoSeats.ex1 X G ini_NoSeats, c_BadSlips := e_BadSlips.ers, m_BadSlips := e_BadSlips.ex2 X G ini_BadSlips, c_BadSlacks := e_BadSlacks.ers, m_BadSlacks := e_BadSlacks.ex2 X G ini_BadSlacks, c_NoTouch := e_NoTouch.2.1, m_NoTouch := e_NoTouch.ex0 X G, c_BadChange := e_BadChange.ers, m_BadChange := e_BadChange.ex2 X G ini_BadChange, c_BadWish := e_BadWish.ers, m_BadWish := e_BadWish.ex2 X G ini_BadWish, c_NothingDone := e_NothingDone.2.1, m_NothingDone := e_NothingDone.ex0 X G }⟩
  have G__law_mix : Gd l.prog w K mg base "_law_mix" 1 [] (RMix K) := gd_mk m1 F1.kp b1 (ok_mix F1 T)
  have G__law_hand : Gd l.prog w K mg base "_law_hand" 1 [] (RHand K) := gd_mk m2 F2.kp b2 (ok_hand F2 T)
  have G__law_draw : Gd l.prog w K mg base "_law_draw" 2 [] (RDraw K) := gd_mk m3 F3.kp b3 (ok_draw F3 T  (Gm := G__law_mix))
  have G__law_name : Gd l.prog w K mg base "_law_name" 3 [] (RName K) := gd_mk m4 F4.kp b4 (ok_name F4 T  (G__law_draw := G__law_draw))
  have G__law_first : Gd l.prog w K mg base "_law_first" 3 [] (Rfirst K A) := gd_mk m5 F5.kp b5 (ok_first F5 T Z)
  have G__law_second : Gd l.prog w K mg base "_law_second" 3 [] (Rsecond K A) := gd_mk m6 F6.kp b6 (ok_second F6 T Z)
  have G__law_third : Gd l.prog w K mg base "_law_third" 3 [] (Rthird K A) := gd_mk m7 F7.kp b7 (ok_third F7 T Z)
  have G__law_fourth : Gd l.prog w K mg base "_law_fourth" 3 [] (Rfourth K A) := gd_mk m8 F8.kp b8 (ok_fourth F8 T Z)
  have G__law_classes : Gd l.prog w K mg base "_law_classes" 1 [] (RClasses K A) := gd_mk m9 F9.kp b9 (ok_classes F9 T Z)
  have G__law_raised : Gd l.prog w K mg base "_law_raised" 3 [] (RRaised K) := gd_mk m10 F10.kp b10 (ok_raised F10 T Z)
  exact ok_law F11 T Z (G__law_hand := G__law_hand) (G__law_draw := G__law_draw) (G__law_name := G__law_name) (G__law_first := G__law_first) (G__law_second := G__law_second) (G__law_third := G__law_third) (G__law_fourth := G__law_fourth) (G__law_classes := G__law_classes) (G__law_raised := G__law_raised)
end
end K00
set_option Elab.async false
set_option linter.all false
set_option maxRecDepth 100000
open PySem PySem.W PyProof.Rows in
set_option maxRecDepth 100000 in
set_option maxHeartbeats 0 in
theorem PySem.Challenge.cw_firmstops_k00_errors_side_by_side_holds : PySem.Challenge.rw_firmstops_k00_errors_side_by_side.Holds := by
  refine K00.hd ?_
  k_fill
  refine DL.walk 4 (l := PySem.Challenge.rw_firmstops_k00_errors_side_by_side) rfl rfl ⟨rfl, by decide, by decide⟩ (fun w h Y => PySem.W.kIn_of Y) ?F
  case F =>
    intro w mg fa h KX G hmg
    refine' K00.all_mk KX G hmg ?d1 ?d2 ?d3 ?d4 ?d5 ?d6 ?d7 ?d8 ?d9 ?d10 ?d11 ?e_StopError ?e_BadRatio ?e_BadPlace ?e_BadWork ?e_NoSide ?e_BadSize ?e_BadStop ?e_BadText ?e_BadMotion ?e_BadDirection ?e_BadWay ?e_NoCentre ?e_BadPull ?e_BadRows ?e_BadNumbers ?e_LowRank ?e_NoStop ?e_BadShares ?e_WornOut ?e_NoMeeting ?e_BadHalves ?e_NoMiddle ?e_BadSwing ?e_BadSteps ?e_BadStretch ?e_BadChoice ?e_BadStep ?e_BadMost ?e_BadBounds ?e_BadAim ?e_BadCount ?e_BadSides ?e_BadFar ?e_BadPosts ?e_BadSlides ?e_BadLot ?e_NoSeats ?e_BadSlips ?e_BadSlacks ?e_NoTouch ?e_BadChange ?e_BadWish ?e_NothingDone ?nd ?ns ?sp ?ta ?z_int ?z_abs ?z_len ?z_enumerate ?z_isinstance ?z_range ?z_ValueError
    (case e_StopError => refine' DL.eks_mk ?aC ?xL ?ga ?gg ?ha ?kC ?xc; (case aC => k_is); (case xL => k_is); (case ga => k_is); (case gg => k_is); (case ha => k_is); (case kC => k_is); (case xc => k_exc))
    (case e_BadRatio => refine' DL.ek1_mk ?aC ?xL ?ga ?gg ?ha ?kC ?sa ?nb ?a1 ?l1 ?c1; (case aC => k_is); (case xL => k_is); (case ga => k_is); (case gg => k_is); (case ha => k_is); (case kC => k_is); (case sa => k_is); (case nb => k_is); (case a1 => k_is); (case l1 => k_is); (case c1 => k_is))
    (case e_BadPlace => refine' DL.ek0_mk ?aC ?xL ?ga ?gg ?ha ?kC ?xc; (case aC => k_is); (case xL => k_is); (case ga => k_is); (case gg => k_is); (case ha => k_is); (case kC => k_is); (case xc => k_exc))
    (case e_BadWork => refine' DL.ek2_mk ?aC ?xL ?ga ?gg ?ha ?kC ?sa ?nb ?nb2 ?a1 ?l1 ?c1; (case aC => k_is); (case xL => k_is); (case ga => k_is); (case gg => k_is); (case ha => k_is); (case kC => k_is); (case sa => k_is); (case nb => k_is); (case nb2 => k_is); (case a1 => k_is); (case l1 => k_is); (case c1 => k_is))
    (case e_NoSide => refine' DL.ek1_mk ?aC ?xL ?ga ?gg ?ha ?kC ?sa ?nb ?a1 ?l1 ?c1; (case aC => k_is); (case xL => k_is); (case ga => k_is); (case gg => k_is); (case ha => k_is); (case kC => k_is); (case sa => k_is); (case nb => k_is); (case a1 => k_is); (case l1 => k_is); (case c1 => k_is))
    (case e_BadSize => refine' DL.ek0_mk ?aC ?xL ?ga ?gg ?ha ?kC ?xc; (case aC => k_is); (case xL => k_is); (case ga => k_is); (case gg => k_is); (case ha => k_is); (case kC => k_is); (case xc => k_exc))
    (case e_BadStop => refine' DL.ek2_mk ?aC ?xL ?ga ?gg ?ha ?kC ?sa ?nb ?nb2 ?a1 ?l1 ?c1; (case aC => k_is); (case xL => k_is); (case ga => k_is); (case gg => k_is); (case ha => k_is); (case kC => k_is); (case sa => k_is); (case nb => k_is); (case nb2 => k_is); (case a1 => k_is); (case l1 => k_is); (case c1 => k_is))
    (case e_BadText => refine' DL.ek2_mk ?aC ?xL ?ga ?gg ?ha ?kC ?sa ?nb ?nb2 ?a1 ?l1 ?c1; (case aC => k_is); (case xL => k_is); (case ga => k_is); (case gg => k_is); (case ha => k_is); (case kC => k_is); (case sa => k_is); (case nb => k_is); (case nb2 => k_is); (case a1 => k_is); (case l1 => k_is); (case c1 => k_is))
    (case e_BadMotion => refine' DL.ek0_mk ?aC ?xL ?ga ?gg ?ha ?kC ?xc; (case aC => k_is); (case xL => k_is); (case ga => k_is); (case gg => k_is); (case ha => k_is); (case kC => k_is); (case xc => k_exc))
    (case e_BadDirection => refine' DL.ek0_mk ?aC ?xL ?ga ?gg ?ha ?kC ?xc; (case aC => k_is); (case xL => k_is); (case ga => k_is); (case gg => k_is); (case ha => k_is); (case kC => k_is); (case xc => k_exc))
    (case e_BadWay => refine' DL.ek0_mk ?aC ?xL ?ga ?gg ?ha ?kC ?xc; (case aC => k_is); (case xL => k_is); (case ga => k_is); (case gg => k_is); (case ha => k_is); (case kC => k_is); (case xc => k_exc))
    (case e_NoCentre => refine' DL.ek0_mk ?aC ?xL ?ga ?gg ?ha ?kC ?xc; (case aC => k_is); (case xL => k_is); (case ga => k_is); (case gg => k_is); (case ha => k_is); (case kC => k_is); (case xc => k_exc))
    (case e_BadPull => refine' DL.ek0_mk ?aC ?xL ?ga ?gg ?ha ?kC ?xc; (case aC => k_is); (case xL => k_is); (case ga => k_is); (case gg => k_is); (case ha => k_is); (case kC => k_is); (case xc => k_exc))
    (case e_BadRows => refine' DL.ek0_mk ?aC ?xL ?ga ?gg ?ha ?kC ?xc; (case aC => k_is); (case xL => k_is); (case ga => k_is); (case gg => k_is); (case ha => k_is); (case kC => k_is); (case xc => k_exc))
    (case e_BadNumbers => refine' DL.ek1_mk ?aC ?xL ?ga ?gg ?ha ?kC ?sa ?nb ?a1 ?l1 ?c1; (case aC => k_is); (case xL => k_is); (case ga => k_is); (case gg => k_is); (case ha => k_is); (case kC => k_is); (case sa => k_is); (case nb => k_is); (case a1 => k_is); (case l1 => k_is); (case c1 => k_is))
    (case e_LowRank => refine' DL.ek1_mk ?aC ?xL ?ga ?gg ?ha ?kC ?sa ?nb ?a1 ?l1 ?c1; (case aC => k_is); (case xL => k_is); (case ga => k_is); (case gg => k_is); (case ha => k_is); (case kC => k_is); (case sa => k_is); (case nb => k_is); (case a1 => k_is); (case l1 => k_is); (case c1 => k_is))
    (case e_NoStop => refine' DL.ek1_mk ?aC ?xL ?ga ?gg ?ha ?kC ?sa ?nb ?a1 ?l1 ?c1; (case aC => k_is); (case xL => k_is); (case ga => k_is); (case gg => k_is); (case ha => k_is); (case kC => k_is); (case sa => k_is); (case nb => k_is); (case a1 => k_is); (case l1 => k_is); (case c1 => k_is))
    (case e_BadShares => refine' DL.ek1_mk ?aC ?xL ?ga ?gg ?ha ?kC ?sa ?nb ?a1 ?l1 ?c1; (case aC => k_is); (case xL => k_is); (case ga => k_is); (case gg => k_is); (case ha => k_is); (case kC => k_is); (case sa => k_is); (case nb => k_is); (case a1 => k_is); (case l1 => k_is); (case c1 => k_is))
    (case e_WornOut => refine' DL.ek1_mk ?aC ?xL ?ga ?gg ?ha ?kC ?sa ?nb ?a1 ?l1 ?c1; (case aC => k_is); (case xL => k_is); (case ga => k_is); (case gg => k_is); (case ha => k_is); (case kC => k_is); (case sa => k_is); (case nb => k_is); (case a1 => k_is); (case l1 => k_is); (case c1 => k_is))
    (case e_NoMeeting => refine' DL.ek1_mk ?aC ?xL ?ga ?gg ?ha ?kC ?sa ?nb ?a1 ?l1 ?c1; (case aC => k_is); (case xL => k_is); (case ga => k_is); (case gg => k_is); (case ha => k_is); (case kC => k_is); (case sa => k_is); (case nb => k_is); (case a1 => k_is); (case l1 => k_is); (case c1 => k_is))
    (case e_BadHalves => refine' DL.ek1_mk ?aC ?xL ?ga ?gg ?ha ?kC ?sa ?nb ?a1 ?l1 ?c1; (case aC => k_is); (case xL => k_is); (case ga => k_is); (case gg => k_is); (case ha => k_is); (case kC => k_is); (case sa => k_is); (case nb => k_is); (case a1 => k_is); (case l1 => k_is); (case c1 => k_is))
    (case e_NoMiddle => refine' DL.ek0_mk ?aC ?xL ?ga ?gg ?ha ?kC ?xc; (case aC => k_is); (case xL => k_is); (case ga => k_is); (case gg => k_is); (case ha => k_is); (case kC => k_is); (case xc => k_exc))
    (case e_BadSwing => refine' DL.ek0_mk ?aC ?xL ?ga ?gg ?ha ?kC ?xc; (case aC => k_is); (case xL => k_is); (case ga => k_is); (case gg => k_is); (case ha => k_is); (case kC => k_is); (case xc => k_exc))
    (case e_BadSteps => refine' DL.ek0_mk ?aC ?xL ?ga ?gg ?ha ?kC ?xc; (case aC => k_is); (case xL => k_is); (case ga => k_is); (case gg => k_is); (case ha => k_is); (case kC => k_is); (case xc => k_exc))
    (case e_BadStretch => refine' DL.ek2_mk ?aC ?xL ?ga ?gg ?ha ?kC ?sa ?nb ?nb2 ?a1 ?l1 ?c1; (case aC => k_is); (case xL => k_is); (case ga => k_is); (case gg => k_is); (case ha => k_is); (case kC => k_is); (case sa => k_is); (case nb => k_is); (case nb2 => k_is); (case a1 => k_is); (case l1 => k_is); (case c1 => k_is))
    (case e_BadChoice => refine' DL.ek0_mk ?aC ?xL ?ga ?gg ?ha ?kC ?xc; (case aC => k_is); (case xL => k_is); (case ga => k_is); (case gg => k_is); (case ha => k_is); (case kC => k_is); (case xc => k_exc))
    (case e_BadStep => refine' DL.ek0_mk ?aC ?xL ?ga ?gg ?ha ?kC ?xc; (case aC => k_is); (case xL => k_is); (case ga => k_is); (case gg => k_is); (case ha => k_is); (case kC => k_is); (case xc => k_exc))
    (case e_BadMost => refine' DL.ek1_mk ?aC ?xL ?ga ?gg ?ha ?kC ?sa ?nb ?a1 ?l1 ?c1; (case aC => k_is); (case xL => k_is); (case ga => k_is); (case gg => k_is); (case ha => k_is); (case kC => k_is); (case sa => k_is); (case nb => k_is); (case a1 => k_is); (case l1 => k_is); (case c1 => k_is))
    (case e_BadBounds => refine' DL.ek2_mk ?aC ?xL ?ga ?gg ?ha ?kC ?sa ?nb ?nb2 ?a1 ?l1 ?c1; (case aC => k_is); (case xL => k_is); (case ga => k_is); (case gg => k_is); (case ha => k_is); (case kC => k_is); (case sa => k_is); (case nb => k_is); (case nb2 => k_is); (case a1 => k_is); (case l1 => k_is); (case c1 => k_is))
    (case e_BadAim => refine' DL.ek1_mk ?aC ?xL ?ga ?gg ?ha ?kC ?sa ?nb ?a1 ?l1 ?c1; (case aC => k_is); (case xL => k_is); (case ga => k_is); (case gg => k_is); (case ha => k_is); (case kC => k_is); (case sa => k_is); (case nb => k_is); (case a1 => k_is); (case l1 => k_is); (case c1 => k_is))
    (case e_BadCount => refine' DL.ek1_mk ?aC ?xL ?ga ?gg ?ha ?kC ?sa ?nb ?a1 ?l1 ?c1; (case aC => k_is); (case xL => k_is); (case ga => k_is); (case gg => k_is); (case ha => k_is); (case kC => k_is); (case sa => k_is); (case nb => k_is); (case a1 => k_is); (case l1 => k_is); (case c1 => k_is))
    (case e_BadSides => refine' DL.ek1_mk ?aC ?xL ?ga ?gg ?ha ?kC ?sa ?nb ?a1 ?l1 ?c1; (case aC => k_is); (case xL => k_is); (case ga => k_is); (case gg => k_is); (case ha => k_is); (case kC => k_is); (case sa => k_is); (case nb => k_is); (case a1 => k_is); (case l1 => k_is); (case c1 => k_is))
    (case e_BadFar => refine' DL.ek0_mk ?aC ?xL ?ga ?gg ?ha ?kC ?xc; (case aC => k_is); (case xL => k_is); (case ga => k_is); (case gg => k_is); (case ha => k_is); (case kC => k_is); (case xc => k_exc))
    (case e_BadPosts => refine' DL.ek2_mk ?aC ?xL ?ga ?gg ?ha ?kC ?sa ?nb ?nb2 ?a1 ?l1 ?c1; (case aC => k_is); (case xL => k_is); (case ga => k_is); (case gg => k_is); (case ha => k_is); (case kC => k_is); (case sa => k_is); (case nb => k_is); (case nb2 => k_is); (case a1 => k_is); (case l1 => k_is); (case c1 => k_is))
    (case e_BadSlides => refine' DL.ek0_mk ?aC ?xL ?ga ?gg ?ha ?kC ?xc; (case aC => k_is); (case xL => k_is); (case ga => k_is); (case gg => k_is); (case ha => k_is); (case kC => k_is); (case xc => k_exc))
    (case e_BadLot => refine' DL.ek0_mk ?aC ?xL ?ga ?gg ?ha ?kC ?xc; (case aC => k_is); (case xL => k_is); (case ga => k_is); (case gg => k_is); (case ha => k_is); (case kC => k_is); (case xc => k_exc))
    (case e_NoSeats => refine' DL.ek1_mk ?aC ?xL ?ga ?gg ?ha ?kC ?sa ?nb ?a1 ?l1 ?c1; (case aC => k_is); (case xL => k_is); (case ga => k_is); (case gg => k_is); (case ha => k_is); (case kC => k_is); (case sa => k_is); (case nb => k_is); (case a1 => k_is); (case l1 => k_is); (case c1 => k_is))
    (case e_BadSlips => refine' DL.ek2_mk ?aC ?xL ?ga ?gg ?ha ?kC ?sa ?nb ?nb2 ?a1 ?l1 ?c1; (case aC => k_is); (case xL => k_is); (case ga => k_is); (case gg => k_is); (case ha => k_is); (case kC => k_is); (case sa => k_is); (case nb => k_is); (case nb2 => k_is); (case a1 => k_is); (case l1 => k_is); (case c1 => k_is))
    (case e_BadSlacks => refine' DL.ek2_mk ?aC ?xL ?ga ?gg ?ha ?kC ?sa ?nb ?nb2 ?a1 ?l1 ?c1; (case aC => k_is); (case xL => k_is); (case ga => k_is); (case gg => k_is); (case ha => k_is); (case kC => k_is); (case sa => k_is); (case nb => k_is); (case nb2 => k_is); (case a1 => k_is); (case l1 => k_is); (case c1 => k_is))
    (case e_NoTouch => refine' DL.ek0_mk ?aC ?xL ?ga ?gg ?ha ?kC ?xc; (case aC => k_is); (case xL => k_is); (case ga => k_is); (case gg => k_is); (case ha => k_is); (case kC => k_is); (case xc => k_exc))
    (case e_BadChange => refine' DL.ek2_mk ?aC ?xL ?ga ?gg ?ha ?kC ?sa ?nb ?nb2 ?a1 ?l1 ?c1; (case aC => k_is); (case xL => k_is); (case ga => k_is); (case gg => k_is); (case ha => k_is); (case kC => k_is); (case sa => k_is); (case nb => k_is); (case nb2 => k_is); (case a1 => k_is); (case l1 => k_is); (case c1 => k_is))
    (case e_BadWish => refine' DL.ek2_mk ?aC ?xL ?ga ?gg ?ha ?kC ?sa ?nb ?nb2 ?a1 ?l1 ?c1; (case aC => k_is); (case xL => k_is); (case ga => k_is); (case gg => k_is); (case ha => k_is); (case kC => k_is); (case sa => k_is); (case nb => k_is); (case nb2 => k_is); (case a1 => k_is); (case l1 => k_is); (case c1 => k_is))
    (case e_NothingDone => refine' DL.ek0_mk ?aC ?xL ?ga ?gg ?ha ?kC ?xc; (case aC => k_is); (case xL => k_is); (case ga => k_is); (case gg => k_is); (case ha => k_is); (case kC => k_is); (case xc => k_exc))
    (case d1 => refine' DL.df_mk ?a ?l ?c ?k; (case a => k_is); (case l => k_is); (case c => k_is); (case k => k_is))
    (case d2 => refine' DL.df_mk ?a ?l ?c ?k; (case a => k_is); (case l => k_is); (case c => k_is); (case k => k_is))
    (case d3 => refine' DL.df_mk ?a ?l ?c ?k; (case a => k_is); (case l => k_is); (case c => k_is); (case k => k_is))
    (case d4 => refine' DL.df_mk ?a ?l ?c ?k; (case a => k_is); (case l => k_is); (case c => k_is); (case k => k_is))
    (case d5 => refine' DL.df_mk ?a ?l ?c ?k; (case a => k_is); (case l => k_is); (case c => k_is); (case k => k_is))
    (case d6 => refine' DL.df_mk ?a ?l ?c ?k; (case a => k_is); (case l => k_is); (case c => k_is); (case k => k_is))
    (case d7 => refine' DL.df_mk ?a ?l ?c ?k; (case a => k_is); (case l => k_is); (case c => k_is); (case k => k_is))
    (case d8 => refine' DL.df_mk ?a ?l ?c ?k; (case a => k_is); (case l => k_is); (case c => k_is); (case k => k_is))
    (case d9 => refine' DL.df_mk ?a ?l ?c ?k; (case a => k_is); (case l => k_is); (case c => k_is); (case k => k_is))
    (case d10 => refine' DL.df_mk ?a ?l ?c ?k; (case a => k_is); (case l => k_is); (case c => k_is); (case k => k_is))
    (case d11 => refine' DL.df_mk ?a ?l ?c ?k; (case a => k_is); (case l => k_is); (case c => k_is); (case k => k_is))
    (case sp => k_is)
    (case ta => k_is)
    (case z_int => k_is)
    (case z_abs => k_is)
    (case z_len => k_is)
    (case z_enumerate => k_is)
    (case z_isinstance => k_is)
    (case z_range => k_is)
    (case z_ValueError => k_is)
    (case nd => decide +kernel)
    (case ns => decide +kernel)
